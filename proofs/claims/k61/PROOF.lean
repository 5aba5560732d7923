import PyProof.Rows.All
import Wide.All
import OpenK.AllK
import Wide.FinOn
import Lean
import PyProof.EqAt
import PyProof.EqKinds
import PyProof.TupleCall
import PySem.Challenge.RW_onelook_k61_heaps_of_sheets
open PySem.Around renaming frames_deeper→QN
open Array renaming all_eq_true_iff_forall_mem→Rq,forIn_toList→K6,getD→Al,getD_eq_getD_getElem?→RN,getElem?_eq_getElem→RO,getElem?_eq_none→RP,length_toList→Dp
open Bool renaming and_eq_true→cD,false_and→zx,false_eq_true→dD,false_ne_true→bh,not_false→uB,not_true→lL,or_eq_true→xX,true_and→Fy
open PySem.Builtin.Dict renaming addKeywords→OB,dictSlotArgs→yy,merge→Oy,mergeDict→OA,readDirectly→Oz,samePairs→OC,selfAndRest→Ox,showsAll→uv,updateFrom→yv
open PySem.Builtin.Dict_items renaming ownsTuple→uw
open PySem.Builtin.List renaming listTooLong→DI
open PySem.Builtin.Range renaming rangeSize→tK,small→Oo
open PySem.Builtin.Slice renaming sliceAdjust→DC,sliceApplied→MU,slicePlaces→xM
open PySem.Builtin.SmallTypes renaming nextOf→l5,ownedTupleHandOut→Oj,ownedTupleIsFree→yo
open PySem.Builtin.Str renaming occurrences→MM
open PySem.Builtin.Tuple renaming tupleExact→xN,tupleHashOf→xx,tupleIsExact→N0,tupleItemsOf→Dg
open PySem.Builtin renaming divisionGoesByPylong→Oq
open PySem.Calls renaming Name_function_global→Mq,callWith_builtin→xP,evalArgs_plain→DG,spliced_cons→pN,spliced_nil→xH
open Classical renaming propDecidable→Ep
open PySem.EntryCells renaming newEntry→Nd
open PySem.F renaming args_tuple_iterator_next_1→Oi,entry_tuple_iterator_next→Oh,slot_tuple_iterator_next→yn,slot_zip_next→yp,typeOf_object_class→Es
open False renaming elim→aa
open ForInStep renaming yield→j5
open PySem.Heap renaming ExtBut→EU,IsTuple→Ff,MadeExcOf→DW,SameBut→gN,get?_none_of_le→Mk,get?_push_of_some→aL,get?_push_size→aU,get?_update_other→pQ,get?_update_self→j7,lt_size→aF,size_push→lV
open PySem.Heap.IsTuple renaming push→Fg
open PySem.Heap.SameBut renaming update→fV
open Int renaming fmod_lt_of_pos→n5,fmod_nonneg_of_pos→mh,le_trans→uf,toNat_natCast→qy
open List renaming all_cons→cV,all_eq_true→qQ,any_cons→gQ,append_nil→gO,contains_cons→Et,drop_eq_getElem_cons→uh,drop_length→xZ,eq_nil_of_length_eq_zero→D6,ext_getElem?→FG,filterMap_cons→tH,filter_cons_of_neg→nE,filter_cons_of_pos→qi,find?_cons→j9,findIdx?_cons→EA,flatten_cons→pS,foldl_cons→xQ,forIn_cons→lK,forIn_nil→um,getElem?_append_left→d_,getElem?_append_right→gP,getElem?_eq_getElem→cE,getElem?_eq_none→OF,getElem?_map→eO,getElem?_replicate→tO,getElem?_set_ne→a9,getElem?_set_self→nk,length→dZ,length_append→eh,length_cons→kM,length_filter_le→u_,length_map→bK,length_replicate→jc,length_singleton→zM,length_take→tN,lookup→mL,lookup_cons→bL,map→jJ,mapM_cons→AL,map_append→k6,map_cons→aD,map_map→kZ,map_nil→o_,mem_append_left→zv,mem_append_right→de,mem_cons→bM,mem_cons_of_mem→aJ,mem_cons_self→aK,mem_of_getElem?→zH,nil_append→tX,nodup_append→pD,nodup_cons→jj,nodup_nil→eP,not_mem_nil→bP,of_mem_zip→zG,pairwise_cons→uu,pairwise_iff_getElem→Ju,range→hU,range'→jh,replicate→aQ,replicate_succ→hX,size_toArray→bB
open PySem.NameKind renaming cell→dU,free→dm
open Nat renaming le_of_eq→mJ,le_of_lt→oX,le_refl→aj,le_succ→mP,le_trans→bf,lt_irrefl→cb,lt_of_lt_of_le→bc,lt_succ_of_lt→Aa,min_le_right→tP,ne_of_gt→hV,ne_of_lt→aX,sub_self→pf,succ_le_succ→oV,zero_add→Bi,zero_le→bb
open Ne renaming symm→ay
open PySem.Obj renaming cls_mapFields→t7,data_mapDictKeys→AG,data_mapFields→h_,isFreed_of_fields→pe,mapFields→fu,mapSeq→dg
open Option renaming isSome_some→IC,map_some→my
open Or renaming inr→kN
open PUnit renaming unit→mr
open PySem.PassesOwn renaming leaving→Ky
open PySem.PyData renaming canLayAll0→mv,depthAll→gj,eqv→aC,eqvAll→cu,list→pg,strOk→aO,tuple→ia
open PyProof.Rows renaming callWith_type1→tL,intBits_le→KL,slot_tuple_getitem→tQ,Keyed→adL
open PySem.SeqAt.EqAt renaming int_none→HM,int_str→HK,none_int→HQ,none_str→HR,same→HS,str_int→HN,str_none→HP
open PySem.SeqAt renaming eqBoolOverData→HW,readOf→pE
open PySem.Shared renaming TypeIs→pB,heap→Az
open Std.Legacy.Range renaming forIn_eq_forIn_range'→J2
open PySem.Str renaming ofString→gn
open Subtype renaming ext→zr
open True renaming intro→hZ
open PySem.Txt renaming slice→kW
open PySem.Value renaming builtin→jf,int→oU,none→aS,ref→aB,str→tF,type→kK
open PySem renaming Addr→adi,Around→adj,FuncData→adk,NameKind→adl,Program→adm,Shared→adn,Value→ado,World→adp,behindInMarks→adq,binaryOp→ads,bootBuiltins→adt,codeAny→adu,compPost→adv,compareOp→adw,foldedSetIterable→adx,isSubtype_type→ady,mainGlobals→adz,sizeLine→adA,starEach→adB,wpAny→adC,wpAny_bind→adD,wpAny_dictEntries→adE,wpAny_holding→adF,wpAny_mono→adG,wpAny_newList→adH,wpAny_newObj_type→adI,wpAny_pure→adJ,wpAny_truthy_bool→adK
noncomputable section
set_option Elab.async false
set_option linter.all false
set_option maxRecDepth 100000
namespace L2
open PySem PySem.Spec PyProof.Rows
inductive Key where
 | inl (i:Int) | inr (x:Str) | non
 deriving DecidableEq
def pG:Key->ado->Bool
 | .inl k,v=>Value.isInt k v
 | .inr x,v=>Value.isStrOf x v
 | .non,v=>(match v with | .none=>true | _=>false)
def HJ(w:adp):Key->Int
 | .inl k=>hashInt k
 | .inr x=>hashStr w x
 | .non=>reduceHash 4238894112
theorem cY:∀{k:Key}{v:ado},pG k v=true->(∃i t,k=Key.inl i/\v=oU i t)\/(∃x t,k=Key.inr x/\v=tF x t)\/(k=Key.non/\v=aS)
 | .inl i,v,h=>by
  obtain⟨t,e⟩:=Value.isInt_shape (k:=i) (v:=v) h
  exact .inl ⟨i,t,rfl,e⟩
 | .inr x,v,h=>by
  obtain⟨t,e⟩:=Value.isStrOf_shape (x:=x) (v:=v) h
  exact .inr (.inl ⟨x,t,rfl,e⟩)
 | .non,v,h=>by
  cases v<;>first | exact .inr (.inr ⟨rfl,rfl⟩) | (unfold pG at h;cases h)
theorem Br(i:Int)(t:Tok):pG (.inl i) (.int i t)=true:=by simp[pG,Value.isInt]
theorem Bs(x:Str)(t:Tok):pG (.inr x) (.str x t)=true:=by simp[pG,Value.isStrOf]
theorem Me(a b:Int):decide ((Key.inl a:Key)=Key.inl b)=(a == b):=by
 by_cases e:a=b
 ·subst e;simp
 ·have h:¬(Key.inl a:Key)=Key.inl b:=λq=>e (Key.inl.inj q)
  rw[decide_eq_false h]
  exact(beq_eq_false_iff_ne.mpr e).symm
theorem Mf(a b:Str):decide ((Key.inr a:Key)=Key.inr b)=decide (a=b):=by
 by_cases e:a=b
 ·subst e;simp
 ·have h:¬(Key.inr a:Key)=Key.inr b:=λq=>e (Key.inr.inj q)
  rw[decide_eq_false h,decide_eq_false e]
theorem pH{prog:adm}{w:adp}{A:adj}{E:ado->adn->Prop}{s:adn}{Q:Int->adn->Prop}(h:Q (reduceHash 4238894112) { s with toks:=s.toks+1 }):adC (model prog w) A (PySem.pyHash .none) Q E s :=
 PySem.W.pyHash_slot (T:="NoneType") rfl F.slot_NoneType_hash F.entry_NoneType_hash (F.args_NoneType_hash_1 _) (beq_builtin_none _) (.inl rfl) (adD (adJ (adD (wpAny_mkInt (adJ ⟨_,_,rfl,h⟩)))))
def aY(prog:adm)(w:adp):PySem.KeyKind prog w Key where
 is:=pG
 hash:=HJ w
 inj:=λv a b ha hb=>by
  rcases cY ha with ⟨i,t,rfl,rfl⟩ | ⟨x,t,rfl,rfl⟩ | ⟨rfl,rfl⟩<;>rcases cY hb with ⟨j,u,rfl,e⟩ | ⟨y,u,rfl,e⟩ | ⟨rfl,e⟩<;>cases e<;>rfl
 byValue:=λk v h=>by
  rcases cY h with ⟨i,t,rfl,rfl⟩ | ⟨x,t,rfl,rfl⟩ | ⟨rfl,rfl⟩<;>rfl
 pyHash:=λhv h=>by
  rcases cY hv with ⟨i,t,rfl,rfl⟩ | ⟨x,t,rfl,rfl⟩ | ⟨rfl,rfl⟩
  ·exact wpAny_pyHash_int h
  ·exact wpAny_pyHash_str h
  ·exact pH h
 eqBool:=λ{A E s a b u v Q} hu hv h=>by
  have no:a≠b->Q false s:=λn=>by rw[decide_eq_false n] at h;exact h
  rcases cY hu with ⟨i,t,rfl,rfl⟩ | ⟨x,t,rfl,rfl⟩ | ⟨rfl,rfl⟩<;>rcases cY hv with ⟨j,u,rfl,rfl⟩ | ⟨y,u,rfl,rfl⟩ | ⟨rfl,rfl⟩
  ·rw[Me] at h;exact wpAny_eqBool_int h
  ·exact HK i t y u _ _ _ _ (no nofun)
  ·exact HM i t _ _ _ _ (no nofun)
  ·exact HN x t j u _ _ _ _ (no nofun)
  ·rw[Mf] at h;exact wpAny_eqBool_str h
  ·exact HP x t _ _ _ _ (no nofun)
  ·exact HQ j u _ _ _ _ (no nofun)
  ·exact HR y u _ _ _ _ (no nofun)
  ·exact HS .none _ _ _ _ (by simpa using h)
 «strs»:=λk x t v h=>by
  rcases cY h with ⟨i,u,rfl,e⟩ | ⟨y,u,rfl,e⟩ | ⟨rfl,e⟩<;>cases e
  cases v<;>rfl
theorem vg(prog:adm)(w:adp)(i:Int)(t:Tok):(aY prog w).is (.inl i) (.int i t)=true:=Br i t
theorem vh(prog:adm)(w:adp)(x:Str)(t:Tok):(aY prog w).is (.inr x) (.str x t)=true:=Bs x t
end L2
namespace NK
open PySem L2
def kd:Nat->PyData->Bool
 | _,.none=>true
 | _,.int _=>true
 | _,.str x=>aO x
 | n+1,.tuple xs=>xs.all (kd n)
 | _,_=>false
def kh(w:adp):Nat->PyData->Int
 | _,.none=>HJ w .non
 | _,.int i=>HJ w (.inl i)
 | _,.str x=>HJ w (.inr x)
 | n+1,.tuple xs=>reduceHash (xx (xs.map (kh w n)))
 | _,_=>0
def Qk:Nat->PyData->Nat
 | n+1,.tuple xs=>(xs.map (Qk n)).sum+1
 | _,_=>1
def Rd(h:Heap)(v:ado)(d:PyData):Prop:=∃as,Reads h v d as
inductive zp(h:Heap):List ado->List PyData->Prop
 | nil:zp h [] []
 | cons {v:ado} {d:PyData} {vs:List ado} {ds:List PyData}:Rd h v d->zp h vs ds->zp h (v::vs) (d::ds)
theorem zp.of{h:Heap}:∀{vs:List ado}{ds:List PyData}{as:List adi},ReadsAll h vs ds as->zp h vs ds
 | _,_,_,.nil=> .nil
 | _,_,_,.cons r rs=> .cons ⟨_,r⟩ (zp.of rs)
theorem zp.all{h:Heap}{vs:List ado}{ds:List PyData}(r:zp h vs ds):∃as,ReadsAll h vs ds as:=by
 induction r with
 | nil=>exact⟨_,.nil⟩
 | cons a _ ih=>
  obtain⟨as,ra⟩:=a
  obtain⟨bs,rb⟩:=ih
  exact⟨_,.cons ra rb⟩
theorem Rd.tup{h:Heap}{v:ado}{xs:List PyData}(r:Rd h v (.tuple xs)):∃a o vs n,v= .ref a/\h.get? a=some o/\o.cls= .type "tuple"/\o.data= .seq vs n/\zp h vs.toList xs:=by
 obtain⟨as,r⟩:=r
 cases r with
 | tuple h1 h2 h3 h4=>exact⟨_,_,_,_,rfl,h1,h2,h3,.of h4⟩
section
variable {prog:adm} {w:adp} {E:ado->adn->Prop}
theorem rX{n:Nat}(ih:∀(d:PyData)(v:ado)(A:adj)(s:adn)(Q:Int->adn->Prop),kd n d=true->Rd s.heap v d->A.units+n < cLine->Q (kh w n d) { s with toks:=s.toks+Qk n d }->adC (model prog w) A (pyHash v) Q E s) :
  ∀(xs:List PyData)(vs:List ado)(A:adj)(s:adn)(b:Array Int)(Q:Array Int->adn->Prop),xs.all (kd n)=true->zp s.heap vs xs->A.units+n < cLine->
  (∀b':Array Int,b'.toList=b.toList++xs.map (kh w n)->Q b' { s with toks:=s.toks+(xs.map (Qk n)).sum })->
  adC (model prog w) A (forIn vs b λx r=>do let h <-pyHash x;pure mr;pure (j5 (r.push h))) Q E s
 | [],_,A,s,b,Q,_,x,_,h=>by cases x;exact adJ (h b (by simp))
 | k::xs,_,A,s,b,Q,hk,x,hu,h=>by
  cases x with
  | cons x1 x2=>
   rw[cV,cD] at hk
   rw[lK]
   refine adD (adD (ih k _ A s _ hk.1 x1 hu ?_))
   refine adD (adJ (adJ ?_))
   exact rX ih xs _ A _ _ Q hk.2 x2 hu λb' hb=>by
    have:=h b' (by rw[hb];simp)
    rw[aD,List.sum_cons,<-Nat.add_assoc] at this
    exact this
theorem Mg:∀(n:Nat)(d:PyData)(v:ado)(A:adj)(s:adn)(Q:Int->adn->Prop),kd n d=true->Rd s.heap v d->A.units+n < cLine->Q (kh w n d) { s with toks:=s.toks+Qk n d }->adC (model prog w) A (pyHash v) Q E s:=by
 intro n
 induction n with
 | zero=>
  intro d v A s Q hk r hu h
  obtain⟨as,r⟩:=r
  cases r with
  | none=>exact pH h
  | int i t=>exact wpAny_pyHash_int h
  | str x t=>exact wpAny_pyHash_str h
  | _=>simp[kd] at hk
 | succ n ih=>
  intro d v A s Q hk r hu h
  cases d with
  | tuple xs=>
   obtain⟨a,o,vs,m,rfl,h1,h2,h3,h4⟩:=r.tup
   refine PySem.W.pyHash_slot (T:="tuple") ⟨o,h1,h2⟩ F.slot_tuple_hash F.entry_tuple_hash (F.args_tuple_hash_1 _) (beq_builtin_none _) (.inr (by omega)) ?_
   show adC _ _ (Dg (.ref a) >>= _) _ _ s
   refine adD (wpAny_tupleItemsOf h1 h3 ?_)
   refine adD ?_
   rw[<-K6]
   refine rX ih xs vs.toList A.in1 s #[] _ hk h4 (by simp only[Around.in1_units];omega) λb hb=>?_
   show adC _ _ (retInt (xx b.toList)) _ _ _
   rw[hb]
   exact adD (wpAny_mkInt (adJ ⟨_,_,rfl,h⟩))
  | none=>obtain⟨as,r⟩:=r;cases r;exact pH h
  | int i=>obtain⟨as,r⟩:=r;cases r;exact wpAny_pyHash_int h
  | str x=>obtain⟨as,r⟩:=r;cases r;exact wpAny_pyHash_str h
  | _=>simp[kd] at hk
end
theorem xy:∀(n:Nat)(d:PyData),kd n d=true->d.canLay0=true/\d.depth<=n:=by
 intro n
 induction n with
 | zero=>
  intro d h
  cases d with
  | none=>exact⟨rfl,aj _⟩
  | int i=>exact⟨rfl,aj _⟩
  | str x=>exact⟨h,aj _⟩
  | _=>simp[kd] at h
 | succ n ih=>
  intro d h
  cases d with
  | none=>exact⟨rfl,bb _⟩
  | int i=>exact⟨rfl,bb _⟩
  | str x=>exact⟨h,bb _⟩
  | tuple xs=>
   have hx:xs.all (kd n)=true:=h
   have key:∀xs:List PyData,xs.all (kd n)=true->mv xs=true/\gj xs<=n:=by
    intro xs
    induction xs with
    | nil=>intro _;exact⟨rfl,bb _⟩
    | cons x r ihr=>
     intro h
     rw[cV,cD] at h
     obtain⟨a,b⟩:=ih x h.1
     obtain⟨c,e⟩:=ihr h.2
     refine⟨?_,?_⟩
     ·show(PyData.canLay0 x&&mv r)=true
      rw[a,c];rfl
     ·show max x.depth (gj r)<=n
      omega
   obtain⟨a,b⟩:=key xs hx
   exact⟨a,oV b⟩
  | _=>simp[kd] at h
theorem zq:∀(n:Nat)(d e:PyData),kd n d=true->kd n e=true->(aC d e=true↔d=e):=by
 intro n
 induction n with
 | zero=>
  intro d e h k
  cases d<;>cases e<;>first | (simp[kd] at h;done) | (simp[kd] at k;done) | simp[aC]
 | succ n ih=>
  intro d e h k
  cases d with
  | tuple xs=>
   cases e with
   | tuple ys=>
    have key:∀xs ys:List PyData,xs.all (kd n)=true->ys.all (kd n)=true->(cu xs ys=true↔xs=ys):=by
     intro xs
     induction xs with
     | nil=>intro ys _ _;cases ys<;>simp[cu]
     | cons x r ihr=>
      intro ys h k
      cases ys with
      | nil=>simp[cu]
      | cons y t=>
       rw[cV,cD] at h k
       show(aC x y&&cu r t)=true↔_
       rw[cD,ih x y h.1 k.1,ihr t h.2 k.2,List.cons.injEq]
    show cu xs ys=true↔_
    rw[key xs ys h k,PyData.tuple.injEq]
   | _=>first | (simp[kd] at k;done) | simp[aC]
  | _=>cases e<;>first | (simp[kd] at h;done) | (simp[kd] at k;done) | simp[aC]
def Hy:PyData->Bool
 | .tuple _=>true
 | _=>false
def KD:Type:={ d:PyData // kd 8 d=true/\Hy d=true }
instance:DecidableEq KD:=λx y=>decidable_of_iff (aC x.1 y.1=true) ((zq 8 x.1 y.1 x.2.1 y.2.1).trans ⟨zr,λh=>by rw[h]⟩)
theorem KD.eqv{x y:KD}:aC x.1 y.1=decide (x=y):=by
 rw[Bool.eq_iff_iff,zq 8 x.1 y.1 x.2.1 y.2.1,decide_eq_true_eq]
 exact⟨zr,λh=>by rw[h]⟩
theorem HU{h h':Heap}{d0:adi}{o:Obj}{es ep}(ho:h.get? d0=some o)(hd:o.data= .dict es ep)(hs:gN d0 h h'):∀(n:Nat)(d:PyData)(v:ado),kd n d=true->Rd h v d->Rd h' v d:=by
 intro n
 induction n with
 | zero=>
  intro d v hk r
  obtain⟨as,r⟩:=r
  cases r with
  | none=>exact⟨_,.none⟩
  | int i t=>exact⟨_,.int i t⟩
  | str x t=>exact⟨_,.str x t⟩
  | _=>simp[kd] at hk
 | succ n ih=>
  intro d v hk r
  cases d with
  | tuple xs=>
   obtain⟨a,o',vs,m,rfl,h1,h2,h3,h4⟩:=r.tup
   have ne:a≠d0:=λz=>by
    subst z
    rw[h1] at ho
    cases ho
    rw[h3] at hd
    cases hd
   have key:∀(vs:List ado)(xs:List PyData),xs.all (kd n)=true->zp h vs xs->zp h' vs xs:=by
    intro vs xs hx r
    induction r with
    | nil=>exact .nil
    | cons a _ ihr=>
     rw[cV,cD] at hx
     exact .cons (ih _ _ hx.1 a) (ihr hx.2)
   obtain⟨as,ra⟩:=(key _ _ hk h4).all
   exact⟨_,.tuple ((hs.2 a ne).trans h1) h2 h3 ra⟩
  | none=>obtain⟨as,r⟩:=r;cases r;exact⟨_,.none⟩
  | int i=>obtain⟨as,r⟩:=r;cases r;exact⟨_,.int _ _⟩
  | str x=>obtain⟨as,r⟩:=r;cases r;exact⟨_,.str _ _⟩
  | _=>simp[kd] at hk
section
variable {prog:adm} {w:adp} {A:adj} {E:ado->adn->Prop} {s:adn}
theorem HV:∀(n:Nat)(d:PyData)(v:ado)(Q:Bool->adn->Prop),kd n d=true->Rd s.heap v d->Q true s->adC (model prog w) A (eqIsQuiet n v) Q E s:=by
 intro n
 induction n with
 | zero=>
  intro d v Q hk r h
  obtain⟨as,r⟩:=r
  cases r with
  | none=>rw[eqIsQuiet_byValue 0 rfl];exact adJ h
  | int i t=>rw[eqIsQuiet_byValue 0 rfl];exact adJ h
  | str x t=>rw[eqIsQuiet_byValue 0 rfl];exact adJ h
  | _=>simp[kd] at hk
 | succ n ih=>
  intro d v Q hk r h
  cases d with
  | tuple xs=>
   obtain⟨a,o,vs,m,rfl,h1,h2,h3,h4⟩:=r.tup
   have hT:s.TypeIs (.ref a) "tuple":=⟨o,h1,h2⟩
   unfold eqIsQuiet
   refine adD (wpAny_specialOf hT F.slot_tuple_eq.lookup ?_)
   show adC _ _ (isInstance (.ref a) (.type "tuple") >>= _) _ _ s
   refine adD (wpAny_isInstance hT isSubtype_tuple_tuple ?_)
   simp only[lL,dD,if_false]
   refine adD (wpAny_seqItems h1 h3 ?_)
   refine adD ?_
   show adC _ _ (forIn vs _ _) _ _ s
   rw[<-K6]
   refine wpAny_forIn_list _ (λrest r s'=>r.1=none/\s'=s/\∃ds,ds.all (kd n)=true/\zp s.heap rest ds) _ ?_ ?_ _ _ ⟨rfl,rfl,xs,hk,h4⟩
   ·rintro v rest r s' ⟨hr,rfl,ds,hds,hall⟩
    cases hall with
    | cons ra rr=>
     rw[cV,cD] at hds
     refine adD (ih _ _ _ hds.1 ra ?_)
     simp only[lL,dD,if_false]
     exact adJ ⟨rfl,rfl,_,hds.2,rr⟩
   ·rintro⟨r1,r2⟩ s' ⟨hr,rfl,_⟩
    simp only at hr
    subst hr
    exact adJ h
  | none=>obtain⟨as,r⟩:=r;cases r;rw[eqIsQuiet_byValue _ rfl];exact adJ h
  | int i=>obtain⟨as,r⟩:=r;cases r;rw[eqIsQuiet_byValue _ rfl];exact adJ h
  | str x=>obtain⟨as,r⟩:=r;cases r;rw[eqIsQuiet_byValue _ rfl];exact adJ h
  | _=>simp[kd] at hk
end
def iV(prog:adm)(w:adp):HeapKind prog w KD where
 is:=λh k a=>Rd h (.ref a) k.1
 hash:=λk=>kh w 8 k.1
 draws:=λk=>Qk 8 k.1
 room:=λA=>A.units+8 < cLine
 inj:=λ{h a x y} hx hy=>by
  obtain⟨as,hx⟩:=hx
  obtain⟨bs,hy⟩:=hy
  exact zr (SeqAt.Reads.unique _ _ _ _ _ (xy 8 _ x.2.1).1 hx hy)
 keeps:=λ{h h' k a d o es ep} x ho hd hs=>HU ho hd hs 8 _ _ k.2.1 x
 pyHash:=λ{A E s k a Q} hu hk h=>Mg 8 _ _ A s Q k.2.1 hk hu h
 eqBool:=λ{A E s x y a b Q} hu hx hy h=>by
  obtain⟨as,hx⟩:=hx
  obtain⟨bs,hy⟩:=hy
  obtain⟨l1,d1⟩:=xy 8 _ x.2.1
  obtain⟨l2,d2⟩:=xy 8 _ y.2.1
  refine HW prog w A E s _ _ _ _ as bs Q hx hy l1 l2 ?_ ?_
  ·have:min x.1.depth y.1.depth<=8:=by omega
   have TN:A.units+8 < cLine:=hu
   omega
  ·rw[KD.eqv];exact h
 quiet:=λ{A E s k a Q} hk h=>HV 8 _ _ Q k.2.1 hk h
end NK
namespace L2
open PySem PySem.Spec PyProof.Rows
inductive V where
 | non | bl (b:Bool) | int (i:Int) | str (x:Str) | PR (b:Array UInt8) | TQ (b:UInt64) | ref (a:adi) | ty (n:String)
 deriving DecidableEq
def RelV:V->ado->Prop
 | .non,u=>u=aS
 | .bl b,u=>u=Value.bool b
 | .int i,u=>∃t,u=oU i t
 | .str x,u=>∃t,u=tF x t
 | .PR b,u=>∃t,u=Value.bytes b t
 | .TQ b,u=>∃t,u=Value.float b t
 | .ref a,u=>u=aB a
 | .ty n,u=>u=kK n
abbrev Vals:List V->List ado->Prop:=Paired RelV
theorem Vals.length{xs:List V}{us:List ado}(r:Vals xs us):xs.length=us.length:=Paired.length r
theorem Vals.get:∀{xs:List V}{us:List ado}{i:Nat}{x:V},Vals xs us->xs[i]? =some x->∃u,us[i]? =some u/\RelV x u
 | _,_,_,_,.nil,e=>by simp at e
 | _,_,0,_,.cons r _,e=>by simp at e;subst e;exact⟨_,rfl,r⟩
 | _,_,i+1,x,.cons _ t,e=>by
  obtain⟨u,h1,h2⟩:=Vals.get (i:=i) (x:=x) t (by simpa using e)
  exact⟨u,by simpa using h1,h2⟩
theorem Vals.set{x:V}{u:ado}(r:RelV x u):∀{xs:List V}{us:List ado}(i:Nat),Vals xs us->Vals (xs.set i x) (us.set i u)
 | _,_,_,.nil=> .nil
 | _,_,0,.cons _ t=> .cons r t
 | _,_,i+1,.cons q t=> .cons q (Vals.set r i t)
theorem Vals.append:∀{xs ys:List V}{us ws:List ado},Vals xs us->Vals ys ws->Vals (xs++ys) (us++ws)
 | _,_,_,_,.nil,s=>s
 | _,_,_,_,.cons r t,s=> .cons r (Vals.append t s)
theorem Vals.take:∀{xs:List V}{us:List ado}(n:Nat),Vals xs us->Vals (xs.take n) (us.take n)
 | _,_,0,_=> .nil
 | _,_,_+1,.nil=> .nil
 | _,_,n+1,.cons r t=> .cons r (Vals.take n t)
theorem Vals.drop:∀{xs:List V}{us:List ado}(n:Nat),Vals xs us->Vals (xs.drop n) (us.drop n)
 | _,_,0,r=>r
 | _,_,_+1,.nil=> .nil
 | _,_,n+1,.cons _ t=>Vals.drop n t
def lM:Option V->Option ado->Prop
 | some v,some u=>RelV v u
 | none,none=>True
 | _,_=>False
def KV{κ:Type}:List (κ×V)->List (κ×ado)->Prop:=Paired λ(p:κ×V)(q:κ×ado)=>p.1=q.1/\RelV p.2 q.2
def kV:Key->V
 | .inl i=> .int i
 | .inr x=> .str x
 | .non=> .non
inductive HO where
 | dN (kvs:List (NK.KD×V))
  | lst (xs:List V)
  | tup (xs:List V)
  | dK (kvs:List (Key×V)) | dT (kvs:List (List Key×V))
  | set (S:Int->Bool) (n:Nat)
  | ins (C dx:adi) (fs:List (Str×V))
  | own (x:adi)
  | xd (fs:List (Str×V))
  | met (f x:adi)
  | TR (lo hi:Int)
  | gH (o:Obj) (u:HO)
  | iW (ps:Array ado)
  | ext (φ:Heap->Prop)
abbrev Hp:=adi->Option HO
def upd(H:Hp)(a:adi)(o:HO):Hp:=λb=>if b=a then some o else H b
theorem aP{H:Hp}{a:adi}{o:HO}:upd H a o a=some o:=by unfold upd;rw[if_pos rfl]
theorem au{H:Hp}{a b:adi}{o:HO}(h:b≠a):upd H a o b=H b:=by unfold upd;rw[if_neg h]
theorem Dh{H:Hp}{a b:adi}{o u:HO}(h:H a=some o)(h':H b=some u)(d:o≠u):a≠b:=by
 intro e;subst e;rw[h] at h';exact d (Option.some.inj h')
theorem aT{H:Hp}{a b:adi}{o:HO}(h:H a=some o)(h':H b=none):a≠b:=by
 intro e;subst e;rw[h] at h';cases h'
def xA(h:Heap)(a:adi):Prop:=∀o,h.get? a=some o->o.dict=none
theorem xA.new(h:Heap)(us:Array ado):xA (h.push { cls:=.type "tuple",data:=.seq us }) h.objs.size:=λo q=>by
 rw[aU _ rfl] at q
 cases q
 rfl
def KA(H:Hp):Nat->V->PyData->Prop
 | _,.non,.none=>True
 | _,.int i,.int j=>i=j
 | _,.str x,.str y=>x=y
 | n+1,.ref a,.tuple ds=>∃vs,H a=some (.tup vs)/\Paired (KA H n) vs ds
 | _,_,_=>False
section
variable (P:adm) (w:adp)
def cO(H:Hp)(h:Heap)(a:adi):HO->Prop
 | .lst xs=>xs.length<=adA/\∃(its:List ado)(n:Nat),Vals xs its/\h.get? a=some { cls:=.type "list",data:=.seq its.toArray n }
 | .tup xs=>xs.length<=adA/\∃its:List ado,Vals xs its/\IsTup h a its.toArray/\xA h a
 | .dN kvs=>kvs.length<=adA/\(a == sysModules)=false/\∃xs:List (NK.KD×adi×ado),
   Paired (λ(p:NK.KD×V)(q:NK.KD×adi×ado)=>p.1=q.1/\KA H 8 (.ref q.2.1) p.1.1/\RelV p.2 q.2.2) kvs xs/\
   ∃o es ep,h.get? a=some o/\o.ExactDict/\o.data= .dict es ep/\es.toList=xs.map (entryOfKey (NK.iV P w))/\(xs.map (·.1)).Nodup
 | .dK kvs=>kvs.length<=adA/\(a == sysModules)=false/\∃vs,KV kvs vs/\h.DictOf (aY P w) a vs
 | .dT kvs=>kvs.length<=adA/\(a == sysModules)=false/\∃xs:List (List Key×adi×ado),
   Paired (λ(p:List Key×V)(q:List Key×adi×ado)=>p.1=q.1/\H q.2.1=some (.tup (p.1.map kV))/\RelV p.2 q.2.2) kvs xs/\
   ∃o es ep,h.get? a=some o/\o.ExactDict/\o.data= .dict es ep/\es.toList=xs.map (entryOfKey (tupleKind (aY P w)))/\(xs.map (·.1)).Nodup
 | .set S n=>h.SetOf (intKind P w) a S n
 | .ins C dx fs=>H dx=some (.own a)/\fs.length<=1000/\dx≠a/\h.get? a=some (PySem.W.instObj C dx)/\
   ∃mA,h.Ns1 dx mA/\(∀f,lM (fs.lookup f) (mA f))/\PySem.Within mA (fs.map (·.1))
 | .own _=>∃o,h.get? a=some o
 | .xd fs=>∃mA,h.Ns1 a mA/\∀f,lM (fs.lookup f) (mA f)
 | .TR lo hi=>∃t u v,h.get? a=some { cls:=.type "range",data:=.fields #[.int lo t,.int hi u,.int 1 v] }
 | .gH o u=>h.get? a=some o/\cO H h a u
 | .iW ps=>h.get? a=some { cls:=.none,data:=.fields ps }
 | .met f x=>h.get? a=some (PySem.W.methodObj (.ref f) (.ref x))
 | .ext φ=>φ h/\(∃o,h.get? a=some o)/\∀h1 h2:Heap,φ h1->(∀o,h1.get? a=some o->h2.get? a=some o)->φ h2
def jb(H:Hp)(h:Heap):Prop:=∀a o,H a=some o->cO P w H h a o
end
section
variable {P:adm} {w:adp} {H H':Hp} {h h':Heap} {a:adi} {o:HO}
theorem KA.rd(x:jb P w H h):∀(n:Nat)(v:V)(d:PyData)(u:ado),KA H n v d->RelV v u->NK.Rd h u d:=by
  intro n
  induction n with
  | zero=>
    intro v d u x r
    cases v<;>cases d<;>first | exact aa x | skip
    · cases r;exact⟨_,.none⟩
    · obtain⟨t,rfl⟩:=r;cases (show _=_ from x);exact⟨_,.int _ _⟩
    · obtain⟨t,rfl⟩:=r;cases (show _=_ from x);exact⟨_,.str _ _⟩
  | succ n ih=>
    intro v d u x' r
    cases v with
    | ref a=>
      cases d with
      | tuple ds=>
        obtain⟨vs,e,p⟩:=x'
        obtain⟨_,its,rv,⟨o,ho,hc,k,hd⟩,_⟩:=x a _ e
        cases (show u=aB a from r)
        have key:∀(vs:List V)(its:List ado)(ds:List PyData),Vals vs its->Paired (KA H n) vs ds->NK.zp h its ds:=by
          intro vs its ds rv p
          induction p generalizing its with
          | nil=>cases rv;exact .nil
          | cons a _ ihr=>
            cases rv with
            | cons r1 r2=>exact .cons (ih _ _ _ a r1) (ihr _ r2)
        obtain⟨as,ra⟩:=(key _ _ _ rv p).all
        exact⟨_,.tuple ho hc hd (by simpa using ra)⟩
      | _=>exact aa x'
    | non => cases d <;> first | exact False.elim x' | skip
             cases r;exact⟨_,.none⟩
    | int i => cases d <;> first | exact False.elim x' | skip
               obtain⟨t,rfl⟩:=r;cases (show _=_ from x');exact⟨_,.int _ _⟩
    | str z => cases d <;> first | exact False.elim x' | skip
               obtain⟨t,rfl⟩:=r;cases (show _=_ from x');exact⟨_,.str _ _⟩
    | _=>cases d<;>exact aa x'
theorem cO.lt(x:cO P w H h a o):a < h.objs.size:=by
 cases o with
 | lst xs=>obtain⟨_,_,_,_,e⟩:=x;exact aF e
 | tup xs=>obtain⟨_,_,_,p,_⟩:=x;exact p.lt
 | dK kvs=>obtain⟨_,_,_,_,o,_,_,e,_⟩:=x;exact aF e
 | dT kvs=>obtain⟨_,_,_,_,o,_,_,e,_⟩:=x;exact aF e
 | dN kvs=>obtain⟨_,_,_,_,o,_,_,e,_⟩:=x;exact aF e
 | set S n=>obtain⟨o,_,_,_,e,_⟩:=x;exact aF e
 | ins C dx fs=>obtain⟨_,_,_,e,_⟩:=x;exact aF e
 | own y=>obtain⟨_,e⟩:=x;exact aF e
 | xd fs=>obtain⟨_,⟨_,_,_,e,_⟩,_⟩:=x;exact aF e
 | TR lo hi=>obtain⟨_,_,_,e⟩:=x;exact aF e
 | gH ob u=>obtain⟨e,_⟩:=x;exact aF e
 | iW ps=>exact aF (show h.get? a=some _ from x)
 | met f y=>exact aF (show h.get? a=some _ from x)
 | ext φ=>obtain⟨_,⟨_,e⟩,_⟩:=x;exact aF e
theorem Paired.Bt{α β:Type}{F G:α->β->Prop}:∀{l₁:List α}{l₂:List β},Paired F l₁ l₂->(∀a b,F a b->G a b)->Paired G l₁ l₂
 | _,_,.nil,_=> .nil
 | _,_,.cons r t,f=> .cons (f _ _ r) (Paired.Bt t f)
theorem KA.stay(ht:∀b xs,H b=some (.tup xs)->H' b=some (.tup xs)):∀(n:Nat)(v:V)(d:PyData),KA H n v d->KA H' n v d:=by
 intro n
 induction n with
 | zero=>intro v d x;cases v<;>cases d<;>first | exact x | exact aa x
 | succ n ih=>
  intro v d x
  cases v with
  | ref a=>
   cases d with
   | tuple ds=>
    obtain⟨vs,e,p⟩:=x
    exact⟨vs,ht _ _ e,Paired.Bt p λv d=>ih v d⟩
   | _=>exact aa x
  | _=>cases d<;>first | exact x | exact aa x
theorem cO.stay(x:cO P w H h a o)(k:∀b u,(b=a\/H b=some (.own a))->h.get? b=some u->h'.get? b=some u)
  (ho:∀b,H b=some (.own a)->H' b=some (.own a))(ht:∀b xs,H b=some (.tup xs)->H' b=some (.tup xs)):cO P w H' h' a o:=by
 induction o with
 | lst xs=>obtain⟨z,its,n,r,e⟩:=x;exact⟨z,its,n,r,k _ _ (.inl rfl) e⟩
 | tup xs=>obtain⟨z,us,r,⟨ob,e,c⟩,nd⟩:=x;exact⟨z,us,r,⟨ob,k _ _ (.inl rfl) e,c⟩,λo q=>by rw[k _ _ (.inl rfl) e] at q;cases q;exact nd _ e⟩
 | dK kvs=>obtain⟨z,y,vs,r,ob,es,ep,e,c⟩:=x;exact⟨z,y,vs,r,ob,es,ep,k _ _ (.inl rfl) e,c⟩
 | dT kvs=>
  obtain⟨z,y,xs,r,ob,es,ep,e,c⟩:=x
  exact⟨z,y,xs,Paired.Bt r λp q z=>⟨z.1,ht _ _ z.2.1,z.2.2⟩,ob,es,ep,k _ _ (.inl rfl) e,c⟩
 | dN kvs=>
  obtain⟨z,y,xs,r,ob,es,ep,e,c⟩:=x
  exact⟨z,y,xs,Paired.Bt r λp q z=>⟨z.1,KA.stay ht _ _ _ z.2.1,z.2.2⟩,ob,es,ep,k _ _ (.inl rfl) e,c⟩
 | set S n=>obtain⟨ob,es,ep,t,e,c⟩:=x;exact⟨ob,es,ep,t,k _ _ (.inl rfl) e,c⟩
 | ins C dx fs=>
  obtain⟨d,z,ne,e,mA,⟨od,es,ep,e2,c⟩,r⟩:=x
  exact⟨ho _ d,z,ne,k _ _ (.inl rfl) e,mA,⟨od,es,ep,k _ _ (.inr d) e2,c⟩,r⟩
 | own y=>obtain⟨ob,e⟩:=x;exact⟨ob,k _ _ (.inl rfl) e⟩
 | xd fs=>obtain⟨mA,⟨od,es,ep,e,c⟩,r⟩:=x;exact⟨mA,⟨od,es,ep,k _ _ (.inl rfl) e,c⟩,r⟩
 | TR lo hi=>obtain⟨t,u,v,e⟩:=x;exact⟨t,u,v,k _ _ (.inl rfl) e⟩
 | gH ob u ih=>obtain⟨e,q⟩:=x;exact⟨k _ _ (.inl rfl) e,ih q⟩
 | iW ps=>
  have e:h.get? a=some { cls:=.none,data:=.fields ps }:=x
  show h'.get? a=some { cls:=.none,data:=.fields ps }
  exact k a _ (.inl rfl) e
 | met f y=>
  have e:h.get? a=some (PySem.W.methodObj (.ref f) (.ref y)):=x
  show h'.get? a=some (PySem.W.methodObj (.ref f) (.ref y))
  exact k a _ (.inl rfl) e
 | ext φ=>obtain⟨p,⟨o,e⟩,st⟩:=x;exact⟨st _ _ p λo q=>k _ _ (.inl rfl) q,⟨o,k _ _ (.inl rfl) e⟩,st⟩
theorem jb.lt(x:jb P w H h)(e:H a=some o):a < h.objs.size:=(x a o e).lt
theorem jb.fresh(x:jb P w H h)(e:h.objs.size<=a):H a=none:=by
 cases q:H a with
 | none=>rfl
 | some u=>exact absurd (bc (x.lt q) e) (cb _)
theorem jb.kept(x:jb P w H h)(k:∀b u,h.get? b=some u->h'.get? b=some u):jb P w H h':=λa o e=>
 (x a o e).stay (λb u _ q=>k b u q) (λ_ q=>q) λ_ _ q=>q
theorem jb.laid(x:jb P w H h)(k:∀b u,h.get? b=some u->h'.get? b=some u)(hp:h.objs.size<=a)(new:cO P w (upd H a o) h' a o):jb P w (upd H a o) h':=λb u e=>by
 have hn:=x.fresh hp
 by_cases hb:b=a
 ·subst hb;rw[aP] at e;cases e;exact new
 ·rw[au hb] at e
  exact(x b u e).stay (λc v _ q=>k c v q) (λc q=>by rw[au (aT q hn)];exact q) λc xs q=>by rw[au (aT q hn)];exact q
end
def Rd(H:Hp)(a:adi)(u:HO):Prop:=H a=some u\/∃o,H a=some (.gH o u)
theorem Rd.ok{P:adm}{w:adp}{H:Hp}{h:Heap}{a:adi}{u:HO}(r:Rd H a u)(x:jb P w H h):cO P w H h a u:=by
 rcases r with r | ⟨o,r⟩
 ·exact x a u r
 ·obtain⟨_,q⟩:=x a _ r
  exact q
def Ql:Option HO->Prop
 | some (.lst _)=>True
 | some (.dK _)=>True
 | some (.dT _)=>True
 | some (.dN _)=>True
 | some (.set _ _)=>True
 | some (.ins _ _ _)=>True
 | some (.ext _)=>True
 | _=>False
section
variable {P:adm} {w:adp} {H:Hp} {h h':Heap} {x e:adi} {o':HO}
theorem jb.write(ok:jb P w H h)(mu:Ql (H x))(he:e=x\/H e=some (.own x))(k:∀b u,b≠e->h.get? b=some u->h'.get? b=some u)(PU:∃u,h'.get? e=some u)
  (new:cO P w (upd H x o') h' x o'):jb P w (upd H x o') h':=λb u q=>by
 have Qm:∀c y,H c=some (.own y)->c≠x:=λc y r z=>by subst z;rw[r] at mu;exact mu
 have UQ:∀c xs,H c=some (.tup xs)->c≠x:=λc xs r z=>by subst z;rw[r] at mu;exact mu
 by_cases hb:b=x
 ·subst hb;rw[aP] at q;cases q;exact new
 ·rw[au hb] at q
  by_cases Mh:b=e
  ·have q':H b=some (.own x):=by
    rcases he with z | z
    ·exact absurd (Mh.trans z) hb
    ·rw[Mh];exact z
   rw[q] at q';cases q'
   obtain⟨v,hv⟩:=PU
   exact⟨v,by rw[Mh];exact hv⟩
  ·refine(ok b u q).stay (λc v hc r=>k c v ?_ r) (λc r=>by rw[au (Qm c b r)];exact r) λc xs r=>by rw[au (UQ c xs r)];exact r
   rcases hc with rfl | hc
   ·exact Mh
   ·rintro rfl
    rcases he with z | z
    ·exact Qm c b hc z
    ·rw[hc] at z;cases z;exact hb rfl
end
structure Un(fs ex:List adi)(H H':Hp)(h h':Heap):Prop where
 keep:∀b o,h.get? b=some o->H b=none->b∉fs->b∉ex->h'.get? b=some o
 slot:∀b o,h.get? b=some o->H b=none->b∈fs->b∉ex->∃sl,h'.get? b=some { o with slots:=sl }
 free:∀b o,h.get? b=some o->H b=none->b∉ex->H' b=none
 there:∀b o,h.get? b=some o->b∉ex->∃o',h'.get? b=some o'
 tups:∀b xs,H b=some (.tup xs)->H' b=some (.tup xs)
 mw:∀b o u,H b=some (.gH o u)->H' b=some (.gH o u)
 oG:∀b ps,H b=some (.iW ps)->∃more,H' b=some (.iW (ps++more))
section
variable {fs fs' ex ex':List adi} {H H1 H2:Hp} {h h1 h2 h':Heap} {a x e:adi} {o:HO}
theorem Un.any(u:Un fs ex H H1 h h1){b:adi}{ob:Obj}(q:h.get? b=some ob)(n:H b=none)(hx:b∉ex):∃sl,h1.get? b=some { ob with slots:=sl }:=by
 by_cases hb:b∈fs
 ·exact u.slot b ob q n hb hx
 ·exact⟨ob.slots,u.keep b ob q n hb hx⟩
theorem Un.kept(k:∀b u,h.get? b=some u->h'.get? b=some u):Un fs ex H H h h' :=
 ⟨λb ob q _ _ _=>k b ob q,λb ob q _ _ _=>⟨ob.slots,k b ob q⟩,λ_ _ _ n _=>n,λb ob q _=>⟨ob,k b ob q⟩,λ_ _ q=>q,λ_ _ _ q=>q,λ_ ps q=>⟨#[],by rw[q];simp⟩⟩
theorem Un.refl:Un fs ex H H h h:=Un.kept λ_ _ q=>q
theorem Un.laid(k:∀b u,h.get? b=some u->h'.get? b=some u)(hp:h.objs.size<=a)(hn:H a=none):Un fs ex H (upd H a o) h h' where
 keep:=λb u q _ _ _=>k b u q
 slot:=λb u q _ _ _=>⟨u.slots,k b u q⟩
 free:=λb u q n _=>by rw[au (aX (bc (aF q) hp))];exact n
 there:=λb u q _=>⟨u,k b u q⟩
 tups:=λb xs q=>by rw[au (aT q hn)];exact q
 mw:=λb u xs q=>by rw[au (aT q hn)];exact q
 oG:=λb ps q=>⟨#[],by rw[au (aT q hn),q];simp⟩
theorem Un.write(mu:Ql (H x))(he:e=x\/H e=some (.own x))(k:∀b u,b≠e->h.get? b=some u->h'.get? b=some u)(PU:∃u,h'.get? e=some u):Un fs ex H (upd H x o) h h':=by
 have hx:∀b,H b=none->b≠x:=λb n z=>by subst z;rw[n] at mu;exact mu
 have hb:∀b,H b=none->b≠e:=λb n z=>by
  subst z
  rcases he with r | r
  ·exact hx b n r
  ·rw[n] at r;cases r
 have hm:∀b u,H b=some u->¬Ql (some u)->b≠x:=λb u q nm z=>by subst z;rw[q] at mu;exact nm mu
 refine⟨λb u q n _ _=>k b u (hb b n) q,λb u q n _ _=>⟨u.slots,k b u (hb b n) q⟩,λb u q n _=>by rw[au (hx b n)];exact n,λb u q _=>?_,
  λb xs q=>by rw[au (hm b _ q λz=>z)];exact q,λb u xs q=>by rw[au (hm b _ q λz=>z)];exact q,λb ps q=>⟨#[],by rw[au (hm b _ q λz=>z),q];simp⟩⟩
 by_cases Mh:b=e
 ·subst Mh;exact PU
 ·exact⟨u,k b u Mh q⟩
end
def TU(h:Heap)(H:Hp):List adi:=(hU h.objs.size).filter λa=>(H a).isSome
def rD(h:Heap)(H:Hp):Heap:=PySem.W.hideAll h (TU h H)
theorem rY(h:Heap)(H:Hp):(rD h H).objs.size=h.objs.size:=PySem.W.hideAll_size _ _
theorem mx{h:Heap}{H:Hp}{b:adi}{o:Obj}(e:h.get? b=some o)(n:H b=none):(rD h H).get? b=some o :=
 PySem.W.hideAll_get _ e λhm=>by
  have q:(H b).isSome=true:=(List.mem_filter.mp hm).2
  rw[n] at q;simp at q
theorem zt{h:Heap}{H:Hp}{b:adi}{o:Obj}(e:(rD h H).get? b=some o):h.get? b=some o/\H b=none:=by
 have e':h.get? b=some o:=PySem.W.of_hideAll (TU h H) e
 refine⟨e',?_⟩
 cases q:H b with
 | none=>rfl
 | some x=>
  have hm:b∈TU h H:=List.mem_filter.mpr ⟨List.mem_range.mpr (aF e'),by simp[q]⟩
  have z:(rD h H).get? b=none:=PySem.W.hideAll_none (TU h H) hm
  rw[z] at e;cases e
def tG(g h:Heap)(L:adi):List (adi×Obj):=(hU h.objs.size).filterMap λa=>if a=L\/(g.get? a).isSome=true then none else(h.get? a).map λo=>(a,o)
theorem bS{g h:Heap}{L a:adi}{o:Obj}(h1:a≠L)(h2:g.get? a=none)(h3:h.get? a=some o):(a,o)∈tG g h L :=
 List.mem_filterMap.mpr ⟨a,List.mem_range.mpr (aF h3),by simp[h1,h2,h3]⟩
theorem pI{g h:Heap}{L:adi}{p:adi×Obj}(hp:p∈tG g h L):p.1≠L/\g.get? p.1=none/\h.get? p.1=some p.2:=by
 obtain⟨b,_,e⟩:=List.mem_filterMap.mp hp
 split at e
 ·cases e
 ·rename_i hn
  cases q:h.get? b with
  | none=>rw[q] at e;simp at e
  | some u=>
   rw[q] at e
   simp only[my,Option.some.injEq] at e
   subst e
   refine⟨λz=>hn (.inl z),?_,q⟩
   show g.get? b=none
   cases r:g.get? b with
   | none=>rfl
   | some v=>exact(hn (.inr (by simp[r]))).elim
theorem mz{g h:Heap}{L:adi}:News g L h (tG g h L):=λp hp=>let ⟨a,b,c⟩:=pI hp;⟨c,a,b⟩
structure Mod(K:PySem.W.Frag)(mg:Str->Option ado)(base:Heap):Prop where
 PV:K.In base
 glob:base.Ns adz mg
 blt:∃mb,base.Ns builtinsNs mb/\∀x:Str,x≠"__name__"->mb x=adt x
 nolimit:base.NoLimit
structure Cx where
 prog:adm
 w:adp
 K:PySem.W.Frag
 mg:Str->Option ado
 base:Heap
 A:adj
 N:List Str
 s₀:adn
 H₀:Hp
 env:Env
 outer:List Env
 stack:List Env
 ex:List adi
 fn:Str->Bool
 calm:Bool
 pn:List (adi×Obj)
 xe:ado->adn->Prop
def frs(l:List Env):List adi:=l.filterMap (·.frame)
abbrev Cx.fs(X:Cx):List adi:=frs X.outer
def PX(sc:Scope)(x:Str):Prop:=sc.names.lookup x=some .local\/sc.names.lookup x=some .cell\/sc.names.lookup x=some .free
def Loc(sc:Scope)(x:Str):Prop:=sc.names.lookup x=some .local\/sc.names.lookup x=some .cell
def Look(env:Env)(h:Heap)(m:Str->Option ado)(x:Str)(u:ado):Prop :=
 (env.kindOf x=some .local/\m x=some u)\/((env.kindOf x=some .cell\/env.kindOf x=some .free)/\∃c,env.cells.lookup x=some c/\h.IsCell c (some u))
structure Cx.Ok(X:Cx):Prop where
 mod:Mod X.K X.mg X.base
 kind:X.env.scope.kind= .function
 glob:X.env.globals=adz
 blt:X.env.builtins=builtinsNs
 above:X.s₀.heap.objs.size<=X.env.locals
 inj:∀x y c,X.env.cells.lookup x=some c->X.env.cells.lookup y=some c->x=y
 has:∀x,(X.env.kindOf x=some .cell\/X.env.kindOf x=some .free)->∃c,X.env.cells.lookup x=some c
 Qn:∀x c,X.fn x=true->X.env.cells.lookup x=some c->X.s₀.heap.objs.size<=c
 hd:X.calm=true->X.A.handled=none
 frames:X.A.frames=some X.stack
 stk:X.stack=X.outer\/(X.stack=X.env::X.outer/\X.env.frame=some X.env.locals)
 ZQ:∀b∈X.ex,b≠X.env.locals/\∀x c,X.env.cells.lookup x=some c->c≠b
 bs:∀b o,X.base.get? b=some o->X.s₀.heap.get? b=some o/\X.H₀ b=none
 HX:X.base.objs.size<=X.s₀.heap.objs.size
 HY:∀b o,X.base.get? b=some o->b∉X.ex
 Mi:∀b∈X.ex,b∉X.fs
 ni:X.s₀.heap.FunFrames X.base X.outer
 Mj:∀b∈X.fs,X.H₀ b=none
structure Inv(X:Cx)(pins:List (adi×Obj))(σ:List (Option V))(H:Hp)(s:adn):Prop where
 ok:X.Ok
 os:s.os=X.s₀.os
 bare:AllBare s.gens
 base:Un X.fs X.ex X.H₀ H X.s₀.heap s.heap
 loc:∃m,s.heap.Ns X.env.locals m/\∀(i:Nat)(x:Str)(v:V),X.N[i]? =some x->σ[i]? =some (some v)->PX X.env.scope x->∃u,RelV v u/\Look X.env s.heap m x u
 cell:∀x c,X.env.cells.lookup x=some c->∃v,s.heap.IsCell c v
 free:H X.env.locals=none
 jL:∀x c,X.env.cells.lookup x=some c->H c=none
 pin:∀p∈X.pn++pins,s.heap.get? p.1=some p.2/\H p.1=none/\p.1≠X.env.locals/\p.1∉X.fs/\∀v,p.2.data≠.cell v
 hok:jb X.prog X.w H s.heap
 len:σ.length=X.N.length
section
variable {X:Cx} {pins:List (adi×Obj)} {σ:List (Option V)} {H H':Hp} {s:adn} {h':Heap}
theorem Cx.Ok.Qo(ok:X.Ok){b:adi}{o:Obj}(e:X.base.get? b=some o):b∉X.fs:=λhb=>by
 have:=(ok.ni.mem hb).1
 rw[e] at this;cases this
theorem Inv.bs(I:Inv X pins σ H s):∀b o,X.base.get? b=some o->s.heap.get? b=some o/\H b=none:=λb o e=>
 ⟨I.base.keep b o (I.ok.bs b o e).1 (I.ok.bs b o e).2 (I.ok.Qo e) (I.ok.HY b o e),I.base.free b o (I.ok.bs b o e).1 (I.ok.bs b o e).2 (I.ok.HY b o e)⟩
theorem Inv.bk(I:Inv X pins σ H s):∀b o,X.base.get? b=some o->s.heap.get? b=some o:=λb o e=>(I.bs b o e).1
theorem Inv.mod(I:Inv X pins σ H s):Mod X.K X.mg X.base:=I.ok.mod
theorem Inv.C4(I:Inv X pins σ H s):X.K.In s.heap:=I.ok.mod.PV.keeps I.bk
theorem Inv.lt(I:Inv X pins σ H s):X.env.locals < s.heap.objs.size:=let ⟨_,hn,_⟩:=I.loc;hn.lt
theorem Inv.sz(I:Inv X pins σ H s):X.s₀.heap.objs.size<=s.heap.objs.size:=bf I.ok.above (oX I.lt)
theorem Inv.Qp(I:Inv X pins σ H s){a:adi}(h:s.heap.objs.size<=a):a∉X.fs:=λhb=>by
 obtain⟨_,o,ho,_⟩:=I.ok.ni.mem hb
 exact absurd (bc (aF ho) (bf I.sz h)) (cb _)
theorem Inv.K7(I:Inv X pins σ H s):∀x c,X.env.cells.lookup x=some c->c≠X.env.locals:=λx c e z=>by
 obtain⟨v,o,ho,hd⟩:=I.cell x c e
 obtain⟨m,⟨o',es,ep,ho',hd',_⟩,_⟩:=I.loc
 rw[z,ho'] at ho;cases ho;rw[hd'] at hd;cases hd
theorem Inv.ni(I:Inv X pins σ H s):s.heap.FunFrames X.base X.outer:=by
 have all:∀(l:List Env),(∀b∈frs l,b∈X.fs)->X.s₀.heap.FunFrames X.base l->s.heap.FunFrames X.base l:=by
  intro l
  induction l with
  | nil=>intro _ _;trivial
  | cons env r ih=>
   intro hs hl
   obtain⟨hk,⟨L,o,hf,hn,ho,hd⟩,hr⟩:=hl
   have hL:L∈X.fs:=hs L (by unfold frs;rw[tH,hf];exact aK)
   obtain⟨sl,e⟩:=I.base.slot L o ho (I.ok.Mj L hL) hL λz=>I.ok.Mi L z hL
   exact⟨hk,⟨L,_,hf,hn,e,hd⟩,ih (λb hb=>hs b (by unfold frs;rw[tH,hf];exact aJ _ hb)) hr⟩
 exact all X.outer (λ_ hb=>hb) I.ok.ni
theorem Inv.stack(I:Inv X pins σ H s):s.heap.FunFrames X.base X.stack:=by
 rcases I.ok.stk with e | ⟨e,hf⟩
 ·rw[e];exact I.ni
 ·rw[e]
  obtain⟨m,hn,_⟩:=I.loc
  refine .cons (by rw[I.ok.kind];decide) hf hn ?_ I.ni
  exact Mk (bf I.ok.HX I.ok.above)
theorem Inv.lN(I:Inv X pins σ H s):∀b∈frs X.stack,b∈X.env.locals::X.fs:=λb hb=>by
 rcases I.ok.stk with e | ⟨e,hf⟩
 ·rw[e] at hb;exact aJ _ hb
 ·rw[e] at hb
  unfold frs at hb
  rw[tH,hf] at hb
  exact hb
theorem Inv.oY(I:Inv X pins σ H s):∀b∈frs X.stack,H b=none:=λb hb=>by
 rcases List.mem_cons.mp (I.lN b hb) with e | hb
 ·rw[e];exact I.free
 ·obtain⟨_,o,ho,_⟩:=I.ok.ni.mem hb
  exact I.base.free b o ho (I.ok.Mj b hb) λz=>I.ok.Mi b z hb
theorem Inv.step{g':Array GenState}{t':Nat}{d':Drawn}{ch:List adi}(I:Inv X pins σ H s)
  (hch:∀b∈ch,(b∈X.ex\/X.s₀.heap.objs.size<=b)/\b≠X.env.locals/\(∀x c,X.env.cells.lookup x=some c->c≠b)/\∀p∈X.pn++pins,p.1≠b)
  (keep:∀b o,b≠X.env.locals->b∉X.fs->b∉ch->s.heap.get? b=some o->H b=none->h'.get? b=some o)
  (slot:∀b o,b≠X.env.locals->b∈X.fs->b∉ch->s.heap.get? b=some o->H b=none->∃sl,h'.get? b=some { o with slots:=sl })(free:∀b o,b∉ch->s.heap.get? b=some o->H b=none->H' b=none)
  (there:∀b o,b∉ch->s.heap.get? b=some o->∃o',h'.get? b=some o')
  (tups:∀b xs,H b=some (.tup xs)->H' b=some (.tup xs))(mw:∀b o u,H b=some (.gH o u)->H' b=some (.gH o u))(oG:∀b ps,H b=some (.iW ps)->∃more,H' b=some (.iW (ps++more)))
  (ns:∀m,s.heap.Ns X.env.locals m->h'.Ns X.env.locals m)(hok:jb X.prog X.w H' h')(hg:AllBare g') :
  Inv X pins σ H' { s with heap:=h',gens:=g',drawn:=d',toks:=t' }:=by
 have Di:∀b o,X.s₀.heap.get? b=some o->b≠X.env.locals:=λb o e=>aX (bc (aF e) I.ok.above)
 have TV:∀b o,X.s₀.heap.get? b=some o->b∉X.ex->b∉ch:=λb o e hx hb=>by
  rcases(hch b hb).1 with z | z
  ·exact hx z
  ·exact absurd (bc (aF e) z) (cb _)
 have cellK:∀x c,X.env.cells.lookup x=some c->∀v,s.heap.IsCell c v->h'.IsCell c v:=λx c e v ⟨o,ho,hd⟩=>by
  have Qq:c∉ch:=λz=>(hch c z).2.2.1 x c e rfl
  by_cases hc:c∈X.fs
  ·obtain⟨sl,q⟩:=slot c o (I.K7 x c e) hc Qq ho (I.jL x c e)
   exact⟨_,q,hd⟩
  ·exact⟨o,keep c o (I.K7 x c e) hc Qq ho (I.jL x c e),hd⟩
 refine⟨I.ok,I.os,hg,⟨λb o e n hb hx=>?_,λb o e n hb hx=>?_,λb o e n hx=>?_,λb o e hx=>?_,λb xs e=>tups b xs (I.base.tups b xs e),λb o xs e=>mw b o xs (I.base.mw b o xs e),λb ps e=>?_⟩,?_,λx c e=>?_,?_,λx c e=>?_,λp hp=>?_,hok,I.len⟩
 ·exact keep b o (Di b o e) hb (TV b o e hx) (I.base.keep b o e n hb hx) (I.base.free b o e n hx)
 ·obtain⟨sl,e1⟩:=I.base.slot b o e n hb hx
  obtain⟨ZR,e2⟩:=slot b _ (Di b o e) hb (TV b o e hx) e1 (I.base.free b o e n hx)
  exact⟨ZR,e2⟩
 ·obtain⟨o',e1⟩:=I.base.there b o e hx
  exact free b o' (TV b o e hx) e1 (I.base.free b o e n hx)
 ·obtain⟨o',e1⟩:=I.base.there b o e hx
  exact there b o' (TV b o e hx) e1
 ·obtain⟨m1,e1⟩:=I.base.oG b ps e
  obtain⟨m2,e2⟩:=oG b _ e1
  exact⟨m1++m2,by rw[e2,Array.append_assoc]⟩
 ·obtain⟨m,hn,hl⟩:=I.loc
  refine⟨m,ns m hn,λi x v e1 e2 e3=>?_⟩
  obtain⟨u,r,l⟩:=hl i x v e1 e2 e3
  refine⟨u,r,?_⟩
  rcases l with l | ⟨k,c,e,z⟩
  ·exact .inl l
  ·exact .inr ⟨k,c,e,cellK x c e _ z⟩
 ·obtain⟨v,z⟩:=I.cell x c e
  exact⟨v,cellK x c e v z⟩
 ·obtain⟨m,⟨o,_,_,ho,_⟩,_⟩:=I.loc
  exact free _ o (λz=>(hch _ z).2.1 rfl) ho I.free
 ·obtain⟨v,o,ho,hd⟩:=I.cell x c e
  exact free c o (λz=>(hch c z).2.2.1 x c e rfl) ho (I.jL x c e)
 ·obtain⟨e,n,ne,nf,d⟩:=I.pin p hp
  have Qq:p.1∉ch:=λz=>(hch p.1 z).2.2.2 p hp rfl
  exact⟨keep p.1 p.2 ne nf Qq e n,free p.1 p.2 Qq e n,ne,nf,d⟩
theorem Inv.un{t':Nat}(I:Inv X pins σ H s)(u:Un X.fs [] H H' s.heap h')(hok:jb X.prog X.w H' h'):Inv X pins σ H' { s with heap:=h',toks:=t' }:=by
 obtain⟨m,⟨o,es,ep,ho,r⟩,_⟩:=id I.loc
 obtain⟨sl,hL⟩:=u.any ho I.free (by simp)
 exact I.step (g':=s.gens) (d':=s.drawn) (ch:=[]) (λ_ z=>nomatch z) (λb o _ hb _ e n=>u.keep b o e n hb (by simp)) (λb o _ hb _ e n=>u.slot b o e n hb (by simp)) (λb o _ e n=>u.free b o e n (by simp)) (λb o _ e=>u.there b o e (by simp)) u.tups u.mw u.oG (λm' hm=>by
  obtain⟨o',es',Hz,ho',r'⟩:=hm
  rw[ho] at ho';cases ho'
  exact⟨_,es',Hz,hL,r'⟩) hok I.bare
theorem Inv.call{g':Array GenState}{t':Nat}{d':Drawn}{ch:List adi}(I:Inv X pins σ H s)(u:Un (frs X.stack) ch H H' s.heap h')(hok:jb X.prog X.w H' h')(hg:AllBare g')
  (hch:∀b∈ch,(b∈X.ex\/X.s₀.heap.objs.size<=b)/\b≠X.env.locals/\(∀x c,X.env.cells.lookup x=some c->c≠b)/\∀p∈X.pn++pins,p.1≠b) :
  Inv X pins σ H' { s with heap:=h',gens:=g',drawn:=d',toks:=t' }:=by
 obtain⟨m,⟨o,es,ep,ho,r⟩,_⟩:=id I.loc
 obtain⟨sl,hL⟩:=u.any ho I.free λz=>(hch _ z).2.1 rfl
 exact I.step (ch:=ch) hch (λb o hL hb hc e n=>u.keep b o e n (λz=>(List.mem_cons.mp (I.lN b z)).elim hL hb) hc) (λb o _ _ hc e n=>u.any e n hc) (λb o hc e n=>u.free b o e n hc) (λb o hc e=>u.there b o e hc) u.tups u.mw u.oG (λm' hm=>by
  obtain⟨o',es',Hz,ho',r'⟩:=hm
  rw[ho] at ho';cases ho'
  exact⟨_,es',Hz,hL,r'⟩) hok hg
theorem Inv.turned{t':Nat}{it:adi}(I:Inv X pins σ H s)(k:∀b o,b≠it->s.heap.get? b=some o->h'.get? b=some o)(hn:H it=none)(hL:it≠X.env.locals)
  (h1:it∈X.ex\/X.s₀.heap.objs.size<=it)(h2:∀x c,X.env.cells.lookup x=some c->c≠it)(h3:∀p∈X.pn++pins,p.1≠it):Inv X pins σ H { s with heap:=h',toks:=t' }:=by
 have X0:∀b u,H b=some u->b≠it:=λb u e z=>by rw[z,hn] at e;cases e
 refine I.step (g':=s.gens) (d':=s.drawn) (ch:=[it]) (λb hb=>?_) (λb o _ _ hc e _=>k b o (λz=>hc (by simp[z])) e) (λb o _ _ hc e _=>⟨o.slots,k b o (λz=>hc (by simp[z])) e⟩) (λ_ _ _ _ n=>n)
  (λb o hc e=>⟨o,k b o (λz=>hc (by simp[z])) e⟩) (λ_ _ e=>e) (λ_ _ _ e=>e) (λb ps e=>⟨#[],by rw[e];simp⟩) (λm hm=>?_) (λb u e=>?_) I.bare
 ·have e:b=it:=by simpa using hb
  subst e
  exact⟨h1,hL,h2,h3⟩
 ·obtain⟨o,es,ep,ho,r⟩:=hm
  exact⟨o,es,ep,k _ o (ay hL) ho,r⟩
 ·refine(I.hok b u e).stay (λc v hc q=>k c v ?_ q) (λ_ q=>q) λ_ _ q=>q
  rcases hc with z | z
  ·rw[z];exact X0 b u e
  ·exact X0 c _ z
theorem Inv.tok(I:Inv X pins σ H s)(t:Nat):Inv X pins σ H { s with toks:=t }:=I.un (h':=s.heap) (t':=t) Un.refl I.hok
theorem Inv.kept{t':Nat}(I:Inv X pins σ H s)(k:∀b u,s.heap.get? b=some u->h'.get? b=some u):Inv X pins σ H { s with heap:=h',toks:=t' }:=I.un (Un.kept k) (I.hok.kept k)
theorem Inv.laid{a:adi}{o:HO}{t':Nat}(I:Inv X pins σ H s)(k:∀b u,s.heap.get? b=some u->h'.get? b=some u)(hp:s.heap.objs.size<=a)(new:cO X.prog X.w (upd H a o) h' a o) :
  Inv X pins σ (upd H a o) { s with heap:=h',toks:=t' }:=I.un (Un.laid k hp (I.hok.fresh hp)) (I.hok.laid k hp new)
theorem Inv.write{x e:adi}{o:HO}{t':Nat}(I:Inv X pins σ H s)(mu:Ql (H x))(he:e=x\/H e=some (.own x))(k:∀b u,b≠e->s.heap.get? b=some u->h'.get? b=some u)(PU:∃u,h'.get? e=some u)
  (new:cO X.prog X.w (upd H x o) h' x o):Inv X pins σ (upd H x o) { s with heap:=h',toks:=t' }:=I.un (Un.write mu he k PU) (I.hok.write mu he k PU new)
theorem Inv.zu{rZ:List (adi×Obj)}(I:Inv X pins σ H s)(h:∀p∈rZ,s.heap.get? p.1=some p.2/\H p.1=none/\p.1≠X.env.locals/\p.1∉X.fs/\∀v,p.2.data≠.cell v):Inv X rZ σ H s :=
 ⟨I.ok,I.os,I.bare,I.base,I.loc,I.cell,I.free,I.jL,λp hp=>(List.mem_append.mp hp).elim (λz=>I.pin p (zv _ z)) (h p),I.hok,I.len⟩
theorem vi{N:List Str}(hN:N.Nodup){i j:Nat}{x:Str}(a:N[i]? =some x)(b:N[j]? =some x):i=j:=by
 obtain⟨h1,e1⟩:=List.getElem?_eq_some_iff.mp a
 obtain⟨h2,e2⟩:=List.getElem?_eq_some_iff.mp b
 exact(List.getElem_inj hN).mp (e1.trans e2.symm)
theorem nj{M:Model}{A:adj}{E:ado->adn->Prop}{i:Nat}{x:Str}{v:V}{u:ado}{Q:Unit->adn->Prop}(I:Inv X pins σ H s)(hN:X.N.Nodup)(hi:X.N[i]? =some x)(hx:Loc X.env.scope x)(r:RelV v u)
  (h:∀s',Inv X pins (σ.set i (some v)) H s'->(∃a,gN a s.heap s'.heap/\(a=X.env.locals\/X.env.cells.lookup x=some a))->Q () s')(hf:X.fn x=true\/X.env.scope.names.lookup x=some .local:=by first | exact .inl rfl | exact .inr rfl | assumption):adC M A (storeName X.env x u) Q E s:=by
 obtain⟨m,hn,hl⟩:=id I.loc
 have hcls:(X.env.scope.kind == .class||(X.env.scope.kind == .module&&X.env.locals != X.env.globals))=false:=by rw[I.ok.kind];rfl
 have Qr:i < σ.length:=by rw[I.len];exact(List.getElem?_eq_some_iff.mp hi).1
 have K7:=I.K7
 have tracked:∀{a:adi}{h':Heap},(∃o,s.heap.get? a=some o/\H a=none)->gN a s.heap h'->jb X.prog X.w H h':=λ{a h'} ha hs b ob e=>by
  obtain⟨_,_,hfree⟩:=ha
  refine(I.hok b ob e).stay (λc w' hc q=>(hs.2 c ?_).trans q) (λ_ q=>q) λ_ _ q=>q
  rintro rfl
  rcases hc with rfl | hc
  ·rw[hfree] at e;cases e
  ·rw[hfree] at hc;cases hc
 rcases hx with hk | hk
 ·refine wpAny_storeName_local hk hn (λh' hn' hs=>?_) hcls
  obtain⟨oL,_,_,ZS,_⟩:=id hn
  refine h _ ⟨I.ok,I.os,I.bare,⟨λb o e n hb hx=>?_,λb o e n hb hx=>?_,I.base.free,λb o e hx=>?_,I.base.tups,I.base.mw,I.base.oG⟩,⟨_,hn',λj y v' e1 e2 e3=>?_⟩,λy c e=>?_,I.free,I.jL,λp hp=>?_,tracked ⟨oL,ZS,I.free⟩ hs,by simpa using I.len⟩ ⟨_,hs,.inl rfl⟩
  ·exact(hs.2 b (aX (bc (aF e) I.ok.above))).trans (I.base.keep b o e n hb hx)
  ·obtain⟨sl,e1⟩:=I.base.slot b o e n hb hx
   exact⟨sl,(hs.2 b (aX (bc (aF e) I.ok.above))).trans e1⟩
  ·obtain⟨o',e1⟩:=I.base.there b o e hx
   exact⟨o',(hs.2 b (aX (bc (aF e) I.ok.above))).trans e1⟩
  ·by_cases hj:j=i
   ·subst hj
    rw[hi] at e1;cases e1
    rw[nk Qr] at e2
    cases e2
    exact⟨u,r,.inl ⟨hk,by simp⟩⟩
   ·rw[a9 (ay hj)] at e2
    obtain⟨u',r',q⟩:=hl j y v' e1 e2 e3
    refine⟨u',r',?_⟩
    rcases q with ⟨k,e⟩ | ⟨k,c,e,z⟩
    ·refine .inl ⟨k,?_⟩
     have:y≠x:=λe=>hj (vi hN e1 (e ▸ hi))
     simp[this,e]
    ·exact .inr ⟨k,c,e,z.sameBut hs (K7 y c e)⟩
  ·obtain⟨w',z⟩:=I.cell y c e
   exact⟨w',z.sameBut hs (K7 y c e)⟩
  ·obtain⟨e,n,ne,nf,d⟩:=I.pin p hp
   exact⟨(hs.2 p.1 ne).trans e,n,ne,nf,d⟩
 ·have hfn:X.fn x=true:=by
   rcases hf with z | z
   ·exact z
   ·rw[z] at hk;cases hk
  obtain⟨c,hc⟩:=I.ok.has x (.inl hk)
  obtain⟨w',z⟩:=I.cell x c hc
  refine wpAny_storeName_cell I.ok.kind hk hc z (λh' hc' hs=>?_)
  obtain⟨oc,hoc,Ml⟩:=id z
  refine h { s with heap:=h' } ⟨I.ok,I.os,I.bare,⟨λb o e n hb hx=>?_,λb o e n hb hx=>?_,I.base.free,λb o e hx=>?_,I.base.tups,I.base.mw,I.base.oG⟩,⟨m,hn.sameBut hs (ay (K7 x c hc)),λj y v' e1 e2 e3=>?_⟩,λy c' e=>?_,I.free,I.jL,λp hp=>?_,tracked ⟨oc,hoc,I.jL x c hc⟩ hs,by simpa using I.len⟩ ⟨c,hs,.inr hc⟩
  ·exact(hs.2 b (aX (bc (aF e) (I.ok.Qn x c hfn hc)))).trans (I.base.keep b o e n hb hx)
  ·obtain⟨sl,e1⟩:=I.base.slot b o e n hb hx
   exact⟨sl,(hs.2 b (aX (bc (aF e) (I.ok.Qn x c hfn hc)))).trans e1⟩
  ·obtain⟨o',e1⟩:=I.base.there b o e hx
   exact⟨o',(hs.2 b (aX (bc (aF e) (I.ok.Qn x c hfn hc)))).trans e1⟩
  ·by_cases hj:j=i
   ·subst hj
    rw[hi] at e1;cases e1
    rw[nk Qr] at e2
    cases e2
    exact⟨u,r,.inr ⟨.inl hk,c,hc,hc'⟩⟩
   ·rw[a9 (ay hj)] at e2
    obtain⟨u',r',q⟩:=hl j y v' e1 e2 e3
    refine⟨u',r',?_⟩
    rcases q with q | ⟨k,c',e,z'⟩
    ·exact .inl q
    ·refine .inr ⟨k,c',e,z'.sameBut hs ?_⟩
     rintro rfl
     exact hj (vi hN e1 (I.ok.inj _ _ _ e hc ▸ hi))
  ·by_cases hcc:c'=c
   ·subst hcc;exact⟨_,hc'⟩
   ·obtain⟨w2,z2⟩:=I.cell y c' e
    exact⟨w2,z2.sameBut hs hcc⟩
  ·obtain⟨e,n,ne,nf,d⟩:=I.pin p hp
   refine⟨(hs.2 p.1 ?_).trans e,n,ne,nf,d⟩
   intro q
   rw[q,hoc] at e
   have q':oc=p.2:=Option.some.inj e
   exact d w' (by rw[<-q'];exact Ml)
theorem pJ{M:Model}{A:adj}{E:ado->adn->Prop}{i:Nat}{x:Str}{v:V}{u:ado}{Q:Unit->adn->Prop}(I:Inv X pins σ H s)(hN:X.N.Nodup)(hi:X.N[i]? =some x)(hx:Loc X.env.scope x)(r:RelV v u)
  (h:∀s',Inv X pins (σ.set i (some v)) H s'->Q () s')(hf:X.fn x=true\/X.env.scope.names.lookup x=some .local:=by first | exact .inl rfl | exact .inr rfl | assumption):adC M A (storeName X.env x u) Q E s :=
 nj I hN hi hx r (λs' I' _=>h s' I') hf
theorem Inv.zw{s':adn}{ch:List adi}(I:Inv X pins σ H s)(ho:s'.os=s.os)(u:Un (frs X.stack) ch H H' s.heap s'.heap)(hok:jb X.prog X.w H' s'.heap)(hg:AllBare s'.gens)
  (hch:∀b∈ch,(b∈X.ex\/X.s₀.heap.objs.size<=b)/\b≠X.env.locals/\(∀x c,X.env.cells.lookup x=some c->c≠b)/\∀p∈X.pn++pins,p.1≠b):Inv X pins σ H' s':=by
 obtain⟨h',g',d',t',o'⟩:=s'
 have e:o'=s.os:=ho
 subst e
 exact I.call (g':=g') (t':=t') (d':=d') u hok hg hch
end
abbrev XK:=ado->Option adi->Hp->Prop
abbrev St:=List (Option V)
abbrev VK:=V->Hp->Prop
abbrev TE:=St->Hp->VK->Prop
abbrev TT:=St->Hp->(Bool->Hp->Prop)->Prop
abbrev TA:=St->Hp->(List V->Hp->Prop)->Prop
structure Ends where
 nx:St->Hp->Prop
 rt:VK
 bk:St->Hp->Prop:=λ_ _=>False
 ct:St->Hp->Prop:=λ_ _=>False
abbrev TS:=Ends->St->Hp->Prop
def EP(X:Cx)(pins:List (adi×Obj))(σ:St)(Q:VK)(u:ado)(s':adn):Prop:=∃v H',Inv X pins σ H' s'/\RelV v u/\Q v H'
def TP(X:Cx)(pins:List (adi×Obj))(σ:St)(Q:Bool->Hp->Prop)(b:Bool)(s':adn):Prop:=∃H',Inv X pins σ H' s'/\Q b H'
def AP(X:Cx)(pins:List (adi×Obj))(σ:St)(Q:List V->Hp->Prop)(us:List ado)(s':adn):Prop:=∃vs H',Inv X pins σ H' s'/\Vals vs us/\Q vs H'
def SP(X:Cx)(pins:List (adi×Obj))(D:Ends)(f:Flow)(s':adn):Prop :=
 match f with
 | .next=>∃σ' H',Inv X pins σ' H' s'/\D.nx σ' H'
 | .brk=>∃σ' H',Inv X pins σ' H' s'/\D.bk σ' H'
 | .cont=>∃σ' H',Inv X pins σ' H' s'/\D.ct σ' H'
 | .ret u=>∃v σ' H',Inv X pins σ' H' s'/\RelV v u/\D.rt v H'
def PE(X:Cx)(e:Expr)(t:TE):Prop :=
 ∀(pins:List (adi×Obj))(s:adn)(σ:St)(H:Hp)(Q:VK),Inv X pins σ H s->t σ H Q->adC (model X.prog X.w) X.A (eval e X.env) (EP X pins σ Q) X.xe s
def PT(X:Cx)(e:Expr)(t:TT):Prop :=
 ∀(pins:List (adi×Obj))(s:adn)(σ:St)(H:Hp)(Q:Bool->Hp->Prop),Inv X pins σ H s->t σ H Q->adC (model X.prog X.w) X.A (isTrue e X.env (eval e X.env)) (TP X pins σ Q) X.xe s
def PW(X:Cx)(e:Expr)(t:TT):Prop :=
 ∀(whole:Sem ado)(pins:List (adi×Obj))(s:adn)(σ:St)(H:Hp)(Q:Bool->Hp->Prop),Inv X pins σ H s->t σ H Q->adC (model X.prog X.w) X.A (isTrue e X.env whole) (TP X pins σ Q) X.xe s
def PA(X:Cx)(es:List Expr)(t:TA):Prop :=
 ∀(pos:Pos)(pins:List (adi×Obj))(s:adn)(σ:St)(H:Hp)(Q:List V->Hp->Prop),Inv X pins σ H s->t σ H Q->adC (model X.prog X.w) X.A (spliced (backTo pos (adB es X.env))) (AP X pins σ Q) X.xe s
def PS(X:Cx)(st:Stmt)(t:TS):Prop :=
 ∀(pins:List (adi×Obj))(s:adn)(σ:St)(H:Hp)(D:Ends),Inv X pins σ H s->t D σ H->adC (model X.prog X.w) X.A (exec st X.env) (SP X pins D) X.xe s
def Dj(X:Cx)(st:List Stmt)(t:TS):Prop :=
 ∀(pins:List (adi×Obj))(s:adn)(σ:St)(H:Hp)(D:Ends),Inv X pins σ H s->t D σ H->adC (model X.prog X.w) X.A (execs st X.env) (SP X pins D) X.xe s
theorem bA{α:Type}{t:Sem α}{Q Q':α->adn->Prop}{M:Model}{A:adj}{E:ado->adn->Prop}{s:adn}(h:adC M A t Q E s)(hQ:∀a s,Q a s->Q' a s):adC M A t Q' E s:=adG h hQ λ_ _ x=>x
section
variable {X:Cx}
def UR(i:Nat):TE:=λσ H Q=>∃v,σ[i]? =some (some v)/\Q v H
def tC(v:V):TE:=λ_ H Q=>Q v H
theorem Dl{i:Nat}{x:Str}{pos:Pos}(hN:X.N[i]? =some x)(hv:PX X.env.scope x)(hd:(x == ("__debug__":Str))=false:=by decide)(hcd:(x == ("__classdict__":Str))=false:=by decide):PE X (.Name x pos) (UR i):=by
 intro pins s σ H Q I h
 obtain⟨v,e,h⟩:=h
 obtain⟨m,hn,hl⟩:=I.loc
 obtain⟨u,r,l⟩:=hl i x v hN e hv
 have fin:EP X pins σ Q u s:=⟨v,H,I,r,h⟩
 rcases l with ⟨hk,hm⟩ | ⟨hk,c,hc,hcell⟩
 ·exact wpAny_Name (wpAny_loadName_local I.ok.kind hk hn hm fin) hd
 ·rcases hk with hk | hk
  ·exact wpAny_Name (wpAny_loadName_cell I.ok.kind hk hc hcell fin) hd
  ·exact wpAny_Name (wpAny_loadName_free I.ok.kind hk hc hcell fin hcd) hd
theorem Mm{i j pos}:PE X (.Constant (.int i) j pos) (tC (.int i)):=λ_ _ _ H _ I h=>wpAny_Constant_int ⟨.int i,H,I.tok _,⟨_,rfl⟩,h⟩
theorem Qs{b j pos}:PE X (.Constant (.bool b) j pos) (tC (.bl b)):=λ_ _ _ H _ I h=>Constant_bool ⟨.bl b,H,I,rfl,h⟩
theorem Mn{j pos}:PE X (.Constant .none j pos) (tC .non):=λ_ _ _ H _ I h=>Constant_none ⟨.non,H,I,rfl,h⟩
theorem Mo{x j pos}:PE X (.Constant (.str x) j pos) (tC (.str x)):=λ_ _ _ H _ I h=>Calls.Constant_str ⟨.str x,H,I.tok _,⟨_,rfl⟩,h⟩
def Gl(X:Cx)(x:Str):Prop:=X.env.kindOf x=some .globalImplicit
theorem tJ{E:ado->adn->Prop}{pins:List (adi×Obj)}{s:adn}{σ:St}{H:Hp}{x:Str}{u:ado}{pos:Pos}{Q:ado->adn->Prop}(I:Inv X pins σ H s)(hg:Gl X x)(hm:X.mg x=some u)(h:Q u s)
  (hd:(x == ("__debug__":Str))=false:=by decide):adC (model X.prog X.w) X.A (eval (.Name x pos) X.env) Q E s :=
 Mq I.ok.kind hg (Calls.loadGlobal_global (by rw[I.ok.glob];exact I.mod.glob.keeps I.bk) hm h) hd
theorem nr{E:ado->adn->Prop}{pins:List (adi×Obj)}{s:adn}{σ:St}{H:Hp}{x:Str}{u:ado}{pos:Pos}{Q:ado->adn->Prop}(I:Inv X pins σ H s)(hg:Gl X x)(hm:X.mg x=none)(hv:adt x=some u)(h:Q u s)
  (hn:x≠"__name__":=by decide)(hd:(x == ("__debug__":Str))=false:=by decide):adC (model X.prog X.w) X.A (eval (.Name x pos) X.env) Q E s:=by
 obtain⟨mb,h1,h2⟩:=I.mod.blt
 exact Mq I.ok.kind hg (Calls.loadGlobal_builtin (by rw[I.ok.glob];exact I.mod.glob.keeps I.bk) hm (by rw[I.ok.blt];exact h1.keeps I.bk) ((h2 x hn).trans hv) h) hd
theorem kL{x:Str}{v:V}{u:ado}{pos:Pos}(hg:Gl X x)(hm:X.mg x=some u)(r:RelV v u)(hd:(x == ("__debug__":Str))=false:=by decide):PE X (.Name x pos) (tC v) :=
 λ_ _ _ H _ I h=>tJ I hg hm ⟨v,H,I,r,h⟩ hd
theorem HZ{x:Str}{v:V}{u:ado}{pos:Pos}(hg:Gl X x)(hm:X.mg x=none)(hv:adt x=some u)(r:RelV v u)(hn:x≠"__name__":=by decide)(hd:(x == ("__debug__":Str))=false:=by decide):PE X (.Name x pos) (tC v) :=
 λ_ _ _ H _ I h=>nr I hg hm hv ⟨v,H,I,r,h⟩ hn hd
variable {a b:Expr} {ta tb:TE} {pos:Pos}
variable {tA TX:TT} {rest:List Expr}
def US(t u:TT):TT:=λσ H Q=>t σ H λc H1=>if c=true then u σ H1 Q else Q false H1
def ZT(t u:TT):TT:=λσ H Q=>t σ H λc H1=>if c=true then Q true H1 else u σ H1 Q
def UT(t:TT):TT:=λσ H Q=>t σ H λc H1=>Q (!c) H1
theorem H_(ha:PT X a tA):PW X (.BoolOp .And [a] pos) tA:=by
 intro wh pins s σ H Q I h
 refine isTrue_and (bA (ha pins s σ H Q I h) λc s1 e=>?_)
 cases c with
 | true=>exact isTrue_and_nil e
 | false=>exact e
theorem Mr(ha:PT X a tA):PW X (.BoolOp .Or [a] pos) tA:=by
 intro wh pins s σ H Q I h
 refine isTrue_or (bA (ha pins s σ H Q I h) λc s1 e=>?_)
 cases c with
 | false=>exact isTrue_or_nil e
 | true=>exact e
theorem Ms(ha:PT X a tA)(hb:PW X (.BoolOp .And (b::rest) pos) TX):PW X (.BoolOp .And (a::b::rest) pos) (US tA TX):=by
 intro wh pins s σ H Q I h
 refine isTrue_and (bA (ha pins s σ H _ I h) λc s1 ⟨H1,I1,q1⟩=>?_)
 cases c with
 | true=>exact hb wh pins s1 σ H1 Q I1 q1
 | false=>exact⟨H1,I1,q1⟩
theorem Qt(ha:PT X a tA)(hb:PW X (.BoolOp .Or (b::rest) pos) TX):PW X (.BoolOp .Or (a::b::rest) pos) (ZT tA TX):=by
 intro wh pins s σ H Q I h
 refine isTrue_or (bA (ha pins s σ H _ I h) λc s1 ⟨H1,I1,q1⟩=>?_)
 cases c with
 | true=>exact⟨H1,I1,q1⟩
 | false=>exact hb wh pins s1 σ H1 Q I1 q1
theorem Mt(ha:PT X a tA):PT X (.UnaryOp .Not a pos) (UT tA):=by
 intro pins s σ H Q I h
 exact isTrue_not (ha pins s σ H (λc H1=>Q (!c) H1) I h)
def Qu(ta tb:TE):TE:=λσ H Q=>ta σ H λx H1=>∃c,x= .bl c/\if c=true then tb σ H1 Q else Q (.bl false) H1
theorem Mu{op}{t:TE}(h:PE X a t):PE X (.BoolOp op [a] pos) t:=λpins s σ H Q I hw=>BoolOp_one (h pins s σ H Q I hw)
theorem Mv(ha:PE X a ta)(hb:PE X (.BoolOp .And (b::rest) pos) tb):PE X (.BoolOp .And (a::b::rest) pos) (Qu ta tb):=by
 intro pins s σ H Q I h
 refine BoolOp_and (bA (ha pins s σ H _ I h) λv s1 ⟨x,H1,I1,r1,q1⟩=>?_)
 obtain⟨c,rfl,q1⟩:=q1
 cases r1
 refine adK ?_
 cases c with
 | true=>exact hb pins s1 σ H1 Q I1 q1
 | false=>exact⟨.bl false,H1,I1,rfl,q1⟩
def ZU(t:TT)(ta tb:TE):TE:=λσ H Q=>t σ H λc H1=>if c=true then ta σ H1 Q else tb σ H1 Q
theorem Dm{c:Expr}(hc:PT X c tA)(ha:PE X a ta)(hb:PE X b tb):PE X (.IfExp c a b pos) (ZU tA ta tb):=by
 intro pins s σ H Q I h
 refine wpAny_IfExp (bA (hc pins s σ H _ I h) λd s1 ⟨H1,I1,q1⟩=>?_)
 cases d with
 | true=>exact ha pins s1 σ H1 Q I1 q1
 | false=>exact hb pins s1 σ H1 Q I1 q1
end
def lO(K:PySem.W.Frag)(H:Hp)(a:adi)(xs:List V):Prop :=
 Rd H a (.lst xs)\/
  ∃(o:Obj)(its:Array ado)(n:Nat),K.lookup a=some o/\o.cls= .type "list"/\o.dict=none/\o.data= .seq its n/\its.size<=adA/\Vals xs its.toList
def fb(K:PySem.W.Frag)(H:Hp)(a:adi)(xs:List V):Prop :=
 Rd H a (.tup xs)\/
  ∃(o:Obj)(its:Array ado)(n:Nat),K.lookup a=some o/\o.cls= .type "tuple"/\o.data= .seq its n/\its.size<=adA/\Vals xs its.toList
def UU:ado->Option V
 | .none=>some .non
 | .bool b=>some (.bl b)
 | .int i _=>some (.int i)
 | .str x _=>some (.str x)
 | .bytes b _=>some (.PR b)
 | .float b _=>some (.TQ b)
 | .ref a=>some (.ref a)
 | .type n=>some (.ty n)
 | _=>none
theorem RelV.abs{x:V}{u:ado}(r:RelV x u):UU u=some x:=by
 cases x with
 | non=>cases r;rfl
 | bl _=>cases r;rfl
 | int _=>obtain⟨t,rfl⟩:=r;rfl
 | str _=>obtain⟨t,rfl⟩:=r;rfl
 | PR _=>obtain⟨t,rfl⟩:=r;rfl
 | TQ _=>obtain⟨t,rfl⟩:=r;rfl
 | ref _=>cases r;rfl
 | ty _=>cases r;rfl
theorem RelV.inj{x y:V}{u:ado}(r:RelV x u)(q:RelV y u):x=y:=Option.some.inj (r.abs.symm.trans q.abs)
theorem Vals.inj:∀{xs ys:List V}{us:List ado},Vals xs us->Vals ys us->xs=ys
 | _,_,_,.nil,.nil=>rfl
 | _,_,_,.cons r t,.cons r' t'=>by rw[r.inj r',Vals.inj t t']
section
variable {X:Cx} {pins:List (adi×Obj)} {σ:St} {H:Hp} {s:adn} {a:adi} {xs ys:List V}
theorem lO.of{K:PySem.W.Frag}(h:H a=some (.lst xs)):lO K H a xs:=.inl (.inl h)
theorem fb.of{K:PySem.W.Frag}(h:H a=some (.tup xs)):fb K H a xs:=.inl (.inl h)
theorem Inv.list(I:Inv X pins σ H s)(h:lO X.K H a xs):∃its:List ado,Vals xs its/\PlainL s.heap a its.toArray/\xs.length<=adA:=by
 rcases h with h | ⟨o,its,n,hk,hc,hd,hs,hz,r⟩
 ·obtain⟨z,its,n,r,e⟩:=h.ok I.hok
  exact⟨its,r,⟨_,n,e,rfl,rfl,rfl⟩,z⟩
 ·refine⟨its.toList,r,⟨o,n,I.C4 a o hk,hc,hd,by simpa using hs⟩,?_⟩
  have e:=r.length
  simp only[Dp] at e
  omega
theorem Inv.tuple(I:Inv X pins σ H s)(h:fb X.K H a xs):∃its:List ado,Vals xs its/\IsTup s.heap a its.toArray/\xs.length<=adA:=by
 rcases h with h | ⟨o,its,n,hk,hc,hs,hz,r⟩
 ·obtain⟨z,its,r,p,_⟩:=h.ok I.hok
  exact⟨its,r,p,z⟩
 ·refine⟨its.toList,r,⟨o,I.C4 a o hk,hc,n,by simpa using hs⟩,?_⟩
  have e:=r.length
  simp only[Dp] at e
  omega
theorem Inv.Dq(I:Inv X pins σ H s)(h:lO X.K H a xs)(h':lO X.K H a ys):xs=ys:=by
 obtain⟨its,r,⟨o,n,e,_,_,d⟩,_⟩:=I.list h
 obtain⟨its',r',⟨o',n',e',_,_,d'⟩,_⟩:=I.list h'
 rw[e] at e';cases e'
 rw[d] at d'
 injection d' with d1 _
 have:its=its':=by simpa using congrArg Array.toList d1
 subst this
 exact r.inj r'
theorem Inv.Bu(I:Inv X pins σ H s)(h:fb X.K H a xs)(h':fb X.K H a ys):xs=ys:=by
 obtain⟨its,r,⟨o,e,_,n,d⟩,_⟩:=I.tuple h
 obtain⟨its',r',⟨o',e',_,n',d'⟩,_⟩:=I.tuple h'
 rw[e] at e';cases e'
 rw[d] at d'
 injection d' with d1 _
 have:its=its':=by simpa using congrArg Array.toList d1
 subst this
 exact r.inj r'
end
section
variable {X:Cx} {pins:List (adi×Obj)} {σ:St} {H:Hp} {s:adn} {E:ado->adn->Prop}
end
section
variable {X:Cx} {st:Stmt} {rest:List Stmt} {t u:TS} {e:Expr} {te:TE} {pos:Pos}
def Qv:TS:=λD σ H=>D.nx σ H
def UW(t u:TS):TS:=λD σ H=>t { D with nx:=u D } σ H
theorem Ia:Dj X [] Qv:=λ_ _ σ H _ I h=>wpAny_execs_nil ⟨σ,H,I,h⟩
theorem Dr(h1:PS X st t)(h2:Dj X rest u):Dj X (st::rest) (UW t u):=by
 intro pins s σ H D I h
 refine wpAny_execs_cons (bA (h1 pins s σ H { D with nx:=u D } I h) λf s1 q=>?_)
 cases f with
 | next=>
  obtain⟨σ',H',I',q⟩:=q
  exact h2 pins s1 σ' H' D I' q
 | ret v=>exact q
 | brk=>exact q
 | cont=>exact q
theorem Ib(h1:PS X st t):Dj X [st] t:=by
 intro pins s σ H D I h
 refine wpAny_execs_cons (bA (h1 pins s σ H D I h) λf s1 q=>?_)
 cases f with
 | next=>exact wpAny_execs_nil q
 | ret v=>exact q
 | brk=>exact q
 | cont=>exact q
theorem Inv.quiet{pins:List (adi×Obj)}{σ:St}{H:Hp}{s:adn}(I:Inv X pins σ H s):interactive X.env=false:=by simp[interactive,I.ok.kind]
def Qw(te:TE):TS:=λD σ H=>te σ H λ_ H1=>D.nx σ H1
theorem Ie(he:PE X e te)(hs:swapsWith e none pos.line X.env=pure false:=by rfl):PS X (.Expr e pos) (Qw te):=by
 intro pins s σ H D I h
 exact wpAny_Expr_any (bA (he pins s σ H _ I h) λv s1 ⟨x,H1,I1,r1,q1⟩=>⟨σ,H1,I1,q1⟩) I.quiet hs
def UX(te:TE):TS:=λD σ H=>te σ H D.rt
theorem Mw(he:PE X e te):PS X (.Return (some e) pos) (UX te):=by
 intro pins s σ H D I h
 exact wpAny_Return_some (bA (he pins s σ H _ I h) λv s1 ⟨x,H1,I1,r1,q1⟩=>⟨x,σ,H1,I1,r1,q1⟩)
def Qx:TS:=λD _ H=>D.rt .non H
theorem Ig:PS X (.Return none pos) Qx:=λ_ _ σ H _ I h=>wpAny_Return_none ⟨.non,σ,H,I,rfl,h⟩
def UY(c:TT)(t u:TS):TS:=λD σ H=>c σ H λb H1=>if b=true then t D σ H1 else u D σ H1
theorem Qy{c:Expr}{a b:List Stmt}{tc:TT}(hc:PT X c tc)(ha:Dj X a t)(hb:Dj X b u):PS X (.If c a b pos) (UY tc t u):=by
 intro pins s σ H D I h
 refine wpAny_If (bA (hc pins s σ H _ I h) λd s1 ⟨H1,I1,q1⟩=>?_)
 cases d with
 | true=>exact ha pins s1 σ H1 D I1 q1
 | false=>exact hb pins s1 σ H1 D I1 q1
def Ds:TS:=λ_ _ _=>False
theorem Dt:PS X st Ds:=λ_ _ _ _ _ _ h=>h.elim
theorem Bv{sts:List Stmt}:Dj X sts Ds:=λ_ _ _ _ _ _ h=>h.elim
end
abbrev TG:=V->St->Hp->(St->Hp->Prop)->Prop
abbrev K8:=List V->St->Hp->(St->Hp->Prop)->Prop
def PG(X:Cx)(target:Expr)(t:TG):Prop :=
 ∀(pins:List (adi×Obj))(s:adn)(σ:St)(H:Hp)(v:V)(u:ado)(Q:St->Hp->Prop),Inv X pins σ H s->RelV v u->t v σ H Q->
  adC (model X.prog X.w) X.A (assign target X.env u) (λ_ s'=>∃σ' H',Inv X pins σ' H' s'/\Q σ' H') X.xe s
def Qz(X:Cx)(ts:List Expr)(t:K8):Prop :=
 ∀(pins:List (adi×Obj))(s:adn)(σ:St)(H:Hp)(vs:List V)(us:List ado)(Q:St->Hp->Prop),Inv X pins σ H s->Vals vs us->t vs σ H Q->
  adC (model X.prog X.w) X.A (assignInOrder ((assignEach ts X.env).map (·.2)) us) (λ_ s'=>∃σ' H',Inv X pins σ' H' s'/\Q σ' H') X.xe s
abbrev Mx:=V->V->V->Hp->(Hp->Prop)->Prop
def QA(X:Cx)(t:Mx):Prop :=
 ∀(pins:List (adi×Obj))(s:adn)(σ:St)(H:Hp)(o i v:V)(ov iv u:ado)(Q:Hp->Prop),Inv X pins σ H s->RelV o ov->RelV i iv->RelV v u->t o i v H Q->
  adC (model X.prog X.w) X.A (setItem ov iv u) (λ_ s'=>∃H',Inv X pins σ H' s'/\Q H') X.xe s
section
variable {X:Cx} {pos:Pos}
def vj(i:Nat):TG:=λv σ H Q=>Q (σ.set i (some v)) H
theorem oZ{i:Nat}{x:Str}(hN:X.N.Nodup)(hi:X.N[i]? =some x)(hx:Loc X.env.scope x)(hf:X.fn x=true\/X.env.scope.names.lookup x=some .local:=by first | exact .inl rfl | exact .inr rfl | assumption):PG X (.Name x pos) (vj i):=by
 intro pins s σ H v u Q I r h
 exact wpAny_assign_Name (pJ I hN hi hx r (λs' I'=>⟨_,H,I',h⟩) hf)
def ao:K8:=λvs σ H Q=>vs=[]/\Q σ H
def ae(t:TG)(u:K8):K8:=λvs σ H Q=>∃v r,vs=v::r/\t v σ H λσ' H'=>u r σ' H' Q
theorem Ih:Qz X [] ao:=by
 intro pins s σ H vs us Q I r h
 obtain⟨e,h⟩:=h
 subst e
 cases r
 exact assignInOrder_nil ⟨σ,H,I,h⟩
theorem Du{e:Expr}{es:List Expr}{t:TG}{u:K8}(h1:PG X e t)(h2:Qz X es u)
  (hs:(assignEach (e::es) X.env).map (·.2)=assign e X.env::(assignEach es X.env).map (·.2):=by rfl):Qz X (e::es) (ae t u):=by
 intro pins s σ H vs us Q I r h
 obtain⟨v,vr,e1,h⟩:=h
 subst e1
 cases r with
 | cons r rr=>
  rw[hs]
  refine assignInOrder_cons (bA (h1 pins s σ H _ _ _ I r h) λ_ s1 ⟨σ1,H1,I1,q1⟩=>?_)
  exact h2 pins s1 σ1 H1 _ _ Q I1 rr q1
def cH(K:PySem.W.Frag)(n:Nat)(t:K8):TG:=λv σ H Q=>∃a xs,v= .ref a/\fb K H a xs/\xs.length=n/\t xs σ H Q
theorem Mz{es:List Expr}{k:Nat}{t:K8}{n:Nat}(hc:X.calm=true)(h:Qz X es t)
  (hn:(assignEach es X.env).length=n:=by rfl)(hst:(assignEach es X.env).findIdx? (·.1)=none:=by rfl):PG X (.Tuple es k pos) (cH X.K n t):=by
 intro pins s σ H v u Q I r hw
 obtain⟨a,xs,e1,hq,hl,hw⟩:=hw
 subst e1
 cases r
 obtain⟨its,rv,ht,hz⟩:=I.tuple hq
 refine assign_Tuple_tuple (I.ok.hd hc) ht (by simp[hn,<-hl,rv.length]) hst λh' hx=>?_
 have I1:Inv X pins σ H { s with heap:=h' }:=I.kept (t':=s.toks) λb o e=>hx b o (aX (aF e)) e
 exact h pins _ σ H xs _ Q I1 (by simpa using rv) hw
def UZ(to ti:TE)(t:Mx):TG:=λv σ H Q=>to σ H λo H1=>ti σ H1 λi H2=>t o i v H2 λH3=>Q σ H3
theorem MA{o i:Expr}{to ti:TE}{t:Mx}(ho:PE X o to)(hi:PE X i ti)(hs:QA X t)
  (ha:∀v,assign (.Subscript o i pos) X.env v=(do
   let ov <-holding [v] (eval o X.env)
   let iv <-holding [v,ov] (eval i X.env)
   standAt pos
   holding [v,ov,iv] (setItem ov iv v)
   release [v,ov,iv] []):=by intro _;rfl):PG X (.Subscript o i pos) (UZ to ti t):=by
 intro pins s σ H v u Q I r h
 rw[ha]
 refine adD (adF (bA (ho pins s σ H _ I h) λov s1 ⟨x,H1,I1,r1,q1⟩=>?_))
 refine adD (adF (bA (hi pins s1 σ H1 _ I1 q1) λiv s2 ⟨y,H2,I2,r2,q2⟩=>?_))
 refine adD (wpAny_standAt (adD (adF (bA (hs pins s2 σ H2 x y v ov iv u _ I2 r1 r2 r q2) λ_ s3 ⟨H3,I3,q3⟩=>?_))))
 exact wpAny_release ⟨σ,H3,I3,q3⟩
def QB(te:TE)(g:TG):TS:=λD σ H=>te σ H λx H1=>g x σ H1 D.nx
theorem MB{tg e:Expr}{te:TE}{g:TG}(he:PE X e te)(hg:PG X tg g)(hs:swapsWithSole [tg] e pos.line X.env=pure false:=by rfl)(hw:swappedStores [tg] e X.env=pure none:=by rfl)
  (h1:(assignEach [tg] X.env).map (·.2)=[assign tg X.env]:=by rfl):PS X (.Assign [tg] e pos) (QB te g):=by
 intro pins s σ H D I h
 refine wpAny_Assign_stores (bA (he pins s σ H _ I h) λv s1 ⟨x,H1,I1,r1,q1⟩=>?_) hs hw
 rw[h1]
 exact bA (hg pins s1 σ H1 x v _ I1 r1 q1) λ_ s2 q=>q
theorem MC{i:Nat}{x:Str}{e:Expr}{te:TE}{pos':Pos}(hN:X.N.Nodup)(hi:X.N[i]? =some x)(hx:Loc X.env.scope x)(he:PE X e te)(hs:swapsWith e (some (.Name x pos')) pos.line X.env=pure false:=by rfl)(hf:X.fn x=true\/X.env.scope.names.lookup x=some .local:=by first | exact .inl rfl | exact .inr rfl | assumption) :
  PS X (.Assign [.Name x pos'] e pos) (QB te (vj i)):=by
 intro pins s σ H D I h
 refine wpAny_Assign_Name (bA (he pins s σ H _ I h) λv s1 ⟨y,H1,I1,r1,q1⟩=>?_) hs
 exact pJ I1 hN hi hx r1 (λs2 I2=>⟨_,H1,I2,q1⟩) hf
end
section
variable {X:Cx} {pos:Pos}
end
structure It where
 go:Nat->Hp->Prop
 ve:Nat->Hp->V->Hp->Prop
 stop:Nat->Hp->Prop
def eN(X:Cx)(pins:List (adi×Obj))(H:Hp)(b:adi):Prop :=
 H b=none/\b≠X.env.locals/\b∉X.fs/\(b∈X.ex\/X.s₀.heap.objs.size<=b)/\(∀x c,X.env.cells.lookup x=some c->c≠b)/\∀p∈X.pn++pins,p.1≠b
theorem Inv.vm{X:Cx}{pins:List (adi×Obj)}{σ:St}{H H':Hp}{s:adn}{b:adi}(I:Inv X pins σ H s)(hb:s.heap.objs.size<=b)(hn:H' b=none):eN X pins H' b:=by
 refine⟨hn,hV (bc I.lt hb),I.Qp hb,.inr (bf I.sz hb),λx c e z=>?_,λp hp z=>?_⟩
 ·obtain⟨v,q⟩:=I.cell x c e
  exact absurd (bc q.lt (by rw[z];exact hb)) (cb _)
 ·exact absurd (bc (aF (I.pin p hp).1) (by rw[z];exact hb)) (cb _)
structure Turn(P:adm)(w:adp)(K:PySem.W.Frag)(tg:Expr)(J:It)(fp:List adi)(it:adi)(tn:Nat->Heap->Prop):Prop where
 mem:it∈fp
 obj:∀i h,tn i h->∀b∈fp,∃o,h.get? b=some o/\∀v,o.data≠.cell v
 keep:∀i h h',tn i h->(∀b∈fp,∀o,h.get? b=some o->h'.get? b=some o)->tn i h'
 item:∀(X:Cx),X.prog=P->X.w=w->X.K=K->X.calm=true->∀(i:Nat)(pins:List (adi×Obj))(s:adn)(σ:St)(H:Hp)(E:ado->adn->Prop),Inv X pins σ H s->(∀b∈fp,eN X pins H b)->tn i s.heap->J.go i H->
  adC (model P w) X.A (pyNext (.ref it)) (λr s1=>∃u,r=some u/\
   adC (model P w) X.A (letOwnedTupleGo tg (.ref it) u) (λ_ s2=>∃x H',Inv X pins σ H' s2/\RelV x u/\J.ve i H x H'/\tn (i+1) s2.heap/\∀b∈fp,H' b=none) E s1) E s
 done:∀(X:Cx),X.prog=P->X.w=w->X.K=K->X.calm=true->∀(i:Nat)(pins:List (adi×Obj))(s:adn)(σ:St)(H:Hp)(E:ado->adn->Prop),Inv X pins σ H s->(∀b∈fp,eN X pins H b)->tn i s.heap->J.stop i H->
  adC (model P w) X.A (pyNext (.ref it)) (λr s1=>r=none/\Inv X pins σ H s1) E s
 self:∀(A:adj)(i:Nat)(s:adn)(Q:ado->adn->Prop)(E:ado->adn->Prop),tn i s.heap->Q (.ref it) s->adC (model P w) A (pyIter (.ref it)) Q E s
abbrev TI:=St->Hp->(It->Hp->Prop)->Prop
def U0(X:Cx)(pins:List (adi×Obj))(σ:St)(tg:Expr)(R:It->Hp->Prop)(itv:ado)(s2:adn):Prop :=
 ∃(it:adi)(fp:List adi)(tn:Nat->Heap->Prop)(J:It)(H':Hp),itv= .ref it/\Inv X pins σ H' s2/\Turn X.prog X.w X.K tg J fp it tn/\tn 0 s2.heap/\(∀b∈fp,eN X pins H' b)/\R J H'
def PI(X:Cx)(tg iter:Expr)(wi:TI):Prop :=
 ∀(pins:List (adi×Obj))(s:adn)(σ:St)(H:Hp)(R:It->Hp->Prop),Inv X pins σ H s->wi σ H R->
  adC (model X.prog X.w) X.A (eval iter X.env) (λv s1=>adC (model X.prog X.w) X.A (pyIter v) (U0 X pins σ tg R) X.xe s1) X.xe s
theorem pK{M:Model}{A:adj}{E:ado->adn->Prop}{s:adn}{tg:Expr}{it:adi}{u:ado}{o:Obj}{n:String}{vs:Array ado}{Q:Unit->adn->Prop}(ho:s.heap.get? it=some o)(hc:o.cls= .type n)(hd:o.data= .fields vs)
    (hn:["enumerate","zip","dict_itemiterator","dict_reverseitemiterator","odict_iterator","itertools.zip_longest","itertools.pairwise"].contains n=false)(hQ:Q () s):adC M A (letOwnedTupleGo tg (.ref it) u) Q E s:=by
  unfold letOwnedTupleGo
  cases tg<;>first
    | exact adJ hQ
    | (cases u<;>first
        | exact adJ hQ
        | (refine adD (wpAny_load ho ?_)
           rw[hc,hd]
           show adC M A (if(["enumerate","zip","dict_itemiterator","dict_reverseitemiterator","odict_iterator","itertools.zip_longest","itertools.pairwise"].contains n&&vs[0]? == some (rawInt _))=true then _ else _) Q E s
           rw[if_neg (by intro h;rw[hn,zx] at h;cases h)]
           exact adJ hQ))
def X1(K:PySem.W.Frag)(a:adi):It :=
 ⟨λi H=>∃xs x,lO K H a xs/\xs[i]? =some x,λi H x H'=>H'=H/\∀xs,lO K H a xs->xs[i]? =some x,λi H=>∃xs,lO K H a xs/\xs.length<=i⟩
def X2(K:PySem.W.Frag)(a:adi):It :=
 ⟨λi H=>∃xs x,fb K H a xs/\xs[i]? =some x,λi H x H'=>H'=H/\∀xs,fb K H a xs->xs[i]? =some x,λi H=>∃xs,fb K H a xs/\xs.length<=i⟩
def MD(lo:Int)(n:Nat):It:=⟨λi _=>i < n,λi H x H'=>H'=H/\x= .int (lo+i),λi _=>n<=i⟩
theorem Bw{P:adm}{w:adp}{K:PySem.W.Frag}{tg:Expr}(a it:adi):Turn P w K tg (X1 K a) [it] it (λi h=>h.IsListIter it a i) where
 mem:=by simp
 obj:=λi h st b hb=>by
  have e:b=it:=by simpa using hb
  subst e
  obtain⟨o,e,c,d⟩:=st
  exact⟨o,e,λv z=>by rw[d] at z;cases z⟩
 keep:=λi h h' st k=>st.at λo e=>k it (by simp) o e
 item:=by
  intro X hP hw hK hc i pins s σ H E I hf st hg
  subst hP hw hK
  obtain⟨xs,x,hq,hx⟩:=hg
  obtain⟨its,rv,p,hz⟩:=I.list hq
  obtain⟨u,hu,ru⟩:=rv.get hx
  obtain⟨f0,f1,f2,f3,f4,f5⟩:=hf it (by simp)
  refine wpAny_pyNext_list_item st p.isList (x:=u) (by simpa using hu) λh' st' sb=>?_
  have I1:Inv X pins σ H { s with heap:=h' }:=I.turned (t':=s.toks) (λb o hb e=>(sb.2 b hb).trans e) f0 f1 f3 f4 f5
  obtain⟨o,e,c,d⟩:=id st'
  exact⟨u,rfl,pK (s:={ s with heap:=h' }) e c d (by decide) ⟨x,H,I1,ru,⟨rfl,λys hy=>by rw[I.Dq hy hq];exact hx⟩,st',λb hb=>(hf b hb).1⟩⟩
 done:=by
  intro X hP hw hK hc i pins s σ H E I hf st hg
  subst hP hw hK
  obtain⟨xs,hq,hx⟩:=hg
  obtain⟨its,rv,p,hz⟩:=I.list hq
  obtain⟨f0,f1,f2,f3,f4,f5⟩:=hf it (by simp)
  have hl:=rv.length
  exact wpAny_pyNext_list_end (I.ok.hd hc) st p.isList (by simp;omega) λh' eb=>⟨rfl,I.turned (t':=s.toks) (λb o hb e=>eb b o hb e) f0 f1 f3 f4 f5⟩
 self:=λ_ _ _ _ _ st h=>wpAny_pyIter_listiter st h
theorem xB{P:adm}{w:adp}{K:PySem.W.Frag}{tg:Expr}(a it:adi):Turn P w K tg (X2 K a) [it] it (λi h=>h.IsTupleIter it a i) where
 mem:=by simp
 obj:=λi h st b hb=>by
  have e:b=it:=by simpa using hb
  subst e
  obtain⟨o,e,c,d⟩:=st
  exact⟨o,e,λv z=>by rw[d] at z;cases z⟩
 keep:=λi h h' st k=>st.at λo e=>k it (by simp) o e
 item:=by
  intro X hP hw hK hc i pins s σ H E I hf st hg
  subst hP hw hK
  obtain⟨xs,x,hq,hx⟩:=hg
  obtain⟨its,rv,p,hz⟩:=I.tuple hq
  obtain⟨u,hu,ru⟩:=rv.get hx
  obtain⟨f0,f1,f2,f3,f4,f5⟩:=hf it (by simp)
  refine wpAny_pyNext_tuple_item st (show s.heap.IsTuple a its.toArray from p) (x:=u) (by simpa using hu) λh' st' sb=>?_
  have I1:Inv X pins σ H { s with heap:=h' }:=I.turned (t':=s.toks) (λb o hb e=>(sb.2 b hb).trans e) f0 f1 f3 f4 f5
  obtain⟨o,e,c,d⟩:=id st'
  exact⟨u,rfl,pK (s:={ s with heap:=h' }) e c d (by decide) ⟨x,H,I1,ru,⟨rfl,λys hy=>by rw[I.Bu hy hq];exact hx⟩,st',λb hb=>(hf b hb).1⟩⟩
 done:=by
  intro X hP hw hK hc i pins s σ H E I hf st hg
  subst hP hw hK
  obtain⟨xs,hq,hx⟩:=hg
  obtain⟨its,rv,p,hz⟩:=I.tuple hq
  obtain⟨f0,f1,f2,f3,f4,f5⟩:=hf it (by simp)
  have hl:=rv.length
  exact wpAny_pyNext_tuple_end (I.ok.hd hc) st (show s.heap.IsTuple a its.toArray from p) (by simp;omega) λh' eb=>⟨rfl,I.turned (t':=s.toks) (λb o hb e=>eb b o hb e) f0 f1 f3 f4 f5⟩
 self:=λ_ _ _ _ _ st h=>wpAny_pyIter_tupleiter st h
theorem xC{P:adm}{w:adp}{K:PySem.W.Frag}{tg:Expr}(it:adi)(lo:Int)(n:Nat):Turn P w K tg (MD lo n) [it] it (λi h=>IsRangeIter h it (lo+(i:Nat) * 1) ((n:Int) - (i:Nat)) 1) where
 mem:=by simp
 obj:=λi h st b hb=>by
  have e:b=it:=by simpa using hb
  subst e
  exact⟨_,st,λv z=>by
   have z':Data.fields _=Data.cell v:=z
   cases z'⟩
 keep:=λi h h' st k=>k it (by simp) _ st
 item:=by
  intro X hP hw hK hc i pins s σ H E I hf st hg
  subst hP hw hK
  obtain⟨f0,f1,f2,f3,f4,f5⟩:=hf it (by simp)
  have W:=Walks.range (prog:=X.prog) (w:=X.w) (I.ok.hd hc) it lo 1 n
  refine W.item i s _ _ hg st λv h' tk hv st' kk=>?_
  obtain⟨t,rfl⟩:=hv
  have I1:Inv X pins σ H { s with heap:=h',toks:=tk }:=I.turned (λb o hb e=>kk b o (by simpa using hb) e) f0 f1 f3 f4 f5
  refine⟨_,rfl,pK (s:={ s with heap:=h',toks:=tk }) (n:="range_iterator") st' rfl rfl (by decide) ⟨.int (lo+i),H,I1,⟨t,?_⟩,⟨rfl,rfl⟩,st',λb hb=>(hf b hb).1⟩⟩
  rw[Int.mul_one]
 done:=by
  intro X hP hw hK hc i pins s σ H E I hf st hg
  subst hP hw hK
  obtain⟨f0,f1,f2,f3,f4,f5⟩:=hf it (by simp)
  exact wpAny_pyNext_range_end (I.ok.hd hc) st (by have:n<=i:=hg;omega) λh' eb=>⟨rfl,I.turned (t':=s.toks) (λb o hb e=>eb b o hb e) f0 f1 f3 f4 f5⟩
 self:=λ_ _ _ _ _ st h=>wpAny_pyIter_rangeiter st h
section
variable {X:Cx} {tg:Expr}
theorem Dv{pins:List (adi×Obj)}{σ:St}{H:Hp}{s:adn}{R:It->Hp->Prop}{E:ado->adn->Prop}{lo hi:Int}{t u v:Tok}{tk:Nat}(I:Inv X pins σ H s)(h1:-(2 ^ 62)<=lo)(h2:lo < 2 ^ 62)(h3:-(2 ^ 62)<=hi)(h4:hi < 2 ^ 62)
  (q:R (MD lo (hi - lo).toNat) H):adC (model X.prog X.w) X.A (pyIter (.ref s.heap.objs.size)) (U0 X pins σ tg R) E { s with heap:=s.heap.push { cls:=.type "range",data:=.fields #[.int lo t,.int hi u,.int 1 v] },toks:=tk }:=by
 refine wpAny_pyIter_range (IsRange.new ..) (small_one h1 h2 h3 h4) ?_
 have I1:Inv X pins σ H { s with heap:=s.heap.push { cls:=.type "range",data:=.fields #[.int lo t,.int hi u,.int 1 v] },toks:=tk }:=I.kept λb o e=>aL _ e
 refine⟨(s.heap.push { cls:=.type "range",data:=.fields #[.int lo t,.int hi u,.int 1 v] }).objs.size,[(s.heap.push { cls:=.type "range",data:=.fields #[.int lo t,.int hi u,.int 1 v] }).objs.size],_,_,H,rfl,
  I1.kept (t':=tk) λb o e=>aL _ e,xC _ lo (hi - lo).toNat,?_,λb hb=>?_,q⟩
 ·have e1:lo+((0:Nat):Int) * 1=lo:=by simp
  have e2:(((hi - lo).toNat:Nat):Int) - ((0:Nat):Int)=tK lo hi 1:=by rw[rangeSize_one];split<;>omega
  show IsRangeIter _ _ (lo+((0:Nat):Int) * 1) ((((hi - lo).toNat:Nat):Int) - ((0:Nat):Int)) 1
  rw[e1,e2]
  exact aU _ rfl
 ·have e:b=(s.heap.push { cls:=.type "range",data:=.fields #[.int lo t,.int hi u,.int 1 v] }).objs.size:=by simpa using hb
  subst e
  exact I1.vm (aj _) (I1.hok.fresh (aj _))
def QC(ta:TA):TI:=λσ H R=>ta σ H λvs H1=>∃j:Int,vs=[.int j]/\-(2 ^ 62)<=j/\j < 2 ^ 62/\R (MD 0 j.toNat) H1
theorem r6{a:Expr}{ta:TA}{p pos:Pos}(hg:Gl X "range")(hm:X.mg "range"=none)(ha:PA X [a] ta)(hs:adB [a] X.env=[(false,eval a X.env)]:=by rfl):PI X tg (.Call (.Name "range" p) [a] [] pos) (QC ta):=by
 intro pins s σ H R I h
 refine Call_ (nr I hg hm boot_range (tL (bA (ha pos pins s σ H _ I h) λus s1 ⟨vs,H1,I1,r1,q1⟩=>?_) hs rfl))
 obtain⟨j,e,q1,q2,q⟩:=q1
 subst e
 cases r1 with
 | cons r rr=>
  cases rr
  obtain⟨t,rfl⟩:=r
  exact call_range_1 (Dv I1 (by omega) (by omega) q1 q2 (by simpa using q))
def U1(wi:TI)(g:TG)(tb:TS):TS:=λD σ H=>wi σ H λJ H1=>∃W:Nat->Nat->St->Hp->Prop,(∃m,W 0 m σ H1)/\∀i m σ H,W i m σ H->
 (J.stop i H/\D.nx σ H)\/(J.go i H/\∃N:St->Hp->Prop,(∀σ' H',N σ' H'->∃m',m' < m/\W (i+1) m' σ' H')/\∀x H',J.ve i H x H'->g x σ H' λσ2 H2=>tb { D with nx:=N,ct:=N,bk:=D.nx } σ2 H2)
def dE(fp:List adi)(h:Heap):List (adi×Obj):=fp.filterMap λb=>(h.get? b).map λo=>(b,o)
theorem fc{fp:List adi}{h:Heap}{b:adi}{o:Obj}(hb:b∈fp)(e:h.get? b=some o):(b,o)∈dE fp h:=List.mem_filterMap.mpr ⟨b,hb,by rw[e];rfl⟩
theorem Bx{fp:List adi}{h:Heap}{p:adi×Obj}(hp:p∈dE fp h):p.1∈fp/\h.get? p.1=some p.2:=by
 obtain⟨b,hb,e⟩:=List.mem_filterMap.mp hp
 cases q:h.get? b with
 | none=>rw[q] at e;cases e
 | some o=>
  rw[q] at e
  have e':(b,o)=p:=Option.some.inj e
  subst e'
  exact⟨hb,q⟩
theorem Inv.pinned{pins:List (adi×Obj)}{σ:St}{H:Hp}{s:adn}{fp:List adi}(I:Inv X pins σ H s)(hf:∀b∈fp,eN X pins H b)(ho:∀b∈fp,∃o,s.heap.get? b=some o/\∀v,o.data≠.cell v):Inv X (pins++dE fp s.heap) σ H s :=
 I.zu λp hp=>(List.mem_append.mp hp).elim (λz=>I.pin p (de _ z)) λz=>by
  obtain⟨hb,e⟩:=Bx z
  obtain⟨f0,f1,f2,_⟩:=hf p.1 hb
  obtain⟨o,e',d⟩:=ho p.1 hb
  rw[e] at e';cases e'
  exact⟨e,f0,f1,f2,d⟩
theorem Inv.j6{pins pl:List (adi×Obj)}{σ:St}{H:Hp}{s:adn}(I:Inv X (pins++pl) σ H s):Inv X pins σ H s:=I.zu λp hp=>I.pin p (de _ (zv _ hp))
theorem xD{iter:Expr}{body:List Stmt}{wi:TI}{g:TG}{tb:TS}{pos:Pos}(hp:PassesOwn (model X.prog X.w) X.A X.env X.xe)(hc:X.calm=true)(hi:PI X tg iter wi)(hg:PG X tg g)(hb:Dj X body tb)
  (hs:∀x,adx iter X.env x=pure x:=by intro _;rfl):PS X (.For tg iter body [] pos) (U1 wi g tb):=by
 intro pins s σ H D I h
 refine wpAny_For (bA (hi pins s σ H _ I h) λv s1 h1=>bA h1 λitv s2 h2=>?_) hs
 obtain⟨it,fp,tn,J,H2,e,I2,T,st2,f2,W,⟨m0,w0⟩,turn⟩:=h2
 subst e
 -- what stays true of the ME objects through the loop
 have MF:∀{H':Hp},(∀b∈fp,H' b=none)->∀b∈fp,eN X pins H' b:=λhn b hb=>⟨hn b hb,(f2 b hb).2⟩
 refine codeAny_forLoop_any (λn s'=>∃i σ' H',Inv X pins σ' H' s'/\tn i s'.heap/\(∀b∈fp,H' b=none)/\W i n σ' H') ?_ m0 ⟨0,σ,H2,I2,st2,λb hb=>(f2 b hb).1,w0⟩
 rintro n s3 ⟨i,σ3,H3,I3,st3,X3,w3⟩
 rcases turn i n σ3 H3 w3 with ⟨stop,qn⟩ | ⟨go,N,hN,step⟩
 ·refine wpAny_passesOwn hp (bA (T.done X rfl rfl rfl hc i pins s3 σ3 H3 X.xe I3 (MF X3) st3 stop) λr s4 ⟨hr,I4⟩=>?_)
  subst hr
  exact wpAny_execs_nil ⟨σ3,H3,I4,qn⟩
 ·refine wpAny_passesOwn hp (bA (T.item X rfl rfl rfl hc i pins s3 σ3 H3 X.xe I3 (MF X3) st3 go) λr s4 ⟨u,hr,h4⟩=>?_)
  subst hr
  refine wpAny_passesOwn hp (bA h4 λ_ s5 ⟨x,H5,I5,r5,y5,vn,MG⟩=>?_)
  have ZV:=I5.pinned (MF MG) (T.obj _ _ vn)
  refine wpAny_passesOwn hp (bA (hg _ s5 σ3 H5 x u _ ZV r5 (step x H5 y5)) λ_ s6 ⟨σ6,H6,I6,q6⟩=>?_)
  refine wpAny_passesOwn hp (bA (hb _ s6 σ6 H6 _ I6 q6) λf s7 q7=>?_)
  have again:∀{σ7:St}{H7:Hp},Inv X (pins++dE fp s5.heap) σ7 H7 s7->N σ7 H7->∃m,m < n/\∃i σ' H',Inv X pins σ' H' s7/\tn i s7.heap/\(∀b∈fp,H' b=none)/\W i m σ' H':=λ{σ7 H7} I7 n7=>by
   obtain⟨m',hm,w7⟩:=hN σ7 H7 n7
   refine⟨m',hm,i+1,σ7,H7,I7.j6,T.keep _ _ _ vn λb hb o e=>(I7.pin (b,o) (de _ (de _ (fc hb e)))).1,λb hb=>?_,w7⟩
   obtain⟨o,e,d⟩:=T.obj _ _ vn b hb
   exact(I7.pin (b,o) (de _ (de _ (fc hb e)))).2.1
  cases f with
  | next=>obtain⟨σ7,H7,I7,n7⟩:=q7;exact again I7 n7
  | cont=>obtain⟨σ7,H7,I7,n7⟩:=q7;exact again I7 n7
  | brk=>obtain⟨σ7,H7,I7,q7⟩:=q7;exact⟨σ7,H7,I7.j6,q7⟩
  | ret v=>obtain⟨x7,σ7,H7,I7,r7,q7⟩:=q7;exact⟨x7,σ7,H7,I7.j6,r7,q7⟩
end
abbrev R2:=V->V->Hp->VK->Prop
def fI(X:Cx)(f:ado->ado->Sem ado)(r:R2):Prop :=
 ∀(pins:List (adi×Obj))(s:adn)(σ:St)(H:Hp)(x y:V)(v u:ado)(Q:VK),Inv X pins σ H s->RelV x v->RelV y u->r x y H Q->
  adC (model X.prog X.w) X.A (f v u) (EP X pins σ Q) X.xe s
def U2(X:Cx)(f:ado->Sem ado)(r:V->Hp->VK->Prop):Prop :=
 ∀(pins:List (adi×Obj))(s:adn)(σ:St)(H:Hp)(x:V)(v:ado)(Q:VK),Inv X pins σ H s->RelV x v->r x H Q->
  adC (model X.prog X.w) X.A (f v) (EP X pins σ Q) X.xe s
def dB(X:Cx)(f:ado)(r:List V->Hp->VK->Prop):Prop :=
 ∀(pins:List (adi×Obj))(s:adn)(σ:St)(H:Hp)(xs:List V)(us:List ado)(Q:VK),Inv X pins σ H s->Vals xs us->r xs H Q->
  adC (model X.prog X.w) X.A (call f us) (EP X pins σ Q) X.xe s
def U3(X:Cx)(r:V->Hp->(Bool->Hp->Prop)->Prop):Prop :=
 ∀(pins:List (adi×Obj))(s:adn)(σ:St)(H:Hp)(x:V)(v:ado)(Q:Bool->Hp->Prop),Inv X pins σ H s->RelV x v->r x H Q->
  adC (model X.prog X.w) X.A (truthy v) (TP X pins σ Q) X.xe s
def QD(r:R2)(ta tb:TE):TE:=λσ H Q=>ta σ H λx H1=>tb σ H1 λy H2=>r x y H2 Q
def ZW(r:V->Hp->VK->Prop)(ta:TE):TE:=λσ H Q=>ta σ H λx H1=>r x H1 Q
def rI(C:Int->Int->Prop)(g:Int->Int->V):R2:=λx y H Q=>∃i j,x= .int i/\y= .int j/\C i j/\Q (g i j) H
def PY(g:Int->Int->V):R2:=λx y H Q=>∃i j,x= .int i/\y= .int j/\Q (g i j) H
def rU(g:Int->V):V->Hp->VK->Prop:=λx H Q=>∃i,x= .int i/\Q (g i) H
section
variable {X:Cx} {a b c:Expr} {ta tb tc:TE} {pos:Pos}
theorem MH(ha:PE X a ta)(hb:PE X b tb){pins:List (adi×Obj)}{s:adn}{σ:St}{H:Hp}{R:V->V->Hp->Prop}(I:Inv X pins σ H s)
  (h:ta σ H λx H1=>tb σ H1 λy H2=>R x y H2){Q:ado->adn->Prop}{f:ado->ado->Sem ado}
  (hf:∀v u s2 x y H2,Inv X pins σ H2 s2->RelV x v->RelV y u->R x y H2->adC (model X.prog X.w) X.A (f v u) Q X.xe s2) :
  adC (model X.prog X.w) X.A (eval a X.env) (λv s₁=>adC (model X.prog X.w) X.A (eval b X.env) (λu s₂=>adC (model X.prog X.w) X.A (f v u) Q X.xe s₂) X.xe s₁) X.xe s:=by
 refine bA (ha pins s σ H _ I h) λv s1 ⟨x,H1,I1,r1,q1⟩=>?_
 refine bA (hb pins s1 σ H1 _ I1 q1) λu s2 ⟨y,H2,I2,r2,q2⟩=>?_
 exact hf v u s2 x y H2 I2 r1 r2 q2
theorem QE{op:Operator}{r:R2}(ho:fI X (ads op) r)(ha:PE X a ta)(hb:PE X b tb):PE X (.BinOp a op b pos) (QD r ta tb):=by
 intro pins s σ H Q I h
 exact wpAny_BinOp (MH ha hb I h λv u s2 x y H2 I2 rx ry q=>ho pins s2 σ H2 x y v u Q I2 rx ry q)
theorem QF{op:UnaryOp}{r:V->Hp->VK->Prop}(ho:U2 X (unaryOp op) r)(ha:PE X a ta):PE X (.UnaryOp op a pos) (ZW r ta):=by
 intro pins s σ H Q I h
 exact UnaryOp_ (bA (ha pins s σ H _ I h) λv s1 ⟨x,H1,I1,r1,q1⟩=>ho pins s1 σ H1 x v Q I1 r1 q1)
theorem TY{f:ado->ado->Sem ado}{C:Int->Int->Prop}{g:Int->Int->Int}
  (rule:∀(i j:Int)(t u:Tok)(s:adn)(Q:ado->adn->Prop)(E:ado->adn->Prop),C i j->Q (.int (g i j) s.toks) { s with toks:=s.toks+1 }->adC (model X.prog X.w) X.A (f (.int i t) (.int j u)) Q E s) :
  fI X f (rI C λi j=> .int (g i j)):=by
 intro pins s σ H x y v u Q I rx ry h
 obtain⟨i,j,rfl,rfl,hc,q⟩:=h
 obtain⟨t,rfl⟩:=rx
 obtain⟨t',rfl⟩:=ry
 exact rule i j t t' s _ _ hc ⟨.int (g i j),H,I.tok _,⟨_,rfl⟩,q⟩
theorem QG{f:ado->ado->Sem ado}{g:Int->Int->Int}
  (rule:∀(i j:Int)(t u:Tok)(s:adn)(Q:ado->adn->Prop)(E:ado->adn->Prop),Q (.int (g i j) s.toks) { s with toks:=s.toks+1 }->adC (model X.prog X.w) X.A (f (.int i t) (.int j u)) Q E s) :
  fI X f (PY λi j=> .int (g i j)):=by
 intro pins s σ H x y v u Q I rx ry h
 obtain⟨i,j,rfl,rfl,q⟩:=h
 obtain⟨t,rfl⟩:=rx
 obtain⟨t',rfl⟩:=ry
 exact rule i j t t' s _ _ ⟨.int (g i j),H,I.tok _,⟨_,rfl⟩,q⟩
theorem QH{f:ado->ado->Sem ado}{g:Int->Int->Bool}
  (rule:∀(i j:Int)(t u:Tok)(s:adn)(Q:ado->adn->Prop)(E:ado->adn->Prop),Q (.bool (g i j)) s->adC (model X.prog X.w) X.A (f (.int i t) (.int j u)) Q E s) :
  fI X f (PY λi j=> .bl (g i j)):=by
 intro pins s σ H x y v u Q I rx ry h
 obtain⟨i,j,rfl,rfl,q⟩:=h
 obtain⟨t,rfl⟩:=rx
 obtain⟨t',rfl⟩:=ry
 exact rule i j t t' s _ _ ⟨.bl (g i j),H,I,rfl,q⟩
def U4(i j:Int):Prop:=0<=j/\j<=1000000/\i.natAbs < 2 ^ 64
theorem MI:fI X (ads .Add) (PY λi j=> .int (i+j)):=QG λ_ _ _ _ _ _ _ q=>add_int q
theorem MJ:fI X (ads .Sub) (PY λi j=> .int (i - j)):=QG λ_ _ _ _ _ _ _ q=>sub_int q
theorem MK:fI X (ads .Pow) (rI U4 λi j=> .int (i ^ j.toNat)):=TY λ_ _ _ _ _ _ _ hc q=>pow_int_small hc.1 hc.2.1 hc.2.2 q
theorem ZX{f:ado->Sem ado}{g:Int->Int}
  (rule:∀(i:Int)(t:Tok)(s:adn)(Q:ado->adn->Prop)(E:ado->adn->Prop),Q (.int (g i) s.toks) { s with toks:=s.toks+1 }->adC (model X.prog X.w) X.A (f (.int i t)) Q E s) :
  U2 X f (rU λi=> .int (g i)):=by
 intro pins s σ H x v Q I rx h
 obtain⟨i,rfl,q⟩:=h
 obtain⟨t,rfl⟩:=rx
 exact rule i t s _ _ ⟨.int (g i),H,I.tok _,⟨_,rfl⟩,q⟩
theorem ML:U2 X (unaryOp .USub) (rU λi=> .int (-i)):=ZX λ_ _ _ _ _ q=>neg_int q
end
section
variable {X:Cx} {a b c:Expr} {ta tb tc:TE} {pos:Pos}
theorem tM{pins:List (adi×Obj)}{σ:St}{H:Hp}{s:adn}{Q:VK}{k k':Bool}(I:Inv X pins σ H s)(q:Q (.bl k) H)(e:k=k'):EP X pins σ Q (.bool k') s:=by
 subst e
 exact⟨.bl k,H,I,rfl,q⟩
theorem QI:fI X (adw .Lt) (PY λi j=> .bl (decide (i < j))):=QH λ_ _ _ _ _ _ _ q=>lt_int q
theorem QJ:fI X (adw .LtE) (PY λi j=> .bl (decide (i<=j))):=QH λ_ _ _ _ _ _ _ q=>le_int q
theorem By:fI X (adw .Lt) (λx y H Q=>∃i j,x= .str i/\y= .str j/\Q (.bl (decide (i.cps.toList < j.cps.toList))) H):=by
 intro pins s σ H x y v u Q I rx ry h
 obtain⟨i,j,rfl,rfl,q⟩:=h
 obtain⟨t,rfl⟩:=rx
 obtain⟨t',rfl⟩:=ry
 exact lt_str (tM I q rfl)
theorem Bz:fI X (adw .In) (λx y H Q=>∃i j,x= .str i/\y= .str j/\Q (.bl (!(MM j i 0 j.length 1).isEmpty)) H):=by
 intro pins s σ H x y v u Q I rx ry h
 obtain⟨i,j,rfl,rfl,q⟩:=h
 obtain⟨t,rfl⟩:=rx
 obtain⟨t',rfl⟩:=ry
 exact in_str (tM I q rfl)
theorem MN:fI X (adw .Is) (λx y H Q=>y= .non/\Q (.bl (decide (x= .non))) H):=by
 intro pins s σ H x y v u Q I rx ry h
 obtain⟨rfl,q⟩:=h
 cases ry
 refine is_none_gen (tM I q ?_)
 cases x<;>first
  | (cases rx;rfl)
  | (obtain⟨t,rfl⟩:=rx;rfl)
theorem Ii:fI X (adw .IsNot) (λx y H Q=>y= .non/\Q (.bl (!decide (x= .non))) H):=by
 intro pins s σ H x y v u Q I rx ry h
 obtain⟨rfl,q⟩:=h
 cases ry
 refine isnot_none_gen (tM I q ?_)
 cases x<;>first
  | (cases rx;rfl)
  | (obtain⟨t,rfl⟩:=rx;rfl)
theorem Ij{op:CmpOp}{r:R2}(ho:fI X (adw op) r)(ha:PE X a ta)(hb:PE X b tb)(hm:adq op b=false):PE X (.Compare a [op] [b] pos) (QD r ta tb):=by
 intro pins s σ H Q I h
 exact wpAny_Compare1 (MH ha hb I h λv u s2 x y H2 I2 rx ry q=>ho pins s2 σ H2 x y v u Q I2 rx ry q) hm
def K9(t:TE):TT:=λσ H Q=>t σ H λx H'=>∃k,x= .bl k/\Q k H'
theorem Ik{op:CmpOp}{r:R2}(ho:fI X (adw op) r)(ha:PE X a ta)(hb:PE X b tb)(hm:adq op b=false):PT X (.Compare a [op] [b] pos) (K9 (QD r ta tb)):=by
 intro pins s σ H Q I h
 refine wpAny_isTrue_Compare1 (bA (ha pins s σ H _ I h) λv s1 ⟨x,H1,I1,r1,q1⟩=>bA (hb pins s1 σ H1 _ I1 q1) λu s2 ⟨y,H2,I2,r2,q2⟩=>
  bA (ho pins s2 σ H2 x y v u _ I2 r1 r2 q2) λc s3 ⟨z,H3,I3,r3,k,e,q3⟩=>?_) hm
 subst e
 cases r3
 exact adK ⟨H3,I3,q3⟩
def xE(r r':R2)(ta tb tc:TE):TE:=λσ H Q=>ta σ H λx H1=>tb σ H1 λy H2=>r x y H2 λz H3=>∃k,z= .bl k/\
 (if k=true then tc σ H3 λw' H4=>r' y w' H4 Q else Q (.bl false) H3)
theorem Dx{op op':CmpOp}{r r':R2}(ho:fI X (adw op) r)(ho':fI X (adw op') r')(ha:PE X a ta)(hb:PE X b tb)(hc:PE X c tc)
  (hm:lastMarks [op,op'] [b,c]=false:=by with_unfolding_all rfl):PE X (.Compare a [op,op'] [b,c] pos) (xE r r' ta tb tc):=by
 intro pins s σ H Q I h
 refine Compare_chain (bA (ha pins s σ H _ I h) λv s1 ⟨x,H1,I1,r1,q1⟩=>chain_link (bA (hb pins s1 σ H1 _ I1 q1) λu s2 ⟨y,H2,I2,r2,q2⟩=>
  bA (ho pins s2 σ H2 x y v u _ I2 r1 r2 q2) λd s3 ⟨z,H3,I3,r3,k,e,q3⟩=>?_)) hm
 subst e
 cases r3
 refine adK ?_
 cases k with
 | false=>exact ite_ff ⟨.bl false,H3,I3,rfl,q3⟩
 | true=>exact ite_tt (chain_last (bA (hc pins s3 σ H3 _ I3 q3) λw' s4 ⟨z',H4,I4,r4,q4⟩=>ho' pins s4 σ H4 y z' u w' Q I4 r2 r4 q4))
theorem Dy{op op':CmpOp}{r r':R2}(ho:fI X (adw op) r)(ho':fI X (adw op') r')(ha:PE X a ta)(hb:PE X b tb)(hc:PE X c tc)
  (hm:lastMarks [op,op'] [b,c]=false:=by with_unfolding_all rfl):PT X (.Compare a [op,op'] [b,c] pos) (K9 (xE r r' ta tb tc)):=by
 intro pins s σ H Q I h
 refine isTrue_chain (bA (ha pins s σ H _ I h) λv s1 ⟨x,H1,I1,r1,q1⟩=>test_link (bA (hb pins s1 σ H1 _ I1 q1) λu s2 ⟨y,H2,I2,r2,q2⟩=>
  bA (ho pins s2 σ H2 x y v u _ I2 r1 r2 q2) λd s3 ⟨z,H3,I3,r3,k,e,q3⟩=>?_)) hm
 subst e
 cases r3
 refine adK ?_
 cases k with
 | false=>
  obtain⟨k',e',q'⟩:=q3
  cases e'
  exact ite_ff ⟨H3,I3,q'⟩
 | true=>
  refine ite_tt (test_last (bA (hc pins s3 σ H3 _ I3 q3) λw' s4 ⟨z',H4,I4,r4,q4⟩=>bA (ho' pins s4 σ H4 y z' u w' _ I4 r2 r4 q4) λd' s5 ⟨z2,H5,I5,r5,k2,e2,q5⟩=>?_))
  subst e2
  cases r5
  exact adK ⟨H5,I5,q5⟩
def QK(K:PySem.W.Frag)(x:V)(H:Hp)(k:Bool):Prop :=
 match x with
 | .non=>k=false
 | .bl b=>k=b
 | .int i=>k=(i != 0)
 | .str y=>y.length<=adA/\k=((y.length:Int) != 0)
 | .PR y=>y.size<=adA/\k=((y.size:Int) != 0)
 | .ref p=>(∃xs,lO K H p xs/\k= !xs.isEmpty)\/(∃xs,fb K H p xs/\k= !xs.isEmpty)\/∃kvs,H p=some (.dK kvs)/\k= !kvs.isEmpty
 | _=>False
theorem xF{κ:Type}{kvs:List (κ×V)}{vs:List (κ×ado)}(r:KV kvs vs):(!vs.isEmpty)= !kvs.isEmpty:=by
 cases r<;>rfl
theorem pM{xs:List V}{its:List ado}(r:Vals xs its):(!its.toArray.isEmpty)= !xs.isEmpty:=by
 cases r<;>simp
theorem lP:(adA:Nat) < 2 ^ 63:=by rw[sizeLine_eq];decide
theorem MO:U3 X (λx H Q=>∃k,QK X.K x H k/\Q k H):=by
 intro pins s σ H x v Q I rx h
 obtain⟨k,e,q⟩:=h
 have hl:=lP
 have hs:adA=16777216:=sizeLine_eq
 cases x with
 | non=>
  cases rx
  have e':k=false:=e
  subst e'
  exact truthy_none ⟨H,I,q⟩
 | bl b=>
  cases rx
  have e':k=b:=e
  subst e'
  exact adK ⟨H,I,q⟩
 | int i=>
  obtain⟨t,rfl⟩:=rx
  have e':k=(i != 0):=e
  subst e'
  exact PySem.P.truthy_int ⟨H,I,q⟩
 | str y=>
  obtain⟨t,rfl⟩:=rx
  obtain⟨hy,e'⟩:y.length<=adA/\k=((y.length:Int) != 0):=e
  subst e'
  exact PySem.P.truthy_str (by omega) ⟨H,I.tok _,q⟩
 | PR y=>
  obtain⟨t,rfl⟩:=rx
  obtain⟨hy,e'⟩:y.size<=adA/\k=((y.size:Int) != 0):=e
  subst e'
  exact PySem.W.truthy_bytes (by omega) ⟨H,I.tok _,q⟩
 | ref p=>
  cases rx
  have e':(∃xs,lO X.K H p xs/\k= !xs.isEmpty)\/(∃xs,fb X.K H p xs/\k= !xs.isEmpty)\/∃kvs,H p=some (.dK kvs)/\k= !kvs.isEmpty:=e
  rcases e' with ⟨xs,hx,e'⟩ | ⟨xs,hx,e'⟩ | ⟨kvs,hx,e'⟩
  ·subst e'
   obtain⟨its,r,pl,hz⟩:=I.list hx
   have hlen:=r.length
   exact wpAny_truthy_list pl.isList (by simp only[bB];omega) ⟨H,I.tok _,by rw[pM r];exact q⟩
  ·subst e'
   obtain⟨its,r,pl,hz⟩:=I.tuple hx
   have hlen:=r.length
   exact truthy_tuple pl (by simp only[bB];omega) ⟨H,I.tok _,by rw[pM r];exact q⟩
  ·subst e'
   obtain⟨hz,hS,vs,r,m⟩:kvs.length<=adA/\(p == sysModules)=false/\∃vs,KV kvs vs/\s.heap.DictOf (aY X.prog X.w) p vs:=I.hok p _ hx
   have hlen:kvs.length=vs.length:=Paired.length r
   exact wpAny_truthy_dict hS m (by omega) ⟨H,I.tok _,by rw[xF r];exact q⟩
 | _=>exact(show False from e).elim
theorem Dz(ha:PE X a ta)(he:∀whole,isTrue a X.env whole=(do let v <-whole;standAt a.pos;holding [v] (truthy v))) :
  PT X a (λσ H Q=>ta σ H λx H'=>∃k,QK X.K x H' k/\Q k H'):=by
 intro pins s σ H Q I h
 exact isTrue_plain (bA (ha pins s σ H _ I h) λv s1 ⟨x,H1,I1,r1,q1⟩=>MO pins s1 σ H1 x v Q I1 r1 q1) (he _)
theorem xG:fI X (ads .Add) (λx y H Q=>∃i j,x= .str i/\y= .str j/\i.length+j.length<=adA/\Q (.str (i++j)) H):=by
 intro pins s σ H x y v u Q I rx ry h
 obtain⟨i,j,rfl,rfl,hz,q⟩:=h
 obtain⟨t,rfl⟩:=rx
 obtain⟨t',rfl⟩:=ry
 exact add_str (λt' tk=>⟨.str (i++j),H,I.tok _,⟨_,rfl⟩,q⟩) hz
theorem vals1{x:V}{us:List ado}(r:Vals [x] us):∃u,us=[u]/\RelV x u:=by
 cases r with
 | cons r1 r2=>cases r2;exact⟨_,rfl,r1⟩
theorem vals2{x y:V}{us:List ado}(r:Vals [x,y] us):∃u w',us=[u,w']/\RelV x u/\RelV y w':=by
 cases r with
 | cons r1 r2=>
  cases r2 with
  | cons r3 r4=>cases r4;exact⟨_,_,rfl,r1,r3⟩
theorem BA(hc:X.calm=true):dB X (.builtin "min") (λxs H Q=>∃i j,xs=[.int i,.int j]/\Q (.int (if j < i then j else i)) H):=by
 intro pins s σ H xs us Q I r h
 obtain⟨i,j,rfl,q⟩:=h
 obtain⟨u,w',rfl,⟨t,rfl⟩,⟨t',rfl⟩⟩:=vals2 r
 refine min_two_ints (I.ok.hd hc) λh' tk k=>⟨_,H,I.kept k,?_,q⟩
 by_cases hj:j < i
 ·rw[if_pos hj,if_pos hj];exact⟨_,rfl⟩
 ·rw[if_neg hj,if_neg hj];exact⟨_,rfl⟩
end
section
variable {prog:adm} {w:adp} {A:adj} {E:ado->adn->Prop} {s:adn} {K:PySem.W.Frag} {x dx C f:adi} {mA:Str->Option ado} {name:Str} {v:ado}
end
theorem lM.some_of{v:V}{o:Option ado}(r:lM (some v) o):∃u,o=some u/\RelV v u:=by
 cases o with
 | none=>exact(show False from r).elim
 | some u=>exact⟨u,rfl,r⟩
section
variable {P:adm} {w:adp} {H H':Hp} {h h':Heap} {a C dx:adi} {fs fs':List (Str×V)}
end
section
variable {X:Cx} {pins:List (adi×Obj)} {σ:St} {H:Hp} {s:adn} {a C dx:adi} {fs:List (Str×V)} {f:Str} {v:V} {A:adj} {E:ado->adn->Prop}
end
section
variable {X:Cx} {o e value:Expr} {f:Str} {pos pos' tpos:Pos} {ta tv:TE}
end
section
variable {X:Cx} {pins:List (adi×Obj)} {σ:St} {H:Hp} {s:adn} {A:adj} {E:ado->adn->Prop} {Q:ado->adn->Prop} {c:ado} {b:Bool}
end
structure iF(k:Nat)(A:adj):Prop where
 hd:A.handled=none
 dp:A.depth+3 * k+5 < recursionLimit
 un:A.units+16 * k+200 < cLine
theorem iF.mono{j k:Nat}{A:adj}(r:iF k A)(h:j<=k):iF j A:=⟨r.hd,by have:=r.dp;omega,by have:=r.un;omega⟩
theorem iF.deeper{k:Nat}{A:adj}(r:iF (k+1) A)(env:Env):iF k (A.deeper env) :=
 ⟨r.hd,by have:=r.dp;show A.depth+1+3 * k+5 < _;omega,by have:=r.un;show A.units+3+16 * k+200 < _;omega⟩
theorem iF.depth{k:Nat}{A:adj}(r:iF k A):A.depth < recursionLimit:=by have:=r.dp;omega
def U5:TA:=λ_ H Q=>Q [] H
def QL(ta:TE)(tr:TA):TA:=λσ H Q=>ta σ H λx H1=>tr σ H1 λxs H2=>Q (x::xs) H2
section
variable {X:Cx} {e:Expr} {es:List Expr} {te:TE} {t:TA} {pos:Pos}
theorem DA:PA X [] U5:=λ_ _ _ _ H Q I h=>xH ⟨[],H,I,.nil,h⟩
theorem zy(ha:PE X e te)(hr:PA X es t)(hs:adB (e::es) X.env=(false,eval e X.env)::adB es X.env:=by rfl):PA X (e::es) (QL te t):=by
 intro pos pins s σ H Q I h
 rw[hs]
 show adC _ _ (spliced ((false,eval e X.env)::backTo pos (adB es X.env))) _ _ s
 refine pN (bA (ha pins s σ H _ I h) λu s1 ⟨x,H1,I1,r1,q1⟩=>?_)
 exact bA (hr pos pins s1 σ H1 _ I1 q1) λus s2 ⟨xs,H2,I2,r2,q2⟩=>⟨x::xs,H2,I2,.cons r1 r2,q2⟩
def U6(t:TA):TE:=λσ H Q=>t σ H λxs H1=>xs.length<=adA/\∀p,H1 p=none->Q (.ref p) (upd H1 p (.tup xs))
def U7(t:TA):TE:=λσ H Q=>t σ H λxs H1=>xs.length<=adA/\∀p,H1 p=none->Q (.ref p) (upd H1 p (.lst xs))
theorem MP{x1}(h:PA X es t):PE X (.Tuple es x1 pos) (U6 t):=by
 intro pins s σ H Q I hq
 refine wpAny_Tuple_spliced (bA (h pos pins s σ H _ I hq) λus s1 ⟨xs,H1,I1,r,z,q⟩=>⟨by rw[<-r.length];exact z,?_⟩)
 have hf:H1 s1.heap.objs.size=none:=I1.hok.fresh (aj _)
 refine⟨.ref s1.heap.objs.size,upd H1 s1.heap.objs.size (.tup xs),I1.laid (t':=s1.toks) (λb u e=>aL _ e) (aj _) ?_,rfl,q _ hf⟩
 exact⟨z,us,r,⟨_,aU _ rfl,rfl,_,rfl⟩,xA.new _ _⟩
theorem MQ(h:PA X es t):PE X (.List es pos) (U7 t):=by
 intro pins s σ H Q I hq
 refine wpAny_List_spliced (bA (h pos pins s σ H _ I hq) λus s1 ⟨xs,H1,I1,r,z,q⟩=>⟨by rw[<-r.length];exact z,?_⟩)
 have hf:H1 s1.heap.objs.size=none:=I1.hok.fresh (aj _)
 refine⟨.ref s1.heap.objs.size,upd H1 s1.heap.objs.size (.lst xs),I1.laid (t':=s1.toks) (λb u e=>aL _ e) (aj _) ?_,rfl,q _ hf⟩
 exact⟨z,us,0,r,aU _ rfl⟩
end
abbrev Sp:=List V->Hp->VK->XK->Prop
abbrev C5:=List Env->Hp->adn->XK->ado->adn->Prop
structure xI(P:adm)(w:adp)(K:PySem.W.Frag)(mg:Str->Option ado)(base:Heap)(A:adj)(outer:List Env)(s:adn)(H:Hp):Prop where
 frames:A.frames=some outer
 mod:Mod K mg base
 bs:∀b o,base.get? b=some o->s.heap.get? b=some o/\H b=none
 HX:base.objs.size<=s.heap.objs.size
 ni:s.heap.FunFrames base outer
 Mj:∀b∈frs outer,H b=none
 hok:jb P w H s.heap
 bare:AllBare s.gens
def CE(outer:List Env)(P:adm)(w:adp)(H:Hp)(s:adn)(Q:VK)(u:ado)(s':adn):Prop :=
 ∃v H',s'.os=s.os/\AllBare s'.gens/\Un (frs outer) [] H H' s.heap s'.heap/\jb P w H' s'.heap/\RelV v u/\Q v H'
def CR(CX:C5)(outer:List Env)(P:adm)(w:adp)(H:Hp)(s:adn)(Q:VK)(E:XK)(r:Result)(s':adn):Prop :=
 match r with
 | .ok (.ret u)=>CE outer P w H s Q u s'
 | .ok _=>False
 | .error e=>CX outer H s E e s'
structure FnOk(P:adm)(w:adp)(K:PySem.W.Frag)(mg:Str->Option ado)(base:Heap)(CX:C5)(k:Nat)(f:adi)(fd:adk)(ps:List Str)(sp:Sp):Prop where
 len:∀vs H Q E,sp vs H Q E->vs.length=ps.length
 run:∀(A:adj)(outer:List Env)(s:adn)(H:Hp)(args:Args)(us:List ado)(vs:List V)(Q:VK)(E:XK),iF k A->xI P w K mg base A outer s H->BindsTo s fd args (ps.zip us)->Vals vs us->sp vs H Q E->
  adu (model P w) A (.call (.ref f) args) (CR CX outer P w H s Q E) s
theorem FnOk.mono{P:adm}{w:adp}{K:PySem.W.Frag}{mg:Str->Option ado}{base:Heap}{CX:C5}{j k:Nat}{f:adi}{fd:adk}{ps:List Str}{sp:Sp}(F:FnOk P w K mg base CX j f fd ps sp)(h:j<=k) :
  FnOk P w K mg base CX k f fd ps sp:=⟨F.len,λA outer s H args us vs Q E hr=>F.run A outer s H args us vs Q E (hr.mono h)⟩
section
variable {X:Cx} {pins:List (adi×Obj)} {σ:St} {H:Hp} {s s':adn}
theorem Inv.QM(I:Inv X pins σ H s):xI X.prog X.w X.K X.mg X.base X.A X.stack s H :=
 ⟨I.ok.frames,I.ok.mod,I.bs,bf I.ok.HX I.sz,I.stack,I.oY,I.hok,I.bare⟩
theorem Inv.after{Q:VK}{u:ado}(I:Inv X pins σ H s)(h:CE X.stack X.prog X.w H s Q u s'):EP X pins σ Q u s':=by
 obtain⟨v,H',os,bare,un,hok,r,q⟩:=h
 obtain⟨hh,g,d,t,os'⟩:=s'
 obtain rfl:os'=s.os:=os
 exact⟨v,H',I.call (h':=hh) (g':=g) (d':=d) (t':=t) (ch:=[]) un hok bare (λb z=>absurd z (by simp)),r,q⟩
end
def Binds(K:PySem.W.Frag)(fd:adk)(ps:List Str)(ds:List ado):Prop :=
 ∀(s:adn)(us:List ado),K.In s.heap->(us++ds).length=ps.length->BindsTo s fd ⟨us,[]⟩ (ps.zip (us++ds))
theorem Binds.all{K:PySem.W.Frag}{fd:adk}{ps:List Str}(h:∀us:List ado,us.length=ps.length->bindArgs fd ⟨us,[]⟩=pure (ps.zip us)):Binds K fd ps []:=λs us _ hl=>by
 rw[gO] at hl ⊢
 exact .of_eq (h us hl)
section
variable {X:Cx} {CX:C5} {k:Nat} {f C:adi} {fd:adk} {ps:List Str} {sp:Sp} {dvs:List V} {ds:List ado} {E:XK} {x m:Str} {p pos apos:Pos} {e o:Expr} {es:List Expr} {ta:TE} {t:TA}
end
section
variable {X:Cx} {CX:C5} {k:Nat} {f C:adi} {fd:adk} {ps ks:List Str} {sp:Sp} {E:XK} {x m:Str} {p pos apos kpos:Pos} {e o:Expr} {es:List Expr} {kws:List Keyword} {te ta:TE} {t tk:TA} {nm:Option Str}
variable {g:List ado->List ado->List ado} {gV:List V->List V->List V}
end
structure FnScope(N P:List Str)(sc:Scope):Prop where
 kind:sc.kind= .function
 co:sc.isCoroutine=false
 gen:sc.isGenerator=false
 nd:N.Nodup
 pre:N.take P.length=P
 par:∀x∈P,sc.names.lookup x=some .local\/sc.names.lookup x=some .cell
 MR:∀y∈sc.names,y.2≠.free
theorem r8{kindOf:Str->Option adl}{x:Str}:∀{binds:List (Str×ado)}{m:Str->Option ado},(∀v,(x,v)∉binds)->bindL kindOf binds m x=m x
 | [],_,_=>rfl
 | (n,v)::r,m,h=>by
  unfold bindL
  rw[r8 λw hw=>h w (aJ _ hw)]
  split
  ·have:x≠n:=by rintro rfl;exact h v aK
   simp[this]
  ·rfl
theorem r9{kindOf:Str->Option adl}{x:Str}:∀{binds:List (Str×ado)}{m:Str->Option ado},(∀v,(x,v)∉binds)->bindC kindOf binds m x=m x
 | [],_,_=>rfl
 | (n,v)::r,m,h=>by
  unfold bindC
  rw[r9 λw hw=>h w (aJ _ hw)]
  split
  ·rfl
  ·have:x≠n:=by rintro rfl;exact h v aK
   simp[this]
theorem r_{kindOf:Str->Option adl}{x:Str}{v:ado}:∀{P:List Str}{vs:List ado}{i:Nat}{m:Str->Option ado},P.Nodup->P[i]? =some x->vs[i]? =some v->kindOf x=some .local->
  bindL kindOf (P.zip vs) m x=some v
 | [],_,_,_,_,h,_,_=>by simp at h
 | _::_,[],_,_,_,_,h,_=>by simp at h
 | p::P,w::vs,0,m,nd,h1,h2,hk=>by
  simp at h1 h2;subst h1;subst h2
  show bindL kindOf ((p,w)::P.zip vs) m p=_
  unfold bindL
  rw[r8 λv hv=>(List.nodup_cons.mp nd).1 (zG hv).1,if_pos hk]
  simp
 | p::P,w::vs,i+1,m,nd,h1,h2,hk=>by
  show bindL kindOf ((p,w)::P.zip vs) m x=_
  unfold bindL
  exact r_ (i:=i) (List.nodup_cons.mp nd).2 (by simpa using h1) (by simpa using h2) hk
theorem sa{kindOf:Str->Option adl}{x:Str}{v:ado}:∀{P:List Str}{vs:List ado}{i:Nat}{m:Str->Option ado},P.Nodup->P[i]? =some x->vs[i]? =some v->kindOf x≠some .local->
  bindC kindOf (P.zip vs) m x=some v
 | [],_,_,_,_,h,_,_=>by simp at h
 | _::_,[],_,_,_,_,h,_=>by simp at h
 | p::P,w::vs,0,m,nd,h1,h2,hk=>by
  simp at h1 h2;subst h1;subst h2
  show bindC kindOf ((p,w)::P.zip vs) m p=_
  unfold bindC
  rw[r9 λv hv=>(List.nodup_cons.mp nd).1 (zG hv).1,if_neg hk]
  simp
 | p::P,w::vs,i+1,m,nd,h1,h2,hk=>by
  show bindC kindOf ((p,w)::P.zip vs) m x=_
  unfold bindC
  exact sa (i:=i) (List.nodup_cons.mp nd).2 (by simpa using h1) (by simpa using h2) hk
def start(N:List Str)(vs:List V):St:=vs.map some++aQ (N.length - vs.length) none
def rE(CX:C5)(P:adm)(w:adp)(K:PySem.W.Frag)(mg:Str->Option ado)(base:Heap)(N:List Str)(qual:Str)(scope:Scope)(f:adi)(cd:ado)(A:adj)(outer:List Env)(s:adn)(H:Hp)(E:XK):Cx where
 prog:=P
 w:=w
 K:=K
 mg:=mg
 base:=base
 A:=A.deeper (envOfC qual scope s.heap.objs.size f cd)
 N:=N
 s₀:=s
 H₀:=H
 env:=envOfC qual scope s.heap.objs.size f cd
 outer:=outer
 stack:=envOfC qual scope s.heap.objs.size f cd::outer
 ex:=[]
 calm:=true
 fn:=λ_=>true
 pn:=[]
 xe:=λe s'=>adC (model P w) (A.deeper (envOfC qual scope s.heap.objs.size f cd)) (leaving (envOfC qual scope s.heap.objs.size f cd) e) (λ_ s''=>CX outer H s E e s'') (λe' s''=>CX outer H s E e' s'') s'
theorem vo{sc:Scope}{n:Nat}{x:Str}(h:sc.names.lookup x=some .cell):∃c,(cellsFrom n sc.names []).lookup x=some c:=by
 have q:=PySem.W.cellsFrom_some sc.names n [] (.inl h)
 exact Option.isSome_iff_exists.mp q
theorem BB{CX:C5}{P:adm}{w:adp}{K:PySem.W.Frag}{mg:Str->Option ado}{base:Heap}{N ps:List Str}{qual:Str}{scope:Scope}{f:adi}{cd:ado}{A:adj}{outer:List Env}{s s1:adn}{H:Hp}{E:XK}{us:List ado}{vs:List V}
  (S:FnScope N ps scope)(hd:A.handled=none)(e0:xI P w K mg base A outer s H)(hl:vs.length=ps.length)(r:Vals vs us)
  (x:InCallC s s.heap.objs.size (bindL (envOfC qual scope s.heap.objs.size f cd).kindOf (ps.zip us) λ_=>none) (cellsFrom (s.heap.objs.size+1) scope.names []) (bindC (envOfC qual scope s.heap.objs.size f cd).kindOf (ps.zip us) λ_=>none) s1) :
  Inv (rE CX P w K mg base N qual scope f cd A outer s H E) [] (start N vs) H s1:=by
 have hpl:ps.length<=N.length:=by have:=congrArg dZ S.pre;rw[tN] at this;omega
 obtain⟨h1,tk,rfl,hk⟩:=x.done
 have MS:∀b:adi,b∉(rE CX P w K mg base N qual scope f cd A outer s H E).ex:=λb z=>absurd (show b∈([]:List adi) from z) (by simp)
 refine⟨⟨e0.mod,S.kind,rfl,rfl,aj _,λy z c h1 h2=>?_,λy hy=>?_,λy c _ h=>?_,λ_=>hd,QN e0.frames,.inr ⟨rfl,rfl⟩,λb z=>absurd z (MS b),e0.bs,e0.HX,λb _ _=>MS b,λb z=>absurd z (MS b),e0.ni,e0.Mj⟩,
  rfl,e0.bare,Un.kept hk,⟨_,x.toInCall.ns,λi y v h1 h2 h3=>?_⟩,λy c h=>⟨_,x.cell y c h⟩,e0.hok.fresh (aj _),λy c h=>?_,λp hp=>absurd (show p∈([]:List (adi×Obj)) from hp) (by simp),e0.hok.kept hk,?_⟩
 ·exact name_of_addr x.apart (PySem.mem_of_lookup h1) (PySem.mem_of_lookup h2)
 ·have hy:scope.names.lookup y=some .cell\/scope.names.lookup y=some .free:=hy
  rcases hy with hy | hy
  ·exact vo hy
  ·exact absurd rfl (S.MR _ (PySem.mem_of_lookup hy))
 ·exact oX (x.above y c (PySem.mem_of_lookup h))
 ·have hi:i < vs.length:=by
   unfold start at h2
   by_cases hi:i < vs.length
   ·exact hi
   ·rw[gP (by simpa using hi)] at h2
    rw[tO] at h2
    split at h2<;>cases h2
  have ha:vs[i]? =some v:=by
   unfold start at h2
   rw[d_ (by simpa using hi),eO] at h2
   cases e:vs[i]? with
   | none=>rw[e] at h2;cases h2
   | some a=>rw[e] at h2;cases h2;rfl
  obtain⟨u,hu,rv⟩:=r.get ha
  have hp:ps[i]? =some y:=by
   rw[<-S.pre,List.getElem?_take_of_lt (by omega)];exact h1
  have X4:ps.Nodup:=by rw[<-S.pre];exact S.nd.sublist (List.take_sublist _ _)
  refine⟨u,rv,?_⟩
  rcases S.par y (zH hp) with k | k
  ·exact .inl ⟨k,r_ X4 hp hu k⟩
  ·obtain⟨c,e⟩:=vo (n:=s.heap.objs.size+1) k
   refine .inr ⟨.inl k,c,e,?_⟩
   have q:=x.cell y c e
   rw[sa X4 hp hu (by show scope.names.lookup y≠_;rw[k];decide)] at q
   exact q
 ·exact e0.hok.fresh (oX (x.above y c (PySem.mem_of_lookup h)))
 ·unfold start
  show _=N.length
  rw[eh,bK,jc]
  omega
theorem QO{CX:C5}{P:adm}{w:adp}{K:PySem.W.Frag}{mg:Str->Option ado}{base:Heap}{k:Nat}{f:adi}{name qual:Str}{params:Arguments}{body:List Stmt}{scope:Scope}{dV kV doc pm cdv ct oc:ado}{an od:Option adi}
  {osl:Array (Option ado)}{N ps:List Str}{sp:Sp}(lk:K.lookup f=some ⟨oc,od,.func (PySem.W.fnOf name qual params body scope dV kV doc pm an cdv ct),osl⟩)(hcd:PySem.W.codeIn K cdv qual=true)(S:FnScope N ps scope)
  (len:∀vs H Q E,sp vs H Q E->vs.length=ps.length)
  (hbody:∀(A:adj)(outer:List Env)(s:adn)(H:Hp)(vs:List V)(Q:VK)(E:XK),iF k (A.deeper (envOfC qual scope s.heap.objs.size f cdv))->sp vs H Q E->
   ∃t,Dj (rE CX P w K mg base N qual scope f cdv A outer s H E) body t/\t { nx:=λ_ H'=>Q .non H',rt:=Q } (start N vs) H) :
  FnOk P w K mg base CX (k+1) f (PySem.W.fnOf name qual params body scope dV kV doc pm an cdv ct) ps sp:=by
 refine⟨len,λA outer s H args us vs Q E hr e0 hb r K_=>?_⟩
 have hl:=len _ _ _ _ K_
 have KX:K.In s.heap:=e0.mod.PV.keeps λb o e=>(e0.bs b o e).1
 have lim:s.heap.NoLimit:=e0.mod.nolimit.keeps λb o e=>(e0.bs b o e).1
 have hkind:∀y∈ps.zip us,scope.names.lookup y.1=some .local\/(scope.names.lookup y.1=some .cell/\((cellsFrom (s.heap.objs.size+1) scope.names []).lookup y.1).isSome=true):=λ⟨n,v⟩ hy=>by
  rcases S.par n (zG hy).1 with q | q
  ·exact .inl q
  ·exact .inr ⟨q,PySem.W.cellsFrom_some _ _ _ (.inl q)⟩
 refine codeAny_call_function hr.depth (KX _ _ lk) rfl S.co S.gen rfl (PySem.W.codeRec_of KX hcd) (hb _ _ _ _ ?_)
 refine wpAny_newFunctionEnv_cells S.kind hkind λenv he s1 x=>?_
 subst he
 refine⟨lim.keeps x.toInCall.keep,codeAny_func ?_⟩
 obtain⟨t,ht,hq⟩:=hbody A outer s H vs Q E (hr.deeper _) K_
 have I:Inv (rE CX P w K mg base N qual scope f cdv A outer s H E) [] (start N vs) H s1:=BB S hr.hd e0 hl r x
 refine adG (ht [] s1 (start N vs) H _ I hq) (λfl s' hs=>?_) λe s' hs=>hs
 have fin:∀{σ':St}{H':Hp}{v:V}{u:ado},Inv (rE CX P w K mg base N qual scope f cdv A outer s H E) [] σ' H' s'->RelV v u->Q v H'->CE outer P w H s Q u s' :=
  λ{σ' H' v u} J rv q=>⟨v,H',J.os,J.bare,J.base,J.hok,rv,q⟩
 cases fl with
 | ret u=>
  obtain⟨v,σ',H',J,rv,q⟩:=hs
  exact fin J rv q
 | next=>
  obtain⟨σ',H',J,q⟩:=hs
  exact fin (v:=V.non) (u:=aS) J rfl q
 | brk=>
  obtain⟨_,_,_,q⟩:=hs
  exact aa q
 | cont=>
  obtain⟨_,_,_,q⟩:=hs
  exact aa q
section
variable {X:Cx} {x:Str} {p pos:Pos} {e:Expr} {es:List Expr} {t:TA} {id T:String} {r:List V->Hp->VK->Prop}
def X5(r:List V->Hp->VK->Prop)(t:TA):TE:=λσ H Q=>t σ H λvs H1=>r vs H1 Q
theorem DB(hc:dB X (.builtin id) r)(hg:Gl X x)(hm:X.mg x=none)(hv:adt x=some (.builtin id))(ha:PA X (e::es) t)(hn:x≠"__name__":=by decide)(hdb:(x == ("__debug__":Str))=false:=by decide)
  (he:adB (e::es) X.env=(false,eval e X.env)::adB es X.env:=by rfl)(hpl:(backTo pos (adB es X.env)).any (·.1)=false:=by rfl):PE X (.Call (.Name x p) (e::es) [] pos) (X5 r t):=by
 intro pins s σ H Q I h
 refine wpAny_Call_Name_kw (nr I hg hm hv ?_ hn hdb)
 exact PyProof.Rows.callWith_builtin1 (bA (ha pos pins s σ H _ I h) λus s1 ⟨vs,H1,I1,r1,q1⟩=>hc pins s1 σ H1 vs us Q I1 r1 q1) he hpl
theorem sd(hc:dB X (.type T) r)(hg:Gl X x)(hm:X.mg x=none)(hv:adt x=some (.type T))(ha:PA X (e::es) t)(hn:x≠"__name__":=by decide)(hdb:(x == ("__debug__":Str))=false:=by decide)
  (he:adB (e::es) X.env=(false,eval e X.env)::adB es X.env:=by rfl)(hpl:(backTo pos (adB es X.env)).any (·.1)=false:=by rfl):PE X (.Call (.Name x p) (e::es) [] pos) (X5 r t):=by
 intro pins s σ H Q I h
 refine wpAny_Call_Name_kw (nr I hg hm hv ?_ hn hdb)
 exact tL (bA (ha pos pins s σ H _ I h) λus s1 ⟨vs,H1,I1,r1,q1⟩=>hc pins s1 σ H1 vs us Q I1 r1 q1) he hpl
end
end L2
namespace HT
open PySem PyProof.Rows
section
open PySem.SeqAt
open PySem.AutoSeq1 (wpAny_loadPart')
open PySem.MeetsSeq PySem.MeetsSeq2 PySem.MeetsSeq3
end
section
variable {prog:adm} {w:adp} {A:adj} {E:ado->adn->Prop} {s:adn}
theorem Il{t b:adi}{vs ws:List ado}{Q:ado->adn->Prop}(ht:IsTup s.heap t vs.toArray)(hb:IsTup s.heap b ws.toArray)(hv:vs≠[])
  (h1:ws=[]->Q (.ref t) s)(h2:ws≠[]->Q (.ref s.heap.objs.size) { s with heap:=s.heap.push { cls:=.type "tuple",data:=.seq (vs++ws).toArray } })
  (hsz:vs.length+ws.length<=adA):adC (model prog w) A (ads .Add (.ref t) (.ref b)) Q E s:=by
 obtain⟨⟨cls,dd,data,sl⟩,ho,hc,n,hd⟩:=id ht
 obtain⟨⟨U8,dd2,data2,sl2⟩,ho2,hc2,n2,hd2⟩:=id hb
 simp only at hc hd hc2 hd2
 subst hc hd hc2 hd2
 have e:vs.toArray++ws.toArray=(vs++ws).toArray:=by simp
 by_cases hw:ws=[]
 ·exact concat_meets ⟨_,ho,rfl⟩ ⟨_,ho2,rfl⟩ noFill_tuple_add seq_tuple_add PySem.F.slot_tuple_add PySem.F.entry_tuple_add (PySem.F.args_tuple_add_2 _ _)
   (tuple_addW1 t b vs.toArray ws.toArray n n2 dd dd2 sl sl2 (by simpa using hv) (by simp[hw])) ⟨ho,ho2,h1 hw⟩
 ·refine concat_meets ⟨_,ho,rfl⟩ ⟨_,ho2,rfl⟩ noFill_tuple_add seq_tuple_add PySem.F.slot_tuple_add PySem.F.entry_tuple_add (PySem.F.args_tuple_add_2 _ _)
   (tuple_addW2 t b vs.toArray ws.toArray n n2 dd dd2 sl sl2 (by simpa using hv) (by simpa using hw) (by rw[bB,bB];exact hsz)) ⟨ho,ho2,?_⟩
  rw[e]
  exact h2 hw
def dC(n d:Nat):Option Int->Nat
 | none=>d
 | some v=>if v < 0 then(v+(n:Int)).toNat else min v.toNat n
theorem MT(n d:Nat)(hd:d<=n)(o:Option Int):dC n d o<=n:=by
 cases o with
 | none=>exact hd
 | some v=>
  show(if v < 0 then(v+(n:Int)).toNat else min v.toNat n)<=n
  by_cases hv:v < 0
  ·rw[if_pos hv];omega
  ·rw[if_neg hv];exact tP _ _
theorem zI(v:Int)(n d:Nat):(if v < 0 then max (v+(n:Int)) 0 else min v (n:Int))=((dC n d (some v):Nat):Int):=by
 show(if v < 0 then max (v+(n:Int)) 0 else min v (n:Int))=(((if v < 0 then(v+(n:Int)).toNat else min v.toNat n):Nat):Int)
 by_cases hv:v < 0
 ·simp only[if_pos hv];omega
 ·simp only[if_neg hv];omega
theorem xJ(lo hi:Option Int)(n:Nat):DC lo hi 1 (n:Int)=(((dC n 0 lo:Nat):Int),((dC n n hi:Nat):Int)):=by
 have h1:¬((1:Int) < 0):=by omega
 unfold DC
 simp only[h1,if_false]
 refine Prod.ext ?_ ?_
 ·cases lo with
  | none=>rfl
  | some v=>exact zI v n 0
 ·cases hi with
  | none=>rfl
  | some v=>exact zI v n n
theorem xK(i j:Nat):xM (i:Int) (j:Int) 1=j - i:=by
 unfold xM
 have h1:(1:Int) > 0:=by omega
 simp only[h1,if_true,Int.ediv_one]
 split<;>omega
theorem pO{v:ado}{o:Option Int}{Q:Option Int->adn->Prop}(p:IsPart v o)(h:Q o s):adC (model prog w) A (Builtin.Slice.slicePartIndex v) Q E s:=by
 cases p with
 | none=>exact slicePart_none h
 | int i t=>exact slicePart_int h
theorem iX{sl:adi}{vl vu:ado}{lo hi:Option Int}{n:Nat}{Q:Int×Int×Nat->adn->Prop}(hs:s.heap.IsSliceOf sl vl vu .none)(pl:IsPart vl lo)(pu:IsPart vu hi)
  (h:Q (((dC n 0 lo:Nat):Int),1,dC n n hi - dC n 0 lo) s):adC (model prog w) A (MU (.ref sl) (pure (n:Int))) Q E s:=by
 obtain⟨os,hos,hcs,hds⟩:=id hs
 unfold MU Builtin.Slice.sliceFields
 refine adD (adD (wpAny_field hos hds (x:=vl) rfl (adD (wpAny_field hos hds (x:=vu) rfl (adD (wpAny_field hos hds (x:=.none) rfl (adJ ?_)))))))
 refine adD (slicePart_none ?_)
 show adC _ _ (if((1:Int) == 0)=true then _ else _) _ _ s
 rw[if_neg (by decide)]
 refine adD (pO pl (adD (pO pu (adD (adJ ?_)))))
 show adC _ _ (match DC lo hi 1 (n:Int) with | (lo,hi)=>pure (lo,(1:Int),xM lo hi 1)) _ _ s
 rw[xJ lo hi n]
 show adC _ _ (pure (((dC n 0 lo:Nat):Int),(1:Int),xM ((dC n 0 lo:Nat):Int) ((dC n n hi:Nat):Int) 1)) _ _ s
 rw[xK]
 exact adJ h
theorem DD(xs:Array ado)(i k:Nat):((hU k).filterMap λ(m:Nat)=>xs[((i:Int)+(m:Int) * 1).toNat]?).toArray=((xs.toList.drop i).take k).toArray:=by
 have e:(λ(m:Nat)=>xs[((i:Int)+(m:Int) * 1).toNat]?)=λm=>xs[i+m]?:=by
  funext m
  have:((i:Int)+(m:Int) * 1).toNat=i+m:=by omega
  rw[this]
 rw[e]
 have:=pick_run xs i k
 rw[List.filterMap_map] at this
 have e2:((λx=>xs[x]?) ∘ λx=>i+x)=λm=>xs[i+m]?:=rfl
 rw[e2] at this
 rw[this]
theorem mC{t sl:adi}{items:Array ado}{vl vu:ado}{lo hi:Option Int}{Q:ado->adn->Prop}(ht:IsTup s.heap t items)(hs:s.heap.IsSliceOf sl vl vu .none)(pl:IsPart vl lo)(pu:IsPart vu hi)
  (hw:¬(dC items.size 0 lo=0/\dC items.size items.size hi=items.size))
  (h:Q (.ref s.heap.objs.size) { s with heap:=s.heap.push { cls:=.type "tuple",data:=.seq ((items.toList.drop (dC items.size 0 lo)).take (dC items.size items.size hi - dC items.size 0 lo)).toArray } })
  (hsz:items.size<=adA):adC (model prog w) A (getItem (.ref t) (.ref sl)) Q E s:=by
 have zJ:sizeOk (.seq ((items.toList.drop (dC items.size 0 lo)).take (dC items.size items.size hi - dC items.size 0 lo)).toArray):=by
  show((items.toList.drop (dC items.size 0 lo)).take (dC items.size items.size hi - dC items.size 0 lo)).toArray.size<=adA
  rw[bB,tN,List.length_drop,Dp]
  omega
 have hj:dC items.size items.size hi<=items.size:=MT _ _ (aj _) hi
 obtain⟨os,hos,hcs,hds⟩:=id hs
 have ZY:s.TypeIs (.ref sl) "slice":=⟨os,hos,hcs⟩
 unfold getItem
 try with_reducible refine adF ?_
 first | refine adD (adJ ?_) | skip
 refine adD (wpAny_sequenceKey ht.typeIs (by decide) ?_)
 refine adD (wpAny_callSpecial?_slot (name:=gn "__getitem__") ht.typeIs tQ
  (wpAny_call_entry tQ ht.typeIs entry_tuple_getitem ?_ (args_tuple_getitem _ _)))
 show adC _ _ (Dg (.ref t) >>= _) _ _ s
 refine adD (tupleItemsOf_ ht ?_)
 refine adD (wpAny_typeOf ZY ?_)
 rw[if_pos (by decide)]
 refine adD (iX hs pl pu ?_)
 have hno:¬((((dC items.size 0 lo:Nat):Int) == 0&&(1:Int) == 1&&(dC items.size items.size hi - dC items.size 0 lo) == items.size)=true):=by
  intro q
  rw[cD,cD] at q
  have q1:((dC items.size 0 lo:Nat):Int)=0:=eq_of_beq q.1.1
  have q2:dC items.size items.size hi - dC items.size 0 lo=items.size:=eq_of_beq q.2
  exact hw ⟨by omega,by omega⟩
 show adC _ _ (if(((dC items.size 0 lo:Nat):Int) == 0&&(1:Int) == 1&&(dC items.size items.size hi - dC items.size 0 lo) == items.size)=true then _ else _) _ _ s
 rw[if_neg hno,DD]
 first
  | exact adD (m:=xN _) (adI (adJ ⟨_,rfl,adJ h⟩) zJ)
  | exact adD (m:=xN _) (adI (adD (adJ (adJ ⟨_,rfl,adJ h⟩))) zJ)
  | exact adD (adD (m:=xN _) (adI (adJ (adJ ⟨_,rfl,adJ h⟩)) zJ))
  | exact adD (adD (m:=xN _) (adI (adJ ⟨_,rfl,adJ h⟩) zJ))
end
end HT
namespace L2
open PySem PySem.Spec PyProof.Rows
abbrev TO:=St->Hp->(Option Int->Hp->Prop)->Prop
def PO(X:Cx)(e:Option Expr)(t:TO):Prop :=
 ∀(pins:List (adi×Obj))(s:adn)(σ:St)(H:Hp)(Q:Option Int->Hp->Prop),Inv X pins σ H s->t σ H Q->
  adC (model X.prog X.w) X.A (evalPart e X.env) (λu s'=>∃o H',Inv X pins σ H' s'/\IsPart u o/\Q o H') X.xe s
def Im:TO:=λ_ H Q=>Q none H
def QP(t:TE):TO:=λσ H Q=>t σ H λx H1=>∃i,x= .int i/\Q (some i) H1
section
variable {X:Cx} {e:Expr} {te:TE} {lo hi:Option Expr} {tl th:TO} {pos p2:Pos}
theorem Io:PO X none Im:=by
 intro pins s σ H Q I h
 rw[evalPart_none]
 exact adJ ⟨none,H,I,.none,h⟩
theorem Ip(h:PE X e te):PO X (some e) (QP te):=by
 intro pins s σ H Q I hw
 rw[evalPart_some]
 refine bA (h pins s σ H _ I hw) λu s1 ⟨x,H1,I1,r1,q1⟩=>?_
 obtain⟨i,rfl,q⟩:=q1
 obtain⟨t,rfl⟩:=r1
 exact⟨some i,H1,I1,.int i t,q⟩
def HA(X:Cx)(r:V->Option Int->Option Int->Hp->VK->Prop):Prop :=
 ∀(pins:List (adi×Obj))(s:adn)(σ:St)(H:Hp)(x:V)(v vl vu:ado)(lo hi:Option Int)(sl:adi)(Q:VK),Inv X pins σ H s->RelV x v->s.heap.IsSliceOf sl vl vu .none->IsPart vl lo->IsPart vu hi->r x lo hi H Q->
  ∃T id,typeLookup (.type T) "__getitem__"=pure (some (.builtin id))/\s.TypeIs v T/\adC (model X.prog X.w) X.A (getItem v (.ref sl)) (EP X pins σ Q) X.xe s
theorem HA.or{r r':V->Option Int->Option Int->Hp->VK->Prop}(h:HA X r)(h':HA X r'):HA X (λx lo hi H Q=>r x lo hi H Q\/r' x lo hi H Q):=by
 intro pins s σ H x v vl vu lo hi sl Q I rx hs pl pu q
 rcases q with q | q
 ·exact h pins s σ H x v vl vu lo hi sl Q I rx hs pl pu q
 ·exact h' pins s σ H x v vl vu lo hi sl Q I rx hs pl pu q
def ZZ(r:V->Option Int->Option Int->Hp->VK->Prop)(te:TE)(tl th:TO):TE:=λσ H Q=>te σ H λx H1=>tl σ H1 λl H2=>th σ H2 λu H3=>r x l u H3 Q
theorem pP{r:V->Option Int->Option Int->Hp->VK->Prop}(hr:HA X r)(he:PE X e te)(hl:PO X lo tl)(hu:PO X hi th):PE X (.Subscript e (.Slice lo hi none p2) pos) (ZZ r te tl th):=by
 intro pins s σ H Q I h
 refine Subscript_ (bA (he pins s σ H _ I h) λv s1 ⟨x,H1,I1,r1,q1⟩=>?_)
 refine wpAny_Slice (bA (hl pins s1 σ H1 _ I1 q1) λvl s2 ⟨l,H2,I2,pl,q2⟩=>bA (hu pins s2 σ H2 _ I2 q2) λvu s3 ⟨u,H3,I3,pu,q3⟩=>?_)
 rw[evalPart_none]
 refine adJ ?_
 have I4:Inv X pins σ H3 { s3 with heap:=s3.heap.push { cls:=.type "slice",data:=.fields #[vl,vu,.none] } }:=I3.kept (t':=s3.toks) λb ob q=>aL _ q
 obtain⟨T,id,hT,ht,hg⟩:=hr pins { s3 with heap:=s3.heap.push { cls:=.type "slice",data:=.fields #[vl,vu,.none] } } σ H3 x v vl vu l u s3.heap.objs.size Q I4 r1 (Heap.IsSliceOf.new ..) pl pu q3
 show adC (model X.prog X.w) X.A (subscriptTail e (.Slice lo hi none p2) v (.ref s3.heap.objs.size)) (EP X pins σ Q) X.xe { s3 with heap:=s3.heap.push { cls:=.type "slice",data:=.fields #[vl,vu,.none] } }
 exact tail_any (ops:=[.ref s3.heap.objs.size,v]) ht hT hg (by with_unfolding_all rfl)
def rF(xs:List V)(lo hi:Option Int):List V:=(xs.drop (HT.dC xs.length 0 lo)).take (HT.dC xs.length xs.length hi - HT.dC xs.length 0 lo)
theorem n9(xs:List V)(lo hi:Option Int):(rF xs lo hi).length<=xs.length:=by
 unfold rF
 rw[tN,List.length_drop]
 omega
def U9(K:PySem.W.Frag):V->Option Int->Option Int->Hp->VK->Prop:=λx lo hi H Q=>∃a xs,x= .ref a/\fb K H a xs/\
 ¬(HT.dC xs.length 0 lo=0/\HT.dC xs.length xs.length hi=xs.length)/\∀p,H p=none->Q (.ref p) (upd H p (.tup (rF xs lo hi)))
theorem DE:HA X (U9 X.K):=by
 intro pins s σ H x v vl vu lo hi sl Q I rx hs pl pu h
 obtain⟨a,xs,rfl,hx,hw,q⟩:=h
 cases rx
 obtain⟨its,r,ht,hz⟩:=I.tuple hx
 have hlen:its.toArray.size=xs.length:=by rw[bB];exact r.length.symm
 refine⟨"tuple",_,PyProof.Rows.slot_tuple_getitem.lookup,ht.typeIs,?_⟩
 refine HT.mC ht hs pl pu (by rw[hlen];exact hw) ?_ (by rw[hlen];exact hz)
 rw[hlen]
 refine⟨.ref s.heap.objs.size,_,I.laid (t':=s.toks) (o:=.tup (rF xs lo hi)) (λb ob q=>aL _ q) (aj _) ?_,rfl,q _ (I.hok.fresh (aj _))⟩
 exact⟨bf (n9 xs lo hi) hz,_,(r.drop (HT.dC xs.length 0 lo)).take (HT.dC xs.length xs.length hi - HT.dC xs.length 0 lo),IsTup.new _ _,xA.new _ _⟩
def QQ(K:PySem.W.Frag):R2:=λx y H Q=>∃a b xs ys,x= .ref a/\y= .ref b/\fb K H a xs/\fb K H b ys/\xs≠[]/\xs.length+ys.length<=adA/\
 (ys=[]->Q (.ref a) H)/\(ys≠[]->∀p,H p=none->Q (.ref p) (upd H p (.tup (xs++ys))))
theorem Vals.tR{xs:List V}{us:List ado}(r:Vals xs us):us=[]↔xs=[]:=by
 cases r with
 | nil=>simp
 | cons _ _=>simp
theorem Iq:fI X (ads .Add) (QQ X.K):=by
 intro pins s σ H x y v u Q I rx ry h
 obtain⟨a,b,xs,ys,rfl,rfl,ha,hb,hx,hz,q1,q2⟩:=h
 cases rx
 cases ry
 obtain⟨its,r1,p1,_⟩:=I.tuple ha
 obtain⟨its2,r2,p2,_⟩:=I.tuple hb
 refine HT.Il p1 p2 (λz=>hx (r1.tR.mp z)) (λz=>⟨.ref a,H,I,rfl,q1 (r2.tR.mp z)⟩) (λz=>?_) (by rw[<-r1.length,<-r2.length];exact hz)
 refine⟨.ref s.heap.objs.size,_,I.laid (t':=s.toks) (o:=.tup (xs++ys)) (λb ob q=>aL _ q) (aj _) ?_,rfl,q2 (λw=>z (r2.tR.mpr w)) _ (I.hok.fresh (aj _))⟩
 exact⟨by rw[eh];exact hz,_,r1.append r2,IsTup.new _ _,xA.new _ _⟩
end
def C6(n:Nat)(i:Int):Option Nat:=if 0<=i then(if i < n then some i.toNat else none) else if -(n:Int)<=i then some (i+n).toNat else none
def mD{α:Type}(xs:List α)(i:Int):Option α:=(C6 xs.length i).bind λj=>xs[j]?
theorem zK{n:Nat}{i:Int}{j:Nat}(h:C6 n i=some j):seqIndex? i n=some j/\j < n/\-(n:Int)<=i/\i < n:=by
 unfold C6 at h
 by_cases h0:0<=i
 ·rw[if_pos h0] at h
  by_cases h1:i < n
  ·rw[if_pos h1] at h
   have e:i.toNat=j:=Option.some.inj h
   exact⟨by rw[seqIndex_of h0 h1,e],by omega,by omega,h1⟩
  ·rw[if_neg h1] at h;cases h
 ·rw[if_neg h0] at h
  by_cases h1:-(n:Int)<=i
  ·rw[if_pos h1] at h
   have e:(i+n).toNat=j:=Option.some.inj h
   exact⟨by rw[seqIndex_neg (by omega) h1,e],by omega,h1,by omega⟩
  ·rw[if_neg h1] at h;cases h
theorem o8{α:Type}{xs:List α}{i:Int}{v:α}(h:mD xs i=some v):∃j,seqIndex? i xs.length=some j/\xs[j]? =some v/\j < xs.length/\-(xs.length:Int)<=i/\i < xs.length:=by
 unfold mD at h
 cases e:C6 xs.length i with
 | none=>rw[e] at h;cases h
 | some j=>
  rw[e] at h
  obtain⟨h1,h2,h3,h4⟩:=zK e
  exact⟨j,h1,h,h2,h3,h4⟩
theorem gq{α:Type}{xs:List α}{j:Nat}{v:α}(h:xs[j]? =some v):mD xs (j:Int)=some v:=by
 have hj:j < xs.length:=(List.getElem?_eq_some_iff.mp h).1
 have e:C6 xs.length (j:Int)=some j:=by
  unfold C6
  rw[if_pos (by omega),if_pos (by omega)];simp
 unfold mD;rw[e];exact h
def zL(b:Expr):Prop:=∀o i,subscripted b false o i=operate [o,i] (getItem o i)
def Ir(X:Cx)(r:R2):Prop :=
 ∀(value slice:Expr)(pins:List (adi×Obj))(s:adn)(σ:St)(H:Hp)(x y:V)(v u:ado)(Q:VK),Inv X pins σ H s->RelV x v->RelV y u->r x y H Q->
  subscripted slice false v u=operate [v,u] (getItem v u)->adC (model X.prog X.w) X.A (subscriptTail value slice v u) (EP X pins σ Q) X.xe s
def TZ(X:Cx)(id:String)(r:V->List V->Hp->VK->Prop):Prop :=
 ∀(pins:List (adi×Obj))(s:adn)(σ:St)(H:Hp)(x:V)(xs:List V)(v:ado)(us:List ado)(Q:VK),Inv X pins σ H s->RelV x v->Vals xs us->r x xs H Q->
  adC (model X.prog X.w) X.A (call (.builtin id) (v::us)) (EP X pins σ Q) X.xe s
section
variable {X:Cx} {a b:Expr} {ta tb:TE} {pos:Pos}
theorem Ir.or{r r':R2}(h:Ir X r)(h':Ir X r'):Ir X (λx y H Q=>r x y H Q\/r' x y H Q):=by
 intro value slice pins s σ H x y v u Q I rx ry q hs
 rcases q with q | q
 ·exact h value slice pins s σ H x y v u Q I rx ry q hs
 ·exact h' value slice pins s σ H x y v u Q I rx ry q hs
theorem QR{r:R2}(hr:Ir X r)(ha:PE X a ta)(hb:PE X b tb)(hs:zL b):PE X (.Subscript a b pos) (QD r ta tb):=by
 intro pins s σ H Q I h
 exact Subscript_ (MH ha hb I h λv u s2 x y H2 I2 rx ry q=>hr a b pins s2 σ H2 x y v u Q I2 rx ry q (hs _ _))
def QS(K:PySem.W.Frag):R2:=λx y H Q=>∃p xs i v,x= .ref p/\y= .int i/\lO K H p xs/\mD xs i=some v/\Q v H
def QT(K:PySem.W.Frag):R2:=λx y H Q=>∃p xs i v,x= .ref p/\y= .int i/\fb K H p xs/\mD xs i=some v/\Q v H
def QU:R2:=λx y H Q=>∃z i c,x= .str z/\y= .int i/\z.length<=adA/\mD z.cps.toList i=some c/\Q (.str ⟨#[c]⟩) H
theorem Iu:Ir X (QS X.K):=by
 intro value slice pins s σ H x y v u Q I rx ry h hs
 obtain⟨p,xs,i,z,rfl,rfl,hq,he,q⟩:=h
 cases rx
 obtain⟨t,rfl⟩:=ry
 obtain⟨its,r,pl,hz⟩:=I.list hq
 obtain⟨j,h1,h2,h3,h4,h5⟩:=o8 he
 obtain⟨w,ew,rw'⟩:=r.get h2
 have hl:=r.length
 have hn:=lP
 have fin:EP X pins σ Q w s:=⟨z,H,I,rw',q⟩
 by_cases h0:0<=i
 ·have hj:i.toNat=j:=by
   rw[seqIndex_of h0 h5] at h1
   exact Option.some.inj h1
  exact item_listR pl.isList h0 (by omega) (by rw[hj];simpa using ew) fin hs
 ·have hj:(i+(its.toArray.size:Int)).toNat=j:=by
   rw[seqIndex_neg (by omega) h4] at h1
   rw[bB,<-hl]
   exact Option.some.inj h1
  exact subscriptTail_builtinR (x:=w) pl.isList.typeIs slot_list_getitem.lookup
   (wpAny_getItem_list_neg (Q:=λr s'=>r=w/\EP X pins σ Q r s') pl.isList (by omega) (by rw[bB]<;>omega) (by omega) (by rw[hj];simpa using ew) ⟨rfl,fin⟩) hs
theorem MV:Ir X (QT X.K):=by
 intro value slice pins s σ H x y v u Q I rx ry h hs
 obtain⟨p,xs,i,z,rfl,rfl,hq,he,q⟩:=h
 cases rx
 obtain⟨t,rfl⟩:=ry
 obtain⟨its,r,pl,hz⟩:=I.tuple hq
 obtain⟨j,h1,h2,h3,h4,h5⟩:=o8 he
 obtain⟨w,ew,rw'⟩:=r.get h2
 have hl:=r.length
 have hn:=lP
 have fin:EP X pins σ Q w s:=⟨z,H,I,rw',q⟩
 exact subscriptTail_builtinR (x:=w) pl.typeIs slot_tuple_getitem.lookup
  (getItem_tuple (j:=j) (Q:=λr s'=>r=w/\EP X pins σ Q r s') pl (by omega) (by omega) (by rw[bB,<-hl];exact h1) (by simpa using ew) ⟨rfl,fin⟩) hs
theorem MW:Ir X QU:=by
 intro value slice pins s σ H x y v u Q I rx ry h hs
 obtain⟨z,i,c,rfl,rfl,hz,he,q⟩:=h
 obtain⟨t,rfl⟩:=rx
 obtain⟨t',rfl⟩:=ry
 obtain⟨j,h1,h2,h3,h4,h5⟩:=o8 he
 have hl:z.cps.toList.length=z.length:=by simp[Str.length]
 rw[hl] at h1 h4 h5
 have hn:=lP
 exact tail_any (typeIs_str s z t) slot_str_getitem.lookup (getItem_str (c:=c) (by
  have e1:decide (i < -(2 ^ 63:Int))=false:=decide_eq_false (by omega)
  have e2:decide (i >= 2 ^ 63)=false:=decide_eq_false (by omega)
  rw[e1,e2,Bool.or_false]) (by rw[h1];simpa using h2) ⟨.str ⟨#[c]⟩,H,I.tok _,⟨_,rfl⟩,q⟩) hs
def X6(K:PySem.W.Frag):R2:=λx y H Q=>QS K x y H Q\/QT K x y H Q\/QU x y H Q
theorem MX:Ir X (X6 X.K):=Iu.or (MV.or MW)
theorem xO(its:List ado)(n j:Nat)(u:ado):dg (·.setIfInBounds j u) { cls:=.type "list",data:=.seq its.toArray n }={ cls:=.type "list",data:=.seq (its.set j u).toArray n }:=by
 simp[dg]
theorem Inv.lst{pins:List (adi×Obj)}{σ:St}{H:Hp}{s:adn}{p:adi}{xs:List V}(I:Inv X pins σ H s)(h:H p=some (.lst xs)) :
  ∃(its:List ado)(n:Nat),Vals xs its/\s.heap.get? p=some { cls:=.type "list",data:=.seq its.toArray n }/\xs.length<=adA:=by
 obtain⟨z,its,n,r,e⟩:=I.hok p _ h
 exact⟨its,n,r,e,z⟩
theorem Inv.MY{pins:List (adi×Obj)}{σ:St}{H:Hp}{s:adn}{p:adi}{xs ys:List V}{its its':List ado}{n n':Nat}{f:Obj->Obj}(I:Inv X pins σ H s)(h:H p=some (.lst xs))
  (ho:s.heap.get? p=some { cls:=.type "list",data:=.seq its.toArray n })(hf:f { cls:=.type "list",data:=.seq its.toArray n }={ cls:=.type "list",data:=.seq its'.toArray n' })(r:Vals ys its')(hz:ys.length<=adA)(t:Nat) :
  Inv X pins σ (upd H p (.lst ys)) { s with heap:=s.heap.update p f,toks:=t }:=by
 have e:(s.heap.update p f).get? p=some { cls:=.type "list",data:=.seq its'.toArray n' }:=by
  rw[j7 f ho (by rw[hf]<;>rfl),hf]
 refine I.write (x:=p) (e:=p) (by rw[h];trivial) (.inl rfl) (λb u hb q=>(pQ _ _ (ay hb)).trans q) ⟨_,e⟩ ?_
 exact⟨hz,its',n',r,e⟩
def QV:V->V->V->Hp->(Hp->Prop)->Prop:=λo i v H Q=>∃p xs k j,o= .ref p/\i= .int k/\H p=some (.lst xs)/\C6 xs.length k=some j/\Q (upd H p (.lst (xs.set j v)))
theorem set_list:QA X QV:=by
 intro pins s σ H o i v ov iv u Q I ro ri rv h
 obtain⟨p,xs,k,j,rfl,rfl,hp,hj,q⟩:=h
 cases ro
 obtain⟨t,rfl⟩:=ri
 obtain⟨its,n,r,ho,hz⟩:=I.lst hp
 obtain⟨h1,h2,h3,h4⟩:=zK hj
 have hl:=r.length
 have hn:=lP
 have I':Inv X pins σ (upd H p (.lst (xs.set j v))) { s with heap:=s.heap.update p (dg (·.setIfInBounds j u)) } :=
  I.MY hp ho (xO its n j u) (r.set rv j) (by rw[List.length_set];exact hz) s.toks
 by_cases h0:0<=k
 ·have hk:k.toNat=j:=by
   rw[seqIndex_of h0 h4] at h1
   exact Option.some.inj h1
  exact PySem.W.ki_setAt ho h0 (by omega) (by rw[bB,<-hl];exact h4) (by rw[hk];exact⟨_,I',q⟩)
 ·have hk:(k+(its.toArray.size:Int)).toNat=j:=by
   rw[seqIndex_neg (by omega) h3] at h1
   rw[bB,<-hl]
   exact Option.some.inj h1
  exact PySem.W.ki_setBack ho (by omega) (by rw[bB,<-hl];exact h3) (by omega) (by rw[hk];exact⟨_,I',q⟩)
theorem tS(lo hi:Option Int)(n:Nat):(sliceBounds lo hi none n).1=((HT.dC n 0 lo:Nat):Int)/\(sliceBounds lo hi none n).2.1=((HT.dC n n hi:Nat):Int)/\(sliceBounds lo hi none n).2.2=1:=by
 refine⟨?_,?_,rfl⟩
 ·cases lo with
  | none=>simp[sliceBounds,HT.dC]
  | some i=>
   simp only[sliceBounds,HT.dC,Option.getD_none,show(1:Int) > 0 by decide,if_true]
   by_cases h:i < 0
   ·simp only[h,if_true]<;>omega
   ·simp only[h,if_false]<;>omega
 ·cases hi with
  | none=>simp[sliceBounds,HT.dC]
  | some i=>
   simp only[sliceBounds,HT.dC,Option.getD_none,show(1:Int) > 0 by decide,if_true]
   by_cases h:i < 0
   ·simp only[h,if_true]<;>omega
   ·simp only[h,if_false]<;>omega
theorem rG(its:List ado)(lo hi:Option Int):slicePick its.toArray lo hi none=((its.drop (HT.dC its.length 0 lo)).take (HT.dC its.length its.length hi - HT.dC its.length 0 lo)).toArray:=by
 obtain⟨h1,h2,h3⟩:=tS lo hi its.toArray.size
 unfold slicePick
 rw[h1,h2,h3]
 simp only[sliceRange_one,pick_run,bB]<;>rfl
def U_(K:PySem.W.Frag):V->Option Int->Option Int->Hp->VK->Prop:=λx lo hi H Q=>∃a xs,x= .ref a/\lO K H a xs/\∀p,H p=none->Q (.ref p) (upd H p (.lst (rF xs lo hi)))
theorem Iw:HA X (U_ X.K):=by
 intro pins s σ H x v vl vu lo hi sl Q I rx hs pl pu h
 obtain⟨a,xs,rfl,hx,q⟩:=h
 cases rx
 obtain⟨its,r,ht,hz⟩:=I.list hx
 have hlen:=r.length
 refine⟨"list",_,slot_list_getitem.lookup,ht.isList.typeIs,?_⟩
 refine wpAny_getItem_list_slice ht.isList hs pl pu .none (by simp) ?_ (by rw[bB]<;>omega)
 rw[rG,<-hlen]
 refine⟨.ref s.heap.objs.size,_,I.laid (t':=s.toks) (o:=.lst (rF xs lo hi)) (λb ob q=>aL _ q) (aj _) ?_,rfl,q _ (I.hok.fresh (aj _))⟩
 exact⟨bf (n9 xs lo hi) hz,_,0,(r.drop (HT.dC xs.length 0 lo)).take (HT.dC xs.length xs.length hi - HT.dC xs.length 0 lo),aU _ rfl⟩
def lE:V->Bool
 | .non=>true
 | .bl _=>true
 | .int _=>true
 | .str _=>true
 | _=>false
def Iy:V->V->Bool
 | .non,.non=>true
 | .bl a,.bl b=>a == b
 | .bl a,.int b=>(if a then 1 else 0) == b
 | .int a,.bl b=>a == (if b then 1 else 0)
 | .int a,.int b=>a == b
 | .str a,.str b=>a == b
 | _,_=>false
theorem MZ{A:adj}{s:adn}{y x:V}{u v:ado}(ry:RelV y u)(rx:RelV x v)(fy:lE y=true)(fx:lE x=true):SeqAt.EqAt A s u v (Iy y x):=by
 cases y with
 | non=>
  cases ry
  cases x with
  | non=>cases rx;exact HS _
  | bl b=>cases rx;exact SeqAt.EqAt.none_bool b
  | int b=>obtain⟨t,rfl⟩:=rx;exact HQ b t
  | str b=>obtain⟨t,rfl⟩:=rx;exact HR b t
  | _=>exact absurd (show false=true from fx) bh
 | bl a=>
  cases ry
  cases x with
  | non=>cases rx;exact SeqAt.EqAt.bool_none a
  | bl b=>cases rx;exact SeqAt.EqAt.bool_bool a b
  | int b=>obtain⟨t,rfl⟩:=rx;exact SeqAt.EqAt.bool_int a b t
  | str b=>obtain⟨t,rfl⟩:=rx;exact SeqAt.EqAt.bool_str a b t
  | _=>exact absurd (show false=true from fx) bh
 | int a=>
  obtain⟨t',rfl⟩:=ry
  cases x with
  | non=>cases rx;exact HM a t'
  | bl b=>cases rx;exact SeqAt.EqAt.int_bool a t' b
  | int b=>obtain⟨t,rfl⟩:=rx;exact SeqAt.EqAt.int_int a t' b t
  | str b=>obtain⟨t,rfl⟩:=rx;exact HK a t' b t
  | _=>exact absurd (show false=true from fx) bh
 | str a=>
  obtain⟨t',rfl⟩:=ry
  cases x with
  | non=>cases rx;exact HP a t'
  | bl b=>cases rx;exact SeqAt.EqAt.str_bool a t' b
  | int b=>obtain⟨t,rfl⟩:=rx;exact HN a t' b t
  | str b=>obtain⟨t,rfl⟩:=rx;exact SeqAt.EqAt.str_str a t' b t
  | _=>exact absurd (show false=true from fx) bh
 | _=>exact absurd (show false=true from fy) bh
def Iz(x:V)(u:ado):Bool:=match u with
 | .none=>Iy .non x
 | .bool b=>Iy (.bl b) x
 | .int i _=>Iy (.int i) x
 | .str z _=>Iy (.str z) x
 | _=>false
theorem DF{x y:V}{u:ado}(r:RelV y u)(f:lE y=true):Iz x u=Iy y x:=by
 cases y with
 | non=>cases r;rfl
 | bl b=>cases r;rfl
 | int i=>obtain⟨t,rfl⟩:=r;rfl
 | str z=>obtain⟨t,rfl⟩:=r;rfl
 | _=>exact absurd (show false=true from f) bh
theorem tT{x:V}:∀{xs:List V}{us:List ado},Vals xs us->xs.all lE=true->us.any (Iz x)=xs.any λy=>Iy y x
 | _,_,.nil,_=>rfl
 | y::xs,u::us,.cons r t,f=>by
  rw[cV,cD] at f
  rw[gQ,gQ,DF r f.1,tT t f.2]
theorem pR{A:adj}{s:adn}{x:V}{v:ado}(rx:RelV x v)(fx:lE x=true):∀{xs:List V}{us:List ado},Vals xs us->xs.all lE=true->∀u∈us,SeqAt.EqAt A s u v (Iz x u)
 | _,_,.nil,_=>λu hu=>by cases hu
 | y::xs,u::us,.cons r t,f=>λu' hu=>by
  rw[cV,cD] at f
  rcases List.mem_cons.mp hu with rfl | hu
  ·rw[DF r f.1];exact MZ r rx f.1 fx
  ·exact pR rx fx t f.2 u' hu
def T4(x:V)(xs:List V):Bool:=xs.any λy=>Iy y x
def Z_(K:PySem.W.Frag)(neg:Bool):R2:=λx y H Q=>∃p xs,y= .ref p/\(lO K H p xs\/fb K H p xs)/\lE x=true/\xs.all lE=true/\Q (.bl (if neg then !T4 x xs else T4 x xs)) H
theorem BC:fI X (adw .In) (Z_ X.K false):=by
 intro pins s σ H x y v u Q I rx ry h
 obtain⟨p,xs,rfl,hq,fx,fs,q⟩:=h
 cases ry
 rcases hq with hq | hq
 ·obtain⟨its,r,pl,hz⟩:=I.list hq
  refine SeqAt.in_listAt (Iz x) pl.isList (λw hw=>pR rx fx r fs w (by simpa using hw)) ⟨.bl _,H,I,rfl,?_⟩
  rw[show its.toArray.any (Iz x)=its.any (Iz x) by simp,tT r fs]
  exact q
 ·obtain⟨its,r,pl,hz⟩:=I.tuple hq
  refine SeqAt.in_tupleAt (Iz x) pl (λw hw=>pR rx fx r fs w (by simpa using hw)) ⟨.bl _,H,I,rfl,?_⟩
  rw[show its.toArray.any (Iz x)=its.any (Iz x) by simp,tT r fs]
  exact q
theorem tU:dB X (.builtin "len") (λxs H Q=>∃p ys,xs=[.ref p]/\(lO X.K H p ys\/fb X.K H p ys)/\Q (.int ys.length) H):=by
 intro pins s σ H xs us Q I r h
 obtain⟨p,ys,rfl,hq,q⟩:=h
 obtain⟨u,rfl,rx⟩:=vals1 r
 cases rx
 have hn:=lP
 rcases hq with hq | hq
 ·obtain⟨its,r',pl,hz⟩:=I.list hq
  have hlen:=r'.length
  exact Calls.call_len_list pl.isList (by simp only[bB]<;>omega) ⟨.int ys.length,H,I.tok _,⟨s.toks+1,by rw[bB,hlen]⟩,q⟩
 ·obtain⟨its,r',pl,hz⟩:=I.tuple hq
  have hlen:=r'.length
  exact len_tuple pl (by simp only[bB]<;>omega) ⟨.int ys.length,H,I.tok _,⟨s.toks+1,by rw[bB,hlen]⟩,q⟩
theorem tV:dB X (.builtin "len") (λxs H Q=>∃z,xs=[.str z]/\z.length<=adA/\Q (.int z.length) H):=by
 intro pins s σ H xs us Q I r h
 obtain⟨z,rfl,hz,q⟩:=h
 obtain⟨u,rfl,t,rfl⟩:=vals1 r
 have hn:=lP
 exact len_str (by omega) ⟨.int z.length,H,I.tok _,⟨_,rfl⟩,q⟩
theorem dB.or{f:ado}{r r':List V->Hp->VK->Prop}(h:dB X f r)(h':dB X f r'):dB X f (λxs H Q=>r xs H Q\/r' xs H Q):=by
 intro pins s σ H xs us Q I rs q
 rcases q with q | q
 ·exact h pins s σ H xs us Q I rs q
 ·exact h' pins s σ H xs us Q I rs q
theorem rH:dB X (.type "tuple") (λxs H Q=>∃p ys,xs=[.ref p]/\((lO X.K H p ys/\∀l,H l=none->Q (.ref l) (upd H l (.tup ys)))\/(fb X.K H p ys/\Q (.ref p) H))):=by
 intro pins s σ H xs us Q I r h
 obtain⟨p,ys,rfl,h⟩:=h
 obtain⟨u,rfl,rx⟩:=vals1 r
 cases rx
 rcases h with ⟨hq,q⟩ | ⟨hq,q⟩
 ·obtain⟨its,r',pl,hz⟩:=I.list hq
  have hlen:=r'.length
  refine call_tuple_list pl.isList (λh' kp=>?_) (by simp only[bB]<;>omega)
  have I1:Inv X pins σ H { s with heap:=h' }:=I.kept (t':=s.toks) kp
  have I2:Inv X pins σ (upd H h'.objs.size (.tup ys)) { s with heap:=h'.push { cls:=.type "tuple",data:=.seq its.toArray } } :=
   I1.laid (t':=s.toks) (λb o e=>aL _ e) (aj _) (show cO X.prog X.w _ _ _ (.tup ys) from⟨hz,its,r',IsTup.new _ _,xA.new _ _⟩)
  exact⟨.ref h'.objs.size,_,I2,rfl,q _ (I1.hok.fresh (aj _))⟩
 ·obtain⟨its,r',pl,hz⟩:=I.tuple hq
  exact call_tuple_same pl ⟨.ref p,H,I,rfl,q⟩
def X7(K:PySem.W.Frag)(T:String)(x:V)(H:Hp):Prop:=match x with
 | .str _=>T="str"
 | .int _=>T="int"
 | .ref p=>(T="list"/\∃xs,lO K H p xs)\/(T="tuple"/\((∃o,K.lookup p=some o/\o.cls= .type "tuple"/\o.dict=none)\/∃xs,H p=some (.tup xs)))\/
   (T="dict"/\((∃kvs,H p=some (.dK kvs))\/∃kvs,H p=some (.dT kvs)))\/(T="set"/\∃S n,H p=some (.set S n))\/(T="dict"/\∃kvs,H p=some (.dN kvs))
 | _=>False
theorem M3{pins:List (adi×Obj)}{σ:St}{H:Hp}{s:adn}{T:String}{x:V}{v:ado}(I:Inv X pins σ H s)(r:RelV x v)(ty:X7 X.K T x H) :
  s.TypeIs v T/\∀a,v= .ref a->∃ob,s.heap.get? a=some ob/\ob.dict=none:=by
 cases x with
 | str z=>
  obtain⟨t,rfl⟩:=r
  cases (show T="str" from ty)
  exact⟨typeIs_str s z t,λ_ e=>nomatch e⟩
 | int i=>
  obtain⟨t,rfl⟩:=r
  cases (show T="int" from ty)
  exact⟨typeIs_int s i t,λ_ e=>nomatch e⟩
 | ref p=>
  cases r
  rcases ty with ⟨rfl,xs,hq⟩ | ⟨rfl,⟨o,hk,hc,hd⟩ | ⟨xs,hk⟩⟩ | ⟨rfl,hk⟩ | ⟨rfl,S,n,hk⟩ | ⟨rfl,kvs,hk⟩
  ·obtain⟨its,_,pl,_⟩:=I.list hq
   refine⟨pl.isList.typeIs,λa e=>?_⟩
   cases e
   obtain⟨o,n,e,c,hd,_⟩:=pl
   exact⟨o,e,hd⟩
  ·refine⟨⟨o,I.C4 p o hk,hc⟩,λa e=>?_⟩
   cases e
   exact⟨o,I.C4 _ o hk,hd⟩
  ·obtain⟨_,_,_,⟨o,e1,e2,_⟩,nd⟩:=I.hok p _ hk
   refine⟨⟨o,e1,e2⟩,λa e=>?_⟩
   cases e
   exact⟨o,e1,nd o e1⟩
  ·have z:∃o,s.heap.get? p=some o/\o.ExactDict:=by
    rcases hk with ⟨kvs,hk⟩ | ⟨kvs,hk⟩
    ·obtain⟨_,_,_,_,o,_,_,e,ex,_⟩:=I.hok p _ hk
     exact⟨o,e,ex⟩
    ·obtain⟨_,_,_,_,o,_,_,e,ex,_⟩:=I.hok p _ hk
     exact⟨o,e,ex⟩
   obtain⟨o,e,ex⟩:=z
   refine⟨⟨o,e,ex.1⟩,λa e2=>?_⟩
   cases e2
   exact⟨o,e,ex.2.1⟩
  ·obtain⟨o,_,_,_,e,ex,_⟩:=I.hok p _ hk
   refine⟨⟨o,e,ex.1⟩,λa e2=>?_⟩
   cases e2
   exact⟨o,e,ex.2.1⟩
  ·obtain⟨_,_,_,_,o,_,_,e,ex,_⟩:=I.hok p _ hk
   refine⟨⟨o,e,ex.1⟩,λa e2=>?_⟩
   cases e2
   exact⟨o,e,ex.2.1⟩
 | _=>exact aa ty
def Z'(K:PySem.W.Frag)(T:String)(r:V->List V->Hp->VK->Prop)(to:TE)(t:TA):TE:=λσ H Q=>to σ H λx H1=>X7 K T x H1/\t σ H1 λxs H2=>r x xs H2 Q
variable {o e:Expr} {es:List Expr} {to:TE} {t:TA} {name:Str} {apos cpos:Pos} {T id:String} {r:V->List V->Hp->VK->Prop}
theorem K'(pa:PlainAttrs T)(slot:Slot T name id)(hty:typeOf (.builtin id)=pure (.type "method_descriptor"))(hm:TZ X id r)(ho:PE X o to)(ha:PA X (e::es) t)
  (hbase:attributeBase o name X.env (eval o X.env)=eval o X.env:=by rfl)
  (hfew:((backTo cpos (adB (e::es) X.env)).all (λx=> !x.1)&&(backToKw cpos (keywordEach [] X.env)).all (λx=>x.1.isSome)
   &&decide ((e::es).length+([]:List Keyword).length+(if([]:List Keyword).isEmpty then 0 else 1) < 30))=true:=by rfl)
  (hline:(apos.endLine == cpos.line)=true:=by rfl)(hs:adB (e::es) X.env=(false,eval e X.env)::adB es X.env:=by rfl)(hplain:(backTo cpos (adB es X.env)).any (·.1)=false:=by rfl) :
  PE X (.Call (.Attribute o name apos) (e::es) [] cpos) (Z' X.K T r to t):=by
 intro pins s σ H Q I h
 refine wpAny_Call_method_late hbase hfew hline rfl (bA (ho pins s σ H _ I h) λv s1 ⟨x,H1,I1,r1,ty,q1⟩=>?_)
 obtain⟨h1,h2⟩:=M3 I1 r1 ty
 refine⟨T,id,pa,slot,hty,h1,h2,?_⟩
 have hA:=ha cpos pins s1 σ H1 _ I1 q1
 rw[hs] at hA ⊢
 refine xP (by show(false||(backTo cpos (adB es X.env)).any (·.1))=false;rw[hplain]<;>rfl) (DG ?_)
 exact bA hA λus s2 ⟨vs,H2,I2,r2,q2⟩=>hm pins s2 σ H2 x vs v us Q I2 r1 r2 q2
/- xs.append(e),list.index on a QW tuple .. are TZ facts of 06m -/
end
def MtM(X:Cx)(id:String)(r:V->List V->Hp->VK->Prop):Prop :=
 ∀(pins:List (adi×Obj))(s:adn)(σ:St)(H:Hp)(x:V)(xs:List V)(v:ado)(us:List ado)(Q:VK),Inv X pins σ H s->RelV x v->Vals xs us->r x xs H Q->
  adC (model X.prog X.w) X.A (call (.builtin id) (v::us)) (EP X pins σ Q) X.xe s
theorem Vals.one:∀{x:V}{us:List ado},Vals [x] us->∃u,us=[u]/\RelV x u
 | _,_,.cons r .nil=>⟨_,rfl,r⟩
theorem Vals.rep{xs:List V}{us:List ado}(h:Vals xs us):∀k:Nat,Vals (aQ k xs).flatten (aQ k us).flatten
 | 0=> .nil
 | k+1=>by
  rw[hX,hX,pS,pS]
  exact Vals.append h (Vals.rep h k)
theorem foldl_rep(its:List ado):∀(k:Nat)(acc:List ado),
  List.foldl (λx1 x2=>x1++x2) acc.toArray (aQ k its.toArray)=(acc++(aQ k its).flatten).toArray
 | 0,acc=>by simp
 | k+1,acc=>by
  have e:acc.toArray++its.toArray=(acc++its).toArray:=by simp
  have e2:(acc++its)++(aQ k its).flatten=acc++(aQ (k+1) its).flatten:=by
   rw[hX,pS,List.append_assoc]
  rw[<-e2,<-foldl_rep its k (acc++its),<-e,hX,xQ]
section
variable {X:Cx} {pins:List (adi×Obj)} {σ:St} {H:Hp} {s:adn} {l b:adi} {xs ys zs:List V}
theorem Inv.U'{its its':List ado}{n:Nat}{f:Array ado->Array ado}{t':Nat}(I:Inv X pins σ H s)(hH:H l=some (.lst xs))
  (e:s.heap.get? l=some { cls:=.type "list",data:=.seq its.toArray n })(hf:f its.toArray=its'.toArray)(hv:Vals ys its')(hz:ys.length<=adA) :
  Inv X pins σ (upd H l (.lst ys)) { s with heap:=s.heap.update l (dg f),toks:=t' }:=by
 have q:=PySem.IsL.update e f
 rw[hf] at q
 refine I.write (x:=l) (e:=l) (by rw[hH];exact trivial) (.inl rfl) (λb' u hb hu=>(pQ s.heap (dg f) (ay hb)).trans hu) ⟨_,q⟩ ?_
 exact⟨hz,its',_,hv,q⟩
theorem Inv.IA{its:List ado}{t':Nat}(I:Inv X pins σ H s)(hv:Vals ys its)(hz:ys.length<=adA) :
  Inv X pins σ (upd H s.heap.objs.size (.lst ys)) { s with heap:=s.heap.push { cls:=.type "list",data:=.seq its.toArray },toks:=t' } :=
 I.laid (λ_ _ q=>aL _ q) (aj _) ⟨hz,its,0,hv,aU _ rfl⟩
theorem Inv.fresh(I:Inv X pins σ H s):H s.heap.objs.size=none:=I.hok.fresh (aj _)
theorem Inv.QX(I:Inv X pins σ H s)(hH:H l=some (.lst xs)):xs.length<=adA/\∃(its:List ado)(n:Nat),Vals xs its/\xs.length=its.length/\s.heap.get? l=some { cls:=.type "list",data:=.seq its.toArray n }:=by
 obtain⟨z,its,n,r,e⟩:=I.hok l _ hH
 exact⟨z,its,n,r,r.length,e⟩
theorem DH{n:Nat}(h:n<=adA):DI n=false:=by
 unfold DI
 exact decide_eq_false (by omega)
end
section
variable {X:Cx}
def IB:V->List V->Hp->VK->Prop:=λx vs H Q=>∃l xs y,x= .ref l/\vs=[y]/\H l=some (.lst xs)/\xs.length < adA/\Q .non (upd H l (.lst (xs++[y])))
theorem BD:MtM X "list.append" IB:=by
 intro pins s σ H x vs v us Q I rx rv h
 obtain⟨l,xs,y,rfl,rfl,hH,hz,q⟩:=h
 cases rx
 obtain⟨u,rfl,ru⟩:=rv.one
 obtain⟨z,its,n,r,hl,e⟩:=I.QX hH
 refine call_meets F.slot_list_append ⟨_,e,rfl⟩ F.entry_list_append (F.args_list_append_2 _ _) (PySem.list_append l its.toArray n u (by rw[bB];omega)) ⟨e,?_⟩
 refine⟨.non,_,I.U' (its':=its++[u]) hH e (by simp) (r.append (.cons ru .nil)) ?_,rfl,q⟩
 rw[eh,zM]
 omega
def Va:R2:=λx y H Q=>∃l k xs,x= .ref l/\y= .int k/\H l=some (.lst xs)/\-(2 ^ 63)<=k/\k < 2 ^ 63/\xs.length * k.toNat<=adA/\
 ∀p,H p=none->Q (.ref p) (upd H p (.lst (aQ k.toNat xs).flatten))
theorem len_rep{α:Type}(xs:List α)(k:Nat):(aQ k xs).flatten.length=k * xs.length:=by
 induction k with
 | zero=>simp
 | succ k ih=>rw[hX,pS,eh,ih,Nat.succ_mul,Nat.add_comm]
theorem M4:fI X (ads .Mult) Va:=by
 intro pins s σ H x y v u Q I rx ry h
 obtain⟨l,k,xs,rfl,rfl,hH,h1,h2,hz,q⟩:=h
 cases rx
 obtain⟨t,rfl⟩:=ry
 obtain⟨z,its,n,r,hl,e⟩:=I.QX hH
 have hlen:its.toArray.size * k.toNat<=adA:=by rw[bB,<-hl];exact hz
 have hcap:¬its.toArray.size * k.toNat > (2 ^ 63 - 1) / 8:=by
  have:(adA:Nat)<=(2 ^ 63 - 1) / 8:=by decide
  omega
 have hfit:¬(!Builtin.List.listFitsIndex k)=true:=by
  rw[fitsIndex_both h1 h2]
  exact bh
 have QY:¬DI (its.toArray.size * k.toNat)=true:=by
  rw[DH hlen]
  exact bh
 have hnew:List.foldl (λx1 x2=>x1++x2) #[] (aQ (if its.toArray.isEmpty=true then 0 else k.toNat) its.toArray)=(aQ k.toNat its).flatten.toArray:=by
  have f0:∀m:Nat,List.foldl (λx1 x2=>x1++x2) #[] (aQ m its.toArray)=(aQ m its).flatten.toArray:=λm=>by
   have:=foldl_rep its m []
   rw[tX] at this
   exact this
  rw[f0]
  cases its with
  | nil=>simp
  | cons a r'=>rw[if_neg (by simp)]
 refine wpAny_binaryOp_repeat_ref (T:="list") (U:="int") (by decide) ⟨_,e,rfl⟩ (λs'=>typeIs_int s' k t) noFill_list_mul F.fills_int_mul F.slot_int_rmul repeat_list F.slot_int_index.lookup
  (call_meets F.slot_int_rmul (typeIs_int s k t) F.entry_int_rmul (F.args_int_rmul_2 _ _) (int___rmul___int_list k t l its.toArray n)
   ⟨e,rfl,⟨_,e,rfl⟩,call_meets F.slot_list_mul ⟨_,e,rfl⟩ F.entry_list_mul (F.args_list_mul_2 _ _) (AutoListH.list___mul___list_int_3 l its.toArray n k t hfit hcap QY) ⟨e,?_⟩⟩)
 rw[hnew]
 exact⟨.ref _,_,I.IA (t':=s.toks) (r.rep k.toNat) (by rw[len_rep,Nat.mul_comm];exact hz),rfl,q _ I.fresh⟩
end
section
variable {prog:adm} {w:adp} {A:adj} {E:ado->adn->Prop} {s:adn}
set_option maxRecDepth 100000 in
end
section
variable {X:Cx}
end
end L2
namespace Att
open PySem PySem.W PySem.Calls PyProof.Rows
theorem oH{P:Params}{h:Heap}:∀(ns:List Int)(vs:List ado),WellAll P h vs (ns.map WData.int)->IntsAre vs ns:=by
 intro ns
 induction ns with
 | nil=>
  intro vs w
  rw[o_] at w
  cases w
  exact .nil
 | cons n ns ih=>
  intro vs w
  rw[aD] at w
  cases w with
  | cons a b=>
   cases a
   exact .cons _ _ (ih _ b)
theorem BE{l:OpenLaw}{n:Nat}(hn:l.most=some n){P:Params}{h:Heap}{args:List WData}{vals:List ado}
  (hpre:l.row.toRowW.claim.pre args=true)(hwl:WellAll P h vals args) :
  ∃a vs ns,vals=[aB a]/\args=[WData.list (ns.map WData.int)]/\h.get? a=some { cls:=.type "list",data:=.seq vs.toArray }/\IntsAre vs ns/\ns.length<=n:=by
 have hsh:WShape.hasAll [] args [.list .int]=true:=(pre_splitW hpre).1
 have hc:l.pre.holds [] { args:=args }=true:=(pre_splitW hpre).2
 obtain⟨d,r,rfl,h1,h2⟩:=hasAllW_cons hsh
 obtain rfl:=hasAllW_nil h2
 obtain⟨xs,rfl,h3⟩:=hasW_list h1
 obtain⟨ns,rfl⟩:=items_int h3
 have hlen:ns.length<=n:=by
  unfold OpenLaw.pre at hc
  have h4:(WTm.not (.lt (.lit (.int (n:Int))) (.len (.arg 0)))).holds [] { args:=[.list (ns.map .int)] }=true:=by
   have h4:=(holds_andW hc).1
   rw[hn] at h4
   exact h4
  have h5:=condW_of h4 (w_not (w_lt w_lit (w_len_list (w_arg rfl))))
  rw[bK] at h5
  refine Nat.le_of_not_lt λq=>?_
  have q':(n:Int) < ((ns.length:Nat):Int):=by omega
  first
   | (rw[decide_eq_true q'] at h5;exact absurd h5 (by decide))
   | (simp at h5;omega)
 cases hwl with
 | cons w1 w2=>
  cases w2
  cases w1 with
  | list ho hall=>exact⟨_,_,ns,rfl,rfl,ho,oH ns _ hall,hlen⟩
theorem BF(l:OpenLaw)(args:List WData):l.row.toRowW.claim.post args (.bool true) args=true :=
 postW_of (r:=l.row.toRowW) (X:=(true == true))
  (show WShape.has [] (.bool true) .bool=true by first | rfl | decide | simp[WShape.has,WShape.arms,WShape.armsAll])
  (show(WTm.eq .res (.lit (.bool true))).value [] { args:=args,res:=some (.bool true),after:=args }=some (.bool (true == true)) from w_eq_bool (w_res rfl) w_lit) rfl
theorem vp{l:OpenLaw}{n:Nat}{q:adm}{loose:List Str}{XP:(Str->Option ado)->Heap->Prop}{YP:adp->Heap->Prop}{d:DefRec}
  (hn:l.most=some n)(hdf:d.params.defaults=[])
  (call:∀(w:adp)(s₀ s₁:adn)(mg mb:Str->Option ado)(fa:adi)(o:Obj)(pm cd doc:ado)(a:adi)(vs:List ado)(ns:List Int),
   Ground q loose [] XP w s₀ mg mb s₁.heap->YP w s₁.heap->
   s₁.heap.get? fa=some o->o.data= .func (docDef d.name d.params d.body d.scope pm cd doc)->s₁.heap.CodeRec cd d.name->mg d.name=some (.ref fa)->
   s₁.heap.get? a=some { cls:=.type "list",data:=.seq vs.toArray }->IntsAre vs ns->ns.length<=n->s₁.gens=#[]->
   adu (model l.prog w) callerA (.call (.ref fa) ⟨[.ref a],[]⟩) (λr s'=>r= .ok (.ret (.bool true))/\OldK s₁.heap s'.heap/\s'.os=s₁.os/\AllBare s'.gens) s₁) :
  WalkO q loose XP YP l.row.toRowW d [] (λf vs=>PySem.call f vs):=by
 intro w s₀ s₁ mg mb G Y fa o pm cd doc dV kV ho hd hcd hD hmg hg args vals as hpre hlay hrd hwl hlo
 obtain rfl:dV= .none:=Dflts.none hD hdf
 obtain rfl:kV= .none:=Dflts.noKw hD
 obtain⟨a,vs,ns,rfl,rfl,hobj,hints,hlen⟩:=BE hn hpre hwl
 refine enter_call (codeAny_mono (call w s₀ s₁ mg mb fa o pm cd doc a vs ns G Y ho (fd_plain hd) hcd hmg hobj hints hlen hg) λr s' hq=>?_)
 obtain⟨rfl,h2,h3,h4⟩:=hq
 exact⟨.inl ⟨.bool true,.bool true,[],rfl,λ_=>rfl,.bool true,BF l _,λ_=>⟨List.Pairwise.nil,λ_ hm=>(nomatch hm)⟩⟩,h2,h3,h4⟩
section
variable {prog:adm} {w:adp} {A:adj} {E:ado->adn->Prop} {s:adn} {K:Frag}
def lQ(h:Heap):Heap:={ h with objs:=#[] }
theorem bZ(h:Heap)(b:adi):(lQ h).get? b=none:=by
 cases e:(lQ h).get? b with
 | none=>rfl
 | some o=>exact absurd (aF e) (Nat.not_lt_zero _)
theorem tY{h:Heap}{L:adi}{m:Str->Option ado}(n:h.Ns L m):Fr (lQ h) L h m :=
 ⟨n,λb o e=>(by rw[bZ] at e;cases e),bb _⟩
end
end Att
namespace L2
open PySem PySem.Spec PyProof.Rows
theorem sf:∀{vs:List ado}{ns:List Int},IntsAre vs ns->Vals (ns.map V.int) vs
 | _,_,.nil=> .nil
 | _,_,.cons n t h=> .cons ⟨t,rfl⟩ (sf h)
abbrev KOf{K:PySem.W.Frag}{h:Heap}(_:K.In h):PySem.W.Frag:=K
end L2
/- THE aab T5 (shape;LID,My.* are X8):
   My.Adr: a structure of the addresses Vb your X9 names (classes,PZ);My.Txt K t: a structure (Prop) of the equations over K;
   My.M5:{K} {implicit addresses ..} (e1:nsIn K adz "law"=some (some (.ref f))) (e2:K.lookup f=some ⟨oc,od,.func (fnOf "law" "law" params body scope dV kV doc pm an cdv ct),sl⟩) (e3:codeIn K cdv "law"=true) ..:∃t,My.Txt K t
set_option maxRecDepth 100000 in
set_option maxHeartbeats 0 in
theorem PySem.Challenge.cw_LID_holds:PySem.Challenge.rw_LID.Holds:=by
 w_on;o_law;k_head;(case hw=>w_witness2)
 k_fill
 refine L2.walk_of (l:=PySem.Challenge.rw_LID) (n:=63) (k:=40) (x:="script") (CX:=fun w => ..) (sp:=fun _ => My.sp_law) rfl (by decide) rfl ⟨rfl,by decide,by decide⟩ (fun w h Y => PySem.W.kIn_of Y) ?F ?S ?C
 case F=>
  intro w mg fa h KX G hmg
  have T:∃t,My.Txt (L2.KOf KX) t:=by
   dsimp only[L2.KOf] -- K aac stand as «<heap const> w.params» for k_is
   refine' My.M5 ?e1 ?e2 ?e3 ..
   (case e1=>PySem.W.k_is) -- in the order: a name -> its address -> its object -> its parts
   (case e2=>PySem.W.k_is)
   ..
  obtain⟨t,T⟩:=T
  have e0:=hmg.symm.trans (PySem.W.mg_of KX G T.law)
  cases e0 -- fa is the X_ own address
  exact⟨_,λs u=> .of_eq rfl,λbase kb nb=>My.M6 T kb nb⟩ -- if «.of_eq rfl» comes too early: refine' ⟨_,?b,λbase kb nb=>My.M6 T kb nb⟩;exact λs u=> .of_eq rfl
 case S=>exact λw H a ns hl hO hS=> ..
 case C=>exact ..
(the tactic k_is has no namespace: write k_is) -/
namespace L2
open PySem PySem.Spec PyProof.Rows
def defArgs(s:Stmt):Arguments:=match s with
 | .FunctionDef _ a _ _ _ _ _ _ _ _=>a
 | _=>{ posonlyargs:=[],args:=[],vararg:=none,kwonlyargs:=[],kw_defaults:=[],kwarg:=none,defaults:=[] }
def defBody(s:Stmt):List Stmt:=match s with
 | .FunctionDef _ _ b _ _ _ _ _ _ _=>b
 | _=>[]
def defScope(s:Stmt):Scope:=match s with
 | .FunctionDef _ _ _ _ _ _ sc _ _ _=>sc
 | _=>{ kind:=.function,names:=[],isGenerator:=false,isCoroutine:=false }
abbrev CX0:C5:=λ_ _ _ _ _ _=>False
structure M7(K:PySem.W.Frag)(x qual:Str)(st:Stmt)(f:adi)(fd:adk):Prop where
 ex:∃(oc:ado)(od:Option adi)(kV doc pm:ado)(an:Option adi)(cdv ct:ado)(osl:Array (Option ado)),
  fd=PySem.W.fnOf x qual (defArgs st) (defBody st) (defScope st) .none kV doc pm an cdv ct/\K.lookup f=some ⟨oc,od,.func fd,osl⟩/\PySem.W.codeIn K cdv qual=true
 kp:PySem.W.keepIn K (.ref f)=true
section
variable {P:adm} {w:adp} {K:PySem.W.Frag} {mg:Str->Option ado} {base:Heap}
theorem M7.binds{x qual:Str}{st:Stmt}{f:adi}{fd:adk}{ps:List Str}(F:M7 K x qual st f fd)
  (h:∀(kV doc pm:ado)(an:Option adi)(cdv ct:ado)(us:List ado),us.length=ps.length->bindArgs (PySem.W.fnOf x qual (defArgs st) (defBody st) (defScope st) .none kV doc pm an cdv ct) ⟨us,[]⟩=pure (ps.zip us)):Binds K fd ps []:=by
 obtain⟨oc,od,kV,doc,pm,an,cdv,ct,osl,rfl,lk,hcd⟩:=F.ex
 exact .all (h kV doc pm an cdv ct)
theorem M8{x qual:Str}{st:Stmt}{f:adi}{oc:ado}{od an:Option adi}{osl:Array (Option ado)}{kV doc pm cdv ct:ado}(l:K.lookup f=some ⟨oc,od,.func (PySem.W.fnOf x qual (defArgs st) (defBody st) (defScope st) .none kV doc pm an cdv ct),osl⟩)
  (c:PySem.W.codeIn K cdv qual=true)(k:PySem.W.keepIn K (.ref f)=true):M7 K x qual st f (PySem.W.fnOf x qual (defArgs st) (defBody st) (defScope st) .none kV doc pm an cdv ct):=⟨⟨oc,od,kV,doc,pm,an,cdv,ct,osl,rfl,l,c⟩,k⟩
end
section
variable {X:Cx}
end
section
variable {κ : Type} [DecidableEq κ]
def jV(kvs : List (κ×V))(k : κ) : Option V := (kvs.find? λkv=>decide (kv.1=k)).map (·.2)
def putK(kvs : List (κ×V))(k : κ)(v : V) : List (κ×V) :=
 if(kvs.any λkv=>decide (kv.1=k))=true then kvs.map (λkv=>if kv.1=k then(kv.1, v) else kv) else kvs++[(k, v)]
theorem j8{p : κ×V}{r : List (κ×V)}{k : κ}(e : p.1=k) : jV (p::r) k=some p.2 := by simp[jV, j9, e]
theorem j_{p : κ×V}{r : List (κ×V)}{k : κ}(e : ¬p.1=k) : jV (p::r) k=jV r k := by simp[jV, j9, e]
theorem pT(k : κ) : ∀kvs : List (κ×V), (kvs.any λkv=>decide (kv.1=k))=(jV kvs k).isSome
 | []=>rfl
 | p::r=>by
  rw[gQ]
  by_cases e : p.1=k
  ·simp only[j8 e, decide_eq_true e, Bool.true_or, IC]
  ·rw[j_ e, decide_eq_false e, Bool.false_or];exact pT k r
theorem n_(kvs : List (κ×V))(k : κ)(v : V) : (putK kvs k v).length<=kvs.length+1 := by
 unfold putK
 split
 ·rw[bK];omega
 ·rw[eh, kM, List.length_nil];omega
theorem lM.sg{o : Option V}{u : Option ado}(r : lM o u) : o.isSome=u.isSome := by
 cases o with
 | none=>cases u with
  | none=>rfl
  | some _=>exact(show False from r).elim
 | some _=>cases u with
  | none=>exact(show False from r).elim
  | some _=>rfl
theorem lM.getD{o : Option V}{u : Option ado}{d : V}{d' : ado}(r : lM o u)(rd : RelV d d') : RelV (o.getD d) (u.getD d') := by
 cases o with
 | none=>cases u with
  | none=>exact rd
  | some _=>exact(show False from r).elim
 | some _=>cases u with
  | none=>exact(show False from r).elim
  | some _=>exact r
theorem KV.val{kvs : List (κ×V)}{vs : List (κ×ado)}(r : KV kvs vs)(k : κ) : lM (jV kvs k) (valueAt vs k) := by
 unfold KV at r
 induction r with
 | nil=>exact hZ
 | @cons p q ps qs h t ih=>
  obtain⟨h1, h2⟩ := h
  by_cases e : p.1=k
  ·have e' : q.1=k := h1.symm.trans e
   have b : valueAt (q::qs) k=some q.2 := by simp[valueAt, j9, e']
   rw[j8 e, b];exact h2
  ·have e' : ¬q.1=k := λz=>e (h1.trans z)
   have b : valueAt (q::qs) k=valueAt qs k := by simp[valueAt, j9, e']
   rw[j_ e, b];exact ih
theorem KV.any{kvs : List (κ×V)}{vs : List (κ×ado)}(r : KV kvs vs)(k : κ) : (kvs.any λkv=>decide (kv.1=k))=vs.any λkv=>decide (kv.1=k) := by
 unfold KV at r
 induction r with
 | nil=>rfl
 | cons h t ih=>rw[gQ, gQ, ih, h.1]
theorem KV.repl{kvs : List (κ×V)}{vs : List (κ×ado)}(r : KV kvs vs)(k : κ){y : V}{u : ado}(ry : RelV y u) :
  KV (kvs.map λkv=>if kv.1=k then(kv.1, y) else kv) (vs.map λkv=>if kv.1=k then(kv.1, u) else kv) := by
 unfold KV at r ⊢
 induction r with
 | nil=>exact .nil
 | @cons p q ps qs h t ih=>
  rw[aD, aD]
  refine .cons ?_ ih
  obtain⟨h1, h2⟩ := h
  by_cases e : p.1=k
  ·rw[if_pos e, if_pos (h1.symm.trans e)];exact⟨h1, ry⟩
  ·rw[if_neg e, if_neg (λz=>e (h1.trans z))];exact⟨h1, h2⟩
theorem KV.put{kvs : List (κ×V)}{vs : List (κ×ado)}(r : KV kvs vs)(k : κ){y : V}{u : ado}(ry : RelV y u) : KV (putK kvs k y) (stored vs k u) := by
 unfold putK stored
 rw[r.any k]
 by_cases e : (vs.any λkv=>decide (kv.1=k))=true
 ·rw[if_pos e, if_pos e];exact r.repl k ry
 ·rw[if_neg e, if_neg e];exact Paired.snoc r ⟨rfl, ry⟩
theorem KV.length{kvs : List (κ×V)}{vs : List (κ×ado)}(r : KV kvs vs) : kvs.length=vs.length := Paired.length r
end
theorem zN{P : adm}{w : adp}{k : Key}{u : ado}(r : RelV (kV k) u) : (aY P w).is k u=true := by
 cases k with
 | inl i=>obtain⟨t, e⟩ := (show ∃t, u=oU i t from r);subst e;exact vg P w i t
 | inr x=>obtain⟨t, e⟩ := (show ∃t, u=tF x t from r);subst e;exact vh P w x t
 | non=>rw[show u=aS from r];rfl
theorem si{P : adm}{w : adp} : ∀{ks : List Key}{us : List ado}, Vals (ks.map kV) us->ItemsAre (aY P w) ks us
 | [], _, r=>by rw[o_] at r;cases r;exact .nil
 | k::ks, _, r=>by
  rw[aD] at r
  cases r with
  | cons h t=>exact .cons (zN h) (si t)
abbrev KT(H : Hp) : List (List Key×V)->List (List Key×adi×ado)->Prop := Paired λp q=>p.1=q.1/\H q.2.1=some (.tup (p.1.map kV))/\RelV p.2 q.2.2
theorem KT.val{H : Hp}{kvs : List (List Key×V)}{xs : List (List Key×adi×ado)}(r : KT H kvs xs)(k : List Key) : lM (jV kvs k) ((atKey xs k).map (·.2)) := by
 induction r with
 | nil=>exact hZ
 | @cons p q ps qs h t ih=>
  obtain⟨h1, _, h2⟩ := h
  by_cases e : p.1=k
  ·have e' : q.1=k := h1.symm.trans e
   have b : atKey (q::qs) k=some q.2 := by simp[atKey, j9, e']
   rw[j8 e, b];exact h2
  ·have e' : ¬q.1=k := λz=>e (h1.trans z)
   have b : atKey (q::qs) k=atKey qs k := by simp[atKey, j9, e']
   rw[j_ e, b];exact ih
theorem KT.repl{H : Hp}{kvs : List (List Key×V)}{xs : List (List Key×adi×ado)}(r : KT H kvs xs)(k : List Key){y : V}{u : ado}(ry : RelV y u) :
  KT H (kvs.map λkv=>if kv.1=k then(kv.1, y) else kv) (xs.map (putAt k u)) := by
 induction r with
 | nil=>exact .nil
 | @cons p q ps qs h t ih=>
  rw[aD, aD]
  refine .cons ?_ ih
  obtain⟨h1, h2, h3⟩ := h
  unfold putAt
  by_cases e : p.1=k
  ·rw[if_pos e, if_pos (h1.symm.trans e)];exact⟨h1, h2, ry⟩
  ·rw[if_neg e, if_neg (λz=>e (h1.trans z))];exact⟨h1, h2, h3⟩
theorem KT.put{H : Hp}{kvs : List (List Key×V)}{xs : List (List Key×adi×ado)}(r : KT H kvs xs)(k : List Key){b : adi}{y : V}{u : ado}(hb : H b=some (.tup (k.map kV)))(ry : RelV y u) :
  KT H (putK kvs k y) (storedH xs k b u) := by
 have e : (kvs.any λkv=>decide (kv.1=k))=(atKey xs k).isSome := by
  rw[pT, (r.val k).sg, Option.isSome_map]
 unfold putK storedH
 rw[e]
 by_cases q : (atKey xs k).isSome=true
 ·rw[if_pos q, if_pos q];exact r.repl k ry
 ·rw[if_neg q, if_neg q];exact Paired.snoc r ⟨rfl, hb, ry⟩
theorem KT.keeps{H H' : Hp}{kvs : List (List Key×V)}{xs : List (List Key×adi×ado)}(r : KT H kvs xs)(ht : ∀b ys, H b=some (.tup ys)->H' b=some (.tup ys)) : KT H' kvs xs :=
 Paired.Bt r λ_ _ z=>⟨z.1, ht _ _ z.2.1, z.2.2⟩
section
variable {P : adm} {w : adp} {H : Hp} {h : Heap} {a : adi}
theorem DJ{u : HO}(ok : jb P w H h)(e : Rd H a u) : cO P w H h a u := e.ok ok
theorem vq{kvs : List (Key×V)}(ok : jb P w H h)(e : Rd H a (.dK kvs)) : kvs.length<=adA/\(a == sysModules)=false/\∃vs, KV kvs vs/\h.DictOf (aY P w) a vs :=
 show cO P w H h a (.dK kvs) from DJ ok e
theorem QZ{kvs : List (Key×V)}(ok : jb P w H h)(e : H a=some (.dK kvs)) : kvs.length<=adA/\(a == sysModules)=false/\∃vs, KV kvs vs/\h.DictOf (aY P w) a vs := vq ok (.inl e)
theorem pU{ks : List Key}(ok : jb P w H h)(e : H a=some (.tup (ks.map kV))) : (tupleKind (aY P w)).is h ks a := by
 obtain⟨_, its, r, ⟨o, h1, h2, n, h3⟩, _⟩ := (show cO P w H h a (.tup (ks.map kV)) from ok a _ e)
 exact⟨o, its.toArray, n, h1, h2, h3, by simpa using si r⟩
theorem pV{kvs : List (List Key×V)}(ok : jb P w H h)(e : Rd H a (.dT kvs)) : kvs.length<=adA/\(a == sysModules)=false/\
  ∃xs, KT H kvs xs/\h.DictOfH (tupleKind (aY P w)) a xs := by
 obtain⟨z, y, xs, r, o, es, ep, h1, h2, h3, h4, h5⟩ := (show cO P w H h a (.dT kvs) from DJ ok e)
 refine⟨z, y, xs, r, o, es, ep, h1, h2, h3, h4, λx hx=>?_, h5⟩
 have all : ∀{l : List (List Key×V)}{m : List (List Key×adi×ado)}, KT H l m->∀x∈m, (tupleKind (aY P w)).is h x.1 x.2.1 := by
  intro l m q
  induction q with
  | nil=>intro x hx;exact nomatch hx
  | @cons p q ps qs hq t ih=>
   intro x hx
   rcases List.mem_cons.mp hx with e | hx
   ·subst e
    exact pU ok (by rw[<-hq.1];exact hq.2.1)
   ·exact ih x hx
 exact all r x hx
theorem Q0{kvs : List (List Key×V)}(ok : jb P w H h)(e : H a=some (.dT kvs)) : kvs.length<=adA/\(a == sysModules)=false/\
  ∃xs, KT H kvs xs/\h.DictOfH (tupleKind (aY P w)) a xs := pV ok (.inl e)
end
def oI(H : Hp)(a : adi)(y : V)(r : Option V) : Prop :=
 (∃kvs k, Rd H a (.dK kvs)/\y=kV k/\r=jV kvs k)\/∃kvs k b, Rd H a (.dT kvs)/\y= .ref b/\H b=some (.tup (k.map kV))/\r=jV kvs k
def tZ(H : Hp)(a : adi)(y v : V)(H' : Hp) : Prop :=
 (∃kvs k, H a=some (.dK kvs)/\y=kV k/\kvs.length < adA/\H'=upd H a (.dK (putK kvs k v)))\/
 ∃kvs k b, H a=some (.dT kvs)/\y= .ref b/\H b=some (.tup (k.map kV))/\kvs.length < adA/\H'=upd H a (.dT (putK kvs k v))
theorem oI.k{H : Hp}{a : adi}{kvs : List (Key×V)}{k : Key}(e : H a=some (.dK kvs)) : oI H a (kV k) (jV kvs k) := .inl ⟨kvs, k, .inl e, rfl, rfl⟩
theorem oI.t{H : Hp}{a b : adi}{kvs : List (List Key×V)}{k : List Key}(e : H a=some (.dT kvs))(eb : H b=some (.tup (k.map kV))) : oI H a (.ref b) (jV kvs k) := .inr ⟨kvs, k, b, .inl e, rfl, eb, rfl⟩
theorem tZ.k{H : Hp}{a : adi}{kvs : List (Key×V)}{k : Key}{v : V}(e : H a=some (.dK kvs))(hl : kvs.length < adA) : tZ H a (kV k) v (upd H a (.dK (putK kvs k v))) := .inl ⟨kvs, k, e, rfl, hl, rfl⟩
theorem tZ.t{H : Hp}{a b : adi}{kvs : List (List Key×V)}{k : List Key}{v : V}(e : H a=some (.dT kvs))(eb : H b=some (.tup (k.map kV)))(hl : kvs.length < adA) :
  tZ H a (.ref b) v (upd H a (.dT (putK kvs k v))) := .inr ⟨kvs, k, b, e, rfl, eb, hl, rfl⟩
section
variable {X : Cx} {pins : List (adi×Obj)} {σ : St} {H : Hp} {s : adn} {a : adi} {y v : V} {u r : ado} {o : Option V} {A : adj} {E : ado->adn->Prop}
theorem Inv.big(I : Inv X pins σ H s) : sysModules < s.heap.objs.size := by
 have h : adz < s.heap.objs.size := (I.mod.glob.keeps I.bk).lt
 exact Nat.lt_trans (by decide) h
theorem BG{Q : ado->adn->Prop}(hu : A.units+1 < cLine)(I : Inv X pins σ H s)(g : oI H a y (some v))(ry : RelV y u)(h : ∀w' s', Inv X pins σ H s'->RelV v w'->Q w' s') :
  adC (model X.prog X.w) A (getItem (.ref a) u) Q E s := by
 rcases g with ⟨kvs, k, e, ey, l⟩ | ⟨kvs, k, b, e, ey, eb, l⟩
 ·subst ey
  obtain⟨z, hd, vs, rel, dd⟩ := vq I.hok e
  obtain⟨w', hw, rw'⟩ := lM.some_of (v := v) (o := valueAt vs k) (by rw[l];exact rel.val k)
  exact wpAny_getItem_of (zN ry) dd.mapOf hw (h w' _ (I.tok _) rw')
 ·subst ey
  cases (show u=aB b from ry)
  obtain⟨z, hd, xs, rel, dd⟩ := pV I.hok e
  obtain⟨w', hw, rw'⟩ := lM.some_of (v := v) (o := (atKey xs k).map (·.2)) (by rw[l];exact rel.val k)
  obtain⟨p, hp, hp2⟩ := Option.map_eq_some_iff.mp hw
  refine wpAny_getItem_heap (tupleKind_room_in1 hu) (pU I.hok eb) dd hp ?_
  rw[hp2]
  exact h w' _ (I.tok _) rw'
theorem pb{h' : Heap}{t' : Nat}{ob : HO}(I : Inv X pins σ H s)(mu : Ql (H a))(hs : gN a s.heap h')(he : ∃q, h'.get? a=some q)(new : cO X.prog X.w (upd H a ob) h' a ob) :
  Inv X pins σ (upd H a ob) { s with heap := h', toks := t' } :=
 I.write (x := a) (e := a) mu (.inl rfl) (λb q hb z=>(hs.2 b hb).trans z) he new
theorem M9{P : adm}{w : adp}{H' : Hp}{h' : Heap}{kvs : List (Key×V)}{vs : List (Key×ado)}(z : kvs.length<=adA)(hd : (a == sysModules)=false)(rel : KV kvs vs)(dd : h'.DictOf (aY P w) a vs) :
  cO P w H' h' a (.dK kvs) :=⟨z, hd, vs, rel, dd⟩
theorem BH{H' : Hp}{Q : Unit->adn->Prop}(hu : A.units+1 < cLine)(I : Inv X pins σ H s)(g : tZ H a y v H')(ry : RelV y u)(rv : RelV v r)(h : ∀s', Inv X pins σ H' s'->Q () s') :
  adC (model X.prog X.w) A (setItem (.ref a) u r) Q E s := by
 rcases g with ⟨kvs, k, e, ey, l, eH⟩ | ⟨kvs, k, b, e, ey, eb, l, eH⟩
 ·subst ey eH
  obtain⟨z, hd, vs, rel, dd⟩ := QZ I.hok e
  have hz : vs.length<=adA := by rw[<-rel.length];exact z
  have hl : (putK kvs k v).length<=adA := by have := n_ kvs k v;omega
  refine wpAny_setItem_pairs (hsz := hz) (zN ry) dd λh' M_ hs=>h _ ?_
  have he : ∃q, h'.get? a=some q := let ⟨q, _, _, hq, _⟩ := M_;⟨q, hq⟩
  exact pb I (by rw[e];exact hZ) hs he (M9 hl hd (rel.put k rv) M_)
 ·subst ey eH
  cases (show u=aB b from ry)
  obtain⟨z, hd, xs, rel, dd⟩ := Q0 I.hok e
  have hz : xs.length<=adA := by rw[<-Paired.length rel];exact z
  have hl : (putK kvs k v).length<=adA := by have := n_ kvs k v;omega
  refine wpAny_setItem_heap (hsz := hz) (tupleKind_room_in1 hu) (pU I.hok eb) dd λh' M_ hs=>h _ ?_
  obtain⟨q, es, ep, hq, h2, h3, h4, _, h5⟩ := M_
  refine pb I (by rw[e];exact hZ) hs ⟨q, hq⟩ ⟨hl, hd, _, (rel.put k eb rv).keeps λc ys ec=>?_, q, es, ep, hq, h2, h3, h4, h5⟩
  rw[au (Dh ec e (λz=>nomatch z))]
  exact ec
end
section
variable {X : Cx} {pins : List (adi×Obj)} {σ : St} {H : Hp} {s : adn} {a : adi} {kvs : List (Key×V)} {k : Key} {u : ado} {A : adj} {E : ado->adn->Prop}
end
def DK(i : Expr) : Prop := ∀ov iv, subscripted i false ov iv=operate [ov, iv] (getItem ov iv)
theorem zP{prog : adm}{w : adp}{A : adj}{E : ado->adn->Prop}{s : adn}{env : Env}{value slice : Expr}{pos : Pos}{T id : String}{Q : ado->adn->Prop}
  (hl : typeLookup (.type T) "__getitem__"=pure (some (.builtin id)))(hs : DK slice)
  (h : adC (model prog w) A (eval value env) (λo s₁=>adC (model prog w) A (eval slice env) (λi s₂=>s₂.TypeIs o T/\adC (model prog w) A (getItem o i) Q E s₂) E s₁) E s) :
  adC (model prog w) A (eval (.Subscript value slice pos) env) Q E s := by
 refine Subscript_ (adG h (λo s₁ h₁=>adG h₁ (λi s₂ h₂=>?_) λ_ _ x=>x) λ_ _ x=>x)
 obtain⟨hT, h₂⟩ := h₂
 unfold subscriptTail
 refine adD ?_
 rw[getitemInPython_of_ne hT.not_modules]
 refine adD (wpAny_specialOf hT hl ?_)
 have fin : adC (model prog w) A (subscripted slice false o i) (λr s₃=>adC (model prog w) A (letTemporaryGo value o r >>= λ_=>pure r) Q E s₃) E s₂ := by
  rw[hs o i]
  exact wpAny_operating (adG h₂ (λr s₃ h₃=>adD (wpAny_letTemporaryGo (adJ h₃))) λ_ _ x=>x)
 first
  | exact adJ (adD fin)
  | exact adD (adJ (adD fin))
  | exact adD fin
theorem vt{X : Cx}{pins : List (adi×Obj)}{σ : St}{H : Hp}{s : adn}{a : adi}{y : V}{o : Option V}(I : Inv X pins σ H s)(g : oI H a y o) : s.TypeIs (.ref a) "dict" := by
 rcases g with ⟨kvs, k, e, _, _⟩ | ⟨kvs, k, b, e, _, _, _⟩
 ·obtain⟨_, _, vs, _, dd⟩ := vq I.hok e
  exact dd.typeIs
 ·obtain⟨_, _, xs, _, dd⟩ := pV I.hok e
  exact dd.typeIs
def Q1(td ty : TE) : TE := λσ H Q=>td σ H λx H1=>ty σ H1 λy H2=>∃a v, x= .ref a/\oI H2 a y (some v)/\Q v H2
def Q2(td ty tv : TE) : TS := λD σ H=>tv σ H λv H1=>td σ H1 λx H2=>ty σ H2 λy H3=>∃a H4, x= .ref a/\tZ H3 a y v H4/\D.nx σ H4
section
variable {X : Cx} {o i e value : Expr} {pos pos' tpos : Pos} {td ty tv : TE}
theorem ID(hu : X.A.units+1 < cLine)(ho : PE X o td)(hi : PE X i ty)(hs : DK i) : PE X (.Subscript o i pos) (Q1 td ty) := by
 intro pins s σ H Q I h
 refine zP PySem.F.slot_dict_getitem.lookup hs (bA (ho pins s σ H _ I h) λu s1 ⟨x, H1, I1, rx, q1⟩=>bA (hi pins s1 σ H1 _ I1 q1) λiv s2 ⟨y, H2, I2, ry, a, v, ex, g, q2⟩=>?_)
 subst ex
 obtain rfl : u=aB a := rx
 exact⟨vt I2 g, BG hu I2 g ry λw' s3 I3 rw'=>⟨v, H2, I3, rw', q2⟩⟩
theorem IE(hu : X.A.units+1 < cLine)(ho : PE X o td)(hi : PE X i ty)(hv : PE X value tv)(hs : swapsWith value (some (.Subscript o i pos')) pos.line X.env=pure false) :
  PS X (.Assign [.Subscript o i pos'] value pos) (Q2 td ty tv) := by
 intro pins s σ H D I h
 refine wpAny_Assign_Subscript (bA (hv pins s σ H _ I h) λr s1 ⟨v, H1, I1, rv, q1⟩=>bA (ho pins s1 σ H1 _ I1 q1) λu s2 ⟨x, H2, I2, rx, q2⟩=>bA (hi pins s2 σ H2 _ I2 q2) λiv s3 ⟨y, H3, I3, ry, a, H4, ex, g, q3⟩=>?_) hs
 subst ex
 obtain rfl : u=aB a := rx
 exact BH hu I3 g ry rv λs4 I4=>⟨σ, H4, I4, q3⟩
end
theorem DL{P : adm}{w : adp}{H : Hp}(h : Heap)(hb : sysModules < h.objs.size) : cO P w H (h.push { cls := .type "dict", data := .dict #[] }) h.objs.size (.dT []) :=
 ⟨bb _, beq_eq_false_iff_ne.mpr (ay (aX hb)), [], .nil, _, #[], 0, aU _ rfl, ⟨rfl, rfl, rfl⟩, rfl, rfl, eP⟩
def M' : TE := λ_ H Q=>∀p, H p=none->Q (.ref p) (upd H p (.dT []))
section
variable {X : Cx} {pos : Pos}
theorem DM : PE X (.Dict [] [] pos) M' := λpins s σ H Q I h=>
 wpAny_Dict_empty ⟨.ref s.heap.objs.size, _, I.laid (a := s.heap.objs.size) (o := .dT []) (t' := s.toks) (λ_ _ q=>aL _ q) (aj _) (DL s.heap I.big), rfl, h _ (I.hok.fresh (aj _))⟩
end
structure M1(X : Cx)(o : Expr)(m : Str)(apos : Pos)(e : Expr)(cpos : Pos) : Prop where
 base : attributeBase o m X.env (eval o X.env)=eval o X.env
 few : ((backTo cpos (adB [e] X.env)).all (λx=> !x.1)&&(backToKw cpos (keywordEach [] X.env)).all (λx=>x.1.isSome)
  &&decide (([e] : List Expr).length+([] : List Keyword).length+(if([] : List Keyword).isEmpty then 0 else 1) < 30))=true
 line : (apos.endLine == cpos.line)=true
 trees : backTo cpos (adB [e] X.env)=[(false, eval e X.env)]
structure M2(X : Cx)(o : Expr)(m : Str)(apos : Pos)(e f : Expr)(cpos : Pos) : Prop where
 base : attributeBase o m X.env (eval o X.env)=eval o X.env
 few : ((backTo cpos (adB [e, f] X.env)).all (λx=> !x.1)&&(backToKw cpos (keywordEach [] X.env)).all (λx=>x.1.isSome)
  &&decide (([e, f] : List Expr).length+([] : List Keyword).length+(if([] : List Keyword).isEmpty then 0 else 1) < 30))=true
 line : (apos.endLine == cpos.line)=true
 trees : backTo cpos (adB [e, f] X.env)=[(false, eval e X.env), (false, eval f X.env)]
def X'(H : Hp)(a : adi) : Prop := (∃kvs, Rd H a (.dK kvs))\/∃kvs, Rd H a (.dT kvs)
theorem DN{X : Cx}{pins : List (adi×Obj)}{σ : St}{H : Hp}{s : adn}{a : adi}(I : Inv X pins σ H s)(d : X' H a) :
  s.TypeIs (.ref a) "dict"/\(∀b, aB a= .ref b->∃ob, s.heap.get? b=some ob/\ob.dict=none)/\(a == sysModules)=false := by
 rcases d with ⟨kvs, e⟩ | ⟨kvs, e⟩
 ·obtain⟨_, hd, vs, _, dd⟩ := vq I.hok e
  refine⟨dd.typeIs, λb q=>?_, hd⟩
  cases q
  obtain⟨ob, _, _, h1, h2, _⟩ := dd
  exact⟨ob, h1, h2.2.1⟩
 ·obtain⟨_, hd, xs, _, dd⟩ := pV I.hok e
  refine⟨dd.typeIs, λb q=>?_, hd⟩
  cases q
  obtain⟨ob, _, _, h1, h2, _⟩ := dd
  exact⟨ob, h1, h2.2.1⟩
section
variable {X : Cx} {pins : List (adi×Obj)} {σ : St} {H : Hp} {s : adn} {a : adi} {y d : V} {u r : ado} {o : Option V} {A : adj} {E : ado->adn->Prop}
theorem Na{Q : ado->adn->Prop}(hu : A.units+1 < cLine)(I : Inv X pins σ H s)(g : oI H a y o)(ry : RelV y u)(h : ∀w' s', Inv X pins σ H s'->RelV (o.getD .non) w'->Q w' s') :
  adC (model X.prog X.w) A (call (.builtin "dict.get") [.ref a, u]) Q E s := by
 rcases g with ⟨kvs, k, e, ey, l⟩ | ⟨kvs, k, b, e, ey, eb, l⟩
 ·subst ey
  obtain⟨z, hd, vs, rel, dd⟩ := vq I.hok e
  refine call_meetsIn PySem.F.slot_dict_get dd.typeIs PySem.F.entry_dict_get (PySem.F.args_dict_get_2 _ _) (meets_dict_get (aY X.prog X.w) a (zN ry) hd) ⟨_, dd.mapOf, h _ _ (I.tok _) ?_⟩
  rw[l]
  exact(rel.val k).getD rfl
 ·subst ey
  cases (show u=aB b from ry)
  obtain⟨z, hd, xs, rel, dd⟩ := pV I.hok e
  refine call_meetsIn PySem.F.slot_dict_get dd.typeIs PySem.F.entry_dict_get (PySem.F.args_dict_get_2 _ _) (meetsH_dict_get (tupleKind (aY X.prog X.w)) a b hd) ⟨tupleKind_room_in1 hu, k, xs, pU I.hok eb, dd, h _ _ (I.tok _) ?_⟩
  rw[l]
  exact(rel.val k).getD rfl
end
def Nb(td ty : TE) : TE := λσ H Q=>td σ H λx H1=>∃a, x= .ref a/\X' H1 a/\ty σ H1 λy H2=>∃o, oI H2 a y o/\Q (o.getD .non) H2
section
variable {X : Cx} {o e f : Expr} {apos cpos : Pos} {td ty tx : TE}
theorem DO(hu : X.A.units+1 < cLine)(ho : PE X o td)(he : PE X e ty)(m : M1 X o "get" apos e cpos) : PE X (.Call (.Attribute o "get" apos) [e] [] cpos) (Nb td ty) := by
 intro pins s σ H Q I h
 refine wpAny_Call_method m.base m.few m.line PySem.F.plainAttrs_dict PySem.F.slot_dict_get PySem.F.type_dict_get (bA (ho pins s σ H _ I h) λu s1 ⟨x, H1, I1, rx, a, ex, d, q1⟩=>?_)
 subst ex
 obtain rfl : u=aB a := rx
 obtain⟨t1, t2, _⟩ := DN I1 d
 refine⟨t1, t2, ?_⟩
 rw[m.trees]
 refine xP rfl (DG (pN (bA (he pins s1 σ H1 _ I1 q1) λiv s2 ⟨y, H2, I2, ry, ov, g, q2⟩=>xH ?_)))
 exact Na hu I2 g ry λw' s3 I3 rw'=>⟨_, H2, I3, rw', q2⟩
end
section
variable {X : Cx} {pins : List (adi×Obj)} {σ : St} {H : Hp} {s : adn} {a : adi} {kvs : List (Key×V)} {A : adj} {E : ado->adn->Prop}
end
section
variable {X : Cx} {pins : List (adi×Obj)} {σ : St} {H : Hp} {s : adn} {a : adi} {y : V} {u : ado} {A : adj} {E : ado->adn->Prop}
end
end L2
namespace Att
open PySem PySem.W PySem.Calls PyProof.Rows
end Att
namespace L2
open PySem PySem.Spec PyProof.Rows
section
variable {X : Cx}
end
section
variable {κ : Type} [DecidableEq κ]
end
end L2
set_option maxHeartbeats 4000000
namespace J
open PySem PySem.Spec PyProof.Rows L2
def T6(h base:Heap)(e:adi)(cls a0 fl:ado):Prop :=
 ∃ox us T ot ws,h.get? e=some ox/\(ox.cls=cls/\us[2]? =some aS)/\ox.data= .fields us/\us[1]? =some (.ref T)/\base.get? T=none/\T≠e/\h.get? T=some ot/\ot.data= .fields ws/\ws[3]? =some fl
abbrev IF(base:Heap)(l:List Env)(e:adi)(cls a0 fl:ado)(h:Heap):Prop:=base.StaysIn h/\base.get? e=none/\h.FunFrames base l/\T6 h base e cls a0 fl
def DP(base:Heap)(l:List Env)(e:adi)(cls a0:ado)(L:adi)(h:Heap):Prop:=IF base l e cls a0 (rawInt L) h
def Nc(base:Heap)(l:List Env)(e:adi)(cls a0:ado)(h:Heap):Prop:=IF base l e cls a0 .none h
section
variable {M:Model} {A:adj} {E:ado->adn->Prop} {s:adn} {base:Heap} {env:Env} {outer l:List Env} {L e:adi} {cls a0 nt:ado} {Q:Unit->adn->Prop}
theorem xR{h h1:Heap}{S:List adi}{ox ob:Obj}{us ws:Array ado}(so:Heap.SlotsOnly S h h1)(hS:S=l.filterMap (·.frame))(fs:h.FunFrames base l)(g1:h.get? e=some ox)(g3:ox.data= .fields us)(st:base.StaysIn h)(ne:base.get? e=none)(sz:1 < us.size)(g2:us[2]? =some aS)
  (d:ob.data= .fields ws)(w3:ws[3]? =some nt)(nf:ob.isFreed=false) :
  IF base l e ox.cls a0 nt ((h1.push ob).update e (fu (·.setIfInBounds 1 (.ref h1.objs.size))))/\h.UpToSlots ((h1.push ob).update e (fu (·.setIfInBounds 1 (.ref h1.objs.size)))):=by
 have nS:e∉S:=λz=>by
  rw[hS] at z
  obtain⟨_,o2,q2,d2⟩:=fs.mem z
  rw[g1] at q2
  cases q2
  exact d2 us g3
 have q1:h1.get? e=some ox:=(so.2.1 e nS).trans g1
 have lt:e≠h1.objs.size:=aX (aF q1)
 have Ya:∀b o,b≠e->h1.get? b=some o->((h1.push ob).update e (fu (·.setIfInBounds 1 (.ref h1.objs.size)))).get? b=some o:=λb o n q=>(pQ _ _ (ay n)).trans (aL _ q)
 have up:h.UpToSlots ((h1.push ob).update e (fu (·.setIfInBounds 1 (.ref h1.objs.size)))):=λb o q n=>by
  obtain⟨sl,q2⟩:=so.2.2 b o q
  exact⟨sl,Ya b _ (λz=>by rw[z,g1] at q;cases q;exact n us g3) q2⟩
 have stay:base.StaysIn h1:=λb o q=>(so.2.1 b λz=>by
  rw[hS] at z
  rw[(fs.mem z).1] at q
  cases q).trans (st b o q)
 have fresh:base.get? h1.objs.size=none:=by
  cases z:base.get? h1.objs.size with
  | none=>rfl
  | some o=>exact absurd (aF (stay _ _ z)) (cb _)
 have d1:=h_ g3 (·.setIfInBounds 1 (aB h1.objs.size))
 refine⟨⟨λb o q=>Ya b o (λz=>by rw[z,ne] at q;cases q) (stay b o q),ne,fs.of_keeps λb o q n=>?_,_,_,h1.objs.size,ob,ws,j7 _ (aL _ q1) (pe d1),⟨t7 _ _,?_⟩,d1,by simp[sz],fresh,ay lt,?_,d,w3⟩,up⟩
 ·obtain⟨sl,q2⟩:=up b o q n
  exact⟨_,q2,rfl⟩
 ·rw[Array.getElem?_setIfInBounds_ne (by decide)];exact g2
 ·exact(pQ _ _ lt).trans (aU _ nf)
theorem DQ{ox:Obj}{us:Array ado}{head:ado}{had:Bool}(hfr:A.frames=some (env::outer))(fs:s.heap.FunFrames base (env::outer))(hf:env.frame=some L)(g1:s.heap.get? e=some ox)(st:base.StaysIn s.heap)(ne:base.get? e=none)(g3:ox.data= .fields us)(sz:1 < us.size)(g2:us[2]? =some aS)
  (k:∀h',DP base (env::outer) e ox.cls a0 L h'->s.heap.UpToSlots h'->Q () { s with heap:=h' }) :
  adC M A (do let a <-frameOf env;let pl <-entryPlaceOf L had;let b <-Nd head a .none (rawInt L) .none pl;setField (.ref e) 1 b) Q E s:=by
 refine adD (wpAny_frameOf_fun hfr fs hf λh1 so=>adD (wpAny_entryPlaceOf λpl pp=>?_))
 have nS:e∉(env::outer).filterMap (·.frame):=λz=>by
  obtain⟨_,o2,q2,d2⟩:=fs.mem z
  rw[g1] at q2
  cases q2
  exact d2 us g3
 have q1:h1.get? e=some ox:=(so.2.1 e nS).trans g1
 simp only[Nd,newFields]
 refine adD (adI (wpAny_setField (aL _ q1) g3 sz ?_) (pp.sizeOk5 _ _ _ _ _))
 obtain⟨m,up⟩:=xR (a0:=a0) (nt:=rawInt L) so rfl fs g1 g3 st ne sz g2 (ob:={ cls:=.type "traceback",dict:=none,data:=.fields ([head,.ref L,.none,rawInt L,.none]++(if pl.isEmpty then aQ 6 aS else pl)).toArray }) rfl (by first | (simp;done) | (rcases pp with rfl | ⟨_,_,_,_,_,_,_,rfl⟩<;>simp)) rfl
 exact k _ m up
theorem Nf(hf:env.frame=some L)(x:T6 s.heap base e cls a0 (rawInt L))(k:Q () s):adC M A (noteFrame (.ref e) env) Q E s:=by
 obtain⟨ox,us,T,ot,ws,g1,g2,g3,g4,g5,g6,g7,g8,g9⟩:=x
 unfold noteFrame
 simp only[hf]
 refine adD (wpAny_field g1 g3 g4 ?_)
 rw[if_pos (by simp)]
 refine adD (wpAny_field g7 g8 g9 ?_)
 rw[if_pos (by simp)]
 exact adJ k
theorem La(x:IF base l e cls a0 nt s.heap)(k:∀h',Nc base l e cls a0 h'->s.heap.UpToSlots h'->Q () { s with heap:=h' }):adC M A (setFlight (.ref e) none) Q E s:=by
 obtain⟨x1,x2,x3,ox,us,T,ot,ws,g1,g2,g3,g4,g5,g6,g7,g8,g9⟩:=x
 have sz:3 < ws.size:=(Array.getElem?_eq_some_iff.mp g9).1
 unfold setFlight
 refine adD (wpAny_field g1 g3 g4 ?_)
 rw[if_pos (by simp)]
 refine wpAny_setField g7 g8 sz ?_
 generalize hu:s.heap.update T _=h'
 have ap:∀b,b≠T->h'.get? b=s.heap.get? b:=λb n=>by rw[<-hu];exact pQ _ _ (ay n)
 have pl:∀b o,s.heap.get? b=some o->(∀vs,o.data≠.fields vs)->h'.get? b=some o:=λb o q n=>(ap b λz=>by rw[z,g7] at q;cases q;exact n ws g8).trans q
 refine k h' ⟨λb o q=>(ap b λz=>by rw[z,g5] at q;cases q).trans (x1 b o q),x2,x3.of_keeps λb o q n=>⟨o,pl b o q n,rfl⟩,ox,us,T,fu (·.setIfInBounds 3 .none) ot,ws.setIfInBounds 3 .none,(ap e (ay g6)).trans g1,g2,g3,g4,g5,g6,?_,h_ g8 _,?_⟩ λb o q n=>⟨o.slots,pl b o q n⟩
 ·rw[<-hu];exact j7 _ g7 (pe (h_ g8 _))
 ·simp[sz]
end
structure Lm where
 a:adi
 c:adi
 q:PySem.Str
 xs:List V
inductive Wv where
 | non
 | bl (b:Bool)
 | int (i:Int)
 | str (x:PySem.Str)
 | tup (ws:List Wv)
 | og (ws:List Wv)
 | ref (l:Nat)
 | ty (n:String)
 | cls (c:PySem.Str)
 | vx (c:PySem.Str)
 | fn (p:Lm) (ws:List Wv)
inductive Ob where
 | lst (ws:List Wv)
 | sj (ns:List Int)
 | dct (kvs:List (L2.Key×Wv))
 | gw (kvs:List (List L2.Key×Wv))
 | lR (kvs:List (List L2.Key×Wv))
 | DR (kvs:List (L2.Key×Wv))
 | iU (kvs:List (NK.KD×Wv))
abbrev Hs:=List Ob
abbrev St:=L2.St
abbrev bw:=List (Option Wv)
abbrev Mp:=List adi
def DS(a C:adi):Heap->Prop:=λh=>∃o,h.get? a=some o/\o.cls= .ref C/\∃vs,o.data= .fields vs
def T7(a C:adi)(u:Option HO):Prop:=∃o vs,u=some (.gH o (.ext (DS a C)))/\o.data= .fields vs/\vs[2]? =some aS
theorem Lb{P:adm}{w:adp}{H:Hp}{h:Heap}{a C:adi}(ok:jb P w H h)(x:T7 a C (H a)):DS a C h:=let ⟨_,_,e,_⟩:=x;(ok a _ e).2.1
def ClsAt(K:PySem.W.Frag)(c:PySem.Str)(C:adi):Prop:=PySem.W.nsIn K adz c=some (some (.ref C))
def pW(c:adi)(q:PySem.Str):Heap->Prop:=λh=>h.CodeRec (.ref c) q
def br:List PySem.Str:=["form_of","formula_by","turned","readied_content","ordered"]
def bu(K:PySem.W.Frag)(q:PySem.Str):Option adi:=match PySem.W.tabIn K q with
 | some (_,P)=>if(K.lookup P).isNone=true then some P else none
 | none=>none
def nu(q:PySem.Str):PySem.Str:=(q++".<locals>.")++"<lambda>"
def lS(K:PySem.W.Frag)(H:Hp):Prop:=∀q P,q∈br->bu K q=some P->∃ps,H P=some (.iW ps)/\TriplesOk ps.toList/\∀pos cv,codeAmong pos ps.toList=some cv->∃c,cv= .ref c/\H c=some (.ext (pW c (nu q)))
theorem lS.keep{K:PySem.W.Frag}{H H':Hp}(t:lS K H)(h1:∀a ps,H a=some (.iW ps)->H' a=some (.iW ps))(h2:∀a φ,H a=some (.ext φ)->H' a=some (.ext φ)):lS K H':=λq P hq hP=>by
 obtain⟨ps,e1,e2,e3⟩:=t q P hq hP
 refine⟨ps,h1 _ _ e1,e2,λpos cv e=>?_⟩
 obtain⟨c,f1,f2⟩:=e3 pos cv e
 exact⟨c,f1,h2 _ _ f2⟩
def Vc(K:PySem.W.Frag)(a:adi)(xs:List V):Prop:=∃(o:Obj)(its:Array ado)(n:Nat),K.lookup a=some o/\o.cls= .type "tuple"/\o.data= .seq its n/\its.size<=adA/\Vals xs its.toList
mutual
def ag(K:PySem.W.Frag)(m:Mp)(H:Hp):Wv->V->Prop
 | .non,v=>v= .non
 | .bl b,v=>v= .bl b
 | .int i,v=>v= .int i
 | .str x,v=>v= .str x/\aO x=true
 | .tup ws,v=>∃a xs,v= .ref a/\H a=some (.tup xs)/\ah K m H ws xs
 | .og ws,v=>∃a xs,v= .ref a/\Vc K a xs/\ah K m H ws xs
 | .ref l,v=>∃a,v= .ref a/\m[l]? =some a
 | .ty n,v=>v= .ty n
 | .cls c,v=>∃C,v= .ref C/\ClsAt K c C
 | .vx c,v=>∃a C,v= .ref a/\ClsAt K c C/\T7 a C (H a)
 | .fn p ws,v=>v= .ref p.a/\H p.c=some (.ext (pW p.c p.q))/\ah K m H ws p.xs
def ah(K:PySem.W.Frag)(m:Mp)(H:Hp):List Wv->List V->Prop
 | [],xs=>xs=[]
 | w::ws,xs=>∃x r,xs=x::r/\ag K m H w x/\ah K m H ws r
end
structure Ext(K:PySem.W.Frag)(m:Mp)(H:Hp)(m':Mp)(H':Hp):Prop where
 pre:∀(l:Nat)(a:adi),m[l]? =some a->m'[l]? =some a
 tup:∀(a:adi)(xs:List V),H a=some (.tup xs)->H' a=some (.tup xs)
 ext:∀(a:adi)(φ:Heap->Prop),H a=some (.ext φ)->H' a=some (.ext φ)
 gH:∀(a:adi)(o:Obj)(u:HO),H a=some (.gH o u)->H' a=some (.gH o u)
section
variable {K:PySem.W.Frag} {m m1 m2:Mp} {H H1 H2:Hp}
theorem Ext.refl:Ext K m H m H:=⟨λ_ _ h=>h,λ_ _ h=>h,λ_ _ h=>h,λ_ _ _ h=>h⟩
theorem Ext.trans(a:Ext K m H m1 H1)(b:Ext K m1 H1 m2 H2):Ext K m H m2 H2 :=
 ⟨λl x h=>b.pre l x (a.pre l x h),λx xs h=>b.tup x xs (a.tup x xs h),λx φ h=>b.ext x φ (a.ext x φ h),λx o u h=>b.gH x o u (a.gH x o u h)⟩
structure vz(K:PySem.W.Frag)(m:Mp)(H:Hp)(m':Mp)(H':Hp):Prop where
 pre:∀(l:Nat)(a:adi),m[l]? =some a->m'[l]? =some a
 tup:∀(a:adi)(xs:List V),H a=some (.tup xs)->H' a=some (.tup xs)
 ext:∀(a:adi)(φ:Heap->Prop),H a=some (.ext φ)->H' a=some (.ext φ)
 fx:∀(a:adi)(o:Obj)(φ:Heap->Prop),H a=some (.gH o (.ext φ))->H' a=some (.gH o (.ext φ))
theorem Ext.z(e:Ext K m H m1 H1):vz K m H m1 H1:=⟨e.pre,e.tup,e.ext,λa o φ h=>e.gH a o _ h⟩
mutual
theorem ag.dG(e:vz K m H m1 H1):∀(w:Wv)(v:V),ag K m H w v->ag K m1 H1 w v
 | .non,v,h=>by unfold ag at h ⊢;exact h
 | .bl b,v,h=>by unfold ag at h ⊢;exact h
 | .int i,v,h=>by unfold ag at h ⊢;exact h
 | .str x,v,h=>by unfold ag at h ⊢;exact h
 | .ty n,v,h=>by unfold ag at h ⊢;exact h
 | .cls c,v,h=>by unfold ag at h ⊢;exact h
 | .vx c,v,h=>by
  unfold ag at h ⊢
  obtain⟨a,C,e1,e2,o,vs,e3,e4⟩:=h
  exact⟨a,C,e1,e2,o,vs,e.fx _ _ _ e3,e4⟩
 | .ref l,v,h=>by
  unfold ag at h ⊢
  obtain⟨a,e1,e2⟩:=h
  exact⟨a,e1,e.pre _ _ e2⟩
 | .tup ws,v,h=>by
  unfold ag at h ⊢
  obtain⟨a,xs,e1,e2,e3⟩:=h
  exact⟨a,xs,e1,e.tup _ _ e2,ah.dG e ws xs e3⟩
 | .og ws,v,h=>by
  unfold ag at h ⊢
  obtain⟨a,xs,e1,e2,e3⟩:=h
  exact⟨a,xs,e1,e2,ah.dG e ws xs e3⟩
 | .fn p ws,v,h=>by
  unfold ag at h ⊢
  obtain⟨e1,e2,e3⟩:=h
  exact⟨e1,e.ext _ _ e2,ah.dG e ws p.xs e3⟩
theorem ah.dG(e:vz K m H m1 H1):∀(ws:List Wv)(xs:List V),ah K m H ws xs->ah K m1 H1 ws xs
 | [],xs,h=>by unfold ah at h ⊢;exact h
 | w::ws,xs,h=>by
  unfold ah at h ⊢
  obtain⟨x,r,e1,e2,e3⟩:=h
  exact⟨x,r,e1,ag.dG e w x e2,ah.dG e ws r e3⟩
end
theorem ag.mono(e:Ext K m H m1 H1)(w:Wv)(v:V)(h:ag K m H w v):ag K m1 H1 w v:=ag.dG e.z w v h
theorem ah.mono(e:Ext K m H m1 H1)(ws:List Wv)(xs:List V)(h:ah K m H ws xs):ah K m1 H1 ws xs:=ah.dG e.z ws xs h
theorem ah.nil:ah K m H [] []:=by unfold ah;rfl
theorem ah.cons{w:Wv}{x:V}{ws:List Wv}{xs:List V}(h:ag K m H w x)(t:ah K m H ws xs):ah K m H (w::ws) (x::xs):=by unfold ah;exact⟨x,xs,rfl,h,t⟩
theorem ah.length:∀{ws:List Wv}{xs:List V},ah K m H ws xs->ws.length=xs.length
 | [],xs,h=>by unfold ah at h;subst h;rfl
 | w::ws,xs,h=>by
  unfold ah at h
  obtain⟨x,r,e1,_,e3⟩:=h
  subst e1
  simp[ah.length e3]
theorem ah.get:∀{ws:List Wv}{xs:List V}{i:Nat}{w:Wv},ah K m H ws xs->ws[i]? =some w->∃x,xs[i]? =some x/\ag K m H w x
 | [],_,i,w,_,e=>by simp at e
 | a::ws,xs,0,w,h,e=>by
  unfold ah at h
  obtain⟨x,r,e1,e2,_⟩:=h
  subst e1
  simp at e
  subst e
  exact⟨x,rfl,e2⟩
 | a::ws,xs,i+1,w,h,e=>by
  unfold ah at h
  obtain⟨x,r,e1,_,e3⟩:=h
  subst e1
  obtain⟨y,f1,f2⟩:=ah.get (i:=i) (w:=w) e3 (by simpa using e)
  exact⟨y,by simpa using f1,f2⟩
theorem ah.append:∀{ws zs:List Wv}{xs ys:List V},ah K m H ws xs->ah K m H zs ys->ah K m H (ws++zs) (xs++ys)
 | [],_,xs,_,h,g=>by unfold ah at h;subst h;exact g
 | w::ws,zs,xs,ys,h,g=>by
  unfold ah at h
  obtain⟨x,r,e1,e2,e3⟩:=h
  subst e1
  exact ah.cons e2 (ah.append e3 g)
theorem ah.set:∀{ws:List Wv}{xs:List V}(i:Nat){w:Wv}{x:V},ah K m H ws xs->ag K m H w x->ah K m H (ws.set i w) (xs.set i x)
 | [],xs,i,w,x,h,_=>by unfold ah at h;subst h;exact ah.nil
 | a::ws,xs,0,w,x,h,g=>by
  unfold ah at h
  obtain⟨y,r,e1,e2,e3⟩:=h
  subst e1
  exact ah.cons g e3
 | a::ws,xs,i+1,w,x,h,g=>by
  unfold ah at h
  obtain⟨y,r,e1,e2,e3⟩:=h
  subst e1
  exact ah.cons e2 (ah.set i e3 g)
theorem ah.drop:∀{ws:List Wv}{xs:List V}(i:Nat),ah K m H ws xs->ah K m H (ws.drop i) (xs.drop i)
 | ws,xs,0,h=>by simpa using h
 | [],xs,i+1,h=>by unfold ah at h;subst h;simpa using ah.nil
 | a::ws,xs,i+1,h=>by
  unfold ah at h
  obtain⟨y,r,e1,e2,e3⟩:=h
  subst e1
  simpa using ah.drop i e3
theorem ah.take:∀{ws:List Wv}{xs:List V}(i:Nat),ah K m H ws xs->ah K m H (ws.take i) (xs.take i)
 | ws,xs,0,h=>by simpa using ah.nil
 | [],xs,i+1,h=>by unfold ah at h;subst h;simpa using ah.nil
 | a::ws,xs,i+1,h=>by
  unfold ah at h
  obtain⟨y,r,e1,e2,e3⟩:=h
  subst e1
  simpa using ah.cons e2 (ah.take i e3)
theorem ah.ints:∀(ns:List Int),ah K m H (ns.map Wv.int) (ns.map V.int)
 | []=>ah.nil
 | n::ns=>ah.cons (by unfold ag;rfl) (ah.ints ns)
end
def vA(K:PySem.W.Frag)(H:Hp)(a:adi)(ns:List Int):Prop :=
 (∃o,H a=some (.gH o (.lst (ns.map V.int))))\/
  ∃(o:Obj)(its:Array ado)(n:Nat),K.lookup a=some o/\o.cls= .type "list"/\o.dict=none/\o.data= .seq its n/\its.size<=adA/\Vals (ns.map V.int) its.toList
def RelK{κ:Type}(K:PySem.W.Frag)(m:Mp)(H:Hp)(kvs:List (κ×Wv))(xs:List (κ×V)):Prop:=kvs.map (·.1)=xs.map (·.1)/\ah K m H (kvs.map (·.2)) (xs.map (·.2))
def rJ(K:PySem.W.Frag)(m:Mp)(H:Hp)(a:adi):Ob->Prop
 | .lst ws=>∃xs,H a=some (.lst xs)/\ah K m H ws xs
 | .sj ns=>vA K H a ns
 | .dct kvs=>∃xs,H a=some (.dK xs)/\RelK K m H kvs xs
 | .gw kvs=>∃xs,H a=some (.dT xs)/\RelK K m H kvs xs
 | .lR kvs=>∃o xs,H a=some (.gH o (.dT xs))/\RelK K m H kvs xs
 | .DR kvs=>∃o xs,H a=some (.gH o (.dK xs))/\RelK K m H kvs xs
 | .iU kvs=>∃xs,H a=some (.dN xs)/\RelK K m H kvs xs
def Ob.mu:Ob->Bool
 | .sj _=>false
 | _=>true
def Ob.wm:Ob->Bool
 | .sj _=>false
 | .lR _=>false
 | .DR _=>false
 | _=>true
theorem Ob.Q3{o:Ob}(h:o.wm=true):o.mu=true:=by cases o<;>first | rfl | cases h
structure a_(K:PySem.W.Frag)(m:Mp)(st:Hs)(H:Hp):Prop where
 len:m.length=st.length
 obj:∀(l:Nat)(a:adi)(o:Ob),m[l]? =some a->st[l]? =some o->rJ K m H a o
 inj:∀(l l':Nat)(a:adi)(o o':Ob),m[l]? =some a->m[l']? =some a->st[l]? =some o->st[l']? =some o'->o.mu=true->o'.mu=true->l=l'
 tab:lS K H
def av(st:Hs)(l:Nat):Option (List Wv):=match st[l]? with
 | some (.lst ws)=>some ws
 | some (.sj ns)=>some (ns.map Wv.int)
 | _=>none
section
variable {K:PySem.W.Frag} {m:Mp} {H:Hp} {st:Hs}
def Wr(u:Option HO):Prop:=u=none\/(∃ys,u=some (.lst ys))\/(∃ys,u=some (.dK ys))\/(∃ys,u=some (.dT ys))\/∃ys,u=some (.dN ys)
theorem Wr.ne{p a:adi}{u:HO}(hp:Wr (H p))(e:H a=some u)(n1:∀ys,u≠.lst ys)(n2:∀ys,u≠.dK ys)(n3:∀ys,u≠.dT ys)(n4:∀ys,u≠.dN ys):a≠p:=λz=>by
 subst z
 rcases hp with q | ⟨ys,q⟩ | ⟨ys,q⟩ | ⟨ys,q⟩ | ⟨ys,q⟩
 ·rw[q] at e;cases e
 ·rw[q] at e;cases e;exact n1 ys rfl
 ·rw[q] at e;cases e;exact n2 ys rfl
 ·rw[q] at e;cases e;exact n3 ys rfl
 ·rw[q] at e;cases e;exact n4 ys rfl
theorem DT{p a:adi}{o:HO}{xs:List V}(hp:Wr (H p))(h:H a=some (.tup xs)):upd H p o a=some (.tup xs):=by
 rw[au (hp.ne h nofun nofun nofun nofun)];exact h
theorem DU{p a:adi}{o:HO}{ns:List Int}(hp:Wr (H p))(h:vA K H a ns):vA K (upd H p o) a ns:=by
 rcases h with ⟨o',h⟩ | h
 ·exact .inl ⟨o',by rw[au (hp.ne h nofun nofun nofun nofun)];exact h⟩
 ·exact .inr h
theorem Wr.of{u:Option HO}(h:u=none\/∃ys,u=some (.lst ys)):Wr u:=by
 rcases h with q | q
 ·exact .inl q
 ·exact .inr (.inl q)
theorem Ext.iG{p:adi}{o:HO}(hp:Wr (H p)):Ext K m H m (upd H p o):=⟨λ_ _ h=>h,λ_ _ h=>DT hp h,λa φ h=>by
 rw[au (hp.ne h nofun nofun nofun nofun)]
 exact h,λa o u h=>by
 rw[au (hp.ne h nofun nofun nofun nofun)]
 exact h⟩
theorem Ext.upd{p:adi}{o:HO}(hp:H p=none\/∃ys,H p=some (.lst ys)):Ext K m H m (upd H p o):=Ext.iG (Wr.of hp)
theorem RelK.mono{κ:Type}{m1:Mp}{H1:Hp}{kvs:List (κ×Wv)}{xs:List (κ×V)}(e:Ext K m H m1 H1)(h:RelK K m H kvs xs):RelK K m1 H1 kvs xs:=⟨h.1,ah.mono e _ _ h.2⟩
theorem rJ.keep{m1:Mp}{b p:adi}{u:HO}{o:Ob}(ex:Ext K m H m1 (L2.upd H p u))(hp:Wr (H p))(hb:o.mu=true->b≠p)(h:rJ K m H b o):rJ K m1 (L2.upd H p u) b o:=by
 cases o with
 | lst ws=>
  obtain⟨xs,e1,e2⟩:=h
  exact⟨xs,by rw[au (hb rfl)];exact e1,ah.mono ex _ _ e2⟩
 | dct kvs=>
  obtain⟨xs,e1,e2⟩:=h
  exact⟨xs,by rw[au (hb rfl)];exact e1,e2.mono ex⟩
 | gw kvs=>
  obtain⟨xs,e1,e2⟩:=h
  exact⟨xs,by rw[au (hb rfl)];exact e1,e2.mono ex⟩
 | lR kvs=>
  obtain⟨o,xs,e1,e2⟩:=h
  exact⟨o,xs,by rw[au (hb rfl)];exact e1,e2.mono ex⟩
 | DR kvs=>
  obtain⟨o,xs,e1,e2⟩:=h
  exact⟨o,xs,by rw[au (hb rfl)];exact e1,e2.mono ex⟩
 | iU kvs=>
  obtain⟨xs,e1,e2⟩:=h
  exact⟨xs,by rw[au (hb rfl)];exact e1,e2.mono ex⟩
 | sj ns=>exact DU hp h
theorem rJ.at{b:adi}{o:Ob}(h:rJ K m H b o)(hm:o.mu=true):∃u,H b=some u:=by
 cases o with
 | lst ws=>obtain⟨xs,e1,e2⟩:=h;exact⟨_,e1⟩
 | dct kvs=>obtain⟨xs,e1,e2⟩:=h;exact⟨_,e1⟩
 | gw kvs=>obtain⟨xs,e1,e2⟩:=h;exact⟨_,e1⟩
 | lR kvs=>obtain⟨o,xs,e1,e2⟩:=h;exact⟨_,e1⟩
 | DR kvs=>obtain⟨o,xs,e1,e2⟩:=h;exact⟨_,e1⟩
 | iU kvs=>obtain⟨xs,e1,e2⟩:=h;exact⟨_,e1⟩
 | sj ns=>simp[Ob.mu] at hm
theorem rJ.wr{b:adi}{o:Ob}(h:rJ K m H b o)(hm:o.wm=true):Wr (H b):=by
 cases o with
 | lst ws=>obtain⟨xs,e1,e2⟩:=h;exact .inr (.inl ⟨_,e1⟩)
 | dct kvs=>obtain⟨xs,e1,e2⟩:=h;exact .inr (.inr (.inl ⟨_,e1⟩))
 | gw kvs=>obtain⟨xs,e1,e2⟩:=h;exact .inr (.inr (.inr (.inl ⟨_,e1⟩)))
 | iU kvs=>obtain⟨xs,e1,e2⟩:=h;exact .inr (.inr (.inr (.inr ⟨_,e1⟩)))
 | lR kvs=>cases hm
 | DR kvs=>cases hm
 | sj ns=>cases hm
theorem lS.iG{p:adi}{o:HO}(t:lS K H)(hp:Wr (H p)):lS K (L2.upd H p o):=t.keep
 (λa ps h=>by rw[au (hp.ne h nofun nofun nofun nofun)];exact h)
 λa φ h=>by rw[au (hp.ne h nofun nofun nofun nofun)];exact h
theorem Ext.more{p:adi}:Ext K m H (m++[p]) H:=⟨λl a h=>by
 rw[d_]
 ·exact h
 ·exact(List.getElem?_eq_some_iff.mp h).1,λ_ _ h=>h,λ_ _ h=>h,λ_ _ _ h=>h⟩
theorem a_.fresh{p:adi}{o:HO}(S:a_ K m st H)(hp:H p=none):a_ K m st (upd H p o) :=
 ⟨S.len,λl a ob h1 h2=>by
  have q:=S.obj l a ob h1 h2
  refine q.keep (Ext.iG (.inl hp)) (.inl hp) λhm=>?_
  obtain⟨u,e⟩:=q.at hm
  exact aT e hp,S.inj,S.tab.iG (.inl hp)⟩
theorem a_.zQ{l:Nat}{a:adi}{ws:List Wv}(S:a_ K m st H)(h1:m[l]? =some a)(h2:st[l]? =some (.lst ws)):∃xs,H a=some (.lst xs)/\ah K m H ws xs:=S.obj l a _ h1 h2
theorem a_.read{l:Nat}{a:adi}{ws:List Wv}(S:a_ K m st H)(h1:m[l]? =some a)(h2:av st l=some ws):∃xs,lO K H a xs/\ah K m H ws xs:=by
 unfold av at h2
 cases e:st[l]? with
 | none=>rw[e] at h2;cases h2
 | some o=>
  rw[e] at h2
  cases o with
  | lst zs=>
   cases h2
   obtain⟨xs,e1,e2⟩:=S.zQ h1 e
   exact⟨xs,lO.of e1,e2⟩
  | dct kvs=>cases h2
  | gw kvs=>cases h2
  | lR kvs=>cases h2
  | DR kvs=>cases h2
  | iU kvs=>cases h2
  | sj ns=>
   cases h2
   have q:vA K H a ns:=S.obj l a _ h1 e
   refine⟨ns.map V.int,?_,ah.ints ns⟩
   rcases q with ⟨o,q⟩ | q
   ·exact .inl (.inr ⟨o,q⟩)
   ·exact .inr q
theorem a_.t8{p:adi}{ob:Ob}{u:HO}(S:a_ K m st H)(hp:H p=none)(r:rJ K (m++[p]) (L2.upd H p u) p ob):a_ K (m++[p]) (st++[ob]) (L2.upd H p u):=by
 have ex:Ext K m H (m++[p]) (L2.upd H p u):=Ext.more.trans (Ext.iG (.inl hp))
 have DV:∀(l:Nat)(o:Ob),m[l]? =some p->st[l]? =some o->o.mu=true->False:=λl o h1 h2 hm=>by
  obtain⟨v,e⟩:=(S.obj l p o h1 h2).at hm
  rw[hp] at e;cases e
 have old:∀(l:Nat)(a:adi),(m++[p])[l]? =some a->(l < m.length/\m[l]? =some a)\/(l=m.length/\a=p):=λl a h=>by
  by_cases hl:l < m.length
  ·exact .inl ⟨hl,by rw[d_ hl] at h;exact h⟩
  ·have h':=h
   rw[gP (by omega)] at h'
   have z:=List.getElem?_eq_some_iff.mp h'
   have z1:l - m.length < 1:=by simpa using z.1
   refine .inr ⟨by omega,?_⟩
   have e0:l - m.length=0:=by omega
   rw[e0] at h'
   simpa using h'.symm
 have olds:∀(l:Nat)(o:Ob),l < m.length->(st++[ob])[l]? =some o->st[l]? =some o:=λl o hl h=>by
  rw[d_ (by rw[<-S.len];exact hl)] at h
  exact h
 refine⟨by simp[S.len],λl a o h1 h2=>?_,λl l' a zs zs' h1 Lc h2 h2' k k'=>?_,S.tab.iG (.inl hp)⟩
 ·rcases old l a h1 with ⟨hl,h1⟩ | ⟨hl,rfl⟩
  ·have q:=S.obj l a o h1 (olds l o hl h2)
   refine q.keep ex (.inl hp) λhm=>?_
   obtain⟨v,e⟩:=q.at hm
   exact aT e hp
  ·have e:o=ob:=by
    rw[hl,S.len,gP (aj _),pf] at h2
    simpa using h2.symm
   subst e
   exact r
 ·rcases old l a h1 with ⟨hl,g1⟩ | ⟨hl,ea⟩
  ·rcases old l' a Lc with ⟨hl',C7⟩ | ⟨hl',ea'⟩
   ·exact S.inj l l' a zs zs' g1 C7 (olds l _ hl h2) (olds l' _ hl' h2') k k'
   ·rw[ea'] at g1
    exact(DV l zs g1 (olds l _ hl h2) k).elim
  ·rcases old l' a Lc with ⟨hl',C7⟩ | ⟨hl',_⟩
   ·rw[ea] at C7
    exact(DV l' zs' C7 (olds l' _ hl' h2') k').elim
   ·omega
theorem a_.alloc{p:adi}{ws:List Wv}{xs:List V}(S:a_ K m st H)(hp:H p=none)(r:ah K m H ws xs):a_ K (m++[p]) (st++[.lst ws]) (upd H p (.lst xs)) :=
 S.t8 hp ⟨xs,aP,ah.mono (Ext.more.trans (Ext.iG (.inl hp))) _ _ r⟩
theorem a_.pX{l:Nat}{a:adi}{o0 ob:Ob}{u:HO}(S:a_ K m st H)(h1:m[l]? =some a)(h2:st[l]? =some o0)(hw:o0.wm=true)(r:rJ K m (L2.upd H a u) a ob):a_ K m (st.set l ob) (L2.upd H a u):=by
 have wr:Wr (H a):=(S.obj l a o0 h1 h2).wr hw
 have hm:=Ob.Q3 hw
 have ex:Ext K m H m (L2.upd H a u):=Ext.iG wr
 have hl:l < st.length:=(List.getElem?_eq_some_iff.mp h2).1
 have at':∀(k:Nat)(o:Ob),(st.set l ob)[k]? =some o->(k=l/\o=ob)\/(k≠l/\st[k]? =some o):=λk o h=>by
  by_cases e:l=k
  ·subst e
   rw[nk hl] at h
   exact .inl ⟨rfl,(Option.some.inj h).symm⟩
  ·rw[a9 e] at h
   exact .inr ⟨λz=>e z.symm,h⟩
 refine⟨by simp[S.len],λk b o g1 g2=>?_,λk k' b us us' g1 C7 g2 Q4 q q'=>?_,S.tab.iG wr⟩
 ·rcases at' k o g2 with ⟨rfl,rfl⟩ | ⟨hk,g2⟩
  ·rw[h1] at g1;cases g1
   exact r
  ·have q:=S.obj k b o g1 g2
   refine q.keep ex wr λho z=>?_
   subst z
   exact hk (S.inj k l b o o0 g1 h1 g2 h2 ho hm)
 ·have back:∀(k:Nat)(o:Ob),(st.set l ob)[k]? =some o->o.mu=true->∃o',st[k]? =some o'/\o'.mu=true:=λk o h ho=>by
   rcases at' k _ h with ⟨rfl,_⟩ | ⟨_,h⟩
   ·exact⟨o0,h2,hm⟩
   ·exact⟨o,h,ho⟩
  obtain⟨u1,e1,f1⟩:=back k us g2 q
  obtain⟨u2,e2,f2⟩:=back k' us' Q4 q'
  exact S.inj k k' b u1 u2 g1 C7 e1 e2 f1 f2
theorem a_.write{l:Nat}{a:adi}{ws zs:List Wv}{xs:List V}(S:a_ K m st H)(h1:m[l]? =some a)(h2:st[l]? =some (.lst ws))(r:ah K m H zs xs):a_ K m (st.set l (.lst zs)) (upd H a (.lst xs)) :=
 S.pX h1 h2 rfl ⟨xs,aP,ah.mono (Ext.iG ((S.obj l a _ h1 h2).wr rfl)) _ _ r⟩
end
structure aA(K:PySem.W.Frag)(m:Mp)(H:Hp)(ρ:bw)(σ:St):Prop where
 len:ρ.length=σ.length
 get:∀(i:Nat)(w:Wv),ρ[i]? =some (some w)->∃v,σ[i]? =some (some v)/\ag K m H w v
section
variable {K:PySem.W.Frag} {m m1:Mp} {H H1:Hp} {ρ:bw} {σ:St}
theorem aA.mono(R:aA K m H ρ σ)(e:Ext K m H m1 H1):aA K m1 H1 ρ σ:=⟨R.len,λi w h=>let ⟨v,h1,h2⟩:=R.get i w h;⟨v,h1,ag.mono e _ _ h2⟩⟩
theorem aA.set(R:aA K m H ρ σ)(i:Nat){w:Wv}{v:V}(h:ag K m H w v):aA K m H (ρ.set i (some w)) (σ.set i (some v)):=by
 refine⟨by simp[R.len],λj u e=>?_⟩
 by_cases hj:i=j
 ·subst hj
  have hi:i < ρ.length:=by
   have:=(List.getElem?_eq_some_iff.mp e).1
   simpa using this
  rw[nk hi] at e
  have e':w=u:=Option.some.inj (Option.some.inj e)
  subst e'
  exact⟨v,by rw[nk (by rw[<-R.len];exact hi)],h⟩
 ·rw[a9 hj] at e
  obtain⟨x,h1,h2⟩:=R.get j u e
  exact⟨x,by rw[a9 hj];exact h1,h2⟩
end
inductive Re(α:Type) where
 | ok (a:α) (st:Hs)
 | err (c:PySem.Str) (st:Hs)
 | bad
def Re.bind{α β:Type}(r:Re α)(f:α->Hs->Re β):Re β:=match r with
 | .ok a st=>f a st
 | .err c st=> .err c st
 | .bad=> .bad
inductive Rs where
 | nx (ρ:bw) (st:Hs)
 | rt (w:Wv) (st:Hs)
 | bk (ρ:bw) (st:Hs)
 | ct (ρ:bw) (st:Hs)
 | err (c:PySem.Str) (ρ:bw) (st:Hs)
 | bad
def Re.bA{α:Type}(ρ:bw)(r:Re α)(f:α->Hs->Rs):Rs:=match r with
 | .ok a st=>f a st
 | .err c st=> .err c ρ st
 | .bad=> .bad
def Re.mn{α:Type}(r:Re α):Re α:=match r with
 | .ok a st=> .ok a st
 | _=> .bad
abbrev GE:=bw->Hs->Re Wv
abbrev GT:=bw->Hs->Re Bool
abbrev GA:=bw->Hs->Re (List Wv)
abbrev GS:=bw->Hs->Rs
def vB(P:adm)(w:adp)(outer:List Env)(H:Hp)(s:adn)(H':Hp)(cls:ado)(e:ado)(s':adn):Prop :=
 ∃(a:adi)(a0:ado)(B:Heap),e= .ref a/\s'.os=s.os/\AllBare s'.gens/\Un (frs outer) [] H H' s.heap s'.heap/\jb P w H' B/\Nc B outer a cls a0 s'.heap/\
  (∀b o,s.heap.get? b=some o->b∉frs outer->∃o',B.get? b=some o'/\(H b=none->o'=o))
def xS(X:Cx)(pins:List (adi×Obj))(H:Hp)(s:adn)(H':Hp)(cls:ado)(e:ado)(s':adn):Prop :=
 ∃(a:adi)(a0 nt:ado)(B:Heap)(ch:List adi),e= .ref a/\s'.os=s.os/\AllBare s'.gens/\(∀b∈ch,eN X pins H b)/\Un (frs X.stack) ch H H' s.heap s'.heap/\jb X.prog X.w H' B/\
  (B.StaysIn s'.heap/\B.get? a=none/\s'.heap.FunFrames B X.stack/\T6 s'.heap B a cls a0 nt)/\
  (∀b o,s.heap.get? b=some o->b∉frs X.stack->b∉ch->∃o',B.get? b=some o'/\(H b=none->o'=o))
theorem vB.any{X:Cx}{pins:List (adi×Obj)}{H H':Hp}{s s':adn}{cls e:ado}(f:vB X.prog X.w X.stack H s H' cls e s'):xS X pins H s H' cls e s' :=
 let ⟨a,a0,B,e1,e2,e3,un,hok,fl,Q5⟩:=f
 ⟨a,a0,.none,B,[],e1,e2,e3,(λb z=>by cases z),un,hok,fl,λb o q hb _=>Q5 b o q hb⟩
def t9(X:Cx)(σ:St)(H':Hp)(c:PySem.Str)(e:ado)(s':adn):Prop :=
 ∃(C:adi)(pins:List (adi×Obj))(Hc:Hp)(sc:adn),ClsAt X.K c C/\Inv X pins σ Hc sc/\
  (xS X pins Hc sc H' (.ref C) e s'\/(H'=Hc/\∃a args,e= .ref a/\s'.os=sc.os/\s'.gens=sc.gens/\DW sc.heap s'.heap a (.ref C) args))
def P0(X:Cx)(σ:St)(m:Mp)(H:Hp)(c:PySem.Str)(st:Hs):Prop :=
 ∀(m':Mp)(H':Hp)(e:ado)(s':adn),Ext X.K m H m' H'->a_ X.K m' st H'->t9 X σ H' c e s'->X.xe e s'
theorem P0.mono{X:Cx}{σ:St}{m m1:Mp}{H H1:Hp}{c:PySem.Str}{st:Hs}(h:P0 X σ m H c st)(e:Ext X.K m H m1 H1):P0 X σ m1 H1 c st :=
 λm' H' x s' e' S r=>h m' H' x s' (e.trans e') S r
def aw{α:Type}(X:Cx)(σ:St)(m:Mp)(H:Hp)(r:Re α)(ok:α->Hs->Prop):Prop:=match r with
 | .ok a st=>ok a st
 | .err c st=>P0 X σ m H c st
 | .bad=>False
def pY{α:Type}(r:Re α)(ok:α->Hs->Prop):Prop:=match r with
 | .ok a st=>ok a st
 | _=>False
theorem aw.mn{α:Type}{X:Cx}{σ:St}{m:Mp}{H:Hp}{r:Re α}{ok:α->Hs->Prop}(h:aw X σ m H r.mn ok):pY r ok:=by
 cases r with
 | ok a st=>exact h
 | err c st=>exact h
 | bad=>exact h
theorem aw.bind{α β:Type}{X:Cx}{σ:St}{m:Mp}{H:Hp}{r:Re α}{f:α->Hs->Re β}{ok:β->Hs->Prop}(h:aw X σ m H (r.bind f) ok):aw X σ m H r (λa st=>aw X σ m H (f a st) ok):=by
 cases r with
 | ok a st=>exact h
 | err c st=>exact h
 | bad=>exact h
theorem aw.imp{α:Type}{X:Cx}{σ:St}{m m1:Mp}{H H1:Hp}{r:Re α}{ok ok':α->Hs->Prop}(h:aw X σ m H r ok)(e:Ext X.K m H m1 H1)(k:∀a st,ok a st->ok' a st):aw X σ m1 H1 r ok':=by
 cases r with
 | ok a st=>exact k a st h
 | err c st=>exact P0.mono (c:=c) (st:=st) h e
 | bad=>exact h
theorem pY.imp{α:Type}{r:Re α}{ok ok':α->Hs->Prop}(h:pY r ok)(k:∀a st,ok a st->ok' a st):pY r ok':=by
 cases r with
 | ok a st=>exact k a st h
 | err c st=>exact h
 | bad=>exact h
def P4(K:PySem.W.Frag)(m:Mp)(H:Hp)(Q:VK)(w:Wv)(st:Hs):Prop:=∀(v:V)(m':Mp)(H':Hp),Ext K m H m' H'->a_ K m' st H'->ag K m' H' w v->Q v H'
def okT(K:PySem.W.Frag)(m:Mp)(H:Hp)(Q:Bool->Hp->Prop)(b:Bool)(st:Hs):Prop:=∀(m':Mp)(H':Hp),Ext K m H m' H'->a_ K m' st H'->Q b H'
def okA(K:PySem.W.Frag)(m:Mp)(H:Hp)(Q:List V->Hp->Prop)(ws:List Wv)(st:Hs):Prop:=∀(vs:List V)(m':Mp)(H':Hp),Ext K m H m' H'->a_ K m' st H'->ah K m' H' ws vs->Q vs H'
abbrev eE(X:Cx)(σ:St)(m:Mp)(H:Hp)(r:Re Wv)(Q:VK):Prop:=aw X σ m H r (P4 X.K m H Q)
abbrev iY(X:Cx)(σ:St)(m:Mp)(H:Hp)(r:Re Bool)(Q:Bool->Hp->Prop):Prop:=aw X σ m H r (okT X.K m H Q)
abbrev Ld(X:Cx)(σ:St)(m:Mp)(H:Hp)(r:Re (List Wv))(Q:List V->Hp->Prop):Prop:=aw X σ m H r (okA X.K m H Q)
theorem eE.shift{X:Cx}{σ:St}{m m1:Mp}{H H1:Hp}{r:Re Wv}{Q:VK}(h:eE X σ m H r Q)(e:Ext X.K m H m1 H1):eE X σ m1 H1 r Q:=h.imp e λ_ _ k v m' H' e'=>k v m' H' (e.trans e')
theorem iY.shift{X:Cx}{σ:St}{m m1:Mp}{H H1:Hp}{r:Re Bool}{Q:Bool->Hp->Prop}(h:iY X σ m H r Q)(e:Ext X.K m H m1 H1):iY X σ m1 H1 r Q:=h.imp e λ_ _ k m' H' e'=>k m' H' (e.trans e')
abbrev dI(K:PySem.W.Frag)(m:Mp)(H:Hp)(r:Re Wv)(Q:VK):Prop:=pY r (P4 K m H Q)
theorem dI.shift{K:PySem.W.Frag}{m m1:Mp}{H H1:Hp}{r:Re Wv}{Q:VK}(h:dI K m H r Q)(e:Ext K m H m1 H1):dI K m1 H1 r Q:=pY.imp h λ_ _ k v m' H' e'=>k v m' H' (e.trans e')
def bg(X:Cx)(m:Mp)(H:Hp)(r:Rs)(D:Ends):Prop:=match r with
 | .nx ρ st=>∀(σ:St)(m':Mp)(H':Hp),Ext X.K m H m' H'->a_ X.K m' st H'->aA X.K m' H' ρ σ->D.nx σ H'
 | .rt w st=>∀(v:V)(m':Mp)(H':Hp),Ext X.K m H m' H'->a_ X.K m' st H'->ag X.K m' H' w v->D.rt v H'
 | .bk ρ st=>∀(σ:St)(m':Mp)(H':Hp),Ext X.K m H m' H'->a_ X.K m' st H'->aA X.K m' H' ρ σ->D.bk σ H'
 | .ct ρ st=>∀(σ:St)(m':Mp)(H':Hp),Ext X.K m H m' H'->a_ X.K m' st H'->aA X.K m' H' ρ σ->D.ct σ H'
 | .err c ρ st=>∀(σ:St)(m':Mp)(H':Hp)(e:ado)(s':adn),Ext X.K m H m' H'->a_ X.K m' st H'->aA X.K m' H' ρ σ->t9 X σ H' c e s'->X.xe e s'
 | .bad=>False
theorem bg.shift{X:Cx}{m m1:Mp}{H H1:Hp}{r:Rs}{D:Ends}(h:bg X m H r D)(e:Ext X.K m H m1 H1):bg X m1 H1 r D:=by
 cases r with
 | nx ρ st=>exact λσ m' H' e'=>h σ m' H' (e.trans e')
 | rt w st=>exact λv m' H' e'=>h v m' H' (e.trans e')
 | bk ρ st=>exact λσ m' H' e'=>h σ m' H' (e.trans e')
 | ct ρ st=>exact λσ m' H' e'=>h σ m' H' (e.trans e')
 | err c ρ st=>exact λσ m' H' x s' e'=>h σ m' H' x s' (e.trans e')
 | bad=>exact h
theorem bg.eB{α:Type}{X:Cx}{m:Mp}{H:Hp}{ρ:bw}{σ:St}{r:Re α}{f:α->Hs->Rs}{D:Ends}(R:aA X.K m H ρ σ)(h:bg X m H (r.bA ρ f) D):aw X σ m H r (λa st=>bg X m H (f a st) D):=by
 cases r with
 | ok a st=>exact h
 | err c st=>exact λm' H' x s' e' S r=>h σ m' H' x s' e' S (R.mono e') r
 | bad=>exact h
def SE(X:Cx)(e:Expr):TE:=λσ H Q=>∀(pins:List (adi×Obj))(s:adn),Inv X pins σ H s->adC (model X.prog X.w) X.A (eval e X.env) (EP X pins σ Q) X.xe s
def ST(X:Cx)(e:Expr):TT:=λσ H Q=>∀(pins:List (adi×Obj))(s:adn),Inv X pins σ H s->adC (model X.prog X.w) X.A (isTrue e X.env (eval e X.env)) (TP X pins σ Q) X.xe s
def SA(X:Cx)(es:List Expr):TA:=λσ H Q=>∀(pos:Pos)(pins:List (adi×Obj))(s:adn),Inv X pins σ H s->adC (model X.prog X.w) X.A (spliced (backTo pos (adB es X.env))) (AP X pins σ Q) X.xe s
def SS(X:Cx)(st:Stmt):TS:=λD σ H=>∀(pins:List (adi×Obj))(s:adn),Inv X pins σ H s->adC (model X.prog X.w) X.A (exec st X.env) (SP X pins D) X.xe s
def T8(X:Cx)(st:List Stmt):TS:=λD σ H=>∀(pins:List (adi×Obj))(s:adn),Inv X pins σ H s->adC (model X.prog X.w) X.A (execs st X.env) (SP X pins D) X.xe s
section
variable {X:Cx}
theorem aV{e:Expr}:PE X e (SE X e):=λpins s _ _ _ I h=>h pins s I
theorem pZ{e:Expr}:PT X e (ST X e):=λpins s _ _ _ I h=>h pins s I
theorem kc{es:List Expr}:PA X es (SA X es):=λpos pins s _ _ _ I h=>h pos pins s I
theorem Le{st:Stmt}:PS X st (SS X st):=λpins s _ _ _ I h=>h pins s I
theorem jd{st:List Stmt}:Dj X st (T8 X st):=λpins s _ _ _ I h=>h pins s I
end
def JE(X:Cx)(e:Expr)(g:GE):Prop:=∀(ρ:bw)(st:Hs)(σ:St)(H:Hp)(m:Mp)(Q:VK),a_ X.K m st H->aA X.K m H ρ σ->eE X σ m H (g ρ st) Q->SE X e σ H Q
def JT(X:Cx)(e:Expr)(g:GT):Prop:=∀(ρ:bw)(st:Hs)(σ:St)(H:Hp)(m:Mp)(Q:Bool->Hp->Prop),a_ X.K m st H->aA X.K m H ρ σ->iY X σ m H (g ρ st) Q->ST X e σ H Q
def JA(X:Cx)(es:List Expr)(g:GA):Prop:=∀(ρ:bw)(st:Hs)(σ:St)(H:Hp)(m:Mp)(Q:List V->Hp->Prop),a_ X.K m st H->aA X.K m H ρ σ->Ld X σ m H (g ρ st) Q->SA X es σ H Q
def JS(X:Cx)(s:Stmt)(g:GS):Prop:=∀(ρ:bw)(st:Hs)(σ:St)(H:Hp)(m:Mp)(D:Ends),a_ X.K m st H->aA X.K m H ρ σ->bg X m H (g ρ st) D->SS X s D σ H
def p5(X:Cx)(s:List Stmt)(g:GS):Prop:=∀(ρ:bw)(st:Hs)(σ:St)(H:Hp)(m:Mp)(D:Ends),a_ X.K m st H->aA X.K m H ρ σ->bg X m H (g ρ st) D->T8 X s D σ H
section
variable {X:Cx}
theorem JE.of{e:Expr}{g:GE}{t:TE}(h:PE X e t)(k:∀(ρ:bw)(st:Hs)(σ:St)(H:Hp)(m:Mp)(Q:VK),a_ X.K m st H->aA X.K m H ρ σ->eE X σ m H (g ρ st) Q->t σ H Q):JE X e g :=
 λρ st σ H m Q S R p pins s I=>h pins s σ H Q I (k ρ st σ H m Q S R p)
theorem JT.of{e:Expr}{g:GT}{t:TT}(h:PT X e t)(k:∀(ρ:bw)(st:Hs)(σ:St)(H:Hp)(m:Mp)(Q:Bool->Hp->Prop),a_ X.K m st H->aA X.K m H ρ σ->iY X σ m H (g ρ st) Q->t σ H Q):JT X e g :=
 λρ st σ H m Q S R p pins s I=>h pins s σ H Q I (k ρ st σ H m Q S R p)
theorem JA.of{es:List Expr}{g:GA}{t:TA}(h:PA X es t)(k:∀(ρ:bw)(st:Hs)(σ:St)(H:Hp)(m:Mp)(Q:List V->Hp->Prop),a_ X.K m st H->aA X.K m H ρ σ->Ld X σ m H (g ρ st) Q->t σ H Q):JA X es g :=
 λρ st σ H m Q S R p pos pins s I=>h pos pins s σ H Q I (k ρ st σ H m Q S R p)
theorem JS.of{e:Stmt}{g:GS}{t:TS}(h:PS X e t)(k:∀(ρ:bw)(st:Hs)(σ:St)(H:Hp)(m:Mp)(D:Ends),a_ X.K m st H->aA X.K m H ρ σ->bg X m H (g ρ st) D->t D σ H):JS X e g :=
 λρ st σ H m D S R p pins s I=>h pins s σ H D I (k ρ st σ H m D S R p)
theorem p5.of{e:List Stmt}{g:GS}{t:TS}(h:Dj X e t)(k:∀(ρ:bw)(st:Hs)(σ:St)(H:Hp)(m:Mp)(D:Ends),a_ X.K m st H->aA X.K m H ρ σ->bg X m H (g ρ st) D->t D σ H):p5 X e g :=
 λρ st σ H m D S R p pins s I=>h pins s σ H D I (k ρ st σ H m D S R p)
theorem JE.go{e:Expr}{g:GE}{ρ:bw}{st:Hs}{σ:St}{H:Hp}{m:Mp}{T:VK}{ok:Wv->Hs->Prop}(h:JE X e g)(S:a_ X.K m st H)(R:aA X.K m H ρ σ)(p:aw X σ m H (g ρ st) ok)
  (k:∀(w:Wv)(st1:Hs)(v:V)(m1:Mp)(H1:Hp),ok w st1->Ext X.K m H m1 H1->a_ X.K m1 st1 H1->ag X.K m1 H1 w v->T v H1):SE X e σ H T :=
 h ρ st σ H m T S R (p.imp Ext.refl λw st1 q v m1 H1 e1 s1 r1=>k w st1 v m1 H1 q e1 s1 r1)
theorem JT.go{e:Expr}{g:GT}{ρ:bw}{st:Hs}{σ:St}{H:Hp}{m:Mp}{T:Bool->Hp->Prop}{ok:Bool->Hs->Prop}(h:JT X e g)(S:a_ X.K m st H)(R:aA X.K m H ρ σ)(p:aw X σ m H (g ρ st) ok)
  (k:∀(b:Bool)(st1:Hs)(m1:Mp)(H1:Hp),ok b st1->Ext X.K m H m1 H1->a_ X.K m1 st1 H1->T b H1):ST X e σ H T :=
 h ρ st σ H m T S R (p.imp Ext.refl λb st1 q m1 H1 e1 s1=>k b st1 m1 H1 q e1 s1)
theorem JA.go{es:List Expr}{g:GA}{ρ:bw}{st:Hs}{σ:St}{H:Hp}{m:Mp}{T:List V->Hp->Prop}{ok:List Wv->Hs->Prop}(h:JA X es g)(S:a_ X.K m st H)(R:aA X.K m H ρ σ)(p:aw X σ m H (g ρ st) ok)
  (k:∀(ws:List Wv)(st1:Hs)(vs:List V)(m1:Mp)(H1:Hp),ok ws st1->Ext X.K m H m1 H1->a_ X.K m1 st1 H1->ah X.K m1 H1 ws vs->T vs H1):SA X es σ H T :=
 h ρ st σ H m T S R (p.imp Ext.refl λw st1 q v m1 H1 e1 s1 r1=>k w st1 v m1 H1 q e1 s1 r1)
end
end J
namespace J
open PySem PySem.Spec PyProof.Rows L2
def lim:Nat:=1000000
theorem fT{n:Nat}(h:n<=lim):n<=adA:=bf h (by unfold lim;rw[sizeLine_eq];decide)
theorem p6{n:Nat}(h:n < lim):n < adA:=bc h (by unfold lim;rw[sizeLine_eq];decide)
def af(i:Nat):GE:=λρ st=>match ρ[i]? with
 | some (some w)=> .ok w st
 | _=> .bad
def gC(w:Wv):GE:=λ_ st=> .ok w st
section
variable {X:Cx}
theorem xT(i:Nat){x:Str}{pos:Pos}(hN:X.N[i]? =some x:=by rfl)(hv:PX X.env.scope x:=by first | exact Or.inl rfl | exact kN (Or.inl rfl) | exact kN (kN rfl))(hd:(x == ("__debug__":Str))=false:=by decide)
  (hcd:(x == ("__classdict__":Str))=false:=by decide):JE X (.Name x pos) (af i):=JE.of (Dl hN hv hd hcd) λρ st σ H m Q S R p=>by
 unfold af at p
 cases e:ρ[i]? with
 | none=>rw[e] at p;exact aa p
 | some o=>
  cases o with
  | none=>rw[e] at p;exact aa p
  | some w=>
   rw[e] at p
   obtain⟨v,h1,h2⟩:=R.get i w e
   exact⟨v,h1,p v m H Ext.refl S h2⟩
theorem Ng{i:Int}{j pos}:JE X (.Constant (.int i) j pos) (gC (.int i)):=JE.of Mm λρ st σ H m Q S R p=>p (.int i) m H Ext.refl S (by unfold ag;rfl)
theorem Q6{b:Bool}{j pos}:JE X (.Constant (.bool b) j pos) (gC (.bl b)):=JE.of Qs λρ st σ H m Q S R p=>p (.bl b) m H Ext.refl S (by unfold ag;rfl)
theorem Nh{j pos}:JE X (.Constant .none j pos) (gC .non):=JE.of Mn λρ st σ H m Q S R p=>p .non m H Ext.refl S (by unfold ag;rfl)
theorem Ni{x:PySem.Str}{j pos}(hx:aO x=true:=by decide+kernel):JE X (.Constant (.str x) j pos) (gC (.str x)):=JE.of Mo λρ st σ H m Q S R p=>p (.str x) m H Ext.refl S (by unfold ag;exact⟨rfl,hx⟩)
theorem DX{x:Str}{i:Int}{t:Tok}{pos:Pos}(hg:Gl X x)(hm:X.mg x=some (.int i t))(hd:(x == ("__debug__":Str))=false:=by decide):JE X (.Name x pos) (gC (.int i)) :=
 JE.of (kL (v:=.int i) hg hm ⟨t,rfl⟩ hd) λρ st σ H m Q S R p=>p (.int i) m H Ext.refl S (by unfold ag;rfl)
theorem DY{x y:Str}{t:Tok}{pos:Pos}(hg:Gl X x)(hm:X.mg x=some (.str y t))(hy:aO y=true:=by decide+kernel)(hd:(x == ("__debug__":Str))=false:=by decide):JE X (.Name x pos) (gC (.str y)) :=
 JE.of (kL (v:=.str y) hg hm ⟨t,rfl⟩ hd) λρ st σ H m Q S R p=>p (.str y) m H Ext.refl S (by unfold ag;exact⟨rfl,hy⟩)
theorem Q7{x:Str}{T:String}{pos:Pos}(hg:Gl X x)(hm:X.mg x=none)(hv:adt x=some (.type T))(hn:x≠"__name__":=by decide)(hd:(x == ("__debug__":Str))=false:=by decide):JE X (.Name x pos) (gC (.ty T)) :=
 JE.of (HZ (v:=.ty T) hg hm hv rfl hn hd) λρ st σ H m Q S R p=>p (.ty T) m H Ext.refl S (by unfold ag;rfl)
abbrev fY:=Wv->Wv->Hs->Re Wv
def ai(op:fY)(ga gb:GE):GE:=λρ st=>(ga ρ st).bind λx st1=>(gb ρ st1).bind λy st2=>(op x y st2).mn
def zR(X:Cx)(op:fY)(r:R2):Prop:=∀(x y:Wv)(a b:V)(st:Hs)(H:Hp)(m:Mp)(Q:VK),a_ X.K m st H->ag X.K m H x a->ag X.K m H y b->dI X.K m H (op x y st) Q->r a b H Q
def kO(X:Cx)(f:ado->ado->Sem ado)(op:fY):Prop:=∃r,fI X f r/\zR X op r
theorem zS{a b:Expr}{ga gb:GE}{op:fY}{r:R2}(h2:zR X op r)(ha:JE X a ga)(hb:JE X b gb){ρ:bw}{st:Hs}{σ:St}{H:Hp}{m:Mp}{Q:VK}(S:a_ X.K m st H)(R:aA X.K m H ρ σ)(p:eE X σ m H (ai op ga gb ρ st) Q) :
  QD r (SE X a) (SE X b) σ H Q:=by
 refine ha.go S R (aw.bind p) λx st1 v m1 H1 p1 e1 S1 rx=>?_
 refine hb.go S1 (R.mono e1) ((aw.bind p1).imp e1 λ_ _ q=>q) λy st2 u m2 H2 p2 e2 S2 ry=>?_
 exact h2 x y v u st2 H2 m2 Q S2 (ag.mono e2 _ _ rx) ry (dI.shift (aw.mn p2) (e1.trans e2))
theorem Nj{a b:Expr}{ga gb:GE}{o:Operator}{op:fY}{pos:Pos}(ho:kO X (ads o) op)(ha:JE X a ga)(hb:JE X b gb):JE X (.BinOp a o b pos) (ai op ga gb):=by
 obtain⟨r,h1,h2⟩:=ho
 exact JE.of (QE h1 aV aV) λρ st σ H m Q S R p=>zS h2 ha hb S R p
theorem p7{a b:Expr}{ga gb:GE}{o:CmpOp}{op:fY}{pos:Pos}(ho:kO X (adw o) op)(ha:JE X a ga)(hb:JE X b gb)(hm:adq o b=false):JE X (.Compare a [o] [b] pos) (ai op ga gb):=by
 obtain⟨r,h1,h2⟩:=ho
 exact JE.of (Ij h1 aV aV hm) λρ st σ H m Q S R p=>zS h2 ha hb S R p
def Lf(w:Wv)(st:Hs):Re Bool:=match w with
 | .bl b=> .ok b st
 | _=> .bad
def cm(g:GE):GT:=λρ st=>(g ρ st).bind Lf
theorem vC{σ:St}{m:Mp}{H:Hp}{r:Re Wv}{Q:Bool->Hp->Prop}(p:iY X σ m H (r.bind Lf) Q):eE X σ m H r (λx H'=>∃k,x= .bl k/\Q k H'):=by
 cases r with
 | ok w st=>
  cases w with
  | bl b=>
   intro v m' H' e S rw'
   unfold ag at rw'
   exact⟨b,rw',p m' H' e S⟩
  | _=>exact aa p
 | err c st=>exact p
 | bad=>exact p
theorem p8{a b:Expr}{ga gb:GE}{o:CmpOp}{op:fY}{pos:Pos}(ho:kO X (adw o) op)(ha:JE X a ga)(hb:JE X b gb)(hm:adq o b=false):JT X (.Compare a [o] [b] pos) (cm (ai op ga gb)):=by
 obtain⟨r,h1,h2⟩:=ho
 exact JT.of (Ik h1 aV aV hm) λρ st σ H m Q S R p=>zS h2 ha hb S R (vC p)
def lT(op op':fY)(ga gb gc:GE):GE:=λρ st=>(ga ρ st).bind λx st1=>(gb ρ st1).bind λy st2=>(op x y st2).mn.bind λz st3=>match z with
 | .bl true=>(gc ρ st3).bind λu zU=>(op' y u zU).mn
 | .bl false=> .ok (.bl false) st3
 | _=> .bad
theorem Lg{a b c:Expr}{ga gb gc:GE}{op op':fY}{r r':R2}(h2:zR X op r)(h2':zR X op' r')(ha:JE X a ga)(hb:JE X b gb)(hc:JE X c gc){ρ:bw}{st:Hs}{σ:St}{H:Hp}{m:Mp}{Q:VK}
  (S:a_ X.K m st H)(R:aA X.K m H ρ σ)(p:eE X σ m H (lT op op' ga gb gc ρ st) Q):xE r r' (SE X a) (SE X b) (SE X c) σ H Q:=by
 refine ha.go S R (aw.bind p) λx st1 v m1 H1 p1 e1 S1 rx=>?_
 refine hb.go S1 (R.mono e1) ((aw.bind p1).imp e1 λ_ _ q=>q) λy st2 u m2 H2 p2 e2 S2 ry=>?_
 refine h2 x y v u st2 H2 m2 _ S2 (ag.mono e2 _ _ rx) ry (pY.imp (aw.mn (aw.bind p2)) λz st3 p3=>?_)
 intro z' m3 H3 e3 S3 rz
 cases z with
 | bl k=>
  unfold ag at rz
  refine⟨k,rz,?_⟩
  cases k with
  | true=>
   rw[if_pos rfl]
   refine hc.go S3 (R.mono (e1.trans (e2.trans e3))) ((aw.bind p3).imp (e1.trans (e2.trans e3)) λ_ _ q=>q) λq zU u' m4 H4 p4 e4 S4 rq=>?_
   exact h2' y q u u' zU H4 m4 Q S4 (ag.mono (e3.trans e4) _ _ ry) rq (dI.shift (aw.mn p4) (e1.trans (e2.trans (e3.trans e4))))
  | false=>
   rw[if_neg bh]
   exact p3 (.bl false) m3 H3 (e1.trans (e2.trans e3)) S3 (by unfold ag;rfl)
 | _=>exact aa p3
theorem DZ{a b c:Expr}{ga gb gc:GE}{o o':CmpOp}{op op':fY}{pos:Pos}(ho:kO X (adw o) op)(ho':kO X (adw o') op')(ha:JE X a ga)(hb:JE X b gb)(hc:JE X c gc)
  (hm:lastMarks [o,o'] [b,c]=false:=by with_unfolding_all rfl):JE X (.Compare a [o,o'] [b,c] pos) (lT op op' ga gb gc):=by
 obtain⟨r,h1,h2⟩:=ho
 obtain⟨r',Lc,h2'⟩:=ho'
 exact JE.of (Dx h1 Lc aV aV aV hm) λρ st σ H m Q S R p=>Lg h2 h2' ha hb hc S R p
theorem D0{a b c:Expr}{ga gb gc:GE}{o o':CmpOp}{op op':fY}{pos:Pos}(ho:kO X (adw o) op)(ho':kO X (adw o') op')(ha:JE X a ga)(hb:JE X b gb)(hc:JE X c gc)
  (hm:lastMarks [o,o'] [b,c]=false:=by with_unfolding_all rfl):JT X (.Compare a [o,o'] [b,c] pos) (cm (lT op op' ga gb gc)):=by
 obtain⟨r,h1,h2⟩:=ho
 obtain⟨r',Lc,h2'⟩:=ho'
 exact JT.of (Dy h1 Lc aV aV aV hm) λρ st σ H m Q S R p=>Lg h2 h2' ha hb hc S R (vC p)
def BI(op:Wv->Hs->Re Wv)(ga:GE):GE:=λρ st=>(ga ρ st).bind op
def iZ:Wv->Hs->Re Wv
 | .int i,st=> .ok (.int (-i)) st
 | _,_=> .bad
theorem Nk{a:Expr}{ga:GE}{pos:Pos}(ha:JE X a ga):JE X (.UnaryOp .USub a pos) (BI iZ ga):=by
 refine JE.of (QF ML aV) λρ st σ H m Q S R p=>?_
 refine ha.go S R (aw.bind p) λx st1 v m1 H1 p1 e1 S1 rx=>?_
 cases x with
 | int i=>
  unfold ag at rx
  exact⟨i,rx,p1 _ m1 H1 e1 S1 (by unfold ag;rfl)⟩
 | _=>exact aa p1
def SW(X:Cx)(e:Expr):TT:=λσ H Q=>∀(wh:Sem ado)(pins:List (adi×Obj))(s:adn),Inv X pins σ H s->adC (model X.prog X.w) X.A (isTrue e X.env wh) (TP X pins σ Q) X.xe s
theorem Lh{e:Expr}:PW X e (SW X e):=λwh pins s _ _ _ I h=>h wh pins s I
def JW(X:Cx)(e:Expr)(g:GT):Prop:=∀(ρ:bw)(st:Hs)(σ:St)(H:Hp)(m:Mp)(Q:Bool->Hp->Prop),a_ X.K m st H->aA X.K m H ρ σ->iY X σ m H (g ρ st) Q->SW X e σ H Q
theorem JW.of{e:Expr}{g:GT}{t:TT}(h:PW X e t)(k:∀(ρ:bw)(st:Hs)(σ:St)(H:Hp)(m:Mp)(Q:Bool->Hp->Prop),a_ X.K m st H->aA X.K m H ρ σ->iY X σ m H (g ρ st) Q->t σ H Q):JW X e g :=
 λρ st σ H m Q S R p wh pins s I=>h wh pins s σ H Q I (k ρ st σ H m Q S R p)
theorem JW.jt{e:Expr}{g:GT}(h:JW X e g):JT X e g:=λρ st σ H m Q S R p pins s I=>h ρ st σ H m Q S R p _ pins s I
def D3(ga gb:GT):GT:=λρ st=>(ga ρ st).bind λb st1=>if b=true then gb ρ st1 else .ok false st1
def IG(ga gb:GT):GT:=λρ st=>(ga ρ st).bind λb st1=>if b=true then .ok true st1 else gb ρ st1
def t_(ga:GT):GT:=λρ st=>(ga ρ st).bind λb st1=> .ok (!b) st1
theorem IH{a:Expr}{ga:GT}{pos:Pos}(ha:JT X a ga):JW X (.BoolOp .And [a] pos) ga:=JW.of (H_ pZ) λρ st σ H m Q S R p=>ha ρ st σ H m Q S R p
theorem Nl{a:Expr}{ga:GT}{pos:Pos}(ha:JT X a ga):JW X (.BoolOp .Or [a] pos) ga:=JW.of (Mr pZ) λρ st σ H m Q S R p=>ha ρ st σ H m Q S R p
theorem Nm{a b:Expr}{rest:List Expr}{ga gb:GT}{pos:Pos}(ha:JT X a ga)(hb:JW X (.BoolOp .And (b::rest) pos) gb):JW X (.BoolOp .And (a::b::rest) pos) (D3 ga gb):=by
 refine JW.of (Ms pZ Lh) λρ st σ H m Q S R p=>?_
 refine ha.go S R (aw.bind p) λc st1 m1 H1 p1 e1 S1=>?_
 cases c with
 | true=>rw[if_pos rfl] at p1 ⊢;exact hb ρ st1 σ H1 m1 Q S1 (R.mono e1) (iY.shift p1 e1)
 | false=>rw[if_neg bh] at p1 ⊢;exact p1 m1 H1 e1 S1
theorem Q8{a b:Expr}{rest:List Expr}{ga gb:GT}{pos:Pos}(ha:JT X a ga)(hb:JW X (.BoolOp .Or (b::rest) pos) gb):JW X (.BoolOp .Or (a::b::rest) pos) (IG ga gb):=by
 refine JW.of (Qt pZ Lh) λρ st σ H m Q S R p=>?_
 refine ha.go S R (aw.bind p) λc st1 m1 H1 p1 e1 S1=>?_
 cases c with
 | true=>rw[if_pos rfl] at p1 ⊢;exact p1 m1 H1 e1 S1
 | false=>rw[if_neg bh] at p1 ⊢;exact hb ρ st1 σ H1 m1 Q S1 (R.mono e1) (iY.shift p1 e1)
theorem Nn{a:Expr}{ga:GT}{pos:Pos}(ha:JT X a ga):JT X (.UnaryOp .Not a pos) (t_ ga):=by
 refine JT.of (Mt pZ) λρ st σ H m Q S R p=>?_
 exact ha.go S R (aw.bind p) λc st1 m1 H1 p1 e1 S1=>p1 m1 H1 e1 S1
def vD(ga gb:GE):GE:=λρ st=>(ga ρ st).bind λw st1=>match w with
 | .bl true=>gb ρ st1
 | .bl false=> .ok (.bl false) st1
 | _=> .bad
theorem Np{op}{a:Expr}{ga:GE}{pos:Pos}(ha:JE X a ga):JE X (.BoolOp op [a] pos) ga:=JE.of (Mu aV) λρ st σ H m Q S R p=>ha ρ st σ H m Q S R p
theorem Nq{a b:Expr}{rest:List Expr}{ga gb:GE}{pos:Pos}(ha:JE X a ga)(hb:JE X (.BoolOp .And (b::rest) pos) gb):JE X (.BoolOp .And (a::b::rest) pos) (vD ga gb):=by
 refine JE.of (Mv aV aV) λρ st σ H m Q S R p=>?_
 refine ha.go S R (aw.bind p) λx st1 v m1 H1 p1 e1 S1 rx=>?_
 cases x with
 | bl c=>
  unfold ag at rx
  refine⟨c,rx,?_⟩
  cases c with
  | true=>rw[if_pos rfl];exact hb ρ st1 σ H1 m1 Q S1 (R.mono e1) (eE.shift p1 e1)
  | false=>rw[if_neg bh];exact p1 _ m1 H1 e1 S1 (by unfold ag;rfl)
 | _=>exact aa p1
def II(gt:GT)(ga gb:GE):GE:=λρ st=>(gt ρ st).bind λb st1=>if b=true then ga ρ st1 else gb ρ st1
theorem Q9{c a b:Expr}{gt:GT}{ga gb:GE}{pos:Pos}(hc:JT X c gt)(ha:JE X a ga)(hb:JE X b gb):JE X (.IfExp c a b pos) (II gt ga gb):=by
 refine JE.of (Dm pZ aV aV) λρ st σ H m Q S R p=>?_
 refine hc.go S R (aw.bind p) λk st1 m1 H1 p1 e1 S1=>?_
 cases k with
 | true=>rw[if_pos rfl] at p1 ⊢;exact ha ρ st1 σ H1 m1 Q S1 (R.mono e1) (eE.shift p1 e1)
 | false=>rw[if_neg bh] at p1 ⊢;exact hb ρ st1 σ H1 m1 Q S1 (R.mono e1) (eE.shift p1 e1)
def ao:GA:=λ_ st=> .ok [] st
def ae(ga:GE)(gr:GA):GA:=λρ st=>(ga ρ st).bind λx st1=>(gr ρ st1).bind λxs st2=> .ok (x::xs) st2
theorem xU:JA X [] ao:=JA.of DA λρ st σ H m Q S R p=>p [] m H Ext.refl S ah.nil
theorem ua{e:Expr}{es:List Expr}{ga:GE}{gr:GA}(ha:JE X e ga)(hr:JA X es gr)(hs:adB (e::es) X.env=(false,eval e X.env)::adB es X.env:=by rfl):JA X (e::es) (ae ga gr):=by
 refine JA.of (zy aV kc hs) λρ st σ H m Q S R p=>?_
 refine ha.go S R (aw.bind p) λx st1 v m1 H1 p1 e1 S1 rx=>?_
 refine hr.go S1 (R.mono e1) ((aw.bind p1).imp e1 λ_ _ q=>q) λxs st2 vs m2 H2 p2 e2 S2 rs=>?_
 exact p2 (v::vs) m2 H2 (e1.trans e2) S2 (ah.cons (ag.mono e2 _ _ rx) rs)
def cH(g:GA):GE:=λρ st=>(g ρ st).bind λws st1=>if ws.length<=lim then .ok (.tup ws) st1 else .bad
def fJ(g:GA):GE:=λρ st=>(g ρ st).bind λws st1=>if ws.length<=lim then .ok (.ref st1.length) (st1++[.lst ws]) else .bad
theorem Nr{es:List Expr}{g:GA}{x1 pos}(h:JA X es g):JE X (.Tuple es x1 pos) (cH g):=by
 refine JE.of (MP kc) λρ st σ H m Q S R p=>?_
 refine h.go S R (aw.bind p) λws st1 vs m1 H1 p1 e1 S1 rs=>?_
 by_cases hl:ws.length<=lim
 ·rw[if_pos hl] at p1
  refine⟨by rw[<-rs.length];exact fT hl,λq hq=>?_⟩
  have e2:Ext X.K m1 H1 m1 (upd H1 q (.tup vs)):=Ext.upd (.inl hq)
  exact p1 (.ref q) m1 _ (e1.trans e2) (S1.fresh hq) (by unfold ag;exact⟨q,vs,rfl,aP,ah.mono e2 _ _ rs⟩)
 ·rw[if_neg hl] at p1;exact aa p1
theorem a_.newest{K:PySem.W.Frag}{m:Mp}{st:Hs}{H:Hp}(S:a_ K m st H)(q:adi)(H':Hp):ag K (m++[q]) H' (.ref st.length) (.ref q):=by
 unfold ag
 refine⟨q,rfl,?_⟩
 rw[<-S.len,gP (aj _),pf]
 rfl
theorem mE{m m1:Mp}{H H1:Hp}{st1:Hs}{ws:List Wv}{vs:List V}{Q:VK}(p1:P4 X.K m H Q (.ref st1.length) (st1++[.lst ws]))(e1:Ext X.K m H m1 H1)(S1:a_ X.K m1 st1 H1)(rs:ah X.K m1 H1 ws vs)(q:adi)(hq:H1 q=none) :
  Q (.ref q) (upd H1 q (.lst vs)) :=
 p1 (.ref q) (m1++[q]) _ (e1.trans (Ext.more.trans (Ext.upd (.inl hq)))) (S1.alloc hq rs) (S1.newest q _)
theorem Nt{es:List Expr}{g:GA}{pos}(h:JA X es g):JE X (.List es pos) (fJ g):=by
 refine JE.of (MQ kc) λρ st σ H m Q S R p=>?_
 refine h.go S R (aw.bind p) λws st1 vs m1 H1 p1 e1 S1 rs=>?_
 by_cases hl:ws.length<=lim
 ·rw[if_pos hl] at p1
  exact⟨by rw[<-rs.length];exact fT hl,λq hq=>mE p1 e1 S1 rs q hq⟩
 ·rw[if_neg hl] at p1;exact aa p1
end
section
variable {X:Cx}
theorem fI.or{f:ado->ado->Sem ado}{r r':R2}(h:fI X f r)(h':fI X f r'):fI X f (λx y H Q=>r x y H Q\/r' x y H Q):=by
 intro pins s σ H x y v u Q I rx ry q
 rcases q with q | q
 ·exact h pins s σ H x y v u Q I rx ry q
 ·exact h' pins s σ H x y v u Q I rx ry q
theorem D4:fI X (ads .FloorDiv) (rI (λ_ j=>j≠0/\j.natAbs.log2 < 9000) λi j=> .int (i.fdiv j)):=TY λi j _ _ _ _ _ hc q=>floordiv_int hc.1 q (.inl (PyProof.noPylong_of_log2 hc.2))
theorem IJ:fI X (ads .Mod) (rI (λ_ j=>j≠0) λi j=> .int (i.fmod j)):=TY λi j _ _ _ _ _ hc q=>mod_int' hc q
theorem IK:fI X (ads .Mult) (rI (λi j=>IntMulOk i j) λi j=> .int (i * j)):=TY λ_ _ _ _ _ _ _ hc q=>mul_int q hc
instance Vd{a b:Int}:Decidable (IntMulOk a b):=by unfold IntMulOk;infer_instance
def ke:fY
 | .int i,.int j,st=> .ok (.int (i - j)) st
 | _,_,_=> .bad
def fZ:fY
 | .int i,.int j,st=>if j≠0/\j.natAbs.log2 < 9000 then .ok (.int (i.fdiv j)) st else .bad
 | _,_,_=> .bad
def oMod:fY
 | .int i,.int j,st=>if j≠0 then .ok (.int (i.fmod j)) st else .bad
 | _,_,_=> .bad
def p9:fY
 | .int i,.int j,st=>if 0<=j/\j<=1000000/\i.natAbs < 2 ^ 64 then .ok (.int (i ^ j.toNat)) st else .bad
 | _,_,_=> .bad
def Q_:fY
 | .int i,.int j,st=> .ok (.bl (decide (i < j))) st
 | .str i,.str j,st=> .ok (.bl (decide (i.cps.toList < j.cps.toList))) st
 | _,_,_=> .bad
def Ra:fY
 | .int i,.int j,st=> .ok (.bl (decide (i<=j))) st
 | _,_,_=> .bad
def oGt:fY
 | .int i,.int j,st=> .ok (.bl (decide (j < i))) st
 | _,_,_=> .bad
def oGe:fY
 | .int i,.int j,st=> .ok (.bl (decide (j<=i))) st
 | _,_,_=> .bad
theorem bo{m:Mp}{H:Hp}{i:Int}{a:V}(h:ag X.K m H (.int i) a):a= .int i:=by unfold ag at h;exact h
theorem fe{m:Mp}{H:Hp}{x:PySem.Str}{a:V}(h:ag X.K m H (.str x) a):a= .str x/\aO x=true:=by unfold ag at h;exact h
theorem mkInt{m:Mp}{H:Hp}{i:Int}:ag X.K m H (.int i) (.int i):=by unfold ag;rfl
theorem jW{m:Mp}{H:Hp}{i:Bool}:ag X.K m H (.bl i) (.bl i):=by unfold ag;rfl
theorem Li{m:Mp}{H:Hp}:ag X.K m H .non .non:=by unfold ag;rfl
theorem mkStr{m:Mp}{H:Hp}{x:PySem.Str}(h:aO x=true):ag X.K m H (.str x) (.str x):=by unfold ag;exact⟨rfl,h⟩
theorem Nu:kO X (ads .Sub) ke:=⟨_,MJ,λx y a b st H m Q S rx ry p=>by
 cases x with
 | int i=>
  cases y with
  | int j=>exact⟨i,j,bo rx,bo ry,p _ m H Ext.refl S mkInt⟩
  | _=>exact aa p
 | _=>cases y<;>exact aa p⟩
theorem IL:kO X (ads .FloorDiv) fZ:=⟨_,D4,λx y a b st H m Q S rx ry p=>by
 cases x with
 | int i=>
  cases y with
  | int j=>
   dsimp only[fZ] at p
   by_cases c:j≠0/\j.natAbs.log2 < 9000
   ·rw[if_pos c] at p;exact⟨i,j,bo rx,bo ry,c,p _ m H Ext.refl S mkInt⟩
   ·rw[if_neg c] at p;exact aa p
  | _=>exact aa p
 | _=>cases y<;>exact aa p⟩
theorem Nv:kO X (ads .Mod) oMod:=⟨_,IJ,λx y a b st H m Q S rx ry p=>by
 cases x with
 | int i=>
  cases y with
  | int j=>
   dsimp only[oMod] at p
   by_cases c:j≠0
   ·rw[if_pos c] at p;exact⟨i,j,bo rx,bo ry,c,p _ m H Ext.refl S mkInt⟩
   ·rw[if_neg c] at p;exact aa p
  | _=>exact aa p
 | _=>cases y<;>exact aa p⟩
theorem Nw:kO X (ads .Pow) p9:=⟨_,MK,λx y a b st H m Q S rx ry p=>by
 cases x with
 | int i=>
  cases y with
  | int j=>
   dsimp only[p9] at p
   by_cases c:0<=j/\j<=1000000/\i.natAbs < 2 ^ 64
   ·rw[if_pos c] at p;exact⟨i,j,bo rx,bo ry,c,p _ m H Ext.refl S mkInt⟩
   ·rw[if_neg c] at p;exact aa p
  | _=>exact aa p
 | _=>cases y<;>exact aa p⟩
theorem Rc:kO X (adw .Lt) Q_:=⟨_,fI.or QI By,λx y a b st H m Q S rx ry p=>by
 cases x with
 | int i=>
  cases y with
  | int j=>exact .inl ⟨i,j,bo rx,bo ry,p _ m H Ext.refl S jW⟩
  | _=>exact aa p
 | str i=>
  cases y with
  | str j=>exact .inr ⟨i,j,(fe rx).1,(fe ry).1,p _ m H Ext.refl S jW⟩
  | _=>exact aa p
 | _=>cases y<;>exact aa p⟩
theorem Rf:kO X (adw .LtE) Ra:=⟨_,QJ,λx y a b st H m Q S rx ry p=>by
 cases x with
 | int i=>
  cases y with
  | int j=>exact⟨i,j,bo rx,bo ry,p _ m H Ext.refl S jW⟩
  | _=>exact aa p
 | _=>cases y<;>exact aa p⟩
def Rg:fY
 | x,.non,st=> .ok (.bl (match x with | .non=>true | _=>false)) st
 | _,_,_=> .bad
def ny:fY
 | x,.non,st=> .ok (.bl (match x with | .non=>false | _=>true)) st
 | _,_,_=> .bad
theorem Lj{m:Mp}{H:Hp}{x:Wv}{a:V}(h:ag X.K m H x a):decide (a=V.non)=(match x with | .non=>true | _=>false):=by
 cases x with
 | non=>unfold ag at h;subst h;rfl
 | bl b=>unfold ag at h;subst h;rfl
 | int b=>unfold ag at h;subst h;rfl
 | str b=>unfold ag at h;obtain⟨h,_⟩:=h;subst h;rfl
 | tup b=>unfold ag at h;obtain⟨q,xs,h,_⟩:=h;subst h;rfl
 | og b=>unfold ag at h;obtain⟨q,xs,h,_⟩:=h;subst h;rfl
 | ref b=>unfold ag at h;obtain⟨q,h,_⟩:=h;subst h;rfl
 | ty b=>unfold ag at h;subst h;rfl
 | cls b=>unfold ag at h;obtain⟨q,h,_⟩:=h;subst h;rfl
 | vx b=>unfold ag at h;obtain⟨q,C,h,_⟩:=h;subst h;rfl
 | fn fp b=>unfold ag at h;obtain⟨h,_⟩:=h;subst h;rfl
theorem Ri:kO X (adw .Is) Rg:=⟨_,MN,λx y a b st H m Q S rx ry p=>by
 cases y with
 | non=>
  refine⟨by unfold ag at ry;exact ry,?_⟩
  rw[Lj rx]
  cases x<;>exact p _ m H Ext.refl S jW
 | _=>cases x<;>exact aa p⟩
theorem D5:kO X (adw .IsNot) ny:=⟨_,Ii,λx y a b st H m Q S rx ry p=>by
 cases y with
 | non=>
  refine⟨by unfold ag at ry;exact ry,?_⟩
  rw[Lj rx]
  cases x<;>exact p _ m H Ext.refl S jW
 | _=>cases x<;>exact aa p⟩
theorem ub{a b:PySem.Str}(ha:aO a=true)(hb:aO b=true):aO (a++b)=true:=by
 unfold aO at *
 show((a.cps++b.cps).all _)=true
 rw[Array.all_append,ha,hb]
 rfl
def Rj(K:PySem.W.Frag):R2:=λx y H Q=>∃l b xs zs,x= .ref l/\y= .ref b/\lO K H l xs/\lO K H b zs/\xs.length+zs.length<=adA/\∀p,H p=none->Q (.ref p) (upd H p (.lst (xs++zs)))
theorem IM:fI X (ads .Add) (Rj X.K):=by
 intro pins s σ H x y v u Q I rx ry h
 obtain⟨l,b,xs,zs,rfl,rfl,hH,hB,hz,q⟩:=h
 cases rx
 cases ry
 obtain⟨its,r,pl,hs⟩:=I.list hH
 obtain⟨its2,r2,pl2,hs2⟩:=I.list hB
 have hl:=r.length
 have hl2:=r2.length
 obtain⟨⟨cls,dd,data,sl⟩,ho,hc,n,hd⟩:=id pl.isList
 obtain⟨⟨U8,dd2,data2,sl2⟩,ho2,hc2,n2,hd2⟩:=id pl2.isList
 simp only at hc hd hc2 hd2
 subst hc hd hc2 hd2
 have e:its.toArray++its2.toArray=(its++its2).toArray:=by simp
 refine PySem.concat_meets ⟨_,ho,rfl⟩ ⟨_,ho2,rfl⟩ PySem.noFill_list_add PySem.seq_list_add PySem.F.slot_list_add PySem.F.entry_list_add (PySem.F.args_list_add_2 _ _) (list_addW l b its.toArray its2.toArray n n2 dd dd2 sl sl2 (by simp;omega)) ⟨ho,ho2,?_⟩
 rw[e]
 exact⟨.ref _,_,I.IA (t':=s.toks) (r.append r2) (by rw[eh];omega),rfl,q _ I.fresh⟩
def Rk(K:PySem.W.Frag):R2:=λx y H Q=>∃a b ys,x= .ref a/\y= .ref b/\fb K H a []/\fb K H b ys/\Q (.ref b) H
theorem IP:fI X (ads .Add) (Rk X.K):=by
 intro pins s σ H x y v u Q I rx ry h
 obtain⟨a,b,ys,rfl,rfl,ha,hb,q⟩:=h
 cases rx
 cases ry
 obtain⟨its,r1,p1,_⟩:=I.tuple ha
 obtain⟨its2,r2,p2,_⟩:=I.tuple hb
 cases r1
 obtain⟨⟨c1,d1,t1,l1⟩,g1,k1,n1,j1⟩:=id p1
 obtain⟨⟨c2,d2,t2,l2⟩,g2,k2,n2,j2⟩:=id p2
 simp only at k1 j1 k2 j2
 subst k1 j1 k2 j2
 exact PySem.concat_meets ⟨_,g1,rfl⟩ ⟨_,g2,rfl⟩ PySem.noFill_tuple_add PySem.seq_tuple_add PySem.F.slot_tuple_add PySem.F.entry_tuple_add (PySem.F.args_tuple_add_2 _ _) (tuple_addW0 a b #[] its2.toArray n1 n2 d1 d2 l1 l2 (by simp)) ⟨g1,g2,⟨.ref b,H,I,rfl,q⟩⟩
def cq:fY
 | .int i,.int j,st=> .ok (.int (i+j)) st
 | .str i,.str j,st=>if i.length+j.length<=lim then .ok (.str (i++j)) st else .bad
 | .tup i,.tup j,st=>if i.length+j.length<=lim then .ok (.tup (i++j)) st else .bad
 | .ref l,.ref k,st=>match av st l,av st k with
  | some i,some j=>if i.length+j.length<=lim then .ok (.ref st.length) (st++[.lst (i++j)]) else .bad
  | _,_=> .bad
 | _,_,_=> .bad
instance {α:Type}{xs:List α}:Decidable (xs≠[]):=match xs with
 | []=>isFalse (λh=>h rfl)
 | _::_=>isTrue (λh=>by cases h)
theorem Nx:kO X (ads .Add) cq:=⟨_,fI.or MI (fI.or xG (fI.or Iq (fI.or IM IP))),λx y a b st H m Q S rx ry p=>by
 cases x with
 | int i=>
  cases y with
  | int j=>exact .inl ⟨i,j,bo rx,bo ry,p _ m H Ext.refl S mkInt⟩
  | _=>exact aa p
 | str i=>
  cases y with
  | str j=>
   dsimp only[cq] at p
   by_cases c:i.length+j.length<=lim
   ·rw[if_pos c] at p
    exact .inr (.inl ⟨i,j,(fe rx).1,(fe ry).1,fT c,p _ m H Ext.refl S (mkStr (ub (fe rx).2 (fe ry).2))⟩)
   ·rw[if_neg c] at p;exact aa p
  | _=>exact aa p
 | tup i=>
  cases y with
  | tup j=>
   dsimp only[cq] at p
   by_cases c:i.length+j.length<=lim
   ·rw[if_pos c] at p
    by_cases c0:i=[]
    ·subst c0
     unfold ag at rx ry
     obtain⟨a1,xs,rfl,h1,h2⟩:=rx
     obtain⟨a2,ys,rfl,h3,h4⟩:=ry
     have l1:xs=[]:=D6 h2.length.symm
     subst l1
     exact .inr (.inr (.inr (.inr ⟨a1,a2,ys,rfl,rfl,fb.of h1,fb.of h3,p (.ref a2) m H Ext.refl S (by rw[tX];unfold ag;exact⟨a2,ys,rfl,h3,h4⟩)⟩)))
    unfold ag at rx ry
    obtain⟨a1,xs,rfl,h1,h2⟩:=rx
    obtain⟨a2,ys,rfl,h3,h4⟩:=ry
    have l1:=h2.length
    have l2:=h4.length
    have n1:xs≠[]:=λz=>by rw[z] at l1;exact c0 (D6 l1)
    refine .inr (.inr (.inl ⟨a1,a2,xs,ys,rfl,rfl,fb.of h1,fb.of h3,n1,by rw[<-l1,<-l2];exact fT c,λz=>?_,λ_ q hq=>?_⟩))
    ·rw[z] at l2
     rw[D6 l2,gO] at p
     exact p (.ref a1) m H Ext.refl S (by unfold ag;exact⟨a1,xs,rfl,h1,h2⟩)
    have e2:Ext X.K m H m (upd H q (.tup (xs++ys))):=Ext.upd (.inl hq)
    exact p (.ref q) m _ e2 (S.fresh hq) (by unfold ag;exact⟨q,xs++ys,rfl,aP,ah.mono e2 _ _ (h2.append h4)⟩)
   ·rw[if_neg c] at p;exact aa p
  | _=>exact aa p
 | ref l=>
  cases y with
  | ref k=>
   dsimp only[cq] at p
   unfold ag at rx ry
   obtain⟨a1,rfl,h1⟩:=rx
   obtain⟨a2,rfl,h2⟩:=ry
   cases e1:av st l with
   | none=>rw[e1] at p;exact aa p
   | some i=>
    cases e2:av st k with
    | none=>rw[e1,e2] at p;exact aa p
    | some j=>
     rw[e1,e2] at p
     by_cases c:i.length+j.length<=lim
     ·simp only[if_pos c] at p
      obtain⟨xs,q1,q2⟩:=S.read h1 e1
      obtain⟨ys,q3,q4⟩:=S.read h2 e2
      exact .inr (.inr (.inr (.inl ⟨a1,a2,xs,ys,rfl,rfl,q1,q3,by rw[<-q2.length,<-q4.length];exact fT c,λq hq=>mE p Ext.refl S (q2.append q4) q hq⟩)))
     ·simp only[if_neg c] at p;exact aa p
  | _=>exact aa p
 | _=>cases y<;>exact aa p⟩
def vE(n:Nat)(x:PySem.Str):PySem.Str:=⟨(aQ n x.cps).foldl (· ++·) #[]⟩
end
open PySem PySem.Spec PySem.SeqAt PyProof.Rows L2
def dF{α β:Type}(f:α->Option β):List α->Option (List β)
 | []=>some []
 | w::ws=>match f w,dF f ws with
  | some d,some ds=>some (d::ds)
  | _,_=>none
def aG(st:Hs):Nat->Wv->Option PyData
 | 0,w=>match w with
  | .non=>some .none
  | .bl b=>some (.bool b)
  | .int i=>some (.int i)
  | .str x=>some (.str x)
  | _=>none
 | n+1,w=>match w with
  | .non=>some .none
  | .bl b=>some (.bool b)
  | .int i=>some (.int i)
  | .str x=>some (.str x)
  | .tup ws=>(dF (aG st n) ws).map .tuple
  | .og ws=>(dF (aG st n) ws).map .tuple
  | .ref l=>match av st l with
   | some ws=>(dF (aG st n) ws).map .list
   | none=>none
  | .ty _=>none
  | .cls _=>none
  | .vx _=>none
  | .fn _ _=>none
section
variable {X:Cx} {pins:List (adi×Obj)} {σ:St} {H:Hp} {s:adn} {m:Mp} {st:Hs}
def Lk(h:Heap)(n:Nat)(u:ado)(d:PyData):Prop:=∃as,Reads h u d as/\d.canLay0=true/\d.depth<=n
theorem kQ{n:Nat}(ih:∀(w:Wv)(a:V)(u:ado)(d:PyData),ag X.K m H w a->RelV a u->aG st n w=some d->Lk s.heap n u d) :
  ∀(ws:List Wv)(xs:List V)(us:List ado)(ds:List PyData),ah X.K m H ws xs->Vals xs us->dF (aG st n) ws=some ds->∃as,ReadsAll s.heap us ds as/\mv ds=true/\gj ds<=n
 | [],xs,us,ds,h,r,e=>by
  unfold ah at h
  subst h
  cases r
  cases e
  exact⟨[],.nil,rfl,bb _⟩
 | w::ws,xs,us,ds,h,r,e=>by
  unfold ah at h
  obtain⟨x,xr,rfl,h1,h2⟩:=h
  cases r with
  | cons r1 r2=>
   unfold dF at e
   cases e1:aG st n w with
   | none=>rw[e1] at e;cases e
   | some d=>
    cases e2:dF (aG st n) ws with
    | none=>rw[e1,e2] at e;cases e
    | some dr=>
     rw[e1,e2] at e
     cases e
     obtain⟨as,q1,q2,q3⟩:=ih w x _ d h1 r1 e1
     obtain⟨bs,p1,p2,p3⟩:=kQ ih ws xr _ dr h2 r2 e2
     refine⟨as++bs,.cons q1 p1,?_,?_⟩
     ·show(PyData.canLay0 d&&mv dr)=true
      rw[q2,p2];rfl
     ·show max d.depth (gj dr)<=n
      omega
theorem cP(I:Inv X pins σ H s)(S:a_ X.K m st H):∀(n:Nat)(w:Wv)(a:V)(u:ado)(d:PyData),ag X.K m H w a->RelV a u->aG st n w=some d->Lk s.heap n u d:=by
 intro n
 induction n with
 | zero=>
  intro w a u d h r e
  cases w with
  | non=>unfold ag at h;subst h;cases r;cases e;exact⟨[],.none,rfl,aj _⟩
  | bl b=>unfold ag at h;subst h;cases r;cases e;exact⟨[],.bool b,rfl,aj _⟩
  | int i=>unfold ag at h;subst h;obtain⟨t,rfl⟩:=r;cases e;exact⟨[],.int i t,rfl,aj _⟩
  | str x=>unfold ag at h;obtain⟨rfl,hx⟩:=h;obtain⟨t,rfl⟩:=r;cases e;exact⟨[],.str x t,hx,aj _⟩
  | tup ws=>cases e
  | og ws=>cases e
  | ref l=>cases e
  | ty t=>cases e
  | cls t=>cases e
  | vx t=>cases e
  | fn fp t=>cases e
 | succ n ih=>
  intro w a u d h r e
  cases w with
  | non=>unfold ag at h;subst h;cases r;cases e;exact⟨[],.none,rfl,bb _⟩
  | bl b=>unfold ag at h;subst h;cases r;cases e;exact⟨[],.bool b,rfl,bb _⟩
  | int i=>unfold ag at h;subst h;obtain⟨t,rfl⟩:=r;cases e;exact⟨[],.int i t,rfl,bb _⟩
  | str x=>unfold ag at h;obtain⟨rfl,hx⟩:=h;obtain⟨t,rfl⟩:=r;cases e;exact⟨[],.str x t,hx,bb _⟩
  | ty t=>cases e
  | cls t=>cases e
  | vx t=>cases e
  | fn fp t=>cases e
  | tup ws=>
   unfold ag at h
   obtain⟨p,xs,rfl,h1,h2⟩:=h
   cases r
   have e':(dF (aG st n) ws).map ia=some d:=e
   cases e2:dF (aG st n) ws with
   | none=>rw[e2] at e';cases e'
   | some ds=>
    rw[e2] at e'
    cases e'
    obtain⟨its,rv,ht,hz⟩:=I.tuple (fb.of h1)
    obtain⟨as,q1,q2,q3⟩:=kQ ih ws xs its ds h2 rv e2
    obtain⟨o,ho,hc,k,hd⟩:=ht
    exact⟨as,.tuple ho hc hd (by simpa using q1),q2,oV q3⟩
  | og ws=>
   unfold ag at h
   obtain⟨p,xs,rfl,h1,h2⟩:=h
   cases r
   have e':(dF (aG st n) ws).map ia=some d:=e
   cases e2:dF (aG st n) ws with
   | none=>rw[e2] at e';cases e'
   | some ds=>
    rw[e2] at e'
    cases e'
    obtain⟨its,rv,ht,hz⟩:=I.tuple (.inr h1)
    obtain⟨as,q1,q2,q3⟩:=kQ ih ws xs its ds h2 rv e2
    obtain⟨o,ho,hc,k,hd⟩:=ht
    exact⟨as,.tuple ho hc hd (by simpa using q1),q2,oV q3⟩
  | ref l=>
   unfold ag at h
   obtain⟨p,rfl,h1⟩:=h
   cases r
   have e':(match av st l with | some ws=>(dF (aG st n) ws).map pg | none=>none)=some d:=e
   cases e1:av st l with
   | none=>rw[e1] at e';cases e'
   | some ws=>
    rw[e1] at e'
    have e'':(dF (aG st n) ws).map pg=some d:=e'
    cases e2:dF (aG st n) ws with
    | none=>rw[e2] at e'';cases e''
    | some ds=>
     rw[e2] at e''
     cases e''
     obtain⟨xs,hq,h2⟩:=S.read h1 e1
     obtain⟨its,rv,ht,hz⟩:=I.list hq
     obtain⟨as,q1,q2,q3⟩:=kQ ih ws xs its ds h2 rv e2
     obtain⟨o,ho,hc,k,hd⟩:=ht.isList
     exact⟨_,.list ho hc hd (by simpa using q1),q2,oV q3⟩
end
def oEq:fY:=λx y st=>match aG st 20 x,aG st 20 y with
 | some a,some b=> .ok (.bl (aC a b)) st
 | _,_=> .bad
def C8:fY:=λx y st=>match aG st 20 x,aG st 20 y with
 | some a,some b=> .ok (.bl (!PyData.eqv a b)) st
 | _,_=> .bad
section
variable {X:Cx}
def Rl(K:PySem.W.Frag)(neg:Bool):R2:=λa b H Q=>∃m st x y da db,a_ K m st H/\ag K m H x a/\ag K m H y b/\aG st 20 x=some da/\aG st 20 y=some db/\Q (.bl (if neg then !PyData.eqv da db else aC da db)) H
theorem kR{n:Nat}{d:PyData}(hn:n<=64)(h:d.canLay0=true)(k:d.depth<=n):shaped d=true:=by
 unfold shaped
 rw[h,decide_eq_true (bf k hn)]
 rfl
theorem Ny(hu:X.A.units+64 < cLine):fI X (adw .Eq) (Rl X.K false):=by
 intro pins s σ H a b v u Q I rx ry h
 obtain⟨m,st,x,y,da,db,S,h1,h2,e1,e2,q⟩:=h
 obtain⟨as,q1,q2,q3⟩:=cP I S 20 x a v da h1 rx e1
 obtain⟨bs,p1,p2,p3⟩:=cP I S 20 y b u db h2 ry e2
 exact eq_dataH q1 p1 (kR (by decide) q2 q3) (kR (by decide) p2 p3) hu ⟨.bl _,H,I,rfl,q⟩
theorem Nz(hu:X.A.units+64 < cLine):fI X (adw .NotEq) (Rl X.K true):=by
 intro pins s σ H a b v u Q I rx ry h
 obtain⟨m,st,x,y,da,db,S,h1,h2,e1,e2,q⟩:=h
 obtain⟨as,q1,q2,q3⟩:=cP I S 20 x a v da h1 rx e1
 obtain⟨bs,p1,p2,p3⟩:=cP I S 20 y b u db h2 ry e2
 exact ne_dataH q1 p1 (kR (by decide) q2 q3) (kR (by decide) p2 p3) hu ⟨.bl _,H,I,rfl,q⟩
theorem Ll(hu:X.A.units+64 < cLine):kO X (adw .Eq) oEq:=⟨_,Ny hu,λx y a b st H m Q S rx ry p=>by
 unfold oEq at p
 cases e1:aG st 20 x with
 | none=>rw[e1] at p;exact aa p
 | some da=>
  cases e2:aG st 20 y with
  | none=>rw[e1,e2] at p;exact aa p
  | some db=>
   rw[e1,e2] at p
   exact⟨m,st,x,y,da,db,S,rx,ry,e1,e2,p _ m H Ext.refl S jW⟩⟩
theorem Ln(hu:X.A.units+64 < cLine):kO X (adw .NotEq) C8:=⟨_,Nz hu,λx y a b st H m Q S rx ry p=>by
 unfold C8 at p
 cases e1:aG st 20 x with
 | none=>rw[e1] at p;exact aa p
 | some da=>
  cases e2:aG st 20 y with
  | none=>rw[e1,e2] at p;exact aa p
  | some db=>
   rw[e1,e2] at p
   exact⟨m,st,x,y,da,db,S,rx,ry,e1,e2,p _ m H Ext.refl S jW⟩⟩
def jM:Wv->Bool
 | .non=>true
 | .bl _=>true
 | .int _=>true
 | .str _=>true
 | _=>false
def Rm:Wv->Wv->Bool
 | .non,.non=>true
 | .bl a,.bl b=>a == b
 | .bl a,.int b=>(if a then 1 else 0) == b
 | .int a,.bl b=>a == (if b then 1 else 0)
 | .int a,.int b=>a == b
 | .str a,.str b=>a == b
 | _,_=>false
def mF(st:Hs):Wv->Option (List Wv)
 | .tup ws=>some ws
 | .og ws=>some ws
 | .ref l=>av st l
 | _=>none
def Ve:fY:=λx y st=>match mF st y with
 | some ws=>if jM x=true/\ws.all jM=true then .ok (.bl (ws.any λz=>Rm z x)) st else .bad
 | none=> .bad
theorem vF{m:Mp}{H:Hp}{x:Wv}{a:V}(h:ag X.K m H x a)(f:jM x=true):lE a=true:=by
 cases x with
 | non=>unfold ag at h;subst h;rfl
 | bl b=>unfold ag at h;subst h;rfl
 | int b=>unfold ag at h;subst h;rfl
 | str b=>unfold ag at h;obtain⟨h,_⟩:=h;subst h;rfl
 | _=>cases f
theorem IQ{m:Mp}{H:Hp}{x y:Wv}{a b:V}(h:ag X.K m H x a)(k:ag X.K m H y b)(f:jM x=true)(g:jM y=true):Iy a b=Rm x y:=by
 cases x with
 | non=>
  unfold ag at h;subst h
  cases y with
  | str j=>unfold ag at k;obtain⟨k,_⟩:=k;subst k;rfl
  | tup j=>cases g
  | og j=>cases g
  | ref j=>cases g
  | ty j=>cases g
  | cls j=>cases g
  | vx j=>cases g
  | fn fp j=>cases g
  | _=>unfold ag at k;subst k;rfl
 | bl i=>
  unfold ag at h;subst h
  cases y with
  | str j=>unfold ag at k;obtain⟨k,_⟩:=k;subst k;rfl
  | tup j=>cases g
  | og j=>cases g
  | ref j=>cases g
  | ty j=>cases g
  | cls j=>cases g
  | vx j=>cases g
  | fn fp j=>cases g
  | _=>unfold ag at k;subst k;rfl
 | int i=>
  unfold ag at h;subst h
  cases y with
  | str j=>unfold ag at k;obtain⟨k,_⟩:=k;subst k;rfl
  | tup j=>cases g
  | og j=>cases g
  | ref j=>cases g
  | ty j=>cases g
  | cls j=>cases g
  | vx j=>cases g
  | fn fp j=>cases g
  | _=>unfold ag at k;subst k;rfl
 | str i=>
  unfold ag at h;obtain⟨h,_⟩:=h;subst h
  cases y with
  | str j=>unfold ag at k;obtain⟨k,_⟩:=k;subst k;rfl
  | tup j=>cases g
  | og j=>cases g
  | ref j=>cases g
  | ty j=>cases g
  | cls j=>cases g
  | vx j=>cases g
  | fn fp j=>cases g
  | _=>unfold ag at k;subst k;rfl
 | _=>cases f
theorem su{m:Mp}{H:Hp}{x:Wv}{a:V}(h:ag X.K m H x a)(f:jM x=true):∀{ws:List Wv}{xs:List V},ah X.K m H ws xs->ws.all jM=true->xs.all lE=true/\T4 a xs=ws.any λz=>Rm z x
 | [],xs,r,_=>by unfold ah at r;subst r;exact⟨rfl,rfl⟩
 | w::ws,xs,r,g=>by
  unfold ah at r
  obtain⟨y,yr,rfl,r1,r2⟩:=r
  rw[cV,cD] at g
  obtain⟨q1,q2⟩:=su h f r2 g.2
  constructor
  ·rw[cV,vF r1 g.1,q1];rfl
  ·unfold T4 at q2 ⊢
   rw[gQ,gQ,IQ r1 h g.1 f,q2]
theorem ud{m:Mp}{H:Hp}{st:Hs}{y:Wv}{b:V}{ws:List Wv}(S:a_ X.K m st H)(h:ag X.K m H y b)(e:mF st y=some ws):∃p xs,b= .ref p/\(lO X.K H p xs\/fb X.K H p xs)/\ah X.K m H ws xs:=by
 cases y with
 | tup zs=>
  cases e
  unfold ag at h
  obtain⟨p,xs,e1,e2,e3⟩:=h
  exact⟨p,xs,e1,.inr (fb.of e2),e3⟩
 | og zs=>
  cases e
  unfold ag at h
  obtain⟨p,xs,e1,e2,e3⟩:=h
  exact⟨p,xs,e1,.inr (.inr e2),e3⟩
 | ref l=>
  unfold ag at h
  obtain⟨p,e1,e2⟩:=h
  obtain⟨xs,q1,q2⟩:=S.read e2 e
  exact⟨p,xs,e1,.inl q1,q2⟩
 | _=>cases e
theorem Rp:kO X (adw .In) Ve:=⟨_,BC,λx y a b st H m Q S rx ry p=>by
 unfold Ve at p
 cases e:mF st y with
 | none=>rw[e] at p;exact aa p
 | some ws=>
  rw[e] at p
  by_cases c:jM x=true/\ws.all jM=true
  ·simp only[if_pos c] at p
   obtain⟨q,xs,e1,e2,e3⟩:=ud S ry e
   obtain⟨f1,f2⟩:=su rx c.1 e3 c.2
   refine⟨q,xs,e1,e2,vF rx c.1,f1,?_⟩
   rw[f2]
   exact p _ m H Ext.refl S jW
  ·simp only[if_neg c] at p;exact aa p⟩
def cg:fY
 | .str z,.int i,st=>if z.length<=lim then(match mD z.cps.toList i with | some c=> .ok (.str ⟨#[c]⟩) st | none=> .bad) else .bad
 | x,.int i,st=>match mF st x with
  | some ws=>(match mD ws i with | some w=> .ok w st | none=> .bad)
  | none=> .bad
 | _,_,_=> .bad
theorem IS{m:Mp}{H:Hp}{ws:List Wv}{xs:List V}{i:Int}{w:Wv}(r:ah X.K m H ws xs)(h:mD ws i=some w):∃x,mD xs i=some x/\ag X.K m H w x:=by
 unfold mD at h ⊢
 rw[<-r.length]
 cases e:C6 ws.length i with
 | none=>rw[e] at h;cases h
 | some j=>rw[e] at h;exact r.get h
theorem IT{α:Type}{xs:List α}{i:Int}{v:α}(h:mD xs i=some v):v∈xs:=by
 obtain⟨j,_,h2,_⟩:=o8 h
 exact zH h2
theorem BJ{z:PySem.Str}{c:Nat}(h:aO z=true)(hc:c∈z.cps.toList):aO ⟨#[c]⟩=true:=by
 unfold aO at h ⊢
 rw[Rq] at h
 have q:=h c (by simpa using hc)
 simpa using q
theorem Rr{a b:Expr}{ga gb:GE}{pos:Pos}(ha:JE X a ga)(hb:JE X b gb)(hs:zL b:=by exact λ_ _=>rfl):JE X (.Subscript a b pos) (ai cg ga gb) :=
 JE.of (QR MX aV aV hs) λρ st σ H m Q S R p=>zS (op:=cg) (λx y a b st H m Q S rx ry p=>by
  have seqs:∀(i:Int),y= .int i->(match mF st x with | some ws=>(match mD ws i with | some w=>Re.ok w st | none=> .bad) | none=> .bad)=cg x y st->X6 X.K a b H Q:=λi hy hp=>by
   subst hy
   rw[<-hp] at p
   cases e:mF st x with
   | none=>rw[e] at p;exact aa p
   | some ws=>
    rw[e] at p
    dsimp only at p
    cases e1:mD ws i with
    | none=>rw[e1] at p;exact aa p
    | some w=>
     rw[e1] at p
     obtain⟨q,xs,e2,e3,e4⟩:=ud S rx e
     obtain⟨v,f1,f2⟩:=IS e4 e1
     rcases e3 with e3 | e3
     ·exact .inl ⟨q,xs,i,v,e2,bo ry,e3,f1,p v m H Ext.refl S f2⟩
     ·exact .inr (.inl ⟨q,xs,i,v,e2,bo ry,e3,f1,p v m H Ext.refl S f2⟩)
  cases y with
  | int i=>
   cases x with
   | str z=>
    dsimp only[cg] at p
    by_cases c:z.length<=lim
    ·simp only[if_pos c] at p
     cases e1:mD z.cps.toList i with
     | none=>rw[e1] at p;exact aa p
     | some ch=>
      rw[e1] at p
      exact .inr (.inr ⟨z,i,ch,(fe rx).1,bo ry,fT c,e1,p _ m H Ext.refl S (mkStr (BJ (fe rx).2 (IT e1)))⟩)
    ·simp only[if_neg c] at p;exact aa p
   | _=>exact seqs i rfl rfl
  | _=>cases x<;>exact aa p) ha hb S R p
abbrev GO:=bw->Hs->Re (Option Int)
def SO(X:Cx)(e:Option Expr):TO:=λσ H Q=>∀(pins:List (adi×Obj))(s:adn),Inv X pins σ H s->adC (model X.prog X.w) X.A (evalPart e X.env) (λu s'=>∃o H',Inv X pins σ H' s'/\IsPart u o/\Q o H') X.xe s
theorem sv{e:Option Expr}:PO X e (SO X e):=λpins s _ _ _ I h=>h pins s I
def okO(K:PySem.W.Frag)(m:Mp)(H:Hp)(Q:Option Int->Hp->Prop)(o:Option Int)(st:Hs):Prop:=∀(m':Mp)(H':Hp),Ext K m H m' H'->a_ K m' st H'->Q o H'
def JO(X:Cx)(e:Option Expr)(g:GO):Prop:=∀(ρ:bw)(st:Hs)(σ:St)(H:Hp)(m:Mp)(Q:Option Int->Hp->Prop),a_ X.K m st H->aA X.K m H ρ σ->aw X σ m H (g ρ st) (okO X.K m H Q)->SO X e σ H Q
def kT:GO:=λ_ st=> .ok none st
def jN(g:GE):GO:=λρ st=>(g ρ st).bind λw st1=>match w with
 | .int i=> .ok (some i) st1
 | _=> .bad
theorem IU:JO X none kT:=λρ st σ H m Q S R p pins s I=>Io pins s σ H Q I (p m H Ext.refl S)
theorem IV{e:Expr}{g:GE}(h:JE X e g):JO X (some e) (jN g):=λρ st σ H m Q S R p pins s I=>
 Ip aV pins s σ H Q I (h.go S R (aw.bind p) λw st1 v m1 H1 p1 e1 S1 r1=>by
  cases w with
  | int i=>exact⟨i,bo r1,p1 m1 H1 e1 S1⟩
  | _=>exact aa p1)
theorem JO.go{e:Option Expr}{g:GO}{ρ:bw}{st:Hs}{σ:St}{H:Hp}{m:Mp}{T:Option Int->Hp->Prop}{ok:Option Int->Hs->Prop}(h:JO X e g)(S:a_ X.K m st H)(R:aA X.K m H ρ σ)(p:aw X σ m H (g ρ st) ok)
  (k:∀(b:Option Int)(st1:Hs)(m1:Mp)(H1:Hp),ok b st1->Ext X.K m H m1 H1->a_ X.K m1 st1 H1->T b H1):SO X e σ H T :=
 h ρ st σ H m T S R (p.imp Ext.refl λb st1 q m1 H1 e1 s1=>k b st1 m1 H1 q e1 s1)
def rK(xs:List Wv)(lo hi:Option Int):List Wv:=(xs.drop (HT.dC xs.length 0 lo)).take (HT.dC xs.length xs.length hi - HT.dC xs.length 0 lo)
def P5(x:Wv)(lo hi:Option Int)(st:Hs):Re Wv:=match x with
 | .tup ws=>if HT.dC ws.length 0 lo=0/\HT.dC ws.length ws.length hi=ws.length then .bad else .ok (.tup (rK ws lo hi)) st
 | .ref l=>match av st l with
  | some ws=> .ok (.ref st.length) (st++[.lst (rK ws lo hi)])
  | none=> .bad
 | _=> .bad
theorem ue{m:Mp}{H:Hp}{ws:List Wv}{xs:List V}{lo hi:Option Int}(r:ah X.K m H ws xs):ah X.K m H (rK ws lo hi) (rF xs lo hi):=by
 unfold rK rF
 rw[<-r.length]
 exact(r.drop _).take _
def xV(ga:GE)(gl gh:GO):GE:=λρ st=>(ga ρ st).bind λx st1=>(gl ρ st1).bind λlo st2=>(gh ρ st2).bind λhi st3=>P5 x lo hi st3
theorem vG{a:Expr}{lo hi:Option Expr}{ga:GE}{gl gh:GO}{pos p2:Pos}(ha:JE X a ga)(hl:JO X lo gl)(hh:JO X hi gh):JE X (.Subscript a (.Slice lo hi none p2) pos) (xV ga gl gh):=by
 refine JE.of (pP (DE.or Iw) aV sv sv) λρ st σ H m Q S R p=>?_
 refine ha.go S R (aw.bind p) λx st1 v m1 H1 p1 e1 S1 rx=>?_
 refine hl.go S1 (R.mono e1) ((aw.bind p1).imp e1 λ_ _ q=>q) λl st2 m2 H2 p2 e2 S2=>?_
 refine hh.go S2 (R.mono (e1.trans e2)) ((aw.bind p2).imp (e1.trans e2) λ_ _ q=>q) λh st3 m3 H3 p3 e3 S3=>?_
 have xW:=e1.trans (e2.trans e3)
 have T9:=ag.mono (e2.trans e3) _ _ rx
 cases x with
 | tup ws=>
  have mG:eE X σ m H (if HT.dC ws.length 0 l=0/\HT.dC ws.length ws.length h=ws.length then .bad else .ok (.tup (rK ws l h)) st3) Q:=p3
  by_cases c:HT.dC ws.length 0 l=0/\HT.dC ws.length ws.length h=ws.length
  ·rw[if_pos c] at mG;exact aa mG
  ·rw[if_neg c] at mG
   unfold ag at T9
   obtain⟨q,xs,rfl,f1,f2⟩:=T9
   refine .inl ⟨q,xs,rfl,fb.of f1,by rw[<-f2.length];exact c,λr hr=>?_⟩
   have e4:Ext X.K m3 H3 m3 (upd H3 r (.tup (rF xs l h))):=Ext.upd (.inl hr)
   exact mG (.ref r) m3 _ (xW.trans e4) (S3.fresh hr) (by unfold ag;exact⟨r,_,rfl,aP,ah.mono e4 _ _ (ue f2)⟩)
 | ref k=>
  have mG:eE X σ m H (match av st3 k with | some ws=> .ok (.ref st3.length) (st3++[.lst (rK ws l h)]) | none=> .bad) Q:=p3
  unfold ag at T9
  obtain⟨q,rfl,f1⟩:=T9
  cases e:av st3 k with
  | none=>rw[e] at mG;exact aa mG
  | some ws=>
   rw[e] at mG
   obtain⟨xs,g1,g2⟩:=S3.read f1 e
   exact .inr ⟨q,xs,rfl,g1,λr hr=>mE mG xW S3 (ue g2) r hr⟩
 | _=>exact aa p3
end
section
variable {X:Cx}
def gR(X:Cx)(f:ado)(op:List Wv->Hs->Re Wv):Prop:=∃r,dB X f r/\∀(ws:List Wv)(vs:List V)(st:Hs)(H:Hp)(m:Mp)(Q:VK),a_ X.K m st H->ah X.K m H ws vs->dI X.K m H (op ws st) Q->r vs H Q
def aZ(op:List Wv->Hs->Re Wv)(g:GA):GE:=λρ st=>(g ρ st).bind λws st1=>(op ws st1).mn
theorem D7{x:Str}{id:String}{p pos:Pos}{e:Expr}{es:List Expr}{g:GA}{op:List Wv->Hs->Re Wv}(hc:gR X (.builtin id) op)(hg:Gl X x)(hm:X.mg x=none)(hv:adt x=some (.builtin id))(ha:JA X (e::es) g)
  (hn:x≠"__name__":=by decide)(hdb:(x == ("__debug__":Str))=false:=by decide)(he:adB (e::es) X.env=(false,eval e X.env)::adB es X.env:=by rfl)(hpl:(backTo pos (adB es X.env)).any (·.1)=false:=by rfl) :
  JE X (.Call (.Name x p) (e::es) [] pos) (aZ op g):=by
 obtain⟨r,h1,h2⟩:=hc
 refine JE.of (DB h1 hg hm hv kc hn hdb he hpl) λρ st σ H m Q S R p=>?_
 exact ha.go S R (aw.bind p) λws st1 vs m1 H1 p1 e1 S1 rs=>h2 ws vs st1 H1 m1 Q S1 rs (dI.shift (aw.mn p1) e1)
theorem BK{x:Str}{T:String}{p pos:Pos}{e:Expr}{es:List Expr}{g:GA}{op:List Wv->Hs->Re Wv}(hc:gR X (.type T) op)(hg:Gl X x)(hm:X.mg x=none)(hv:adt x=some (.type T))(ha:JA X (e::es) g)
  (hn:x≠"__name__":=by decide)(hdb:(x == ("__debug__":Str))=false:=by decide)(he:adB (e::es) X.env=(false,eval e X.env)::adB es X.env:=by rfl)(hpl:(backTo pos (adB es X.env)).any (·.1)=false:=by rfl) :
  JE X (.Call (.Name x p) (e::es) [] pos) (aZ op g):=by
 obtain⟨r,h1,h2⟩:=hc
 refine JE.of (sd h1 hg hm hv kc hn hdb he hpl) λρ st σ H m Q S R p=>?_
 exact ha.go S R (aw.bind p) λws st1 vs m1 H1 p1 e1 S1 rs=>h2 ws vs st1 H1 m1 Q S1 rs (dI.shift (aw.mn p1) e1)
theorem p_{m:Mp}{H:Hp}{w:Wv}{vs:List V}(r:ah X.K m H [w] vs):∃v,vs=[v]/\ag X.K m H w v:=by
 unfold ah at r
 obtain⟨v,t,rfl,h1,h2⟩:=r
 unfold ah at h2
 subst h2
 exact⟨v,rfl,h1⟩
theorem BL{m:Mp}{H:Hp}{w w':Wv}{vs:List V}(r:ah X.K m H [w,w'] vs):∃v v',vs=[v,v']/\ag X.K m H w v/\ag X.K m H w' v':=by
 unfold ah at r
 obtain⟨v,t,rfl,h1,h2⟩:=r
 obtain⟨v',rfl,h3⟩:=p_ h2
 exact⟨v,v',rfl,h1,h3⟩
def mH:List Wv->Hs->Re Wv
 | [.str z],st=>if z.length<=lim then .ok (.int z.length) st else .bad
 | [x],st=>match mF st x with
  | some ws=> .ok (.int ws.length) st
  | none=> .bad
 | _,_=> .bad
theorem NA:gR X (.builtin "len") mH:=⟨_,tU.or tV,λws vs st H m Q S r p=>by
 match ws,r,p with
 | [],r,p=>exact aa p
 | x::y::t,r,p=>cases x<;>exact aa p
 | [x],r,p=>
  obtain⟨v,rfl,rx⟩:=p_ r
  have seqs:(match mF st x with | some ws=>Re.ok (Wv.int ws.length) st | none=> .bad)=mH [x] st->(∃p ys,[v]=[V.ref p]/\(lO X.K H p ys\/fb X.K H p ys)/\Q (.int ys.length) H):=λhp=>by
   rw[<-hp] at p
   cases e:mF st x with
   | none=>rw[e] at p;exact aa p
   | some ws=>
    rw[e] at p
    obtain⟨q,xs,rfl,e2,e3⟩:=ud S rx e
    refine⟨q,xs,rfl,e2,?_⟩
    rw[<-e3.length]
    exact p _ m H Ext.refl S mkInt
  cases x with
  | str z=>
   have p':dI X.K m H (if z.length<=lim then .ok (.int z.length) st else .bad) Q:=p
   by_cases c:z.length<=lim
   ·rw[if_pos c] at p'
    obtain⟨rfl,_⟩:=fe rx
    exact .inr ⟨z,rfl,fT c,p' _ m H Ext.refl S mkInt⟩
   ·rw[if_neg c] at p';exact aa p'
  | _=>exact .inl (seqs rfl)⟩
def Vf:List Wv->Hs->Re Wv
 | [.int i],st=> .ok (.int (if i < 0 then -i else i)) st
 | _,_=> .bad
def Rt(st:Hs)(T:String):Wv->Option Bool
 | .non=>some false
 | .bl _=>some (T == "bool"||T == "int")
 | .int _=>some (T == "int")
 | .str _=>some (T == "str")
 | .tup _=>some (T == "tuple")
 | .og _=>none
 | .ref l=>(av st l).map λ_=>T == "list"
 | .ty _=>none
 | .cls _=>none
 | .vx _=>none
 | .fn _ _=>none
def BM(T:String):Bool:=T == "int"||T == "str"||T == "bool"||T == "tuple"||T == "list"
def D8:List Wv->Hs->Re Wv
 | [x,.ty T],st=>if BM T=true then(match Rt st T x with | some b=> .ok (.bl b) st | none=> .bad) else .bad
 | _,_=> .bad
def Vg(K:PySem.W.Frag):List V->Hp->VK->Prop:=λvs H Q=>∃m st x T v b,vs=[v,.ty T]/\a_ K m st H/\ag K m H x v/\BM T=true/\Rt st T x=some b/\Q (.bl b) H
theorem D9:dB X (.builtin "isinstance") (Vg X.K):=by
 intro pins s σ H xs us Q I r h
 obtain⟨m,st,x,T,v,b,rfl,S,rx,hT,hb,q⟩:=h
 obtain⟨u,u',rfl,r1,r2⟩:=vals2 r
 cases r2
 have fin:∀tk,EP X pins σ Q (.bool b) { s with toks:=tk }:=λtk=>⟨.bl b,H,I.tok tk,rfl,q⟩
 have D_:EP X pins σ Q (.bool b) s:=⟨.bl b,H,I,rfl,q⟩
 unfold BM at hT
 simp only[xX,beq_iff_eq] at hT
 cases x with
 | non=>
  unfold ag at rx;subst rx;cases r1
  cases hb
  rcases hT with (((rfl | rfl) | rfl) | rfl) | rfl<;>
   exact call_isinstance (isinstance_false_none (by decide) (by kernel_rfl) (by rw[ady];kernel_rfl)) (fin _)
 | bl c=>
  unfold ag at rx;subst rx;cases r1
  rcases hT with (((rfl | rfl) | rfl) | rfl) | rfl<;>cases hb<;>first
   | exact call_isinstance_yes (Tx:="bool") rfl (by kernel_rfl) (by rw[ady];kernel_rfl) D_
   | exact call_isinstance (isinstance_false_bool (by decide) (by kernel_rfl) (by rw[ady];kernel_rfl)) (fin _)
 | int c=>
  unfold ag at rx;subst rx;obtain⟨t,rfl⟩:=r1
  rcases hT with (((rfl | rfl) | rfl) | rfl) | rfl<;>cases hb<;>first
   | exact call_isinstance_yes (Tx:="int") (typeIs_int s c t) (by kernel_rfl) (by rw[ady];kernel_rfl) D_
   | exact call_isinstance (isinstance_false_int (by decide) (by kernel_rfl) (by rw[ady];kernel_rfl)) (fin _)
 | str c=>
  obtain⟨rfl,_⟩:=fe rx;obtain⟨t,rfl⟩:=r1
  rcases hT with (((rfl | rfl) | rfl) | rfl) | rfl<;>cases hb<;>first
   | exact call_isinstance_yes (Tx:="str") (typeIs_str s c t) (by kernel_rfl) (by rw[ady];kernel_rfl) D_
   | exact call_isinstance (isinstance_false_str (by decide) (by kernel_rfl) (by rw[ady];kernel_rfl)) (fin _)
 | og ws=>cases hb
 | tup ws=>
  unfold ag at rx;obtain⟨a,xs,rfl,h1,h2⟩:=rx;cases r1
  obtain⟨its,rv,ht,hz⟩:=I.tuple (fb.of h1)
  have hty:=ht.typeIs
  obtain⟨o,ho,hc,k,hd⟩:=ht
  rcases hT with (((rfl | rfl) | rfl) | rfl) | rfl<;>cases hb<;>first
   | exact call_isinstance_yes (Tx:="tuple") hty (by kernel_rfl) (by rw[ady];kernel_rfl) D_
   | exact call_isinstance (isinstance_false_tuple (by decide) (by kernel_rfl) (by rw[ady];kernel_rfl)) ⟨⟨o,ho,hc⟩,fin _⟩
 | ref l=>
  unfold ag at rx;obtain⟨a,rfl,h1⟩:=rx;cases r1
  have hb':(av st l).map (λ_=>T == "list")=some b:=hb
  cases e:av st l with
  | none=>rw[e] at hb';cases hb'
  | some ws=>
   rw[e] at hb'
   obtain⟨xs,hq,h2⟩:=S.read h1 e
   obtain⟨its,rv,ht,hz⟩:=I.list hq
   have hty:=ht.isList.typeIs
   obtain⟨o,ho,hc,k,hd⟩:=ht.isList
   rcases hT with (((rfl | rfl) | rfl) | rfl) | rfl<;>cases hb'<;>first
    | exact call_isinstance_yes (Tx:="list") hty (by kernel_rfl) (by rw[ady];kernel_rfl) D_
    | exact call_isinstance (isinstance_false_list (by decide) (by kernel_rfl) (by rw[ady];kernel_rfl)) ⟨⟨o,ho,hc⟩,fin _⟩
 | ty t=>cases hb
 | cls t=>cases hb
 | vx t=>cases hb
 | fn fp t=>cases hb
theorem NC:gR X (.builtin "isinstance") D8:=⟨_,D9,λws vs st H m Q S r p=>by
 match ws,r,p with
 | [],r,p=>exact aa p
 | [x],r,p=>cases x<;>exact aa p
 | x::y::z::t,r,p=>cases y<;>exact aa p
 | [x,y],r,p=>
  obtain⟨v,v',rfl,rx,ry⟩:=BL r
  cases y with
  | ty T=>
   unfold ag at ry
   subst ry
   have p':dI X.K m H (if BM T=true then(match Rt st T x with | some b=> .ok (.bl b) st | none=> .bad) else .bad) Q:=p
   by_cases c:BM T=true
   ·rw[if_pos c] at p'
    cases e:Rt st T x with
    | none=>rw[e] at p';exact aa p'
    | some b=>rw[e] at p';exact⟨m,st,x,T,v,b,rfl,S,rx,c,e,p' _ m H Ext.refl S jW⟩
   ·rw[if_neg c] at p';exact aa p'
  | _=>exact aa p⟩
def bD:GS:=λρ st=> .nx ρ st
def aN(g h:GS):GS:=λρ st=>match g ρ st with
 | .nx ρ' st'=>h ρ' st'
 | r=>r
theorem IW:p5 X [] bD:=p5.of Ia λρ st σ H m D S R p=>p σ m H Ext.refl S R
theorem Ea{s:Stmt}{rest:List Stmt}{g h:GS}(h1:JS X s g)(h2:p5 X rest h):p5 X (s::rest) (aN g h) :=
 p5.of (Dr Le jd) λρ st σ H m D S R p=>h1 ρ st σ H m _ S R (by
  unfold aN at p
  cases e:g ρ st with
  | nx ρ' st'=>rw[e] at p;exact λσ' m' H' e' S' R'=>h2 ρ' st' σ' H' m' D S' R' (bg.shift p e')
  | rt w st'=>rw[e] at p;exact p
  | bk ρ' st'=>rw[e] at p;exact p
  | ct ρ' st'=>rw[e] at p;exact p
  | err c ρ' st'=>rw[e] at p;exact p
  | bad=>rw[e] at p;exact p)
theorem IX{s:Stmt}{g:GS}(h1:JS X s g):p5 X [s] g:=p5.of (Ib Le) λρ st σ H m D S R p=>h1 ρ st σ H m D S R p
def bp(g:GE):GS:=λρ st=>(g ρ st).bA ρ λw st'=> .rt w st'
theorem ND{e:Expr}{g:GE}{pos:Pos}(h:JE X e g):JS X (.Return (some e) pos) (bp g) :=
 JS.of (Mw aV) λρ st σ H m D S R p=>h.go S R (bg.eB R p) λw st1 v m1 H1 q e1 S1 r1=>q v m1 H1 e1 S1 r1
def i5(g:GE):GS:=λρ st=>(g ρ st).bA ρ λ_ st'=> .nx ρ st'
theorem IY{e:Expr}{g:GE}{pos:Pos}(h:JE X e g)(hs:swapsWith e none pos.line X.env=pure false:=by rfl):JS X (.Expr e pos) (i5 g) :=
 JS.of (Ie aV hs) λρ st σ H m D S R p=>h.go S R (bg.eB R p) λw st1 v m1 H1 q e1 S1 r1=>q σ m1 H1 e1 S1 (R.mono e1)
def je(gt:GT)(ga gb:GS):GS:=λρ st=>(gt ρ st).bA ρ λb st'=>if b=true then ga ρ st' else gb ρ st'
theorem Ru{c:Expr}{a b:List Stmt}{gt:GT}{ga gb:GS}{pos:Pos}(hc:JT X c gt)(ha:p5 X a ga)(hb:p5 X b gb):JS X (.If c a b pos) (je gt ga gb) :=
 JS.of (Qy pZ jd jd) λρ st σ H m D S R p=>hc.go S R (bg.eB R p) λk st1 m1 H1 q e1 S1=>by
  cases k with
  | true=>rw[if_pos rfl] at q ⊢;exact ha ρ st1 σ H1 m1 D S1 (R.mono e1) (bg.shift q e1)
  | false=>rw[if_neg bh] at q ⊢;exact hb ρ st1 σ H1 m1 D S1 (R.mono e1) (bg.shift q e1)
def bt(i:Nat)(g:GE):GS:=λρ st=>(g ρ st).bA ρ λw st'=> .nx (ρ.set i (some w)) st'
theorem qa(i:Nat){x:Str}{e:Expr}{g:GE}{pos pos':Pos}(hN:X.N.Nodup)(h:JE X e g)(hi:X.N[i]? =some x:=by rfl)(hx:Loc X.env.scope x:=by first | exact Or.inl rfl | exact kN rfl)(hs:swapsWith e (some (.Name x pos')) pos.line X.env=pure false:=by rfl)
  (hf:X.fn x=true\/X.env.scope.names.lookup x=some .local:=by first | exact .inl rfl | exact .inr rfl | assumption):JS X (.Assign [.Name x pos'] e pos) (bt i g) :=
 JS.of (MC hN hi hx aV hs hf) λρ st σ H m D S R p=>h.go S R (bg.eB R p) λw st1 v m1 H1 q e1 S1 r1=>q _ m1 H1 e1 S1 ((R.mono e1).set i r1)
def ff:GS:=λ_ _=> .bad
theorem dJ{s:Stmt}:JS X s ff:=JS.of Dt λρ st σ H m D S R p=>p
theorem BN{s:List Stmt}:p5 X s ff:=p5.of Bv λρ st σ H m D S R p=>p
def Rv(o i v:Wv)(ρ:bw)(st:Hs):Rs:=match o,i with
 | .ref l,.int k=>match st[l]? with
  | some (.lst ws)=>(match C6 ws.length k with | some j=> .nx ρ (st.set l (.lst (ws.set j v))) | none=> .bad)
  | _=> .bad
 | _,_=> .bad
def zV(ge go gi:GE):GS:=λρ st=>(ge ρ st).bA ρ λv st1=>(go ρ st1).bA ρ λo st2=>(gi ρ st2).bA ρ λi st3=>Rv o i v ρ st3
theorem IZ{o i e:Expr}{go gi ge:GE}{pos pos':Pos}(he:JE X e ge)(ho:JE X o go)(hi:JE X i gi)(hs:swapsWithSole [.Subscript o i pos'] e pos.line X.env=pure false:=by rfl)(hw:swappedStores [.Subscript o i pos'] e X.env=pure none:=by rfl)
  (h1:(assignEach [.Subscript o i pos'] X.env).map (·.2)=[assign (.Subscript o i pos') X.env]:=by rfl)
  (ha:∀v,assign (.Subscript o i pos') X.env v=(do
   let ov <-holding [v] (eval o X.env)
   let iv <-holding [v,ov] (eval i X.env)
   standAt pos'
   holding [v,ov,iv] (setItem ov iv v)
   release [v,ov,iv] []):=by intro _;rfl):JS X (.Assign [.Subscript o i pos'] e pos) (zV ge go gi):=by
 refine JS.of (MB aV (MA aV aV set_list ha) hs hw h1) λρ st σ H m D S R p=>?_
 refine he.go S R (bg.eB R p) λv st1 vv m1 H1 p1 e1 S1 rv=>?_
 refine ho.go S1 (R.mono e1) ((bg.eB (m:=m) (H:=H) R p1).imp e1 λ_ _ q=>q) λo' st2 ov m2 H2 p2 e2 S2 ro=>?_
 refine hi.go S2 (R.mono (e1.trans e2)) ((bg.eB (m:=m) (H:=H) R p2).imp (e1.trans e2) λ_ _ q=>q) λi' st3 iv m3 H3 p3 e3 S3 ri=>?_
 have xW:=e1.trans (e2.trans e3)
 cases o' with
 | ref l=>
  cases i' with
  | int k=>
   have mG:bg X m H (match st3[l]? with | some (.lst ws)=>(match C6 ws.length k with | some j=> .nx ρ (st3.set l (.lst (ws.set j v))) | none=> .bad) | _=> .bad) D:=p3
   have Yb:=ag.mono e3 _ _ ro
   unfold ag at Yb
   obtain⟨a,rfl,f1⟩:=Yb
   cases e:st3[l]? with
   | none=>rw[e] at mG;exact aa mG
   | some ob=>
    cases ob with
    | dct kvs=>rw[e] at mG;exact aa mG
    | gw kvs=>rw[e] at mG;exact aa mG
    | lR kvs=>rw[e] at mG;exact aa mG
    | DR kvs=>rw[e] at mG;exact aa mG
    | iU kvs=>rw[e] at mG;exact aa mG
    | sj ns=>rw[e] at mG;exact aa mG
    | lst ws=>
     rw[e] at mG
     cases ej:C6 ws.length k with
     | none=>simp only[ej] at mG;exact aa mG
     | some j=>
      simp only[ej] at mG
      obtain⟨xs,g1,g2⟩:=S3.zQ f1 e
      refine⟨a,xs,k,j,rfl,bo ri,g1,by rw[<-g2.length];exact ej,?_⟩
      have rv3:=ag.mono (e2.trans e3) _ _ rv
      have e4:Ext X.K m3 H3 m3 (upd H3 a (.lst (xs.set j vv))):=Ext.upd (.inr ⟨xs,g1⟩)
      exact mG σ m3 _ (xW.trans e4) (S3.write f1 e (g2.set j rv3)) (R.mono (xW.trans e4))
  | _=>exact aa p3
 | _=>cases i'<;>exact aa p3
open Classical in
def forL(i:Nat)(gb:GS)(l:Nat)(all:List Wv):List Wv->bw->Hs->Rs
 | [],ρ,st=> .nx ρ st
 | w::r,ρ,st=>match gb (ρ.set i (some w)) st with
  | .nx ρ' st'=>if av st' l=some all then forL i gb l all r ρ' st' else .bad
  | .ct ρ' st'=>if av st' l=some all then forL i gb l all r ρ' st' else .bad
  | .bk ρ' st'=> .nx ρ' st'
  | .rt w st'=> .rt w st'
  | .err c ρ' st'=> .err c ρ' st'
  | .bad=> .bad
end
def CXJ(P:adm)(w:adp):C5:=λouter H s E e s'=>∃H' C,vB P w outer H s H' (.ref C) e s'/\E (.ref C) none H'
section
variable {X:Cx} {pins:List (adi×Obj)} {σ:St} {Hc H':Hp} {sc s':adn} {cls e:ado} {E:ado->adn->Prop} {Q:Unit->adn->Prop}
theorem old_ne(I:Inv X pins σ Hc sc){b:adi}{o:Obj}(q:X.s₀.heap.get? b=some o):b≠X.env.locals:=λz=>by
 have h1:=aF q
 have h2:=I.ok.above
 rw[z] at h1
 exact absurd (bc h1 h2) (cb _)
theorem I_(I:Inv X pins σ Hc sc)(hst:X.stack=X.env::X.outer)(hf:X.env.frame=some X.env.locals){b:adi}{o:Obj}(q:X.s₀.heap.get? b=some o)(hb:b∉frs X.outer):b∉frs X.stack:=λz=>by
 rw[hst] at z
 unfold frs at z
 rw[tH,hf] at z
 rcases List.mem_cons.mp z with z | z
 ·exact old_ne I q z
 ·exact hb z
theorem Eb(hst:X.stack=X.env::X.outer)(hf:X.env.frame=some X.env.locals){b:adi}(hb:b∈frs X.outer):b∈frs X.stack:=by
 rw[hst]
 unfold frs
 rw[tH,hf]
 exact aJ _ hb
theorem Ec{M:Model}{A:adj}{E:ado->adn->Prop}{s:adn}{base:Heap}{env:Env}{outer:List Env}{L e:adi}{cls a0 nt:ado}{Q:Unit->adn->Prop}(hfr:A.frames=some (env::outer))(hf:env.frame=some L)
  (x:base.StaysIn s.heap/\base.get? e=none/\s.heap.FunFrames base (env::outer)/\T6 s.heap base e cls a0 nt)(k:∀h',DP base (env::outer) e cls a0 L h'->s.heap.UpToSlots h'->Q () { s with heap:=h' }) :
  adC M A (noteFrame (.ref e) env) Q E s:=by
 obtain⟨x1,x2,x3,x4⟩:=x
 by_cases z:nt=rawInt L
 ·subst z
  exact Nf hf x4 (k s.heap ⟨x1,x2,x3,x4⟩ (Heap.UpToSlots.refl _))
 ·obtain⟨ox,us,T,ot,ws,g1,⟨g2,g3⟩,g4,g5,g6,g7,g8,g9,Rw⟩:=x4
  subst g2
  have apart:∀b,b≠T->(s.heap.update T (fu (·.setIfInBounds 3 aS))).get? b=s.heap.get? b:=λb hb=>pQ _ _ (ay hb)
  have plain:∀b o,s.heap.get? b=some o->(∀vs,o.data≠.fields vs)->b≠T:=λb o hb hd q=>by
   subst q
   rw[g8] at hb
   cases hb
   exact hd ws g9
  unfold noteFrame
  simp only[hf]
  refine adD (wpAny_field g1 g4 g5 ?_)
  rw[if_pos (show(aB T != aS)=true from by simp)]
  refine adD (wpAny_field g8 g9 Rw ?_)
  rw[if_neg (show ¬((nt == rawInt L)=true) from by simpa using z)]
  refine adD (wpAny_setField g8 g9 (Array.getElem?_eq_some_iff.mp Rw).1 ?_)
  refine DQ (a0:=a0) hfr (x3.of_keeps λb o hb hd=>⟨o,(apart b (plain b o hb hd)).trans hb,rfl⟩) hf ((apart e (ay g7)).trans g1) (λb o hb=>(apart b λq=>by rw[q,g6] at hb;cases hb).trans (x1 b o hb)) x2 g4 (Array.getElem?_eq_some_iff.mp g5).1 g3 λh' y y4=>?_
  exact k h' y λb o hb hd=>y4 b o ((apart b (plain b o hb hd)).trans hb) hd
theorem BO{M:Model}{A:adj}{E:ado->adn->Prop}{s:adn}{base h:Heap}{env:Env}{outer:List Env}{L a:adi}{cls:ado}{args:List ado}{Q:Unit->adn->Prop}(hfr:A.frames=some (env::outer))(hf:env.frame=some L)
  (st:base.StaysIn h)(fs:h.FunFrames base (env::outer))(mk:DW h s.heap a cls args)(k:∀h' a0,DP base (env::outer) a cls a0 L h'->s.heap.UpToSlots h'->Q () { s with heap:=h' }) :
  adC M A (noteFrame (.ref a) env) Q E s:=by
 obtain⟨t,e1,e2,e3⟩:=mk.there
 have fresh:∀b,h.get? b=none->base.get? b=none:=λb hb=>by
  cases q:base.get? b with
  | none=>rfl
  | some o'=>have z:=st b o' q;rw[hb] at z;cases z
 have fs':=fs.of_keeps (h':=s.heap) λb o hb _=>⟨o,mk.keeps b o hb,rfl⟩
 unfold noteFrame
 simp only[hf]
 refine adD (wpAny_field e1 rfl (x:=.none) rfl ?_)
 rw[if_neg (by decide)]
 exact DQ hfr fs' hf e1 (λb o hb=>mk.keeps b o (st b o hb)) (fresh a mk.new) rfl (by simp) (a0:=.ref t) rfl λh' l1 l4=>k h' (.ref t) l1 l4
theorem Ed{ch:List adi}(hx:X.ex=[])(hst:X.stack=X.env::X.outer)(hf:X.env.frame=some X.env.locals)(I:Inv X pins σ Hc sc){B h2:Heap}(hch:∀b∈ch,eN X pins Hc b)(un:Un (frs X.stack) ch Hc H' sc.heap s'.heap)(up:s'.heap.UpToSlots h2)(stay:B.StaysIn h2)
  (Q5:∀b o,sc.heap.get? b=some o->b∉frs X.stack->b∉ch->∃o',B.get? b=some o'/\(Hc b=none->o'=o)) :
  Un (frs X.outer) [] X.H₀ H' X.s₀.heap h2/\(∀b o,X.s₀.heap.get? b=some o->b∉frs X.outer->∃o',B.get? b=some o'/\(X.H₀ b=none->o'=o)):=by
 have nx:∀b:adi,b∉X.ex:=λb=>by rw[hx];simp
 have nc:∀b o,X.s₀.heap.get? b=some o->b∉ch:=λb o q z=>by
  rcases(hch b z).2.2.2.1 with y | y
  ·exact nx b y
  ·exact absurd (bc (aF q) y) (cb _)
 have NF:∀b o,X.s₀.heap.get? b=some o->b∉frs X.outer->∃o',B.get? b=some o'/\(X.H₀ b=none->o'=o):=λb o q hb=>by
  obtain⟨o1,q1⟩:=I.base.there b o q (nx b)
  obtain⟨o2,q2,q3⟩:=Q5 b o1 q1 (I_ I hst hf q hb) (nc b o q)
  refine⟨o2,q2,λn=>?_⟩
  have q4:=I.base.keep b o q n hb (nx b)
  rw[q4] at q1
  cases q1
  exact q3 (I.base.free b o q n (nx b))
 have sl:∀b o,X.s₀.heap.get? b=some o->X.H₀ b=none->b∈frs X.outer->∃sl,h2.get? b=some { o with slots:=sl }:=λb o q n hb=>by
  obtain⟨s1,q1⟩:=I.base.slot b o q n hb (nx b)
  obtain⟨s2,q2⟩:=un.slot b _ q1 (I.base.free b o q n (nx b)) (Eb hst hf hb) (nc b o q)
  obtain⟨_,o3,q3,q4⟩:=I.ok.ni.mem hb
  rw[q] at q3
  cases q3
  obtain⟨s3,q5⟩:=up b _ q2 q4
  exact⟨s3,q5⟩
 refine⟨⟨λb o q n hb _=>?_,λb o q n hb _=>sl b o q n hb,λb o q n _=>?_,λb o q _=>?_,λb xs h=>un.tups b xs (I.base.tups b xs h),λb o u h=>un.mw b o u (I.base.mw b o u h),λb ps h=>?_⟩,NF⟩
 ·obtain⟨o2,q2,q3⟩:=NF b o q hb
  rw[q3 n] at q2
  exact stay b o q2
 ·obtain⟨o1,q1⟩:=I.base.there b o q (nx b)
  exact un.free b o1 q1 (I.base.free b o q n (nx b)) (nc b o q)
 ·by_cases hb:b∈frs X.outer
  ·obtain⟨s3,q3⟩:=sl b o q (I.ok.Mj b hb) hb
   exact⟨_,q3⟩
  ·obtain⟨o2,q2,_⟩:=NF b o q hb
   exact⟨o2,stay b o2 q2⟩
 ·obtain⟨m1,t1⟩:=I.base.oG b ps h
  obtain⟨m2,t2⟩:=un.oG b _ t1
  exact⟨m1++m2,by rw[<-Array.append_assoc];exact t2⟩
theorem oh(hx:X.ex=[])(hst:X.stack=X.env::X.outer)(hf:X.env.frame=some X.env.locals)(I:Inv X pins σ Hc sc)(F:xS X pins Hc sc H' cls e s')
  (k:∀s2,vB X.prog X.w X.outer X.H₀ X.s₀ H' cls e s2->Q () s2):adC (model X.prog X.w) X.A (leaving X.env e) Q E s':=by
 obtain⟨a,a0,nt,B,ch,rfl,os,bare,hch,un,hok,fl,Q5⟩:=F
 have hfr:X.A.frames=some (X.env::X.outer):=by rw[I.ok.frames,hst]
 rw[hst] at fl
 unfold leaving
 refine adD (Ec hfr hf fl λh1 hd1 up1=>?_)
 refine La hd1 λh2 zW Vh=>k _ ?_
 obtain⟨k1,k2,⟨_,_,k3⟩,k4⟩:=zW
 obtain⟨u2,c2⟩:=Ed hx hst hf I hch un (up1.trans Vh) k1 Q5
 exact⟨a,a0,B,rfl,os.trans I.os,bare,u2,hok,⟨k1,k2,k3,k4⟩,c2⟩
theorem Ee{P:adm}{w:adp}{H:Hp}{h:Heap}{l:List adi}(ok:jb P w H h)(fr:∀b∈l,H b=none):jb P w H (PySem.W.hideAll h l):=λa o q=>
 (ok a o q).stay (λb u hb r=>PySem.W.hideAll_get _ r λz=>by
  have n:=fr b z
  rcases hb with hb | hb
  ·rw[hb,q] at n;cases n
  ·rw[hb] at n;cases n) (λ_ r=>r) λ_ _ r=>r
theorem qb{a C:adi}{args:List ado}(hx:X.ex=[])(hst:X.stack=X.env::X.outer)(hf:X.env.frame=some X.env.locals)(I:Inv X pins σ Hc sc)(ho:s'.os=sc.os)(hgn:s'.gens=sc.gens)
  (M:DW sc.heap s'.heap a (.ref C) args)(k:∀s2,vB X.prog X.w X.outer X.H₀ X.s₀ Hc (.ref C) (.ref a) s2->Q () s2):adC (model X.prog X.w) X.A (leaving X.env (.ref a)) Q E s':=by
 have hfr:X.A.frames=some (X.env::X.outer):=by rw[I.ok.frames,hst]
 have fs:sc.heap.FunFrames (PySem.W.hideAll sc.heap (frs X.stack)) (X.env::X.outer):=by
  rw[<-hst]
  exact PySem.W.funFrames_hide I.stack λenv he b hb=>List.mem_filterMap.mpr ⟨env,he,hb⟩
 unfold leaving
 refine adD (BO (base:=PySem.W.hideAll sc.heap (frs X.stack)) hfr hf (λb o q=>PySem.W.of_hideAll _ q) fs M λh1 t hd1 up1=>?_)
 refine La hd1 λh2 zW Vh=>k _ ?_
 have up:=up1.trans Vh
 replace zW:Nc (PySem.W.hideAll sc.heap (frs X.stack)) X.outer a (.ref C) t h2:=let ⟨k1,k2,⟨_,_,k3⟩,k4⟩:=zW;⟨k1,k2,k3,k4⟩
 obtain⟨u2,c2⟩:=Ed (H':=Hc) (s':=s') (ch:=[]) hx hst hf I (λb z=>by cases z) (Un.kept M.keeps) up zW.1 λb o q hb _=>⟨o,PySem.W.hideAll_get _ q hb,λ_=>rfl⟩
 exact⟨a,t,_,rfl,ho.trans I.os,by rw[show({ s' with heap:=h2 }:adn).gens=sc.gens from hgn];exact I.bare,u2,Ee I.hok I.oY,zW,c2⟩
end
def Ef(K:PySem.W.Frag)(m:Mp)(H:Hp)(r:Re Wv)(Q:VK)(E:XK):Prop:=match r with
 | .ok w st=>P4 K m H Q w st
 | .err c st=>∀(m':Mp)(H':Hp)(C:adi),Ext K m H m' H'->a_ K m' st H'->ClsAt K c C->E (.ref C) none H'
 | .bad=>False
def spW(K:PySem.W.Frag)(n:Nat)(F:List Wv->Hs->Re Wv):Sp:=λvs H Q E=>∃m st ws,a_ K m st H/\ah K m H ws vs/\ws.length=n/\Ef K m H (F ws st) Q E
def az(n:Nat)(F:List Wv->Hs->Re Wv)(g:GA):GE:=λρ st=>(g ρ st).bind λws st1=>if ws.length=n then F ws st1 else .bad
section
variable {X:Cx}
theorem Ja{k n:Nat}{f:adi}{fd:adk}{ps:List Str}{F:List Wv->Hs->Re Wv}{x:Str}{p pos:Pos}{e:Expr}{es:List Expr}{g:GA}
  (G:FnOk X.prog X.w X.K X.mg X.base (CXJ X.prog X.w) k f fd ps (spW X.K n F))(hr:iF k X.A)(hm:X.mg x=some (.ref f))(hk:PySem.W.keepIn X.K (.ref f)=true)(hb:Binds X.K fd ps [])(ha:JA X (e::es) g)(hg:Gl X x:=by rfl)
  (hdb:(x == ("__debug__":Str))=false:=by decide)(he:adB (e::es) X.env=(false,eval e X.env)::adB es X.env:=by rfl)(hpl:(backTo pos (adB es X.env)).any (·.1)=false:=by rfl) :
  JE X (.Call (.Name x p) (e::es) [] pos) (az n F g):=by
 intro ρ st σ H m Q S R p pins s I
 have args:=ha.go (T:=λvs H1=>∃ws st1 m1,eE X σ m H (if ws.length=n then F ws st1 else .bad) Q/\Ext X.K m H m1 H1/\a_ X.K m1 st1 H1/\ah X.K m1 H1 ws vs) S R (aw.bind p)
  λws st1 vs m1 H1 p1 e1 S1 rs=>⟨ws,st1,m1,p1,e1,S1,rs⟩
 refine wpAny_Call_Name_kw (tJ I hg hm ?_ hdb)
 refine PySem.W.callWith_K (h₀:=X.base) I.ok.mod.PV hk (bA (args pos pins s I) λus s1 ⟨vs,H1,I1,r,ws,st1,m1,p1,e1,S1,rs⟩=>⟨I1.C4,?_⟩) he hpl
 by_cases c:ws.length=n
 ·rw[if_pos c] at p1
  let E:XK:=λcl _ H2=>∃c' st2 m2 C,cl= .ref C/\ClsAt X.K c' C/\F ws st1= .err c' st2/\Ext X.K m1 H1 m2 H2/\a_ X.K m2 st2 H2
  have sp:spW X.K n F vs H1 Q E:=by
   refine⟨m1,st1,ws,S1,rs,c,?_⟩
   cases er:F ws st1 with
   | ok w st2=>rw[er] at p1;exact eE.shift (r:=.ok w st2) p1 e1
   | err c' st2=>exact λm2 H2 C e2 S2 hC=>⟨c',st2,m2,C,rfl,hC,er,e2,S2⟩
   | bad=>rw[er] at p1;exact aa p1
  have hl:us.length=ps.length:=by rw[<-r.length];exact G.len _ _ _ _ sp
  have bd:=hb s1 us I1.C4 (by rw[gO];exact hl)
  rw[gO] at bd
  refine wpAny_call (codeAny_mono (G.run X.A X.stack s1 H1 ⟨us,[]⟩ us vs Q E hr I1.QM bd r sp) λrr s2 hq=>?_)
  cases rr with
  | error x=>
   obtain⟨H2,C,fl,c',st2,m2,C',ec,hC,er,e2,S2⟩:=hq
   cases ec
   rw[er] at p1
   exact p1 m2 H2 x s2 (e1.trans e2) S2 ⟨C,pins,H1,s1,hC,I1,.inl fl.any⟩
  | ok fw=>
   cases fw with
   | ret u=>exact I1.after hq
   | next=>exact aa hq
   | brk=>exact aa hq
   | cont=>exact aa hq
 ·rw[if_neg c] at p1;exact aa p1
end
def cQ(n:Nat)(g:GS):List Wv->Hs->Re Wv:=λws st=>match g (ws.map some++aQ (n - ws.length) none) st with
 | .nx _ st'=> .ok .non st'
 | .rt w st'=> .ok w st'
 | .err c _ st'=> .err c st'
 | _=> .bad
theorem Eg{K:PySem.W.Frag}{m:Mp}{H:Hp}{N:List Str}{ws:List Wv}{vs:List V}(r:ah K m H ws vs)(h:ws.length<=N.length):aA K m H (ws.map some++aQ (N.length - ws.length) none) (L2.start N vs):=by
 have hl:=r.length
 refine⟨by unfold L2.start;simp[hl],λi w e=>?_⟩
 by_cases hi:i < ws.length
 ·rw[d_ (by simpa using hi),eO] at e
  cases q:ws[i]? with
  | none=>rw[q] at e;cases e
  | some w'=>
   rw[q] at e
   cases e
   obtain⟨x,h1,h2⟩:=r.get q
   refine⟨x,?_,h2⟩
   unfold L2.start
   rw[d_ (by simp;omega),eO,h1]
   rfl
 ·rw[gP (by simpa using hi),tO] at e
  split at e<;>cases e
section
variable {P:adm} {w:adp} {K:PySem.W.Frag} {mg:Str->Option ado} {base:Heap}
theorem xY{N:List Str}{qual:Str}{scope:Scope}{f:adi}{cdv:ado}{A:adj}{outer:List Env}{s s':adn}{H H':Hp}{E:XK}{σ:St}{c:PySem.Str}{e:ado}
  (r:t9 (rE (CXJ P w) P w K mg base N qual scope f cdv A outer s H E) σ H' c e s')(h:∀C,ClsAt K c C->E (.ref C) none H'):(rE (CXJ P w) P w K mg base N qual scope f cdv A outer s H E).xe e s':=by
 obtain⟨C,pins,Hc,sc,hC,I,r⟩:=r
 rcases r with fl | ⟨rfl,a,args,rfl,ho,hg,M⟩
 ·exact oh (X:=rE (CXJ P w) P w K mg base N qual scope f cdv A outer s H E) rfl rfl rfl I fl λs2 zW=>⟨H',C,zW,h C hC⟩
 ·exact qb (X:=rE (CXJ P w) P w K mg base N qual scope f cdv A outer s H E) rfl rfl rfl I ho hg M λs2 zW=>⟨H',C,zW,h C hC⟩
def Eh(K:PySem.W.Frag)(f:adi)(cdv:ado):Prop:=∃o,K.lookup f=some o/\∃fd,o.data= .func fd/\fd.code=cdv
theorem Lo{x qual:Str}{st:Stmt}{f:adi}{fd:adk}{N ps:List Str}{k:Nat}{g:GS}(F:M7 K x qual st f fd)(S:FnScope N ps (defScope st))
  (body:∀(cdv:ado),Eh K f cdv->∀(A:adj)(outer:List Env)(s:adn)(H:Hp)(E:XK),iF k (A.deeper (envOfC qual (defScope st) s.heap.objs.size f cdv))->p5 (rE (CXJ P w) P w K mg base N qual (defScope st) f cdv A outer s H E) (defBody st) g) :
  FnOk P w K mg base (CXJ P w) (k+1) f fd ps (spW K ps.length (cQ N.length g)):=by
 have hpl:ps.length<=N.length:=by have:=congrArg dZ S.pre;rw[tN] at this;omega
 obtain⟨oc,od,kV,doc,pm,an,cdv,ct,osl,rfl,lk,hcd⟩:=F.ex
 refine QO lk hcd S (λvs H Q E h=>?_) λA outer s H vs Q E hr h=>?_
 ·obtain⟨m,st',ws,_,r,hl,_⟩:=h
  rw[<-r.length];exact hl
 ·obtain⟨m,st',ws,S',r,hl,p⟩:=h
  refine⟨_,jd,?_⟩
  refine body cdv ⟨_,lk,_,rfl,rfl⟩ A outer s H E hr _ st' _ H m _ S' (Eg r (by omega)) ?_
  unfold cQ at p
  cases e:g (ws.map some++aQ (N.length - ws.length) none) st' with
  | nx ρ st2=>rw[e] at p;exact λσ m' H' e' S2 R2=>p _ m' H' e' S2 (by unfold ag;rfl)
  | rt w' st2=>rw[e] at p;exact p
  | bk ρ st2=>rw[e] at p;exact aa p
  | ct ρ st2=>rw[e] at p;exact aa p
  | err c ρ st2=>rw[e] at p;exact λσ m' H' x s' e' S2 R2 rz=>xY rz λC hC=>p m' H' C e' S2 hC
  | bad=>rw[e] at p;exact aa p
end
def zX(H:Hp):Prop:=∀b,H b=none\/(∃o xs,H b=some (.gH o (.lst xs)))\/H b=some (.iW #[])
theorem law_sp{K:PySem.W.Frag}{F:List Wv->Hs->Re Wv}(h:∀ns:List Int,ns.length<=63->∃st,F [.ref 0] [.sj ns]= .ok (.bl true) st)(H:Hp)(a:adi)(ns:List Int)(hl:ns.length<=63)(hO:zX H)(hS:lO K H a (ns.map V.int))(hT:lS K H) :
  spW K 1 F [.ref a] H (λv _=>v= .bl true) λ_ _ _=>False:=by
 obtain⟨st,e⟩:=h ns hl
 refine⟨[a],[.sj ns],[.ref 0],⟨rfl,λl b o h1 h2=>?_,λl l' b ws ws' _ _ h2 _ k _=>?_,hT⟩,ah.cons (by unfold ag;exact⟨a,rfl,rfl⟩) ah.nil,rfl,?_⟩
 ·cases l with
  | zero=>
   simp at h1 h2
   subst h1 h2
   show vA K H a ns
   rcases hS with (q | ⟨o',q⟩) | q
   ·rcases hO a with z | ⟨o',xs,z⟩ | z
    ·rw[z] at q;cases q
    ·rw[z] at q;cases q
    ·rw[z] at q;cases q
   ·exact .inl ⟨o',q⟩
   ·exact .inr q
  | succ l=>simp at h1
 ·cases l with
  | zero=>simp at h2;subst h2;simp[Ob.mu] at k
  | succ l=>simp at h2
 ·rw[e]
  intro v m' H' _ _ r
  unfold ag at r
  exact r
def NG(w:Wv)(st:Hs):Re Bool:=match w with
 | .non=> .ok false st
 | .bl b=> .ok b st
 | .int i=> .ok (i != 0) st
 | .str y=>if y.length<=lim then .ok ((y.length:Int) != 0) st else .bad
 | .tup ws=> .ok (!ws.isEmpty) st
 | .og _=> .bad
 | .ref l=>match av st l with
  | some ws=> .ok (!ws.isEmpty) st
  | none=> .bad
 | .ty _=> .bad
 | .cls _=> .bad
 | .vx _=> .bad
 | .fn _ _=> .bad
def jX(g:GE):GT:=λρ st=>(g ρ st).bind NG
section
variable {X:Cx}
theorem Yc{m:Mp}{H:Hp}{ws:List Wv}{xs:List V}(r:ah X.K m H ws xs):(!ws.isEmpty)= !xs.isEmpty:=by
 have h:=r.length
 cases ws<;>cases xs<;>simp_all
theorem qc{e:Expr}{g:GE}(h:JE X e g)(he:∀whole,isTrue e X.env whole=(do let v <-whole;standAt e.pos;holding [v] (truthy v))):JT X e (jX g) :=
 JT.of (Dz aV he) λρ st σ H m Q S R p=>h.go S R (aw.bind p) λw st1 v m1 H1 p1 e1 S1 r1=>by
  cases w with
  | non=>unfold ag at r1;subst r1;exact⟨false,rfl,p1 m1 H1 e1 S1⟩
  | bl b=>unfold ag at r1;subst r1;exact⟨b,rfl,p1 m1 H1 e1 S1⟩
  | int i=>unfold ag at r1;subst r1;exact⟨_,rfl,p1 m1 H1 e1 S1⟩
  | str y=>
   obtain⟨rfl,_⟩:=fe r1
   have p2:iY X σ m H (if y.length<=lim then .ok ((y.length:Int) != 0) st1 else .bad) Q:=p1
   by_cases c:y.length<=lim
   ·rw[if_pos c] at p2;exact⟨_,⟨fT c,rfl⟩,p2 m1 H1 e1 S1⟩
   ·rw[if_neg c] at p2;exact aa p2
  | og ws=>exact aa p1
  | tup ws=>
   unfold ag at r1
   obtain⟨a,xs,rfl,h1,h2⟩:=r1
   refine⟨!xs.isEmpty,.inr (.inl ⟨xs,fb.of h1,rfl⟩),?_⟩
   rw[<-Yc h2]
   exact p1 m1 H1 e1 S1
  | ref l=>
   unfold ag at r1
   obtain⟨a,rfl,h1⟩:=r1
   have p2:iY X σ m H (match av st1 l with | some ws=> .ok (!ws.isEmpty) st1 | none=> .bad) Q:=p1
   cases el:av st1 l with
   | none=>rw[el] at p2;exact aa p2
   | some ws=>
    rw[el] at p2
    obtain⟨xs,hq,h2⟩:=S1.read h1 el
    refine⟨!xs.isEmpty,.inl ⟨xs,hq,rfl⟩,?_⟩
    rw[<-Yc h2]
    exact p2 m1 H1 e1 S1
  | ty T=>exact aa p1
  | cls T=>exact aa p1
  | vx T=>exact aa p1
  | fn fp T=>exact aa p1
theorem vH{p:Nat->Bool}{x:Array Nat}(hx:x.all p=true):∀(n:Nat)(a:Array Nat),a.all p=true->((aQ n x).foldl (· ++·) a).all p=true
 | 0,a,h=>h
 | n+1,a,h=>by
  rw[hX,xQ]
  refine vH hx n _ ?_
  rw[Array.all_append,h,hx]
  rfl
theorem BP{x:PySem.Str}{n:Nat}(h:aO x=true):aO (vE n x)=true:=by
 unfold aO at h ⊢
 unfold vE
 exact vH h n #[] (by simp)
theorem sx{x:Array Nat}:∀(n:Nat)(a:Array Nat),((aQ n x).foldl (· ++·) a).size=a.size+x.size * n
 | 0,a=>by simp
 | n+1,a=>by
  rw[hX,xQ,sx n,Array.size_append,Nat.mul_succ]
  omega
theorem Ei{x:PySem.Str}{n:Nat}:(vE n x).length=x.length * n:=by
 show((aQ n x.cps).foldl (· ++·) #[]).size=x.cps.size * n
 rw[sx]
 simp
def sy(x:PySem.Str)(n:Int):Prop:=1 < n/\n<=100000/\x.length≠0/\x.length * n.toNat<=lim
instance {x n}:Decidable (sy x n):=by unfold sy;infer_instance
theorem Jb:fI X (ads .Mult) (λx y H Q=>∃z n,x= .str z/\y= .int n/\sy z n/\Q (.str (vE n.toNat z)) H):=by
 intro pins s σ H x y v u Q I rx ry h
 obtain⟨z,n,rfl,rfl,⟨h1,h2,h3,h4⟩,q⟩:=h
 obtain⟨t,rfl⟩:=rx
 obtain⟨t',rfl⟩:=ry
 have n1:¬n < 1:=by omega
 have hlen:z.length<=lim:=by
  refine bf ?_ h4
  exact Nat.le_mul_of_pos_right _ (by omega)
 have hne:(n == 1||z.length == 0)=false:=by
  have e1:(n == 1)=false:=by rw[beq_eq_false_iff_ne];omega
  have e2:(z.length == 0)=false:=by rw[beq_eq_false_iff_ne];exact h3
  rw[e1,e2];rfl
 have hl:PySem.Builtin.Str.tooLong (z.length * n.toNat)=false:=by
  unfold PySem.Builtin.Str.tooLong
  have q:=fT h4
  first
   | exact decide_eq_false (by omega)
   | simp only[decide_eq_false_iff_not];omega
 refine PySem.P.mul_str (by
   have e1:¬n < -(2 ^ 63:Int):=by omega
   have e2:¬n >= 2 ^ 63:=by omega
   rw[decide_eq_false e1,decide_eq_false e2];rfl) (λ_ _=>?_) (λ_ _=>hl) ?_
 ·have e:((2:Int) ^ 63 - 1) / 100000<=(2 ^ 63 - 1) / n:=by
   refine Int.le_ediv_of_mul_le (by omega) ?_
   have:((2:Int) ^ 63 - 1) / 100000 * n<=((2:Int) ^ 63 - 1) / 100000 * 100000:=Int.mul_le_mul_of_nonneg_left h2 (by decide)
   exact uf this (by decide)
  have e':(1000000:Int)<=(2 ^ 63 - 1) / 100000:=by decide
  unfold lim at hlen
  omega
 ·rw[if_neg n1,if_neg (by rw[hne];exact bh)]
  exact⟨by show(vE n.toNat z).length<=_;rw[Ei];exact fT h4,.str (vE n.toNat z),H,I.tok _,⟨_,rfl⟩,q⟩
def Lp:fY
 | .int i,.int j,st=>if IntMulOk i j then .ok (.int (i * j)) st else .bad
 | .str z,.int n,st=>if sy z n then .ok (.str (vE n.toNat z)) st else .bad
 | _,_,_=> .bad
theorem Jc:kO X (ads .Mult) Lp:=⟨_,fI.or IK Jb,λx y a b st H m Q S rx ry p=>by
 cases x with
 | int i=>
  cases y with
  | int j=>
   cases bo rx;cases bo ry
   have p':dI X.K m H (if IntMulOk i j then .ok (.int (i * j)) st else .bad) Q:=p
   by_cases c:IntMulOk i j
   ·rw[if_pos c] at p';exact .inl ⟨i,j,rfl,rfl,c,p' _ m H Ext.refl S mkInt⟩
   ·rw[if_neg c] at p';exact aa p'
  | _=>exact aa p
 | str z=>
  cases y with
  | int n=>
   obtain⟨rfl,hz⟩:=fe rx
   cases bo ry
   have p':dI X.K m H (if sy z n then .ok (.str (vE n.toNat z)) st else .bad) Q:=p
   by_cases c:sy z n
   ·rw[if_pos c] at p';exact .inr ⟨z,n,rfl,rfl,c,p' _ m H Ext.refl S (mkStr (BP hz))⟩
   ·rw[if_neg c] at p';exact aa p'
  | _=>exact aa p
 | _=>exact aa p⟩
def bO:GE:=λ_ _=> .bad
def i6:GT:=λ_ _=> .bad
theorem aH{e:Expr}:JE X e bO:=λρ st σ H m Q S R p=>aa p
theorem iH{e:Expr}:JT X e i6:=λρ st σ H m Q S R p=>aa p
end
def oJ(P:adm)(w:adp)(K:PySem.W.Frag)(mg:Str->Option ado)(base:Heap)(k:Nat)(x:Str)(n:Nat)(F:List Wv->Hs->Re Wv):Prop :=
 ∃f fd ps,FnOk P w K mg base (CXJ P w) k f fd ps (spW K n F)/\mg x=some (.ref f)/\PySem.W.keepIn K (.ref f)=true/\Binds K fd ps []
theorem oJ.mono{P:adm}{w:adp}{K:PySem.W.Frag}{mg:Str->Option ado}{base:Heap}{j k:Nat}{x:Str}{n:Nat}{F:List Wv->Hs->Re Wv}(h:oJ P w K mg base j x n F)(l:j<=k):oJ P w K mg base k x n F:=by
 obtain⟨f,fd,ps,G,r⟩:=h
 exact⟨f,fd,ps,G.mono l,r⟩
def bT(K:PySem.W.Frag)(x:Str)(st:Stmt):Prop:=∃f fd,PySem.W.nsIn K adz x=some (some (.ref f))/\M7 K x x st f fd
theorem nz{K:PySem.W.Frag}{x:Str}{st:Stmt}{f:adi}{oc:ado}{od an:Option adi}{osl:Array (Option ado)}{kV doc pm cdv ct:ado}(a:PySem.W.nsIn K adz x=some (some (.ref f)))
  (l:K.lookup f=some ⟨oc,od,.func (PySem.W.fnOf x x (defArgs st) (defBody st) (defScope st) .none kV doc pm an cdv ct),osl⟩)(c:PySem.W.codeIn K cdv x=true)(k:PySem.W.keepIn K (.ref f)=true):bT K x st:=⟨f,_,a,M8 l c k⟩
theorem Ej:adt "isinstance"=some (.builtin "isinstance"):=by decide+kernel
theorem BQ:adt "len"=some (.builtin "len"):=by decide+kernel
theorem Ek:adt "int"=some (.type "int"):=by decide+kernel
theorem El:adt "str"=some (.type "str"):=by decide+kernel
theorem Em:adt "bool"=some (.type "bool"):=by decide+kernel
theorem vI:adt "tuple"=some (.type "tuple"):=by decide+kernel
theorem En:adt "list"=some (.type "list"):=by decide+kernel
def dh(i:Nat)(gb:GS):List Wv->bw->Hs->Rs
 | [],ρ,st=> .nx ρ st
 | w::r,ρ,st=>match gb (ρ.set i (some w)) st with
  | .nx ρ' st'=>dh i gb r ρ' st'
  | .ct ρ' st'=>dh i gb r ρ' st'
  | .bk ρ' st'=> .nx ρ' st'
  | .rt w st'=> .rt w st'
  | .err c ρ' st'=> .err c ρ' st'
  | .bad=> .bad
section
variable {X:Cx}
theorem mI(i:Nat){body:List Stmt}{gb:GS}(hb:p5 X body gb){J':It}{ws:List Wv}{m1:Mp}{H1:Hp}{st1:Hs}{ρ:bw}{σ:St}{D:Ends}(S1:a_ X.K m1 st1 H1)(R:aA X.K m1 H1 ρ σ)(p1:bg X m1 H1 (dh i gb ws ρ st1) D)
  (hgo:∀(k:Nat)(H:Hp)(m':Mp),Ext X.K m1 H1 m' H->k < ws.length->J'.go k H)(hstop:∀(k:Nat)(H:Hp)(m':Mp),Ext X.K m1 H1 m' H->k=ws.length->J'.stop k H)
  (hy:∀(k:Nat)(hk:k < ws.length)(H:Hp)(x:V)(H':Hp)(m':Mp),Ext X.K m1 H1 m' H->J'.ve k H x H'->H'=H/\ag X.K m' H ws[k] x) :
  ∃W:Nat->Nat->St->Hp->Prop,(∃m,W 0 m σ H1)/\∀k n σ H,W k n σ H->
   (J'.stop k H/\D.nx σ H)\/(J'.go k H/\∃N:St->Hp->Prop,(∀σ' H',N σ' H'->∃m',m' < n/\W (k+1) m' σ' H')/\∀x H',J'.ve k H x H'->vj i x σ H' λσ2 H2=>T8 X body { D with nx:=N,ct:=N,bk:=D.nx } σ2 H2):=by
 let Pv:Nat->St->Hp->Prop:=λk σ H=>∃ρ st m',Ext X.K m1 H1 m' H/\a_ X.K m' st H/\aA X.K m' H ρ σ/\bg X m' H (dh i gb (ws.drop k) ρ st) D
 refine⟨λk n σ H=>n=ws.length - k/\k<=ws.length/\Pv k σ H,⟨ws.length,by simp,bb _,ρ,st1,m1,Ext.refl,S1,R,p1⟩,?_⟩
 rintro k n σ2 H2 ⟨rfl,hk,ρ2,st2,m2,e2,S2,R2,p2⟩
 by_cases hlt:k < ws.length
 ·refine .inr ⟨hgo k H2 m2 e2 hlt,Pv (k+1),λσ' H' p'=>⟨ws.length - (k+1),by omega,rfl,hlt,p'⟩,λx H' y=>?_⟩
  obtain⟨ee,ug⟩:=hy k hlt H2 x H' m2 e2 y
  subst ee
  have ed:ws.drop k=ws[k]::ws.drop (k+1):=uh hlt
  rw[ed] at p2
  refine hb _ st2 _ _ m2 _ S2 (R2.set i ug) ?_
  unfold dh at p2
  cases eg:gb (ρ2.set i (some ws[k])) st2 with
  | nx ρ3 st3=>rw[eg] at p2;exact λσ3 m3 H3 e3 S3 R3=>⟨ρ3,st3,m3,e2.trans e3,S3,R3,bg.shift p2 e3⟩
  | ct ρ3 st3=>rw[eg] at p2;exact λσ3 m3 H3 e3 S3 R3=>⟨ρ3,st3,m3,e2.trans e3,S3,R3,bg.shift p2 e3⟩
  | bk ρ3 st3=>rw[eg] at p2;exact p2
  | rt w3 st3=>rw[eg] at p2;exact p2
  | err c3 ρ3 st3=>rw[eg] at p2;exact p2
  | bad=>rw[eg] at p2;exact p2
 ·have e:k=ws.length:=by omega
  subst e
  rw[xZ] at p2
  exact .inl ⟨hstop _ H2 m2 e2 rfl,p2 σ2 m2 H2 Ext.refl S2 R2⟩
def Vi(K:PySem.W.Frag)(tl:TE):TI:=λσ H R=>tl σ H λx H1=>∃a,x= .ref a/\(((∃xs,lO K H1 a xs)/\R (X1 K a) H1)\/((∃xs,fb K H1 a xs)/\R (X2 K a) H1))
theorem Eo{tg l:Expr}{tl:TE}(hl:PE X l tl):PI X tg l (Vi X.K tl):=by
 intro pins s σ H R I h
 refine bA (hl pins s σ H _ I h) λv s1 ⟨x,H1,I1,r1,q1⟩=>?_
 obtain⟨a,e,q1⟩:=q1
 subst e
 cases r1
 have frs:∀b∈[s1.heap.objs.size],eN X pins H1 b:=λb hb=>by
  have e:b=s1.heap.objs.size:=by simpa using hb
  subst e
  exact I1.vm (aj _) (I1.hok.fresh (aj _))
 rcases q1 with ⟨⟨xs,hq⟩,q⟩ | ⟨⟨xs,hq⟩,q⟩
 ·obtain⟨its,rv,p,hz⟩:=I1.list hq
  refine wpAny_pyIter_list p.isList ?_
  exact⟨s1.heap.objs.size,[s1.heap.objs.size],_,_,H1,rfl,I1.kept (t':=s1.toks) λb o e=>aL _ e,Bw a _,⟨_,aU _ rfl,rfl,rfl⟩,frs,q⟩
 ·obtain⟨its,rv,p,hz⟩:=I1.tuple hq
  refine wpAny_pyIter_tuple (show s1.heap.IsTuple a its.toArray from p) ?_
  exact⟨s1.heap.objs.size,[s1.heap.objs.size],_,_,H1,rfl,I1.kept (t':=s1.toks) λb o e=>aL _ e,xB a _,⟨_,aU _ rfl,rfl,rfl⟩,frs,q⟩
def qf(i:Nat)(gi:GE)(gb:GS):GS:=λρ st=>(gi ρ st).bA ρ λw st1=>match w with
 | .ref l=>(match av st1 l with | some ws=>forL i gb l ws ws ρ st1 | none=> .bad)
 | .tup ws=>dh i gb ws ρ st1
 | .og ws=>dh i gb ws ρ st1
 | _=> .bad
theorem x8(i:Nat){x:Str}{iter:Expr}{body:List Stmt}{gi:GE}{gb:GS}{pos pos':Pos}(hN:X.N.Nodup)(hp:PassesOwn (model X.prog X.w) X.A X.env X.xe)(hc:X.calm=true)(hi:JE X iter gi)(hb:p5 X body gb)
  (hx:X.N[i]? =some x)(hlo:Loc X.env.scope x)(Rx:X.fn x=true\/X.env.scope.names.lookup x=some .local)
  (hs:∀x,adx iter X.env x=pure x):JS X (.For (.Name x pos') iter body [] pos) (qf i gi gb):=by
 refine JS.of (xD hp hc (Eo aV) (oZ hN hx hlo Rx) jd hs) λρ st σ H m D S R p=>?_
 refine hi.go S R (bg.eB R p) λw st1 v m1 H1 p1 e1 S1 rw'=>?_
 cases w with
 | ref l=>
  have p1':bg X m H (match av st1 l with | some ws=>forL i gb l ws ws ρ st1 | none=> .bad) D:=p1
  unfold ag at rw'
  obtain⟨a,rfl,hla⟩:=rw'
  cases el:av st1 l with
  | none=>rw[el] at p1';exact aa p1'
  | some ws=>
   rw[el] at p1'
   obtain⟨NH,q0,_⟩:=S1.read hla el
   refine⟨a,rfl,.inl ⟨⟨NH,q0⟩,?_⟩⟩
   let Pv:Nat->St->Hp->Prop:=λk σ H=>∃ρ st m',Ext X.K m1 H1 m' H/\a_ X.K m' st H/\aA X.K m' H ρ σ/\av st l=some ws/\bg X m' H (forL i gb l ws (ws.drop k) ρ st) D
   refine⟨λk n σ H=>n=ws.length - k/\k<=ws.length/\Pv k σ H,⟨ws.length,by simp,bb _,ρ,st1,m1,Ext.refl,S1,R.mono e1,el,bg.shift p1' e1⟩,?_⟩
   rintro k n σ2 H2 ⟨rfl,hk,ρ2,st2,m2,e2,S2,R2,l2,p2⟩
   obtain⟨xs,hq,rws⟩:=S2.read (e2.pre _ _ hla) l2
   have hlen:=rws.length
   by_cases hlt:k < ws.length
   ·have hx':k < xs.length:=by omega
    refine .inr ⟨⟨xs,xs[k],hq,by simp[hx']⟩,Pv (k+1),λσ' H' p'=>⟨ws.length - (k+1),by omega,rfl,hlt,p'⟩,λx H' y=>?_⟩
    obtain⟨ee,y⟩:=y
    subst ee
    have ey:=y xs hq
    have ed:ws.drop k=ws[k]::ws.drop (k+1):=uh hlt
    obtain⟨x',ex',ug⟩:=rws.get (i:=k) (w:=ws[k]) (cE hlt)
    rw[ey] at ex'
    cases ex'
    rw[ed] at p2
    refine hb _ st2 _ _ m2 _ S2 (R2.set i ug) ?_
    unfold forL at p2
    cases eg:gb (ρ2.set i (some ws[k])) st2 with
    | nx ρ3 st3=>
     rw[eg] at p2
     by_cases c:av st3 l=some ws
     ·simp only[if_pos c] at p2
      exact λσ3 m3 H3 e3 S3 R3=>⟨ρ3,st3,m3,e2.trans e3,S3,R3,c,bg.shift p2 e3⟩
     ·simp only[if_neg c] at p2;exact aa p2
    | ct ρ3 st3=>
     rw[eg] at p2
     by_cases c:av st3 l=some ws
     ·simp only[if_pos c] at p2
      exact λσ3 m3 H3 e3 S3 R3=>⟨ρ3,st3,m3,e2.trans e3,S3,R3,c,bg.shift p2 e3⟩
     ·simp only[if_neg c] at p2;exact aa p2
    | bk ρ3 st3=>rw[eg] at p2;exact p2
    | rt w3 st3=>rw[eg] at p2;exact p2
    | err c3 ρ3 st3=>rw[eg] at p2;exact p2
    | bad=>rw[eg] at p2;exact p2
   ·have e:k=ws.length:=by omega
    subst e
    rw[xZ] at p2
    exact .inl ⟨⟨xs,hq,by omega⟩,p2 σ2 m2 H2 Ext.refl S2 R2⟩
 | tup ws=>
  unfold ag at rw'
  obtain⟨a,xs,rfl,hq,rws⟩:=rw'
  have hlen:=rws.length
  refine⟨a,rfl,.inr ⟨⟨xs,fb.of hq⟩,?_⟩⟩
  refine mI i hb (ws:=ws) S1 (R.mono e1) (bg.shift p1 e1) (λk H m' e hk=>?_) (λk H m' e hk=>?_) λk hk H x H' m' e y=>?_
  ·have hx':k < xs.length:=by omega
   exact⟨xs,xs[k],fb.of (e.tup _ _ hq),by simp[hx']⟩
  ·exact⟨xs,fb.of (e.tup _ _ hq),by omega⟩
  ·obtain⟨ee,y⟩:=y
   refine⟨ee,?_⟩
   obtain⟨x',ex',ug⟩:=(ah.mono e _ _ rws).get (i:=k) (w:=ws[k]) (cE hk)
   rw[y xs (fb.of (e.tup _ _ hq))] at ex'
   cases ex'
   exact ug
 | og ws=>
  unfold ag at rw'
  obtain⟨a,xs,rfl,hq,rws⟩:=rw'
  have hlen:=rws.length
  refine⟨a,rfl,.inr ⟨⟨xs,.inr hq⟩,?_⟩⟩
  refine mI i hb (ws:=ws) S1 (R.mono e1) (bg.shift p1 e1) (λk H m' e hk=>?_) (λk H m' e hk=>?_) λk hk H x H' m' e y=>?_
  ·have hx':k < xs.length:=by omega
   exact⟨xs,xs[k],.inr hq,by simp[hx']⟩
  ·exact⟨xs,.inr hq,by omega⟩
  ·obtain⟨ee,y⟩:=y
   refine⟨ee,?_⟩
   obtain⟨x',ex',ug⟩:=(ah.mono e _ _ rws).get (i:=k) (w:=ws[k]) (cE hk)
   rw[y xs (.inr hq)] at ex'
   cases ex'
   exact ug
 | _=>exact aa p1
def di(lo:Int)(n:Nat):List Wv:=(hU n).map λk:Nat=>Wv.int (lo+k)
theorem sA{lo:Int}{n k:Nat}(h:k < n):(di lo n)[k]? =some (.int (lo+k)):=by
 unfold di
 rw[eO,List.getElem?_range h]
 rfl
theorem vJ{lo:Int}{n k:Nat}(h:k < (di lo n).length):(di lo n)[k]= .int (lo+k):=by
 have q:=sA (lo:=lo) (n:=n) (k:=k) (by unfold di at h;simpa using h)
 rw[cE h] at q
 exact Option.some.inj q
theorem fK{lo:Int}{n:Nat}:(di lo n).length=n:=by unfold di;simp
def jY(i:Int):Prop:=-(2 ^ 62)<=i/\i < 2 ^ 62
instance {i}:Decidable (jY i):=Ep _
def lU(i:Nat)(ga:GA)(gb:GS):GS:=λρ st=>(ga ρ st).bA ρ λws st1=>match ws with
 | [.int j]=>if jY j then dh i gb (di 0 j.toNat) ρ st1 else .bad
 | _=> .bad
theorem Jd(i:Nat){body:List Stmt}{gb:GS}(hb:p5 X body gb){lo:Int}{n:Nat}{m1:Mp}{H1:Hp}{st1:Hs}{ρ:bw}{σ:St}{D:Ends}(S1:a_ X.K m1 st1 H1)(R:aA X.K m1 H1 ρ σ)(p1:bg X m1 H1 (dh i gb (di lo n) ρ st1) D) :
  ∃W:Nat->Nat->St->Hp->Prop,(∃m,W 0 m σ H1)/\∀k n' σ H,W k n' σ H->
   ((MD lo n).stop k H/\D.nx σ H)\/((MD lo n).go k H/\∃N:St->Hp->Prop,(∀σ' H',N σ' H'->∃m',m' < n'/\W (k+1) m' σ' H')/\∀x H',(MD lo n).ve k H x H'->vj i x σ H' λσ2 H2=>T8 X body { D with nx:=N,ct:=N,bk:=D.nx } σ2 H2) :=
 mI i hb S1 R p1 (λk H m' e hk=>by rw[fK] at hk;exact hk) (λk H m' e hk=>by rw[fK] at hk;exact mJ hk.symm) λk hk H x H' m' e y=>by
  obtain⟨y1,y2⟩:=y
  refine⟨y1,?_⟩
  rw[vJ,y2]
  exact mkInt
theorem Er(i:Nat){x:Str}{a:Expr}{body:List Stmt}{ga:GA}{gb:GS}{pos pos' p q:Pos}(hN:X.N.Nodup)(hp:PassesOwn (model X.prog X.w) X.A X.env X.xe)(hc:X.calm=true)(hg:Gl X "range")(hm:X.mg "range"=none)(ha:JA X [a] ga)(hb:p5 X body gb)
  (hx:X.N[i]? =some x)(hlo:Loc X.env.scope x)(Rx:X.fn x=true\/X.env.scope.names.lookup x=some .local)(hst:adB [a] X.env=[(false,eval a X.env)]):JS X (.For (.Name x pos') (.Call (.Name "range" p) [a] [] q) body [] pos) (lU i ga gb):=by
 refine JS.of (xD hp hc (r6 hg hm kc hst) (oZ hN hx hlo Rx) jd (λ_=>rfl)) λρ st σ H m D S R p=>?_
 refine ha.go S R (bg.eB R p) λws st1 vs m1 H1 p1 e1 S1 rs=>?_
 match ws,rs,p1 with
 | [],rs,p1=>exact aa p1
 | x::y::t,rs,p1=>cases x<;>exact aa p1
 | [x],rs,p1=>
  obtain⟨v,rfl,r1⟩:=p_ rs
  cases x with
  | int j=>
   cases bo r1
   have p2:bg X m H (if jY j then dh i gb (di 0 j.toNat) ρ st1 else .bad) D:=p1
   by_cases c:jY j
   ·rw[if_pos c] at p2
    exact⟨j,rfl,c.1,c.2,Jd i hb S1 (R.mono e1) (bg.shift p2 e1)⟩
   ·rw[if_neg c] at p2;exact aa p2
  | _=>exact aa p1
theorem Je{pos:Pos}:JS X (.Return none pos) (bp (gC .non)):=JS.of Ig λρ st σ H m D S R p=>p .non m H Ext.refl S Li
end
abbrev Lq:List ado:=[.type "ValueError",.type "Exception",.type "BaseException",.type "object"]
abbrev Jf:String:="ValueError.__new__"
structure Jg(K:PySem.W.Frag)(c:PySem.Str)(C:adi):Prop where
 cls:ClsAt K c C
 exc:PySem.W.excIn K C Lq Jf=true
theorem ph{K:PySem.W.Frag}{h:Heap}{C:adi}(KX:K.In h)(q:PySem.W.excIn K C Lq Jf=true) :
  ∃(bm:List ado)(N:adi)(nm qn:Str)(bs:List ado)(hd:Bool)(sn:List Str)(sub:List ado)(ab:Bool)(col:Option Bool)(dd:Option adi)(k0 k1 k2 k3 k5:Option ado)(mN:Str->Option ado),
   h.get? C=some (excClassObj nm qn C N bs bm hd sn sub ab col dd k0 k1 k2 k3 k5 Jf)/\h.Ns N mN/\mN "__init__"=none/\OwnTail h Lq bm/\(∀v r,PySem.W.mroIn K C v=some r->(aB C::bm).contains v=r):=by
 unfold PySem.W.excIn at q
 split at q
 ·rename_i dd cd sl lk
  split at q
  ·rename_i C1 bm k0 k1 k2 k3 n1 k5 em es
   simp only[cD,beq_iff_eq,Bool.not_eq_true'] at q
   obtain⟨⟨⟨⟨⟨q1,q2⟩,q3⟩,q4⟩,q5⟩,q6⟩:=q
   subst q1 q2
   obtain⟨nm,bs,mro,N,qn,hd,sn,sub,ab,col,del⟩:=cd
   dsimp only at em q3 q5 q6
   subst em q3
   have esl:sl=#[k0,k1,k2,k3,some (.builtin Jf),k5]:=by
    cases sl with
    | mk l=>exact congrArg Array.mk es
   subst esl
   refine⟨bm,N,nm,qn,bs,hd,sn,sub,ab,col,dd,k0,k1,k2,k3,k5,_,KX _ _ lk,.of_isNs (PySem.W.isNs_of_in KX q5),PySem.W.nsMap_none_of_in KX q5 q6,PySem.W.tail_of_in KX q4,λv r e=>?_⟩
   unfold PySem.W.mroIn PySem.W.clsIn at e
   rw[lk] at e
   first
    | exact Option.some.inj e
    | (simp at e;exact e)
  ·cases q
 ·cases q
section
variable {X:Cx}
end
structure nA(K:PySem.W.Frag)(C:adi):Prop where
 exc:PySem.W.excIn K C Lq Jf=true
 ga:PySem.W.findIn K (.ref C) "__getattribute__"=some (some (.builtin "BaseException.__getattribute__"))
 gx:PySem.W.findIn K (.ref C) "__getattr__"=some none
 cl:PySem.W.findIn K (.ref C) "__class__"=some (some (.builtin "object.__class__"))
section
variable {prog:adm} {w:adp} {A:adj} {E:ado->adn->Prop} {h:Heap} {g:Array GenState} {d:Drawn} {t:Nat} {os:OsState} {a C:adi} {o:Obj} {K:PySem.W.Frag}
theorem NI{R:Result->adn->Prop}(Y:K.In h)(Z:nA K C)(ha:h.get? a=some o)(hc:o.cls= .ref C)(k:R (.ok (.ret (.ref C))) ⟨h,g,d,t,os⟩) :
  adu (model prog w) A (.call (.builtin "getset_descriptor.__get__") ⟨[.builtin "object.__class__",.ref a,.ref C],[]⟩) R ⟨h,g,d,t,os⟩:=by
 obtain⟨bm,N,nm,qn,bs,Vj,sn,sub,ab,col,dd,k0,k1,k2,k3,k5,mN,hC,hN,hni,T,_⟩:=ph Y Z.exc
 have ty:(⟨h,g,d,t,os⟩:adn).TypeIs (.builtin "object.__class__") "getset_descriptor":=Es
 have own:(aB C::bm).contains (.type (".".intercalate ("object.__class__".cutAt '.').dropLast))=true:=by
  rw[F.owner_object_class,Et,T.hasType (X:="object") (b:=true) (by decide)];rfl
 refine codeAny_call_builtin F.slot_gs_get.plain F.entry_gs_get (F.slot_gs_get.check _ _ _ _ _ _ _ _ ty (F.args_gs_get _ _ _) ?_)
 repeat (any_goals (first | assumption | (with_reducible refine wpAny_loadPart_at ha ?_;rw[hc]) | (with_reducible refine wpAny_isSubtype_exc hC ?_;rw[own]) | wp_step))
 refine⟨Code.quiet_builtin _ (by decide+kernel),codeAny_builtin F.entry_object_class ?_⟩
 repeat (any_goals (first | assumption | (with_reducible refine wpAny_loadPart_at ha ?_;rw[hc]) | wp_step))
theorem Eu{tk:Tok}{Q:Fin->adn->Prop}(Y:K.In h)(Z:nA K C)(ha:h.get? a=some o)(hc:o.cls= .ref C)(k:Q (.done (.ret (.ref C))) ⟨h,g,d,t,os⟩) :
  adC (model prog w) A (Builtin.«object.__getattribute__» ⟨[.ref a,.str "__class__" tk],[]⟩) Q E ⟨h,g,d,t,os⟩:=by
 have ty:(⟨h,g,d,t,os⟩:adn).TypeIs (.builtin "object.__class__") "getset_descriptor":=Es
 have t1:=Es
 have t2:=F.slot_gs_get.lookup
 have t3:=F.slot_gs_set.lookup
 have L:=PySem.W.looks_findIn (M:=model prog w) Y Z.cl
 repeat (any_goals (first | assumption | (with_reducible refine wpAny_loadPart_at ha ?_;rw[hc]) | with_reducible refine L.at ?_ | wp_step))
 refine NI Y Z ha hc ?_
 repeat (any_goals (first | assumption | wp_step))
theorem Ew{M:Model}{nv:ado}{Q:Unit->adn->Prop}(Y:K.In h)(Z:nA K C)(ha:h.get? a=some o)(hc:o.cls= .ref C)(k:Q () ⟨h,g,d,t,os⟩) :
  adC M A (checkBuiltinCall "BaseException.__getattribute__" ⟨[.ref a,nv],[]⟩) Q E ⟨h,g,d,t,os⟩:=by
 obtain⟨bm,N,nm,qn,bs,Vj,sn,sub,ab,col,dd,k0,k1,k2,k3,k5,mN,hC,hN,hni,T,_⟩:=ph Y Z.exc
 have u1:builtinKind "BaseException.__getattribute__"=some .slot:=by decide+kernel
 have u2:splitId "BaseException.__getattribute__"=some ("BaseException","__getattribute__"):=by decide+kernel
 have u3:(aB C::bm).contains (.type "BaseException")=true:=by rw[Et,T.hasType (X:="BaseException") (b:=true) (by decide)];rfl
 have u4:=F.args_bexc_ga (.ref a) nv
 simp only[checkBuiltinCall,u1,u2]
 refine adD ?_
 unfold isInstance
 repeat (first | (with_reducible refine wpAny_loadPart_at ha ?_;rw[hc]) | (with_reducible refine wpAny_isSubtype_exc hC ?_;rw[u3]) | wp_step)
 exact k
theorem Ry{tk:Tok}{Q:ado->adn->Prop}(Y:K.In h)(Z:nA K C)(ha:h.get? a=some o)(hc:o.cls= .ref C)(k:Q (.ref C) ⟨h,g,d,t,os⟩) :
  adC (model prog w) A (getAttrBy (.ref a) (.str "__class__" tk) false) Q E ⟨h,g,d,t,os⟩:=by
 have v1:=F.excAttr_ValueError.ga.bind (.ref a)
 have v2:(jf "BaseException.__getattribute__" == jf "object.__getattribute__")=false:=by decide+kernel
 have v3:(onTheHeap (aB C)&&jf "BaseException.__getattribute__" == jf "object.__getattribute__")=false:=by rw[v2];rfl
 have v4:(false&&onTheHeap (jf "BaseException.__getattribute__"))=false:=rfl
 have L1:=PySem.W.looks_findIn (M:=model prog w) Y Z.ga
 have L2:=PySem.W.looks_findIn (M:=model prog w) Y Z.gx
 repeat (any_goals (first | assumption | (with_reducible refine wpAny_loadPart_at ha ?_;rw[hc]) | with_reducible refine L1.at ?_ | with_reducible refine L2.at ?_ | wp_step))
 refine codeAny_call_builtin F.excAttr_ValueError.ga.plain F.entry_bexc_ga (Ew Y Z ha hc (Eu Y Z ha hc ?_))
 repeat (any_goals (first | assumption | wp_step))
theorem Jh{Q:Option ado->adn->Prop}(Y:K.In h)(Z:nA K C)(ha:h.get? a=some o)(hc:o.cls= .ref C)(k:Q (some (.ref C)) ⟨h,g,d,t+1,os⟩) :
  adC (model prog w) A (getAttr? (.ref a) "__class__") Q E ⟨h,g,d,t,os⟩:=by
 unfold getAttr? getAttrBy?
 repeat (any_goals (first | assumption | with_reducible apply Ry Y Z ha hc | wp_step))
end
structure Stk(X:Cx):Prop where
 st:X.stack=X.env::X.outer
 fr:X.env.frame=some X.env.locals
 ex:X.ex=[]
theorem nB{P:adm}{w:adp}{H:Hp}{h:Heap}{a:adi}{o:HO}(x:cO P w H h a o):∃u,h.get? a=some u:=by
 cases o with
 | lst xs=>obtain⟨_,_,_,_,e⟩:=x;exact⟨_,e⟩
 | tup xs=>obtain⟨_,_,_,⟨ob,e,_⟩,_⟩:=x;exact⟨_,e⟩
 | dK kvs=>obtain⟨_,_,_,_,ob,_,_,e,_⟩:=x;exact⟨_,e⟩
 | dT kvs=>obtain⟨_,_,_,_,ob,_,_,e,_⟩:=x;exact⟨_,e⟩
 | dN kvs=>obtain⟨_,_,_,_,ob,_,_,e,_⟩:=x;exact⟨_,e⟩
 | set S n=>obtain⟨ob,_,_,_,e,_⟩:=x;exact⟨_,e⟩
 | ins C dx fs=>obtain⟨_,_,_,e,_⟩:=x;exact⟨_,e⟩
 | own y=>exact x
 | xd fs=>obtain⟨_,⟨_,_,_,e,_⟩,_⟩:=x;exact⟨_,e⟩
 | TR lo hi=>obtain⟨_,_,_,e⟩:=x;exact⟨_,e⟩
 | gH ob u=>obtain⟨e,_⟩:=x;exact⟨_,e⟩
 | iW ps=>exact⟨_,x⟩
 | met f y=>exact⟨_,x⟩
 | ext φ=>exact x.2.1
def Rz(o:Obj):Prop:=∃vs,o.data= .fields vs/\vs[2]? =some aS
section
variable {X:Cx} {pins:List (adi×Obj)} {σ:St} {Hc H':Hp} {sc s':adn} {B h2:Heap} {a C:adi} {a0:ado} {ch:List adi}
end
theorem vK{K:PySem.W.Frag}{a C:adi}(Z:nA K C):PySem.W.KitX K (.ref a) (.ref C) (DS a C) where
 ty:=λM h _ p=>by
  obtain⟨o,h1,h2,_⟩:=p
  rw[<-h2]
  exact(PySem.W.Looks.ld h1).andThen .now
 it:=λM h Y _=>by
  obtain⟨bm,N,nm,qn,bs,Vj,sn,sub,ab,col,dd,k0,k1,k2,k3,k5,mN,hC,_⟩:=ph Y Z.exc
  intro A' Q' E' s' k q
  unfold isType loadHead
  exact adD (wpAny_loadPart (k _ _ hC) (adJ q))
 ne:=λh tp dd its n sl Y e=>by
  obtain⟨bm,N,nm,qn,bs,Vj,sn,sub,ab,col,M_,k0,k1,k2,k3,k5,mN,hC,_⟩:=ph Y Z.exc
  refine Bool.eq_false_iff.mpr λq=>?_
  have z:C=tp:=Value.ref.inj (beq_iff_eq.mp q)
  subst z
  rw[hC] at e
  have z2:kK "type"=kK "tuple":=congrArg Obj.cls (Option.some.inj e)
  exact absurd z2 (by decide)
 ca:=λ{prog w A E Q s} Y p k=>by
  obtain⟨o,h1,h2,_⟩:=p
  obtain⟨h,g,d,t,os⟩:=s
  exact Jh Y Z h1 h2 k
abbrev Tab:=List ((PySem.Str×PySem.Str)×Bool)
abbrev ui:=List ((PySem.Str×String)×Bool)
structure TabOk(K:PySem.W.Frag)(tb:Tab)(tt:ui)(tc:Tab):Prop where
 own:∀c d b C D,tb.lookup (c,d)=some b->ClsAt K c C->ClsAt K d D->nA K C/\PySem.W.kitOne K (.ref C) (.ref D)=some b
 cat:∀c d b C D,tc.lookup (c,d)=some b->ClsAt K c C->ClsAt K d D->PySem.W.excIn K C Lq Jf=true/\PySem.W.excIn K D Lq Jf=true/\PySem.W.mroIn K C (.ref D)=some b
 typ:∀c T b C,tt.lookup (c,T)=some b->ClsAt K c C->nA K C/\PySem.W.kitOne K (.ref C) (.type T)=some b
def nC(tb:Tab)(c:PySem.Str):List Wv->Option Bool
 | []=>some false
 | .cls d::r=>(match tb.lookup (c,d) with
  | some true=>some true
  | some false=>nC tb c r
  | none=>none)
 | _=>none
theorem sC{K:PySem.W.Frag}{m:Mp}{H:Hp}{tb:Tab}{tt:ui}{tc:Tab}(O:TabOk K tb tt tc){c:PySem.Str}{C:adi}(hC:ClsAt K c C):∀{ds:List Wv}{vs:List V}{its:List ado}{b:Bool},ah K m H ds vs->Vals vs its->nC tb c ds=some b->PySem.W.kitAny K (.ref C) its=some b
 | [],vs,its,b,r,v,e=>by
  unfold ah at r
  subst r
  cases v
  cases e
  rfl
 | w::ds,vs,its,b,r,v,e=>by
  unfold ah at r
  obtain⟨x,t,rfl,r1,r2⟩:=r
  cases v with
  | cons h1 h2=>
   cases w with
   | cls d=>
    unfold ag at r1
    obtain⟨D,rfl,hD⟩:=r1
    cases h1
    unfold nC at e
    unfold PySem.W.kitAny
    cases q:tb.lookup (c,d) with
    | none=>rw[q] at e;cases e
    | some k=>
     rw[q] at e
     obtain⟨_,z3⟩:=O.own c d k C D q hC hD
     rw[z3]
     cases k with
     | true=>cases e;rfl
     | false=>exact sC O hC r2 h2 e
   | _=>cases e
def nD(tb:Tab)(tt:ui):List Wv->Hs->Re Wv
 | [.vx c,.cls d],st=>(match tb.lookup (c,d) with | some b=> .ok (.bl b) st | none=> .bad)
 | [.vx c,.ty T],st=>(match tt.lookup (c,T) with | some b=> .ok (.bl b) st | none=> .bad)
 | [.vx c,.tup (.cls d::ds)],st=>(match nC tb c (.cls d::ds) with | some b=> .ok (.bl b) st | none=> .bad)
 | ws,st=>D8 ws st
section
variable {X:Cx}
theorem Ex:dB X (.builtin "isinstance") (λvs H Q=>∃a C v c b,vs=[.ref a,v]/\T7 a C (H a)/\nA X.K C/\RelV v c/\PySem.W.kitOne X.K (.ref C) c=some b/\Q (.bl b) H):=by
 intro pins s σ H xs us Q I r h
 obtain⟨a,C,v,c,b,rfl,ha,Z,rc,e,q⟩:=h
 obtain⟨u,u',rfl,r1,r2⟩:=vals2 r
 cases r1
 have uc:u'=c:=by
  cases v with
  | int i=>obtain⟨t,rfl⟩:=rc;cases e
  | str i=>obtain⟨t,rfl⟩:=rc;cases e
  | PR i=>obtain⟨t,rfl⟩:=rc;cases e
  | TQ i=>obtain⟨t,rfl⟩:=rc;cases e
  | non=>cases rc;cases r2;rfl
  | bl i=>cases rc;cases r2;rfl
  | ref i=>cases rc;cases r2;rfl
  | ty i=>cases rc;cases r2;rfl
 subst uc
 exact PySem.W.kia_one (vK Z) I.C4 (Lb I.hok ha) e (by intro z;cases z) λtk=>⟨.bl b,H,I.tok tk,rfl,q⟩
theorem BR:dB X (.builtin "isinstance") (λvs H Q=>∃a C p xs b,vs=[.ref a,.ref p]/\T7 a C (H a)/\nA X.K C/\fb X.K H p xs/\(∀its,Vals xs its->PySem.W.kitAny X.K (.ref C) its=some b)/\Q (.bl b) H):=by
 intro pins s σ H xs us Q I r h
 obtain⟨a,C,p,ys,b,rfl,ha,Z,hT,e,q⟩:=h
 obtain⟨u,u',rfl,r1,r2⟩:=vals2 r
 cases r1
 cases r2
 obtain⟨its,rv,⟨o,g1,g2,n,g3⟩,z⟩:=I.tuple hT
 obtain⟨oc,od,oda,osl⟩:=o
 cases g2
 cases g3
 exact PySem.W.kia_tup (vK Z) I.C4 (Lb I.hok ha) g1 (e its rv) (by intro z;cases z) λtk=>⟨.bl b,H,I.tok tk,rfl,q⟩
theorem Ey{tb:Tab}{tt:ui}{tc:Tab}(O:TabOk X.K tb tt tc):gR X (.builtin "isinstance") (nD tb tt):=by
 obtain⟨r,h1,h2⟩:=NC (X:=X)
 refine⟨_,Ex.or (BR.or h1),λws vs st H m Q S rs p=>?_⟩
 unfold nD at p
 split at p
 ·rename_i _ c d
  cases e:tb.lookup (c,d) with
  | none=>rw[e] at p;exact aa p
  | some b=>
   rw[e] at p
   obtain⟨v,v',rfl,r1,r2⟩:=BL rs
   unfold ag at r1 r2
   obtain⟨a,C,rfl,hC,ha⟩:=r1
   obtain⟨D,rfl,hD⟩:=r2
   obtain⟨z1,z3⟩:=O.own c d b C D e hC hD
   exact .inl ⟨a,C,.ref D,.ref D,b,rfl,ha,z1,rfl,z3,p _ m H Ext.refl S jW⟩
 ·rename_i _ c T
  cases e:tt.lookup (c,T) with
  | none=>rw[e] at p;exact aa p
  | some b=>
   rw[e] at p
   obtain⟨v,v',rfl,r1,r2⟩:=BL rs
   unfold ag at r1 r2
   obtain⟨a,C,rfl,hC,ha⟩:=r1
   subst r2
   obtain⟨z1,z3⟩:=O.typ c T b C e hC
   exact .inl ⟨a,C,.ty T,.type T,b,rfl,ha,z1,rfl,z3,p _ m H Ext.refl S jW⟩
 ·rename_i _ c d ds
  cases e:nC tb c (.cls d::ds) with
  | none=>rw[e] at p;exact aa p
  | some b=>
   rw[e] at p
   obtain⟨v,v',rfl,r1,r2⟩:=BL rs
   unfold ag at r1
   obtain⟨a,C,rfl,hC,ha⟩:=r1
   have r2':=r2
   unfold ag at r2'
   obtain⟨t,xs,rfl,hT,rx⟩:=r2'
   have Z:nA X.K C:=by
    have ug:=rx
    unfold ah at ug
    obtain⟨x,r,_,rd,_⟩:=ug
    unfold ag at rd
    obtain⟨D,_,hD⟩:=rd
    unfold nC at e
    cases q:tb.lookup (c,d) with
    | none=>rw[q] at e;cases e
    | some k=>exact(O.own c d k C D q hC hD).1
   exact .inr (.inl ⟨a,C,t,xs,b,rfl,ha,Z,fb.of hT,λits hv=>sC O hC rx hv e,p _ m H Ext.refl S jW⟩)
 ·exact .inr (.inr (h2 ws vs st H m Q S rs p))
end
section
variable {X:Cx} {pins:List (adi×Obj)} {σ:St} {H:Hp} {s:adn}
def NJ(X:Cx):Prop:=X.A.handled=none\/∃a o u,X.A.handled=some (.ref a)/\Rz o/\X.H₀ a=some (.gH o u)
def BS(A:adj)(H:Hp):Prop:=A.handled=none\/∃a o u,A.handled=some (.ref a)/\Rz o/\H a=some (.gH o u)
theorem NJ.at(h:NJ X)(I:Inv X pins σ H s):BS X.A H:=h.imp id λ⟨a,o,u,h1,h2,h3⟩=>⟨a,o,u,h1,h2,I.base.mw _ _ _ h3⟩
end
section
variable {X:Cx}
end
section
variable {X:Cx}
def RA:List Wv->Hs->Re Wv
 | [.int i],st=>if i.natAbs.log2 < 1920 then .ok (.str (toString i:String)) st else .bad
 | _,_=> .bad
def iI(o v:Wv)(st:Hs):Re Wv:=match o with
 | .ref l=>(match st[l]? with
  | some (.lst ws)=>if ws.length < lim then .ok .non (st.set l (.lst (ws++[v]))) else .bad
  | _=> .bad)
 | _=> .bad
def eF(mt:Wv->Wv->Hs->Re Wv)(go ga:GE):GE:=λρ st=>(go ρ st).bind λo st1=>match o with
 | .ref l=>(match av st1 l with
  | some _=>(ga ρ st1).bind λv st2=>(mt o v st2).mn
  | none=> .bad)
 | _=> .bad
def T_(X:Cx)(id:String)(mt:Wv->Wv->Hs->Re Wv):Prop:=∃r,TZ X id r/\∀(o w:Wv)(x v:V)(st:Hs)(H:Hp)(m:Mp)(Q:VK),a_ X.K m st H->ag X.K m H o x->ag X.K m H w v->dI X.K m H (mt o w st) Q->r x [v] H Q
theorem uj:T_ X "list.append" iI:=⟨_,BD,λo w x v st H m Q S ro rw' p=>by
 cases o with
 | ref l=>
  unfold ag at ro
  obtain⟨a,rfl,ha⟩:=ro
  have p':dI X.K m H (match st[l]? with | some (.lst ws)=>if ws.length < lim then .ok .non (st.set l (.lst (ws++[w]))) else .bad | _=> .bad) Q:=p
  cases e:st[l]? with
  | none=>rw[e] at p';exact aa p'
  | some ob=>
   cases ob with
   | dct kvs=>rw[e] at p';exact aa p'
   | gw kvs=>rw[e] at p';exact aa p'
   | lR kvs=>rw[e] at p';exact aa p'
   | DR kvs=>rw[e] at p';exact aa p'
   | iU kvs=>rw[e] at p';exact aa p'
   | sj ns=>rw[e] at p';exact aa p'
   | lst ws=>
    rw[e] at p'
    dsimp only at p'
    by_cases c:ws.length < lim
    ·rw[if_pos c] at p'
     obtain⟨xs,h1,h2⟩:=S.zQ ha e
     have e4:Ext X.K m H m (upd H a (.lst (xs++[v]))):=Ext.upd (.inr ⟨xs,h1⟩)
     exact⟨a,xs,v,rfl,rfl,h1,by rw[<-h2.length];exact p6 c,p' _ m _ e4 (S.write ha e (h2.append (ah.cons rw' ah.nil))) Li⟩
    ·rw[if_neg c] at p';exact aa p'
 | _=>exact aa p⟩
theorem zY{x name:Str}{id:String}{e:Expr}{go ga:GE}{p apos cpos:Pos}{mt:Wv->Wv->Hs->Re Wv}(hm:T_ X id mt)(slot:Slot "list" name id)(hty:typeOf (.builtin id)=pure (.type "method_descriptor"))(ho:JE X (.Name x p) go)(ha:JE X e ga)
  (hst:adB [e] X.env=[(false,eval e X.env)])(hline:(apos.endLine == cpos.line)=true):JE X (.Call (.Attribute (.Name x p) name apos) [e] [] cpos) (eF mt go ga):=by
 obtain⟨r,h1,h2⟩:=hm
 have hfew:((backTo cpos (adB [e] X.env)).all (λx=> !x.1)&&(backToKw cpos (keywordEach [] X.env)).all (λx=>x.1.isSome)&&decide ([e].length+([]:List Keyword).length+(if([]:List Keyword).isEmpty then 0 else 1) < 30))=true:=by
  rw[hst];rfl
 refine JE.of (K' PySem.F.plainAttrs_list slot hty h1 aV kc rfl hfew hline hst rfl) λρ st σ H m Q S R p=>?_
 refine ho.go S R (aw.bind p) λo st1 v m1 H1 p1 e1 S1 ro=>?_
 cases o with
 | ref l=>
  dsimp only at p1
  cases el:av st1 l with
  | none=>rw[el] at p1;exact aa p1
  | some ws0=>
   rw[el] at p1
   dsimp only at p1
   have RB:=ro
   unfold ag at RB
   obtain⟨a,rfl,hla⟩:=RB
   obtain⟨xs,hq,_⟩:=S1.read hla el
   refine⟨.inl ⟨rfl,xs,hq⟩,?_⟩
   refine(ua ha xU hst).go S1 (R.mono e1) (ok:=λws st2=>aw X σ m H (match ws with | [w]=>(mt (.ref l) w st2).mn | _=> .bad) (P4 X.K m H Q)) ?_ λws st2 vs m2 H2 p2 e2 S2 rs=>?_
   ·have p3:=(aw.bind p1).imp e1 (λ_ _ q=>q)
    show aw X σ m1 H1 ((ga ρ st1).bind λx st1=>(ao ρ st1).bind λxs st2=> .ok (x::xs) st2) _
    cases eg:ga ρ st1 with
    | ok w st2=>rw[eg] at p3;exact p3
    | err c st2=>rw[eg] at p3;exact p3
    | bad=>rw[eg] at p3;exact p3
   ·match ws,rs,p2 with
    | [],rs,p2=>exact aa p2
    | [w],rs,p2=>
     obtain⟨v2,rfl,Ji⟩:=p_ rs
     exact h2 (.ref l) w (.ref a) v2 st2 H2 m2 Q S2 (ag.mono e2 _ _ ro) Ji (dI.shift (aw.mn p2) (e1.trans e2))
    | _::_::_,rs,p2=>exact aa p2
 | _=>exact aa p1
end
section
variable {X:Cx}
def RC:List Wv->Hs->Re Wv
 | [.str z],st=> .ok (.str z) st
 | ws,st=>RA ws st
def Vk:List Wv->Hs->Re Wv
 | [.int i,.int j],st=> .ok (.int (if j > i then j else i)) st
 | _,_=> .bad
def RD:List Wv->Hs->Re Wv
 | [.int i,.int j],st=> .ok (.int (if j < i then j else i)) st
 | _,_=> .bad
theorem NL(hc:X.calm=true):gR X (.builtin "min") RD:=⟨_,BA hc,λws vs st H m Q S rs p=>by
 match ws,rs,p with
 | [],rs,p=>exact aa p
 | [x],rs,p=>cases x<;>exact aa p
 | x::y::z::t,rs,p=>cases x<;>cases y<;>exact aa p
 | [x,y],rs,p=>
  obtain⟨v,v',rfl,r1,r2⟩:=BL rs
  cases x with
  | int i=>
   cases y with
   | int j=>cases bo r1;cases bo r2;exact⟨i,j,rfl,p _ m H Ext.refl S mkInt⟩
   | _=>exact aa p
  | _=>cases y<;>exact aa p⟩
def Ez:List Nat->List Wv->bw->Option bw
 | [],[],ρ=>some ρ
 | i::is,w::ws,ρ=>Ez is ws (ρ.set i (some w))
 | _,_,_=>none
def Vl:List Nat->K8
 | []=>L2.ao
 | i::is=>L2.ae (vj i) (Vl is)
theorem vL{m:Mp}{H:Hp}{Q:St->Hp->Prop}:∀{is:List Nat}{ws:List Wv}{xs:List V}{ρ ρ':bw}{σ:St},ah X.K m H ws xs->aA X.K m H ρ σ->Ez is ws ρ=some ρ'->(∀σ',aA X.K m H ρ' σ'->Q σ' H)->Vl is xs σ H Q
 | [],[],xs,ρ,ρ',σ,r,R,e,k=>by
  unfold ah at r
  subst r
  cases e
  exact⟨rfl,k σ R⟩
 | i::is,w::ws,xs,ρ,ρ',σ,r,R,e,k=>by
  unfold ah at r
  obtain⟨x,rr,rfl,h1,h2⟩:=r
  exact⟨x,rr,rfl,vL (is:=is) h2 (R.set i h1) e k⟩
 | [],_::_,_,_,_,_,_,_,e,_=>by cases e
 | _::_,[],_,_,_,_,_,_,e,_=>by cases e
inductive Slots(X:Cx):List Expr->List Nat->Prop
 | nil:Slots X [] []
 | cons {x:Str} {p:Pos} {i:Nat} {es:List Expr} {is:List Nat}:X.N[i]? =some x->(Loc X.env.scope x/\(X.fn x=true\/X.env.scope.names.lookup x=some .local))->Slots X es is->Slots X (.Name x p::es) (i::is)
theorem sD(hN:X.N.Nodup):∀{es:List Expr}{is:List Nat},Slots X es is->Qz X es (Vl is)
 | _,_,.nil=>Ih
 | _,_,.cons h1 h2 r=>Du (oZ hN h1 h2.1 h2.2) (sD hN r) rfl
theorem vM:∀{es:List Expr}{is:List Nat},Slots X es is->(assignEach es X.env).length=is.length
 | _,_,.nil=>rfl
 | _,_,.cons _ _ r=>congrArg (· +1) (vM r)
theorem sE:∀{es:List Expr}{is:List Nat},Slots X es is->(assignEach es X.env).findIdx? (·.1)=none
 | _,_,.nil=>rfl
 | _,_,.cons (x:=x) (p:=p) (es:=es) _ _ r=>by
  have q:=sE r
  show List.findIdx? _ ((false,assign (.Name x p) X.env)::assignEach es X.env)=none
  rw[EA]
  simp[q]
open Classical in
end
def rL(env:Env):List (Str×adl)->List (Str×adi)->List (Str×adi)
 | [],acc=>acc
 | (n,k)::r,acc=>if k= .free then rL env r ((n,(env.cells.lookup n).getD 0)::acc) else rL env r acc
theorem vN(env:Env):∀(names:List (Str×adl))(acc:List (Str×adi)),(∀y∈names,y.2= .free->∃c,env.cells.lookup y.1=some c)->
  (forIn names acc λx r=>match x with
   | (name,kind)=>if(kind == dm)=true then do let c <-cellOf env name;pure (j5 ((name,c)::r)) else(pure (j5 r):Sem _))=pure (rL env names acc)
 | [],acc,_=>rfl
 | (n,k)::r,acc,h=>by
  have ih:=λacc=>vN env r acc λy hy=>h y (aJ _ hy)
  rw[lK]
  by_cases hk:k= .free
  ·subst hk
   obtain⟨c,e⟩:=h (n,.free) aK rfl
   have e':env.cells.lookup n=some c:=e
   have cc:cellOf env n=pure c:=by unfold cellOf;rw[e']
   simp only[beq_self_eq_true,if_true,cc]
   have q:rL env ((n,.free)::r) acc=rL env r ((n,c)::acc):=by
    show(if dm= .free then rL env r ((n,(env.cells.lookup n).getD 0)::acc) else _)=_
    rw[if_pos rfl,e']
    rfl
   rw[q,<-ih]
   rfl
  ·have hb:(k == dm)=false:=by simpa using hk
   simp only[hb,dD,if_false]
   have q:rL env ((n,k)::r) acc=rL env r acc:=by
    show(if k= .free then _ else rL env r acc)=_
    rw[if_neg hk]
   rw[q,<-ih]
   rfl
theorem zZ{env:Env}{scope:Scope}(h:∀y∈scope.names,y.2= .free->∃c,env.cells.lookup y.1=some c):closureFor scope env=pure (rL env scope.names []):=by
 have q:=vN env scope.names [] h
 unfold closureFor
 first
  | (rw[<-q];rfl)
  | (simp only[bind_pure];exact q)
theorem uk{env:Env}:∀{names:List (Str×adl)}{acc:List (Str×adi)}{y:Str}{c:adi},(∀y∈names,y.2= .free->∃c,env.cells.lookup y.1=some c)->(∀y c,acc.lookup y=some c->env.cells.lookup y=some c)->(rL env names acc).lookup y=some c->env.cells.lookup y=some c
 | [],acc,y,c,_,ha,e=>ha y c e
 | (n,k)::r,acc,y,c,h,ha,e=>by
  unfold rL at e
  by_cases hk:k= .free
  ·rw[if_pos hk] at e
   subst hk
   obtain⟨c0,e0⟩:=h (n,.free) aK rfl
   have e0':env.cells.lookup n=some c0:=e0
   refine uk (λy hy=>h y (aJ _ hy)) (λy' c' e'=>?_) e
   rw[bL] at e'
   cases q:y' == n with
   | true=>
    rw[q] at e'
    have q':=eq_of_beq q
    subst q'
    rw[e0'] at e' ⊢
    exact e'
   | false=>rw[q] at e';exact ha y' c' e'
  ·rw[if_neg hk] at e
   exact uk (λy hy=>h y (aJ _ hy)) ha e
theorem pj{env:Env}{y:Str}:∀{names:List (Str×adl)}{acc:List (Str×adi)},((∃c,acc.lookup y=some c)\/(y,dm)∈names)->∃c,(rL env names acc).lookup y=some c
 | [],acc,h=>by
  rcases h with h | h
  ·exact h
  ·cases h
 | (n,k)::r,acc,h=>by
  unfold rL
  by_cases hk:k= .free
  ·rw[if_pos hk]
   refine pj ?_
   rw[bL]
   cases q:y == n with
   | true=>exact .inl ⟨_,rfl⟩
   | false=>
    rcases h with h | h
    ·exact .inl h
    ·rcases List.mem_cons.mp h with h | h
     ·cases h;simp at q
     ·exact .inr h
  ·rw[if_neg hk]
   refine pj ?_
   rcases h with h | h
   ·exact .inl h
   ·rcases List.mem_cons.mp h with h | h
    ·cases h;exact absurd rfl hk
    ·exact .inr h
theorem lookup_mem{α β:Type}[BEq α][LawfulBEq α]{y:α}{k:β}:∀{names:List (α×β)},names.lookup y=some k->(y,k)∈names
 | [],h=>by cases h
 | (n,j)::r,h=>by
  rw[bL] at h
  cases q:y == n with
  | true=>
   rw[q] at h
   cases h
   have q':=eq_of_beq q
   subst q'
   exact aK
  | false=>rw[q] at h;exact aJ _ (lookup_mem h)
theorem mK{env:Env}:∀{names:List (Str×adl)}{y:Str},(names.map λ(n,k)=>if(k == dm&&env.scope.kind == .function&&env.kindOf n == some .cell) then(n,dU) else(n,k)).lookup y=
  (names.lookup y).map λk=>if(k == dm&&env.scope.kind == .function&&env.kindOf y == some .cell)=true then dU else k
 | [],y=>rfl
 | (n,k)::r,y=>by
  have ih:=mK (env:=env) (names:=r) (y:=y)
  show mL y ((if(k == dm&&env.scope.kind == .function&&env.kindOf n == some .cell)=true then(n,dU) else(n,k))::_)=_
  cases q:y == n with
  | true=>
   have q':=eq_of_beq q
   subst q'
   by_cases hc:(k == dm&&env.scope.kind == .function&&env.kindOf y == some .cell)=true
   ·rw[if_pos hc]
    simp only[bL,beq_self_eq_true,my]
    rw[if_pos hc]
   ·rw[if_neg hc]
    simp only[bL,beq_self_eq_true,my]
    rw[if_neg hc]
  | false=>
   by_cases hc:(k == dm&&env.scope.kind == .function&&env.kindOf n == some .cell)=true
   ·rw[if_pos hc];simp only[bL,q];exact ih
   ·rw[if_neg hc];simp only[bL,q];exact ih
open Classical in
def i7(ck:Hs->Prop)(gt:Wv->Hs->Re Bool)(ge:Wv->Hs->Re Wv)(l:Nat):List Wv->Hs->Option Hs
 | [],st=>some st
 | w::r,st=>match gt w st with
  | .ok false st1=>if ck st1 then i7 ck gt ge l r st1 else none
  | .ok true st1=>(match ge w st1 with
   | .ok v st2=>(match iI (.ref l) v st2 with
    | .ok _ st3=>if ck st3 then i7 ck gt ge l r st3 else none
    | _=>none)
   | _=>none)
  | _=>none
open Classical in
def om(ck:Hs->Prop)(gt:Wv->Hs->Re Bool)(ge:Wv->Hs->Re Wv)(l:Nat):List Wv->Hs->Re Unit
 | [],st=> .ok () st
 | w::r,st=>match gt w st with
  | .ok false st1=>if ck st1 then om ck gt ge l r st1 else .bad
  | .ok true st1=>(match ge w st1 with
   | .ok v st2=>(match iI (.ref l) v st2 with
    | .ok _ st3=>if ck st3 then om ck gt ge l r st3 else .bad
    | _=> .bad)
   | .err c st2=> .err c st2
   | .bad=> .bad)
  | .err c st1=> .err c st1
  | .bad=> .bad
theorem qg{ck:Hs->Prop}{gt:Wv->Hs->Re Bool}{ge:Wv->Hs->Re Wv}{l:Nat}{mq:Hs}:∀(ws:List Wv)(st:Hs),i7 ck gt ge l ws st=some mq->om ck gt ge l ws st= .ok () mq
 | [],st,h=>by cases h;rfl
 | w::r,st,h=>by
  unfold i7 at h
  unfold om
  cases eg:gt w st with
  | err c st1=>rw[eg] at h;cases h
  | bad=>rw[eg] at h;cases h
  | ok b st1=>
   rw[eg] at h
   cases b with
   | false=>
    dsimp only at h ⊢
    by_cases c:ck st1
    ·rw[if_pos c] at h ⊢;exact qg r st1 h
    ·rw[if_neg c] at h;cases h
   | true=>
    dsimp only at h ⊢
    cases ee:ge w st1 with
    | err c st2=>rw[ee] at h;cases h
    | bad=>rw[ee] at h;cases h
    | ok v st2=>
     rw[ee] at h
     dsimp only at h ⊢
     cases ea:iI (.ref l) v st2 with
     | err c st3=>rw[ea] at h;cases h
     | bad=>rw[ea] at h;cases h
     | ok u st3=>
      rw[ea] at h
      dsimp only at h ⊢
      by_cases c:ck st3
      ·rw[if_pos c] at h ⊢;exact qg r st3 h
      ·rw[if_neg c] at h;cases h
abbrev dM:=List (Str×Nat)
def eC(cs:dM)(ρ:bw):bw:=cs.map λp=>(ρ[p.2]?).getD none
def mM(cs:dM)(σ:St):St:=cs.map λp=>(σ[p.2]?).getD none
theorem z_{K:PySem.W.Frag}{m:Mp}{H:Hp}{ρ:bw}{σ:St}(cs:dM)(R:aA K m H ρ σ):aA K m H (eC cs ρ) (mM cs σ):=by
 refine⟨by unfold eC mM;simp,λi w e=>?_⟩
 unfold eC at e
 rw[eO] at e
 cases q:cs[i]? with
 | none=>rw[q] at e;cases e
 | some p=>
  rw[q] at e
  have e':(ρ[p.2]?).getD none=some w:=by simpa using e
  cases q2:ρ[p.2]? with
  | none=>rw[q2] at e';cases e'
  | some o=>
   rw[q2] at e'
   have e2:o=some w:=e'
   subst e2
   obtain⟨v,h1,h2⟩:=R.get _ _ q2
   refine⟨v,?_,h2⟩
   unfold mM
   rw[eO,q]
   simp[h1]
def vO(X:Cx)(scope:Scope)(C:adi):List (Str×adi):=cellsFrom (C+1) scope.names (rL X.env scope.names [])
theorem mO:∀{names:List (Str×adl)}(n:Nat)(acc:List (Str×adi))(h:Heap),(names.filter λy=>y.2 == .cell)=[]->cellsFrom n names acc=acc/\pushCells h names=h
 | [],_,_,_,_=>⟨rfl,rfl⟩
 | (y,k)::r,n,acc,h,e=>by
  cases q:(k == dU) with
  | true=>rw[qi (by exact q)] at e;cases e
  | false=>
   rw[nE (by show ¬(k == dU)=true;rw[q];exact bh)] at e
   unfold cellsFrom pushCells
   rw[q]
   exact mO n acc h e
theorem i8{x:Str}:∀{names:List (Str×adl)}(n:Nat)(acc:List (Str×adi))(h:Heap),(names.filter λy=>y.2 == .cell)=[(x,.cell)]->cellsFrom n names acc=(x,n)::acc/\pushCells h names=h.push { cls:=.type "cell",data:=.cell none }
 | [],_,_,_,e=>by cases e
 | (y,k)::r,n,acc,h,e=>by
  cases q:(k == dU) with
  | true=>
   rw[qi (by exact q)] at e
   have e1:=(List.cons.inj e).1
   have e2:=(List.cons.inj e).2
   cases e1
   unfold cellsFrom pushCells
   rw[q]
   exact mO _ _ _ e2
  | false=>
   rw[nE (by show ¬(k == dU)=true;rw[q];exact bh)] at e
   unfold cellsFrom pushCells
   rw[q]
   exact i8 n acc h e
theorem kf{M:Model}{A:adj}{E:ado->adn->Prop}{s:adn}{scope:Scope}{globals:adi}{closure:List (Str×adi)}{qual:Str}{env:Env}{Q:Env->adn->Prop}
  (hQ:Q (newEnv scope s.heap.objs.size globals (cellsFrom (s.heap.objs.size+1) scope.names closure) qual none .none (some env) builtinsNs) { s with heap:=pushCells (s.heap.push { cls:=.type "dict",data:=.dict #[] }) scope.names }) :
  adC M A (newFunctionEnv scope globals closure [] qual none .none (some env)) Q E s:=by
 simp only[newFunctionEnv,IC,if_true]
 refine adD (wpAny_alloc ?_)
 refine adD (wpAny_layCells _ (λname kind cells=>by cases hkc:kind == dU<;>simp[hkc]) _ _ _ _ ?_)
 rw[show({ s with heap:=s.heap.push { cls:=.type "dict",data:=.dict #[] } }:adn).heap.objs.size=s.heap.objs.size+1 from lV ..]
 rw[um]
 exact adD (adJ (adJ hQ))
def fL(X:Cx)(scope:Scope)(x:Str)(cs:dM)(C:adi)(s0:adn)(H0:Hp)(fp:List adi)(pn:List (adi×Obj))(E:ado->adn->Prop):Cx where
 prog:=X.prog
 w:=X.w
 K:=X.K
 mg:=X.mg
 base:=X.base
 A:=X.A
 N:=x::cs.map (·.1)
 s₀:=s0
 H₀:=H0
 env:=compEnvC scope (vO X scope C) C X.env
 outer:=X.stack
 stack:=X.stack
 ex:=fp
 fn:=λy=>scope.names.lookup y == some .cell
 calm:=X.calm
 pn:=pn
 xe:=E
structure cI(X:Cx)(scope:Scope)(x:Str)(cs:dM):Prop where
 kind:scope.kind= .function
 look:∀y∈scope.names,scope.names.lookup y.1=some y.2
 own:(scope.names.filter λy=>y.2 == .cell)=[]\/(scope.names.filter λy=>y.2 == .cell)=[(x,.cell)]
 var:scope.names.lookup x=some .local\/scope.names.lookup x=some .cell
 cap:∀y∈scope.names,y.2= .free->X.env.kindOf y.1=some .cell\/X.env.kindOf y.1=some .free
 at_:∀p∈cs,X.N[p.2]? =some p.1/\scope.names.lookup p.1=some .free
 nd:(x::cs.map (·.1)).Nodup
section
variable {X:Cx} {pins:List (adi×Obj)} {σ:St} {H:Hp} {s:adn} {scope:Scope} {x:Str} {cs:dM}
theorem qj(I:Inv X pins σ H s){b:adi}(f:eN X pins H b):b∉frs X.stack:=λz=>by
 rcases List.mem_cons.mp (I.lN b z) with q | q
 ·exact f.2.1 q
 ·exact f.2.2.1 q
theorem cI.has(S:cI X scope x cs)(ok:X.Ok):∀y∈scope.names,y.2= .free->∃c,X.env.cells.lookup y.1=some c:=λy hy e=>ok.has y.1 (S.cap y hy e)
theorem cI.EB(S:cI X scope x cs){y:Str}(e:scope.names.lookup y=some .cell):y=x/\(scope.names.filter λy=>y.2 == .cell)=[(x,.cell)]:=by
 have h:(y,dU)∈scope.names.filter λy=>y.2 == .cell:=List.mem_filter.mpr ⟨lookup_mem e,rfl⟩
 rcases S.own with z | z
 ·rw[z] at h;cases h
 ·rw[z] at h
  have:=List.mem_singleton.mp h
  cases this
  exact⟨rfl,z⟩
theorem cI.sub(S:cI X scope x cs)(ok:X.Ok){C:adi}{y:Str}{c:adi}(e:(vO X scope C).lookup y=some c):(c=C+1/\y=x/\(scope.names.filter λy=>y.2 == .cell)=[(x,.cell)])\/(X.env.cells.lookup y=some c/\scope.names.lookup y≠some .cell):=by
 have old:∀{y:Str}{c:adi},(rL X.env scope.names []).lookup y=some c->X.env.cells.lookup y=some c:=λe=>uk (S.has ok) (λ_ _ z=>by cases z) e
 unfold vO at e
 rcases S.own with z | z
 ·rw[(mO _ _ X.base z).1] at e
  refine .inr ⟨old e,λq=>?_⟩
  rw[(S.EB q).2] at z
  cases z
 ·rw[(i8 _ _ X.base z).1,bL] at e
  cases q:(y == x) with
  | true=>
   rw[q] at e
   cases e
   exact .inl ⟨rfl,eq_of_beq q,z⟩
  | false=>
   rw[q] at e
   exact .inr ⟨old e,λw=>by rw[(S.EB w).1] at q;simp at q⟩
theorem cI.to(S:cI X scope x cs){C:adi}{y:Str}{c:adi}(e:(rL X.env scope.names []).lookup y=some c)(n:scope.names.lookup y≠some .cell):(vO X scope C).lookup y=some c:=by
 unfold vO
 rcases S.own with z | z
 ·rw[(mO _ _ X.base z).1];exact e
 ·rw[(i8 _ _ X.base z).1,bL]
  have hx:scope.names.lookup x=some .cell:=by
   have hm:(x,dU)∈scope.names.filter λy=>y.2 == .cell:=by rw[z];exact aK
   exact S.look _ (List.mem_filter.mp hm).1
  cases q:(y == x) with
  | true=>exact absurd (by rw[eq_of_beq q];exact hx) n
  | false=>exact e
theorem cI.NM(S:cI X scope x cs){C:adi}{y:Str}(h:(compEnvC scope (vO X scope C) C X.env).kindOf y=some .cell\/(compEnvC scope (vO X scope C) C X.env).kindOf y=some .free):scope.names.lookup y=some .free\/scope.names.lookup y=some .cell:=by
 have q:(compEnvC scope (vO X scope C) C X.env).kindOf y=(scope.names.lookup y).map λk=>if(k == dm&&X.env.scope.kind == .function&&X.env.kindOf y == some .cell)=true then dU else k:=mK
 rw[q] at h
 cases e:scope.names.lookup y with
 | none=>rw[e] at h;simp at h
 | some k=>
  rw[e] at h
  simp only[my,Option.some.injEq] at h
  by_cases hk:k= .free
  ·rw[hk];exact .inl rfl
  ·have hb:(k == dm)=false:=by simpa using hk
   rw[hb] at h
   simp only[zx,dD,if_false] at h
   rcases h with h | h
   ·rw[h];exact .inr rfl
   ·exact absurd h hk
theorem cI.EC(S:cI X scope x cs){C:adi}{y:Str}(e:scope.names.lookup y=some .free):(compEnvC scope (vO X scope C) C X.env).kindOf y=some .cell\/(compEnvC scope (vO X scope C) C X.env).kindOf y=some .free:=by
 have q:(compEnvC scope (vO X scope C) C X.env).kindOf y=(scope.names.lookup y).map λk=>if(k == dm&&X.env.scope.kind == .function&&X.env.kindOf y == some .cell)=true then dU else k:=mK
 rw[q,e]
 simp only[my]
 split
 ·exact .inl rfl
 ·exact .inr rfl
theorem vP{fp:List adi}{tk:Nat}{E:ado->adn->Prop}(S:cI X scope x cs)(I:Inv X pins σ H s)(hf:∀b∈fp,eN X pins H b)(hl:∀b∈fp,b < s.heap.objs.size) :
  Inv (fL X scope x cs s.heap.objs.size s H fp (X.pn++pins) E) [] (none::mM cs σ) H { s with heap:=pushCells (s.heap.push { cls:=.type "dict",data:=.dict #[] }) scope.names,toks:=tk }:=by
 have keep:∀b o,s.heap.get? b=some o->(pushCells (s.heap.push { cls:=.type "dict",data:=.dict #[] }) scope.names).get? b=some o:=λb o e=>pushCells_keeps _ _ b o (aL _ e)
 have ns:(pushCells (s.heap.push { cls:=.type "dict",data:=.dict #[] }) scope.names).Ns s.heap.objs.size λ_=>none:=(Heap.Ns.new s.heap (.type "dict")).keeps (pushCells_keeps _ _)
 have own:(scope.names.filter λy=>y.2 == .cell)=[(x,.cell)]->(pushCells (s.heap.push { cls:=.type "dict",data:=.dict #[] }) scope.names).IsCell (s.heap.objs.size+1) none:=λz=>by
  rw[(i8 0 [] _ z).2]
  have:=aU (s.heap.push { cls:=.type "dict",data:=.dict #[] }) (o:={ cls:=.type "cell",data:=.cell none }) rfl
  rw[lV] at this
  exact⟨_,this,rfl⟩
 generalize (pushCells (s.heap.push { cls:=.type "dict",data:=.dict #[] }) scope.names)=h2 at keep ns own ⊢
 have sub:=λ{y:Str}{c:adi}(e:(vO X scope s.heap.objs.size).lookup y=some c)=>S.sub I.ok e
 have cellK:∀y c,X.env.cells.lookup y=some c->∀v,s.heap.IsCell c v->h2.IsCell c v:=λy c _ v ⟨o,ho,hd⟩=>⟨o,keep c o ho,hd⟩
 have lt:∀{y:Str}{c:adi},X.env.cells.lookup y=some c->c < s.heap.objs.size:=λ{y c} e=>by
  obtain⟨v,z⟩:=I.cell y c e
  exact z.lt
 refine⟨⟨I.ok.mod,S.kind,I.ok.glob,I.ok.blt,aj _,(λy z c e1 e2=>?_),λy h=>?_,(λy c e1 e2=>?_),I.ok.hd,I.ok.frames,.inl rfl,λb hb=>⟨aX (hl b hb),λy c e=>?_⟩,I.bs,bf I.ok.HX I.sz,λb o e hb=>?_,λb hb=>qj I (hf b hb),I.stack,I.oY⟩,rfl,I.bare,Un.kept keep,⟨_,ns,λi y v e1 e2 e3=>?_⟩,(λy c e=>?_),I.fresh,(λy c e=>?_),λp hp=>?_,I.hok.kept keep,by unfold fL mM;simp⟩
 ·rcases sub e1 with ⟨q1,q2,_⟩ | ⟨q1,_⟩<;>rcases sub e2 with ⟨q3,q4,_⟩ | ⟨q3,_⟩
  ·rw[q2,q4]
  ·exact absurd (lt q3) (by rw[q1];exact Nat.not_lt.mpr (mP _))
  ·exact absurd (lt q1) (by rw[q3];exact Nat.not_lt.mpr (mP _))
  ·exact I.ok.inj y z c q1 q3
 ·rcases S.NM h with k | k
  ·obtain⟨c,e⟩:=pj (env:=X.env) (y:=y) (names:=scope.names) (acc:=[]) (.inr (lookup_mem k))
   exact⟨c,S.to e (by rw[k];decide)⟩
  ·obtain⟨rfl,z⟩:=S.EB k
   refine⟨s.heap.objs.size+1,?_⟩
   show(vO X scope s.heap.objs.size).lookup y=_
   unfold vO
   rw[(i8 _ _ s.heap z).1,bL,beq_self_eq_true]
 ·rcases sub e2 with ⟨q1,_,_⟩ | ⟨_,q2⟩
  ·rw[q1];exact mP _
  ·exact absurd (eq_of_beq e1) q2
 ·rcases sub e with ⟨q1,_,_⟩ | ⟨q1,_⟩
  ·rw[q1];exact hV (Aa (hl b hb))
  ·exact(hf b hb).2.2.2.2.1 y c q1
 ·rcases(hf b hb).2.2.2.1 with z | z
  ·exact I.ok.HY b o e z
  ·exact absurd (bc (aF e) (bf I.ok.HX z)) (cb _)
 ·cases i with
  | zero=>cases e2
  | succ i=>
   have xt:(cs.map (·.1))[i]? =some y:=e1
   have Ab:(mM cs σ)[i]? =some (some v):=e2
   unfold mM at Ab
   rw[eO] at xt Ab
   cases q:cs[i]? with
   | none=>rw[q] at xt;cases xt
   | some p=>
    rw[q] at xt Ab
    have y1:p.1=y:=by simpa using xt
    have e4:(σ[p.2]?).getD none=some v:=by simpa using Ab
    have e5:σ[p.2]? =some (some v):=by
     cases q2:σ[p.2]? with
     | none=>rw[q2] at e4;cases e4
     | some o=>
      rw[q2] at e4
      have:o=some v:=e4
      rw[this]
    have hp:=S.at_ p (List.mem_iff_getElem?.mpr ⟨i,q⟩)
    rw[y1] at hp
    have kd:=S.cap (y,.free) (lookup_mem hp.2) rfl
    obtain⟨m,hn,hl'⟩:=I.loc
    obtain⟨u,r,l⟩:=hl' p.2 y v hp.1 e5 (.inr kd)
    refine⟨u,r,.inr ⟨S.EC hp.2,?_⟩⟩
    rcases l with ⟨l,_⟩ | ⟨_,c,e,z⟩
    ·rcases kd with kd | kd
     ·have Vm:X.env.kindOf y=some .cell:=kd
      rw[Vm] at l;cases l
     ·have Vm:X.env.kindOf y=some .free:=kd
      rw[Vm] at l;cases l
    ·obtain⟨c',e'⟩:=pj (env:=X.env) (y:=y) (names:=scope.names) (acc:=[]) (.inr (lookup_mem hp.2))
     have e6:=S.to (C:=s.heap.objs.size) e' (by rw[hp.2];decide)
     rcases sub e6 with ⟨_,w1,w2⟩ | ⟨w1,_⟩
     ·have hm:(x,dU)∈scope.names.filter λy=>y.2 == .cell:=by rw[w2];exact aK
      have:=S.look _ (List.mem_filter.mp hm).1
      rw[<-w1,hp.2] at this
      cases this
     ·rw[e] at w1
      cases w1
      exact⟨c,e6,cellK y c e _ z⟩
 ·rcases sub e with ⟨rfl,_,q2⟩ | ⟨q1,_⟩
  ·exact⟨none,own q2⟩
  ·obtain⟨v,z⟩:=I.cell y c q1
   exact⟨v,cellK y c q1 v z⟩
 ·rcases sub e with ⟨rfl,_,_⟩ | ⟨q1,_⟩
  ·exact I.hok.fresh (mP _)
  ·exact I.jL y c q1
 ·rw[gO] at hp
  obtain⟨e,n,ne,nf,d⟩:=I.pin p hp
  refine⟨keep _ _ e,n,aX (aF e),λz=>?_,d⟩
  rcases List.mem_cons.mp (I.lN p.1 z) with q | q
  ·exact ne q
  ·exact nf q
theorem ED{fp:List adi}{E:ado->adn->Prop}{Hb He:Hp}{sb se:adn}{C:adi}{σ':St}{rZ:List (adi×Obj)}(I:Inv X pins σ Hb sb)(hf:∀b∈fp,eN X pins Hb b)(J:Inv (fL X scope x cs C sb Hb fp (X.pn++pins) E) rZ σ' He se):Inv X pins σ He se:=by
 have un:Un (frs X.stack) fp Hb He sb.heap se.heap:=J.base
 exact I.zw (ch:=fp) J.os un J.hok J.bare λb hb=>⟨(hf b hb).2.2.2.1,(hf b hb).2.1,(hf b hb).2.2.2.2.1,λp hp=>(hf b hb).2.2.2.2.2 p hp⟩
theorem kU{He:Hp}{se:adn}{C:adi}{h2:Heap}(I:Inv X pins σ He se)(f:eN X pins He C)(same:gN C se.heap h2):Inv X pins σ He { se with heap:=h2 } :=
 I.turned (t':=se.toks) (it:=C) (λb o hb e=>(same.2 b hb).trans e) f.1 f.2.1 f.2.2.2.1 f.2.2.2.2.1 f.2.2.2.2.2
end
def EE(X:Cx):Prop:=∃(env:Env)(outer:List Env)(L:adi),X.stack=env::outer/\env.frame=some L/\X.env.frame=some L
section
variable {X:Cx} {pins:List (adi×Obj)} {σ:St} {scope:Scope} {x:Str} {cs:dM}
end
structure EF(Y:Cx->Prop)(P:adm)(w:adp)(K:PySem.W.Frag)(tg:Expr)(J:It)(fp:List adi)(it:adi)(tn:Nat->Heap->Prop):Prop where
 obj:∀i h,tn i h->∀b∈fp,∃o,h.get? b=some o/\∀v,o.data≠.cell v
 keep:∀i h h',tn i h->(∀b∈fp,∀o,h.get? b=some o->h'.get? b=some o)->tn i h'
 item:∀(X:Cx),X.prog=P->X.w=w->X.K=K->Y X->∀(i:Nat)(pins:List (adi×Obj))(s:adn)(σ:St)(H:Hp)(E:ado->adn->Prop),Inv X pins σ H s->(∀b∈fp,eN X pins H b)->tn i s.heap->J.go i H->adC (model P w) X.A (pyNext (.ref it)) (λr s1=>∃u,r=some u/\
  adC (model P w) X.A (letOwnedTupleGo tg (.ref it) u) (λ_ s2=>∃x H',Inv X pins σ H' s2/\RelV x u/\J.ve i H x H'/\tn (i+1) s2.heap/\∀b∈fp,H' b=none) E s1) E s
 done:∀(X:Cx),X.prog=P->X.w=w->X.K=K->Y X->∀(i:Nat)(pins:List (adi×Obj))(s:adn)(σ:St)(H:Hp)(E:ado->adn->Prop),Inv X pins σ H s->(∀b∈fp,eN X pins H b)->tn i s.heap->J.stop i H->adC (model P w) X.A (pyNext (.ref it)) (λr s1=>r=none/\Inv X pins σ H s1) E s
 self:∀(A:adj)(i:Nat)(s:adn)(Q:ado->adn->Prop)(E:ado->adn->Prop),tn i s.heap->Q (.ref it) s->adC (model P w) A (pyIter (.ref it)) Q E s
abbrev Calm(X:Cx):Prop:=X.calm=true
theorem _root_.L2.Turn.y{P:adm}{w:adp}{K:PySem.W.Frag}{tg:Expr}{J:It}{fp:List adi}{it:adi}{tn:Nat->Heap->Prop}(T:Turn P w K tg J fp it tn):EF Calm P w K tg J fp it tn:=⟨T.obj,T.keep,T.item,T.done,T.self⟩
def RE(Y:Cx->Prop)(X:Cx):Prop:=∀{pins:List (adi×Obj)}{σ:St}{H:Hp}{s:adn}(scope:Scope)(x:Str)(cs:dM)(C:adi)(s0:adn)(fp:List adi)(pn:List (adi×Obj))(E:ado->adn->Prop),Inv X pins σ H s->Y (fL X scope x cs C s0 H fp pn E)
theorem vQ{X:Cx}(hc:X.calm=true):RE Calm X:=λ_ _ _ _ _ _ _ _ _=>hc
def Ac(X:Cx)(ifs:List Expr)(g:GT):Prop:=∀(ρ:bw)(st:Hs)(σ:St)(H:Hp)(m:Mp)(Q:Bool->Hp->Prop),a_ X.K m st H->aA X.K m H ρ σ->iY X σ m H (g ρ st) Q->∀(pins:List (adi×Obj))(s:adn),Inv X pins σ H s->
 adC (model X.prog X.w) X.A (forIn ifs true λc r=>if r=true then do let ok <-isTrue c X.env (eval c X.env);pure (j5 ok) else pure (j5 r)) (TP X pins σ Q) X.xe s
section
variable {X:Cx}
theorem Ad:Ac X [] (λ_ st=> .ok true st):=λρ st σ H m Q S R p pins s I=>wpAny_tests_nil ⟨H,I,p m H Ext.refl S⟩
theorem Ae{c:Expr}{g:GT}(h:JT X c g):Ac X [c] g:=λρ st σ H m Q S R p pins s I=>wpAny_tests_one (h ρ st σ H m Q S R p pins s I)
theorem x9{pins:List (adi×Obj)}{σ:St}{ρ:bw}{scope:Scope}{x:Str}{cs:dM}{px pos:Pos}{elt iter:Expr}{ifs:List Expr}{gt:GT}{ge:GE}{ck:Hs->Prop}{ws:List Wv}{E:ado->adn->Prop}
  {use:Option (ado->Sem Unit)}{Q:ado->adn->Prop}{res:Re Unit}
  {it:adi}{fp:List adi}{tn:Nat->Heap->Prop}{J':It}{H2:Hp}{s2:adn}{m1:Mp}{st1:Hs}{Y:Cx->Prop}(fr:EE X)(S:cI X scope x cs)(hY:RE Y X)(hH:NJ X)(I2:Inv X pins σ H2 s2)(T:EF Y X.prog X.w X.K (.Name x px) J' fp it tn)(t0:tn 0 s2.heap)(f2:∀b∈fp,eN X pins H2 b)
  (S1:a_ X.K m1 st1 H2)(R:aA X.K m1 H2 ρ σ)(hck:ck (st1++[.lst []]))(run:om ck (λw=>gt (some w::eC cs ρ)) (λw=>ge (some w::eC cs ρ)) st1.length ws (st1++[.lst []])=res)(nb:res≠.bad)(hx:∀c stE,res≠.err c stE)
  (hE:∀C s0 H0 pn E,BS X.A H0->JE (fL X scope x cs C s0 H0 fp pn E) elt ge)(hT:∀C s0 H0 pn E,BS X.A H0->Ac (fL X scope x cs C s0 H0 fp pn E) ifs gt)
  (hgo:∀(k:Nat)(H:Hp)(m':Mp)(st:Hs),Ext X.K m1 H2 m' H->a_ X.K m' st H->ck st->k < ws.length->J'.go k H)(hstop:∀(k:Nat)(H:Hp)(m':Mp)(st:Hs),Ext X.K m1 H2 m' H->a_ X.K m' st H->ck st->k=ws.length->J'.stop k H)
  (hy:∀(k:Nat)(hk:k < ws.length)(H:Hp)(v:V)(H':Hp)(m':Mp)(st:Hs),Ext X.K m1 H2 m' H->a_ X.K m' st H->ck st->J'.ve k H v H'->H'=H/\ag X.K m' H ws[k] v)
  (fin:∀(mq:Hs),res= .ok () mq->∀(D C:adi)(mm:Str->Option ado)(m':Mp)(H':Hp)(s':adn),Ext X.K m1 H2 m' H'->a_ X.K m' mq H'->m'[st1.length]? =some D->Inv X pins σ H' s'->eN X pins H' C->s'.heap.Ns C mm->(∀y c,X.env.cells.lookup y=some c->c≠C)->adv (model X.prog X.w) X.A X.xe use Q (.ref D) C (.ok .next) s') :
  adC (model X.prog X.w) X.A (newList []) (λacc s3=>adC (model X.prog X.w) X.A (newFunctionEnv scope X.env.globals (rL X.env scope.names []) [] X.env.qual none .none (some X.env)) (λcenv s4=>
   adu (model X.prog X.w) X.A (.compStart (.ListComp elt [⟨.Name x px,iter,ifs,0⟩] scope pos) 0 (.ref it) acc { cenv with scope:=relabel scope X.env }) (adv (model X.prog X.w) X.A X.xe use Q acc cenv.locals) s4) E s3) E s2:=by
 refine adH ?_
 have I3:Inv X pins σ (upd H2 s2.heap.objs.size (.lst [])) { s2 with heap:=s2.heap.push { cls:=.type "list",data:=.seq ([]:List ado).toArray } }:=I2.IA (ys:=[]) (its:=[]) (t':=s2.toks) .nil (bb _)
 have Vn:∀b∈fp,b < s2.heap.objs.size:=λb hb=>by
  obtain⟨o,e,_⟩:=T.obj _ _ t0 b hb
  exact aF e
 have hD:H2 s2.heap.objs.size=none:=I2.fresh
 have f3:∀b∈fp,eN X pins (upd H2 s2.heap.objs.size (.lst [])) b:=λb hb=>⟨by rw[au (aX (Vn b hb))];exact(f2 b hb).1,(f2 b hb).2⟩
 have S3:=S1.alloc (ws:=[]) (xs:=[]) hD ah.nil
 have e3:Ext X.K m1 H2 (m1++[s2.heap.objs.size]) (upd H2 s2.heap.objs.size (.lst [])):=Ext.more.trans (Ext.upd (.inl hD))
 have Jj:(m1++[s2.heap.objs.size])[st1.length]? =some s2.heap.objs.size:=by
  rw[<-S1.len,gP (aj _),pf];rfl
 generalize Lr:({ s2 with heap:=s2.heap.push { cls:=.type "list",data:=.seq ([]:List ado).toArray } }:adn)=s3 at I3
 have EG:∀b o,s2.heap.get? b=some o->s3.heap.get? b=some o:=λb o e=>by rw[<-Lr];exact aL _ e
 have NN:∀b∈fp,b < s3.heap.objs.size:=λb hb=>by
  obtain⟨o,e,_⟩:=T.obj _ _ t0 b hb
  exact aF (EG b o e)
 generalize hDD:s2.heap.objs.size=D at *
 generalize hH3:upd H2 D (.lst [])=H3 at *
 generalize hm3:m1++[D]=m3 at *
 have R3:aA X.K m3 H3 (eC cs ρ) (mM cs σ):=(z_ cs R).mono e3
 generalize hrr:eC cs ρ=ρc at *
 generalize hss:mM cs σ=σc at *
 refine kf ?_
 have Ic:=λE=>vP (E:=E) (tk:=s3.toks) S I3 f3 NN
 have P6:∀b o,s3.heap.get? b=some o->(pushCells (s3.heap.push { cls:=.type "dict",data:=.dict #[] }) scope.names).get? b=some o:=λb o e=>pushCells_keeps _ _ b o (aL _ e)
 generalize (pushCells (s3.heap.push { cls:=.type "dict",data:=.dict #[] }) scope.names)=h4 at Ic P6 ⊢
 have t4:tn 0 h4:=T.keep _ _ _ t0 λb _ o e=>P6 b o (EG b o e)
 let EX:ado->adn->Prop:=notedBy (model X.prog X.w) X.A (compEnvC scope (vO X scope s3.heap.objs.size) s3.heap.objs.size X.env) λe s'=>adv (model X.prog X.w) X.A X.xe use Q (.ref D) s3.heap.objs.size (.error e) s'
 let Xc:=fL X scope x cs s3.heap.objs.size s3 H3 fp (X.pn++pins) EX
 have noted:∀{σ':St}{m:Mp}{H:Hp}{c:Str}{st:Hs},Ext X.K m1 H2 m H->res= .err c st->P0 Xc σ' m H c st:=λ_ er=>(hx _ _ er).elim
 have vis:Loc Xc.env.scope x/\(Xc.fn x=true\/Xc.env.scope.names.lookup x=some .local):=by
  rcases S.var with v | v
  ·exact⟨.inl (lookup_relabel_local v),.inr (lookup_relabel_local v)⟩
  ·have q:Xc.env.scope.names.lookup x=some .cell:=by
    show(scope.names.map _).lookup x=_
    rw[mK,v]
    rfl
   exact⟨.inr q,.inl (by show(scope.names.lookup x == some .cell)=true;rw[v];rfl)⟩
 have NO:∀(H':Hp),(∀b∈fp,H' b=none)->∀b∈fp,eN Xc [] H' b:=λH' hn b hb=>⟨hn b hb,aX (NN b hb),qj I3 (f3 b hb),.inl hb,λy c e=>(by
  rcases S.sub I3.ok e with ⟨q1,_,_⟩ | ⟨q1,_⟩
  ·rw[q1];exact hV (Aa (NN b hb))
  ·exact(f3 b hb).2.2.2.2.1 y c q1),λp hp=>(f2 b hb).2.2.2.2.2 p (by have x_:p∈(X.pn++pins)++[]:=hp;rw[gO] at x_;exact x_)⟩
 let Pv:Nat->adn->Prop:=λk s'=>∃z H' st m',Inv Xc [] (z::σc) H' s'/\tn k s'.heap/\(∀b∈fp,H' b=none)/\Ext X.K m3 H3 m' H'/\a_ X.K m' st H'/\ck st/\om ck (λw=>gt (some w::ρc)) (λw=>ge (some w::ρc)) st1.length (ws.drop k) st=res
 have loop:∀s4:adn,Pv 0 s4->adu (model X.prog X.w) X.A (.compLoop (.ListComp elt [⟨.Name x px,iter,ifs,0⟩] scope pos) 0 (.ref it) (.ref D) (compEnvC scope (vO X scope s3.heap.objs.size) s3.heap.objs.size X.env)) (adv (model X.prog X.w) X.A X.xe use Q (.ref D) s3.heap.objs.size) s4:=λs4 p0=>by
  refine codeAny_compLoop_tests (λn s'=>∃k,n=ws.length - k/\k<=ws.length/\Pv k s') ?_ ws.length ⟨0,by simp,bb _,p0⟩
  rintro n s5 ⟨k,rfl,hk,z5,H5,vn,m5,I5,RF,MG,e5,S5,c5,ba⟩
  have EH:=e3.trans e5
  by_cases hlt:k < ws.length
  ·refine bA (T.item Xc rfl rfl rfl (hY _ _ _ _ _ _ _ _ I3) k [] s5 (z5::σc) H5 _ I5 (NO H5 MG) RF (hgo k H5 m5 vn EH S5 c5 hlt)) λr s6 h6=>?_
   obtain⟨u,rfl,h6⟩:=h6
   show adC (model X.prog X.w) X.A (pure () >>= λ_=>assign (.Name x px) Xc.env u) _ _ s6
   refine adD (bA h6 λ_ s7 h7=>?_)
   obtain⟨v,H7,I7,rv,yl,NP,Vo⟩:=h7
   obtain⟨rfl,RG⟩:=hy k hlt H5 v H7 m5 vn EH S5 c5 yl
   have Vp:=I7.pinned (NO H7 Vo) (T.obj _ _ NP)
   refine wpAny_assign_Name (pJ (i:=0) Vp S.nd rfl vis.1 rv (λs8 I8=>?_) vis.2)
   have Ua:Inv Xc ([]++dE fp s7.heap) (some v::σc) H7 s8:=I8
   have R8:aA X.K m5 H7 (some ws[k]::ρc) (some v::σc):=by
    have R5:=R3.mono e5
    refine⟨by simp[R5.len],λi w e=>?_⟩
    cases i with
    | zero=>
     cases e
     exact⟨v,rfl,RG⟩
    | succ i=>exact R5.get i w e
   have ed:ws.drop k=ws[k]::ws.drop (k+1):=uh hlt
   rw[ed] at ba
   unfold om at ba
   have back:∀{H':Hp}{s':adn}{m':Mp}{st:Hs},Inv Xc ([]++dE fp s7.heap) (some v::σc) H' s'->Ext X.K m3 H3 m' H'->a_ X.K m' st H'->ck st->om ck (λw=>gt (some w::ρc)) (λw=>ge (some w::ρc)) st1.length (ws.drop (k+1)) st=res->∃n',n' < ws.length - k/\∃k',n'=ws.length - k'/\k'<=ws.length/\Pv k' s' :=
    λ{H' s' m' st} I' e' S' c' r'=>⟨ws.length - (k+1),by omega,k+1,rfl,hlt,some v,H',st,m',I'.j6,T.keep _ _ _ NP λb hb o e=>(I'.pin (b,o) (de _ (de _ (fc hb e)))).1,λb hb=>by
     obtain⟨o,e,_⟩:=T.obj _ _ NP b hb
     exact(I'.pin (b,o) (de _ (de _ (fc hb e)))).2.1,e',S',c',r'⟩
   cases eg:gt (some ws[k]::ρc) vn with
   | err c C9=>
    rw[eg] at ba
    refine adG (hT s3.heap.objs.size s3 H3 (X.pn++pins) EX (hH.at I3) (some ws[k]::ρc) vn (some v::σc) H7 m5 (λ_ _=>False) S5 R8 (by rw[eg];exact noted EH ba.symm) ([]++dE fp s7.heap) s8 Ua) (λ_ _ h9=>?_) λ_ _ z=>z
    obtain⟨_,_,z⟩:=h9
    exact z.elim
   | bad=>rw[eg] at ba;exact absurd ba.symm nb
   | ok b C9=>
    rw[eg] at ba
    have Lf:=hT s3.heap.objs.size s3 H3 (X.pn++pins) EX (hH.at I3) (some ws[k]::ρc) vn (some v::σc) H7 m5 (λb' H'=>b'=b/\∃m',Ext X.K m5 H7 m' H'/\a_ X.K m' C9 H') S5 R8 (by rw[eg];exact λm' H' e' S'=>⟨rfl,m',e',S'⟩) ([]++dE fp s7.heap) s8 Ua
    refine adG Lf (λok s9 h9=>?_) λ_ _ z=>z
    obtain⟨H9,I9,rfl,m9,e9,S9⟩:=h9
    cases ok with
    | false=>
     dsimp only at ba
     by_cases c6:ck C9
     ·rw[if_pos c6] at ba
      rw[if_neg bh]
      exact back I9 (e5.trans e9) S9 c6 ba
     ·rw[if_neg c6] at ba;exact absurd ba.symm nb
    | true=>
     dsimp only at ba
     rw[if_pos rfl]
     cases ee:ge (some ws[k]::ρc) C9 with
     | err c Jk=>
      rw[ee] at ba
      refine adG (hE s3.heap.objs.size s3 H3 (X.pn++pins) EX (hH.at I3) (some ws[k]::ρc) C9 (some v::σc) H9 m9 (λ_ _=>False) S9 (R8.mono e9) (by rw[ee];exact noted (EH.trans e9) ba.symm) ([]++dE fp s7.heap) s9 I9) (λ_ _ RH=>?_) λ_ _ z=>z
      obtain⟨_,_,_,_,z⟩:=RH
      exact z.elim
     | bad=>rw[ee] at ba;exact absurd ba.symm nb
     | ok w Jk=>
      rw[ee] at ba
      dsimp only at ba
      cases ea:iI (.ref st1.length) w Jk with
      | err c NQ=>rw[ea] at ba;exact absurd ba.symm nb
      | bad=>rw[ea] at ba;exact absurd ba.symm nb
      | ok w2 NQ=>
       rw[ea] at ba
       dsimp only at ba
       by_cases c8:ck NQ
       ·rw[if_pos c8] at ba
        have el:=hE s3.heap.objs.size s3 H3 (X.pn++pins) EX (hH.at I3) (some ws[k]::ρc) C9 (some v::σc) H9 m9 (λv' H'=>∃m',Ext X.K m9 H9 m' H'/\a_ X.K m' Jk H'/\ag X.K m' H' w v') S9 (R8.mono e9) (by rw[ee];exact λv' m' H' e' S' r'=>⟨m',e',S',r'⟩) ([]++dE fp s7.heap) s9 I9
        refine adG el (λu2 P7 RH=>?_) λ_ _ z=>z
        obtain⟨v2,EI,Vq,r2,Jl,P8,Vr,NR⟩:=RH
        obtain⟨r,h1,h2⟩:=uj (X:=Xc)
        have eA:=(e5.trans e9).trans P8
        have ro:ag X.K Jl EI (.ref st1.length) (.ref D):=by unfold ag;exact⟨D,rfl,eA.pre _ _ Jj⟩
        have rd:=h2 (.ref st1.length) w (.ref D) v2 Jk EI Jl (λ_ H'=>∃m',Ext X.K Jl EI m' H'/\a_ X.K m' NQ H') Vr ro NR (by rw[ea];exact λv' m' H' e' S' r'=>⟨m',e',S'⟩)
        refine adG (h1 ([]++dE fp s7.heap) P7 (some v::σc) EI (.ref D) [v2] (.ref D) [u2] _ Vq rfl (.cons r2 .nil) rd) (λ_ s11 h11=>?_) λ_ _ z=>z
        obtain⟨_,Vs,Vt,_,m11,Ub,Vu⟩:=h11
        exact back Vt (eA.trans Ub) Vu c8 ba
       ·rw[if_neg c8] at ba;exact absurd ba.symm nb
  ·have ek:k=ws.length:=by omega
   subst ek
   refine bA (T.done Xc rfl rfl rfl (hY _ _ _ _ _ _ _ _ I3) _ [] s5 (z5::σc) H5 _ I5 (NO H5 MG) RF (hstop _ H5 m5 vn EH S5 c5 rfl)) λr s6 h6=>?_
   obtain⟨rfl,I6⟩:=h6
   rw[xZ] at ba
   obtain⟨mm,Vv,_⟩:=id I6.loc
   have fC:=I3.vm (H':=H5) (aj _) I6.free
   exact fin vn ba.symm D _ mm m5 H5 _ EH S5 (e5.pre _ _ Jj) (ED I3 f3 I6) fC Vv fC.2.2.2.2.1
 have p0:Pv 0 { s3 with heap:=h4,toks:=s3.toks }:=⟨none,H3,st1++[Ob.lst []],m3,hss ▸ Ic EX,t4,λb hb=>(f3 b hb).1,Ext.refl,S3,hck,by rw[List.drop_zero];exact run⟩
 exact codeAny_compStart_list (loop _ p0) (T.self X.A 0 _ _ _ t4 (loop _ p0))
end
abbrev Wk:=Option Nat×List Wv
def i9(w:Wk)(st:Hs):Prop:=match w.1 with
 | some l=>av st l=some w.2
 | none=>True
structure sF(X:Cx)(w:Wk)(m1:Mp)(H1:Hp)(J':It):Prop where
 go:∀(k:Nat)(H:Hp)(m':Mp)(st:Hs),Ext X.K m1 H1 m' H->a_ X.K m' st H->i9 w st->k < w.2.length->J'.go k H
 stop:∀(k:Nat)(H:Hp)(m':Mp)(st:Hs),Ext X.K m1 H1 m' H->a_ X.K m' st H->i9 w st->k=w.2.length->J'.stop k H
 ve:∀(k:Nat)(hk:k < w.2.length)(H:Hp)(v:V)(H':Hp)(m':Mp)(st:Hs),Ext X.K m1 H1 m' H->a_ X.K m' st H->i9 w st->J'.ve k H v H'->H'=H/\ag X.K m' H w.2[k] v
abbrev GI:=bw->Hs->Re Wk
def Vw(Y:Cx->Prop)(X:Cx)(pins:List (adi×Obj))(σ:St)(tg:Expr)(R:It->Hp->Prop)(itv:ado)(s2:adn):Prop :=
 ∃(it:adi)(fp:List adi)(tn:Nat->Heap->Prop)(J:It)(H':Hp),itv= .ref it/\Inv X pins σ H' s2/\EF Y X.prog X.w X.K tg J fp it tn/\tn 0 s2.heap/\(∀b∈fp,eN X pins H' b)/\R J H'
def Yd(Y:Cx->Prop)(X:Cx)(tg iter:Expr)(wi:TI):Prop:=∀(pins:List (adi×Obj))(s:adn)(σ:St)(H:Hp)(R:It->Hp->Prop),Inv X pins σ H s->wi σ H R->
 adC (model X.prog X.w) X.A (eval iter X.env) (λv s1=>adC (model X.prog X.w) X.A (pyIter v) (Vw Y X pins σ tg R) X.xe s1) X.xe s
theorem _root_.L2.PI.y{X:Cx}{tg iter:Expr}{wi:TI}(h:PI X tg iter wi):Yd Calm X tg iter wi:=λpins s σ H R I q=>bA (h pins s σ H R I q) λ_ _ h1=>bA h1 λ_ _ h2=>
 let ⟨it,fp,tn,J,H',e,I',T,r⟩:=h2;⟨it,fp,tn,J,H',e,I',T.y,r⟩
def Uc(Y:Cx->Prop)(X:Cx)(tg iter:Expr)(gi:GI):Prop:=∃wi,Yd Y X tg iter wi/\∀(ρ:bw)(st:Hs)(σ:St)(H:Hp)(m:Mp)(R:It->Hp->Prop),a_ X.K m st H->aA X.K m H ρ σ->
 aw X σ m H (gi ρ st) (λw st1=>∀(m1:Mp)(H1:Hp)(J':It),Ext X.K m H m1 H1->a_ X.K m1 st1 H1->i9 w st1->sF X w m1 H1 J'->R J' H1)->wi σ H R
def JI(X:Cx)(tg iter:Expr)(gi:GI):Prop:=∃wi,PI X tg iter wi/\∀(ρ:bw)(st:Hs)(σ:St)(H:Hp)(m:Mp)(R:It->Hp->Prop),a_ X.K m st H->aA X.K m H ρ σ->
 aw X σ m H (gi ρ st) (λw st1=>∀(m1:Mp)(H1:Hp)(J':It),Ext X.K m H m1 H1->a_ X.K m1 st1 H1->i9 w st1->sF X w m1 H1 J'->R J' H1)->wi σ H R
theorem JI.y{X:Cx}{tg iter:Expr}{gi:GI}(h:JI X tg iter gi):Uc Calm X tg iter gi:=let ⟨wi,h1,h2⟩:=h;⟨wi,h1.y,h2⟩
def NT(w:Wv)(st:Hs):Re Wk:=match w with
 | .ref l=>(match av st l with | some ws=> .ok (some l,ws) st | none=> .bad)
 | .tup ws=> .ok (none,ws) st
 | .og ws=> .ok (none,ws) st
 | _=> .bad
def EJ(g:GE):GI:=λρ st=>(g ρ st).bind NT
section
variable {X:Cx}
theorem NU{tg iter:Expr}{g:GE}(h:JE X iter g):JI X tg iter (EJ g):=by
 refine⟨_,Eo aV,λρ st σ H m Q S R p=>?_⟩
 refine h.go S R (aw.bind p) λw st1 v m1 H1 p1 e1 S1 rw'=>?_
 cases w with
 | ref l=>
  unfold ag at rw'
  obtain⟨a,rfl,hla⟩:=rw'
  unfold NT at p1
  cases el:av st1 l with
  | none=>simp only[el] at p1;exact aa p1
  | some ws=>
   simp only[el] at p1
   obtain⟨NH,q0,_⟩:=S1.read hla el
   refine⟨a,rfl,.inl ⟨⟨NH,q0⟩,p1 m1 H1 _ e1 S1 el ⟨λk H' m' st' e S' c hk=>?_,λk H' m' st' e S' c hk=>?_,λk hk H' v uo m' st' e S' c y=>?_⟩⟩⟩
   ·obtain⟨xs,hq,rws⟩:=S'.read (e.pre _ _ hla) c
    have hx':k < xs.length:=by rw[<-rws.length];exact hk
    exact⟨xs,xs[k],hq,by simp[hx']⟩
   ·obtain⟨xs,hq,rws⟩:=S'.read (e.pre _ _ hla) c
    exact⟨xs,hq,by rw[<-rws.length,hk];exact aj _⟩
   ·obtain⟨xs,hq,rws⟩:=S'.read (e.pre _ _ hla) c
    obtain⟨ee,y⟩:=y
    refine⟨ee,?_⟩
    obtain⟨x',ex',ug⟩:=rws.get (i:=k) (w:=ws[k]) (cE hk)
    rw[y xs hq] at ex'
    cases ex'
    exact ug
 | tup ws=>
  unfold ag at rw'
  obtain⟨a,xs,rfl,hq,rws⟩:=rw'
  refine⟨a,rfl,.inr ⟨⟨xs,fb.of hq⟩,p1 m1 H1 _ e1 S1 trivial ⟨λk H' m' st' e S' c hk=>?_,λk H' m' st' e S' c hk=>?_,λk hk H' v uo m' st' e S' c y=>?_⟩⟩⟩
  ·have hx':k < xs.length:=by rw[<-rws.length];exact hk
   exact⟨xs,xs[k],fb.of (e.tup _ _ hq),by simp[hx']⟩
  ·exact⟨xs,fb.of (e.tup _ _ hq),by rw[<-rws.length,hk];exact aj _⟩
  ·obtain⟨ee,y⟩:=y
   refine⟨ee,?_⟩
   obtain⟨x',ex',ug⟩:=(ah.mono e _ _ rws).get (i:=k) (w:=ws[k]) (cE hk)
   rw[y xs (fb.of (e.tup _ _ hq))] at ex'
   cases ex'
   exact ug
 | og ws=>
  unfold ag at rw'
  obtain⟨a,xs,rfl,hq,rws⟩:=rw'
  refine⟨a,rfl,.inr ⟨⟨xs,.inr hq⟩,p1 m1 H1 _ e1 S1 trivial ⟨λk H' m' st' e S' c hk=>?_,λk H' m' st' e S' c hk=>?_,λk hk H' v uo m' st' e S' c y=>?_⟩⟩⟩
  ·have hx':k < xs.length:=by rw[<-rws.length];exact hk
   exact⟨xs,xs[k],.inr hq,by simp[hx']⟩
  ·exact⟨xs,.inr hq,by rw[<-rws.length,hk];exact aj _⟩
  ·obtain⟨ee,y⟩:=y
   refine⟨ee,?_⟩
   obtain⟨x',ex',ug⟩:=(ah.mono e _ _ rws).get (i:=k) (w:=ws[k]) (cE hk)
   rw[y xs (.inr hq)] at ex'
   cases ex'
   exact ug
 | _=>exact aa p1
theorem NV{lo:Int}{n:Nat}{m1:Mp}{H1:Hp}:sF X (none,di lo n) m1 H1 (MD lo n) where
 go:=λk H m' st e S c hk=>by
  have:(di lo n).length=n:=fK
  have hk':k < (di lo n).length:=hk
  rw[this] at hk';exact hk'
 stop:=λk H m' st e S c hk=>by
  have:(di lo n).length=n:=fK
  have hk':k=(di lo n).length:=hk
  rw[this] at hk';exact mJ hk'.symm
 ve:=λk hk H v H' m' st e S c y=>by
  obtain⟨y1,y2⟩:=y
  refine⟨y1,?_⟩
  have q:(di lo n)[k]'hk= .int (lo+k):=vJ hk
  show ag X.K m' H ((di lo n)[k]'hk) v
  rw[q,y2]
  exact mkInt
def vR(ws:List Wv)(st:Hs):Re Wk:=match ws with
 | [.int j]=>if jY j then .ok (none,di 0 j.toNat) st else .bad
 | _=> .bad
def Lu(ws:List Wv)(st:Hs):Re Wk:=match ws with
 | [.int a,.int j]=>if jY a/\jY j then .ok (none,di a (j - a).toNat) st else .bad
 | _=> .bad
def Jm(g:GA):GI:=λρ st=>(g ρ st).bind vR
def Vx(g:GA):GI:=λρ st=>(g ρ st).bind Lu
theorem RI{tg a:Expr}{ga:GA}{p q:Pos}(hg:Gl X "range")(hm:X.mg "range"=none)(ha:JA X [a] ga)(hst:adB [a] X.env=[(false,eval a X.env)]):JI X tg (.Call (.Name "range" p) [a] [] q) (Jm ga):=by
 refine⟨_,r6 hg hm kc hst,λρ st σ H m Q S R p=>?_⟩
 refine ha.go S R (aw.bind p) λws st1 vs m1 H1 p1 e1 S1 rs=>?_
 match ws,rs,p1 with
 | [],rs,p1=>exact aa p1
 | x::y::t,rs,p1=>cases x<;>exact aa p1
 | [x],rs,p1=>
  obtain⟨v,rfl,r1⟩:=p_ rs
  cases x with
  | int j=>
   cases bo r1
   unfold vR at p1
   by_cases c:jY j
   ·simp only[if_pos c] at p1
    exact⟨j,rfl,c.1,c.2,p1 m1 H1 _ e1 S1 trivial NV⟩
   ·simp only[if_neg c] at p1;exact aa p1
  | _=>exact aa p1
def EK:GI:=λ_ _=> .bad
theorem vS{tg iter:Expr}:PI X tg iter (λ_ _ _=>False):=λ_ _ _ _ _ _ h=>h.elim
theorem EL{tg iter:Expr}:JI X tg iter EK:=⟨_,vS,λρ st σ H m Q S R p=>p⟩
def cX(cs:dM)(gt:GT)(ge:GE)(ρ:bw)(w:Wk)(st:Hs):Re Wv:=match i7 (i9 w) (λv=>gt (some v::eC cs ρ)) (λv=>ge (some v::eC cs ρ)) st.length w.2 (st++[.lst []]) with
 | some mq=> .ok (.ref st.length) mq
 | none=> .bad
def ib(cs:dM)(gi:GI)(gt:GT)(ge:GE):GE:=λρ st=>(gi ρ st).bind λw st1=>cX cs gt ge ρ w st1
theorem sG{st:Hs}{l:Nat}{ws:List Wv}{more:Hs}(h:av st l=some ws):av (st++more) l=some ws:=by
 unfold av at h ⊢
 cases e:st[l]? with
 | none=>rw[e] at h;cases h
 | some o=>
  have hl:=(List.getElem?_eq_some_iff.mp e).1
  rw[d_ hl,e]
  rw[e] at h
  exact h
theorem qk{w:Wk}{st more:Hs}(h:i9 w st):i9 w (st++more):=by
 obtain⟨o,ws⟩:=w
 cases o with
 | none=>trivial
 | some l=>exact sG h
theorem Af{scope:Scope}{x:Str}{cs:dM}{px pos:Pos}{elt iter:Expr}{ifs:List Expr}{gi:GI}{gt:GT}{ge:GE}{use:Option (ado->Sem Unit)}{Q:ado->adn->Prop}{P:Wv->Hs->Prop}
  {ρ:bw}{st:Hs}{σ:St}{H:Hp}{m:Mp}{pins:List (adi×Obj)}{s:adn}{ps:Pos}
  {Y:Cx->Prop}(fr:EE X)(CS:cI X scope x cs)(hc:RE Y X)(hH:NJ X)(hi:Uc Y X (.Name x px) iter gi)(hE:∀C s0 H0 fp pn E,BS X.A H0->JE (fL X scope x cs C s0 H0 fp pn E) elt ge)(hT:∀C s0 H0 fp pn E,BS X.A H0->Ac (fL X scope x cs C s0 H0 fp pn E) ifs gt)(hs:∀x,adx iter X.env x=pure x)
  (S:a_ X.K m st H)(R:aA X.K m H ρ σ)(I:Inv X pins σ H s)(p:aw X σ m H (ib cs gi gt ge ρ st) P)
  (fin:∀(w:Wv)(mq:Hs)(v:V)(D C:adi)(mm:Str->Option ado)(m':Mp)(H':Hp)(s':adn),P w mq->Ext X.K m H m' H'->a_ X.K m' mq H'->ag X.K m' H' w v->v= .ref D->Inv X pins σ H' s'->eN X pins H' C->s'.heap.Ns C mm->adv (model X.prog X.w) X.A X.xe use Q (.ref D) C (.ok .next) s') :
  adC (model X.prog X.w) X.A (comprehension (.ListComp elt [⟨.Name x px,iter,ifs,0⟩] scope pos) scope X.env ps (newList []) false (eval iter X.env) use) Q X.xe s:=by
 obtain⟨wi,Vy,hw⟩:=hi
 let R':It->Hp->Prop:=λJ' H1=>∃(w:Wk)(st1:Hs)(m1:Mp),aw X σ m H (cX cs gt ge ρ w st1) P/\Ext X.K m H m1 H1/\a_ X.K m1 st1 H1/\i9 w st1/\sF X w m1 H1 J'
 have hr:=hw ρ st σ H m R' S R ((aw.bind p).imp Ext.refl λw st1 q m1 H1 J' e1 S1 c1 ya=>⟨w,st1,m1,q,e1,S1,c1,ya⟩)
 refine wpAny_comprehension_free (g:=⟨.Name x px,iter,ifs,0⟩) (gs:=[]) (cl:=rL X.env scope.names []) rfl hs (zZ (CS.has I.ok)) CS.kind (λy hy e=>by rw[CS.look y hy,e]) (bA (Vy pins s σ H R' I hr) λv s1 h1=>bA h1 λitv s2 h2=>?_)
 obtain⟨it,fp,tn,J',H1,rfl,I2,T,t0,f2,w,st1,m1,q,e1,S1,c1,ya⟩:=h2
 unfold cX at q
 cases run:i7 (i9 w) (λv=>gt (some v::eC cs ρ)) (λv=>ge (some v::eC cs ρ)) st1.length w.2 (st1++[.lst []]) with
 | none=>
  rw[run] at q
  exact aa q
 | some mq=>
  rw[run] at q
  refine x9 (use:=use) (Q:=Q) fr CS hc hH I2 T t0 f2 S1 (R.mono e1) (qk c1) (qg _ _ run) (by intro z;cases z) (λc' aav z=>by cases z) (λC s0 H0 pn E=>hE C s0 H0 fp pn E) (λC s0 H0 pn E=>hT C s0 H0 fp pn E) ya.go ya.stop ya.ve ?_
  intro aaw z D C mm m' H' s' e' S' Jj I' fC ns _
  cases z
  exact fin _ mq (.ref D) D C mm m' H' s' q (e1.trans e') S' (by unfold ag;exact⟨D,rfl,Jj⟩) rfl I' fC ns
theorem Ag{scope:Scope}{x:Str}{cs:dM}{px pos:Pos}{elt iter:Expr}{ifs:List Expr}{gi:GI}{gt:GT}{ge:GE}
  {Y:Cx->Prop}(fr:EE X)(CS:cI X scope x cs)(hc:RE Y X)(hH:NJ X)(hi:Uc Y X (.Name x px) iter gi)(hE:∀C s0 H0 fp pn E,BS X.A H0->JE (fL X scope x cs C s0 H0 fp pn E) elt ge)(hT:∀C s0 H0 fp pn E,BS X.A H0->Ac (fL X scope x cs C s0 H0 fp pn E) ifs gt)(hs:∀x,adx iter X.env x=pure x) :
  JE X (.ListComp elt [⟨.Name x px,iter,ifs,0⟩] scope pos) (ib cs gi gt ge):=λρ st σ H m Q S R p pins s I=>by
 rw[eval_ListComp]
 refine Af (use:=none) fr CS hc hH hi hE hT hs S R I p ?_
 intro w mq v D C mm m' H' s' q e' S' rw' ev I' fC ns
 exact⟨mm,ns,λh' same=>⟨.ref D,H',kU I' fC same,rfl,ev ▸ q v m' H' e' S' rw'⟩⟩
theorem Jn(i:Nat){scope:Scope}{x y:Str}{cs:dM}{px pos spos py:Pos}{elt iter:Expr}{ifs:List Expr}{gi:GI}{gt:GT}{ge:GE}(hN:X.N.Nodup)
  {Y:Cx->Prop}(fr:EE X)(CS:cI X scope x cs)(hc:RE Y X)(hH:NJ X)(hi:Uc Y X (.Name x px) iter gi)(hE:∀C s0 H0 fp pn E,BS X.A H0->JE (fL X scope x cs C s0 H0 fp pn E) elt ge)(hT:∀C s0 H0 fp pn E,BS X.A H0->Ac (fL X scope x cs C s0 H0 fp pn E) ifs gt)(hs:∀x,adx iter X.env x=pure x)
  (hx:X.N[i]? =some y)(hl:Loc X.env.scope y)(hf:X.fn y=true\/X.env.scope.names.lookup y=some .local) :
  JS X (.Assign [.Name y py] (.ListComp elt [⟨.Name x px,iter,ifs,0⟩] scope pos) spos) (bt i (ib cs gi gt ge)):=by
 have sw:∃b,swapsWith (.ListComp elt [⟨.Name x px,iter,ifs,0⟩] scope pos) (some (.Name y py)) spos.line X.env=pure b:=⟨_,rfl⟩
 obtain⟨b,sw⟩:=sw
 cases b with
 | false=>exact qa i hN (Ag fr CS hc hH hi hE hT hs) hx hl sw hf
 | true=>
  intro ρ st σ H m D S R p pins s I
  rw[exec_Assign_Name_used _ _ _ _ sw]
  refine adD (wpAny_standAt (adD ?_))
  show adC _ X.A (do let _ <-comprehension (.ListComp elt [⟨.Name x px,iter,ifs,0⟩] scope pos) scope X.env _ (newList []) false (eval iter X.env) (some (assign (.Name y py) X.env))) _ _ s
  refine adD (adG (Af (use:=some (assign (.Name y py) X.env)) (Q:=λ_ s'=>SP X pins D .next s') fr CS hc hH hi hE hT hs S R I (bg.eB R p) ?_) (λ_ s' hq=>adJ (adJ hq)) λ_ _ e=>e)
  intro w mq v D' C mm m' H' s' q e' S' rw' ev I' fC ns
  refine wpAny_assign_Name (nj (i:=i) I' hN hx hl (show RelV v (.ref D') by rw[ev];rfl) (λs2 I2 h2=>?_) hf)
  obtain⟨a,sb,ha⟩:=h2
  have hca:C≠a:=by
   rcases ha with z | z
   ·rw[z];exact fC.2.1
   ·exact ay (fC.2.2.2.2.1 y a z)
  exact⟨mm,ns.sameBut sb hca,λh' same=>⟨_,_,kU I2 fC same,q _ m' H' e' S' ((R.mono e').set i rw')⟩⟩
end
section
variable {X:Cx}
def NW(n:Nat)(k:Int):Prop:=-(2 ^ 62)<=k/\k < 2 ^ 62/\n * k.toNat<=lim
instance {n k}:Decidable (NW n k):=Ep _
def ql:fY
 | .ref l,.int n,st=>match st[l]? with
  | some (.lst ws)=>if NW ws.length n then .ok (.ref st.length) (st++[.lst (aQ n.toNat ws).flatten]) else .bad
  | _=> .bad
 | x,y,st=>Lp x y st
theorem sH{K:PySem.W.Frag}{m:Mp}{H:Hp}{ws:List Wv}{xs:List V}(r:ah K m H ws xs):∀n:Nat,ah K m H (aQ n ws).flatten (aQ n xs).flatten
 | 0=>ah.nil
 | n+1=>by
  rw[hX,pS,hX,pS]
  exact r.append (sH r n)
theorem Jo:kO X (ads .Mult) ql:=by
 obtain⟨r,h1,h2⟩:=Jc (X:=X)
 refine⟨_,fI.or M4 h1,λx y a b st H m Q S rx ry p=>?_⟩
 unfold ql at p
 split at p
 ·rename_i l n
  unfold ag at rx
  obtain⟨a1,rfl,hl⟩:=rx
  cases bo ry
  cases e:st[l]? with
  | none=>rw[e] at p;exact aa p
  | some o=>
   cases o with
   | dct kvs=>rw[e] at p;exact aa p
   | gw kvs=>rw[e] at p;exact aa p
   | lR kvs=>rw[e] at p;exact aa p
   | DR kvs=>rw[e] at p;exact aa p
   | iU kvs=>rw[e] at p;exact aa p
   | sj ns=>rw[e] at p;exact aa p
   | lst ws=>
    rw[e] at p
    dsimp only at p
    by_cases c:NW ws.length n
    ·rw[if_pos c] at p
     obtain⟨xs,q1,q2⟩:=S.zQ hl e
     refine .inl ⟨a1,n,xs,rfl,rfl,q1,by have:=c.1;omega,by have:=c.2.1;omega,by rw[<-q2.length];exact fT c.2.2,λq hq=>?_⟩
     exact mE p Ext.refl S (sH q2 n.toNat) q hq
    ·rw[if_neg c] at p;exact aa p
 ·exact .inr (h2 x y a b st H m Q S rx ry p)
def f9:List Wv->Hs->Re Wv
 | [.ref l],st=>match av st l with
  | some ws=> .ok (.tup ws) st
  | none=> .bad
 | [.tup ws],st=> .ok (.tup ws) st
 | _,_=> .bad
theorem NX:gR X (.type "tuple") f9:=⟨_,rH,λws vs st H m Q S rs p=>by
 match ws,rs,p with
 | [],rs,p=>exact aa p
 | x::y::t,rs,p=>cases x<;>exact aa p
 | [x],rs,p=>
  obtain⟨v,rfl,r1⟩:=p_ rs
  cases x with
  | ref l=>
   unfold f9 at p
   unfold ag at r1
   obtain⟨a,rfl,hl⟩:=r1
   cases e:av st l with
   | none=>simp only[e] at p;exact aa p
   | some ws=>
    simp only[e] at p
    obtain⟨xs,q1,q2⟩:=S.read hl e
    refine⟨a,xs,rfl,.inl ⟨q1,λq hq=>?_⟩⟩
    have e2:Ext X.K m H m (upd H q (.tup xs)):=Ext.upd (.inl hq)
    exact p (.ref q) m _ e2 (S.fresh hq) (by unfold ag;exact⟨q,xs,rfl,aP,ah.mono e2 _ _ q2⟩)
  | tup ws=>
   have r1':=r1
   unfold ag at r1'
   obtain⟨a,xs,rfl,q1,q2⟩:=r1'
   exact⟨a,xs,rfl,.inr ⟨fb.of q1,p _ m H Ext.refl S r1⟩⟩
  | _=>exact aa p⟩
end
end J
namespace JL
open PySem PyProof.Rows
def kn(p:adL):Int:=numOf p.1
section
variable {prog:adm} {w:adp} {A:adj} {E:ado->adn->Prop} {s:adn}
def gp(left:Bool)(key:adL)(arr:Array adL)(base i:Nat):Bool:=if left then decide (K arr (base+i) < kn key) else !decide (kn key < K arr (base+i))
end
section
variable {α:Type} {f:α->Int} {A B:List α}
end
def Up(l:List adL):Prop:=l.Pairwise (kn · <=kn ·)
section
variable {prog:adm} {w:adp} {A:adj} {E:ado->adn->Prop} {s:adn}
end
section
variable {α:Type} {f:α->Int} {A B:List α}
end
section
variable {prog:adm} {w:adp} {A:adj} {E:ado->adn->Prop} {s:adn}
end
section
variable {prog:adm} {w:adp} {A₀:adj} {E:ado->adn->Prop} {s:adn}
end
section
variable {prog:adm} {w:adp} {A:adj} {E:ado->adn->Prop} {s:adn} {P:Array (Nat×Nat×Nat)} {g:Nat}
end
section
variable {prog:adm} {w:adp} {A:adj} {E:ado->adn->Prop} {s:adn} {P:Array (Nat×Nat×Nat)} {g:Nat}
end
inductive Rn:Nat->List (Nat×Nat×Nat)->List adL->Prop
 | nil {s:Nat}:Rn s [] []
 | cons {s n p:Nat} {P:List (Nat×Nat×Nat)} {A X:List adL}:A.length=n->1<=n->Up A->Rn (s+n) P X->Rn s ((s,n,p)::P) (A++X)
section
variable {prog:adm} {w:adp} {A₀:adj} {E:ado->adn->Prop} {s:adn}
end
section
variable {prog:adm} {w:adp} {A₀:adj} {E:ado->adn->Prop} {s:adn}
end
section
variable {prog:adm} {w:adp} {A:adj} {E:ado->adn->Prop} {s:adn}
end
end JL
namespace J
open PySem PySem.Spec PyProof.Rows L2
section
variable {X:Cx}
def intsOf:List Wv->Option (List Int)
  | []=>some []
  | .int b::r=>(match intsOf r with | some l=>some (b::l) | none=>none)
  | _=>none
theorem qm:∀ns:List Int,intsOf (ns.map Wv.int)=some ns
  | []=>rfl
  | n::r=>by rw[aD];unfold intsOf;rw[qm r]
theorem qo{K:PySem.W.Frag}{m:Mp}{H:Hp}:∀{ws:List Wv}{xs:List V}{bs:List Int},ah K m H ws xs->intsOf ws=some bs->xs=bs.map V.int
  | [],xs,bs,r,h=>by
    unfold ah at r
    cases h
    exact r
  | w::ws,xs,bs,r,h=>by
    unfold ah at r
    obtain⟨x,t,rfl,r1,r2⟩:=r
    cases w with
    | int b=>
      unfold intsOf at h
      cases e:intsOf ws with
      | none=>rw[e] at h;cases h
      | some l=>
        rw[e] at h
        cases h
        unfold ag at r1
        rw[r1,qo r2 e]
        rfl
    | _=>cases h
theorem vT:∀{ns:List Int}{its:List ado},Vals (ns.map V.int) its->∃xs:List (Int×Tok),its=xs.map (λp=>oU p.1 p.2)/\xs.map (·.1)=ns
  | [],its,r=>by cases r;exact⟨[],rfl,rfl⟩
  | n::ns,its,r=>by
    cases r with
    | cons h t=>
      obtain⟨tk,rfl⟩:=h
      obtain⟨xs,e1,e2⟩:=vT t
      exact⟨(n,tk)::xs,by rw[e1];rfl,by rw[<-e2];rfl⟩
theorem BU(xs:List (Int×Tok))(i:Nat):numAt xs.toArray i=(xs.map (·.1)).getD i 0:=by
  unfold numAt
  rw[List.getElem?_toArray,List.getD_eq_getElem?_getD,eO]
theorem qp(xs:List (Int×Tok)):∀k,preSum (numAt xs.toArray) k=((xs.map (·.1)).take k).sum
  | 0=>by simp[preSum]
  | k+1=>by
    unfold preSum
    rw[qp xs k,BU]
    rw[PySem.sum_take_succ]
theorem BV(hc:X.calm=true):dB X (.builtin "sum") (λxs H Q=>∃(p:adi)(ns:List Int),xs=[.ref p]/\lO X.K H p (ns.map V.int)/\Q (.int ns.sum) H):=by
  intro pins s σ H xs us Q I r h
  obtain⟨p,ns,rfl,hq,q⟩:=h
  obtain⟨u,rfl,rx⟩:=vals1 r
  cases rx
  obtain⟨its,r',pl,hz⟩:=I.list hq
  obtain⟨xs,rfl,rfl⟩:=vT r'
  have hl:=pl.isList
  have e:(xs.map λp=>oU p.1 p.2).toArray=intItems xs.toArray:=by unfold intItems;simp
  rw[e] at hl
  refine sum_intListG (I.ok.hd hc) hl λh' tk t' hk=>⟨.int _,H,I.kept hk,⟨t',?_⟩,q⟩
  rw[qp,List.take_of_length_le (by simp)]
def EM:List Wv->Hs->Re Wv
  | [.ref l],st=>match av st l with
    | some ws=>(match intsOf ws with | some ns=> .ok (.int ns.sum) st | none=> .bad)
    | none=> .bad
  | _,_=> .bad
theorem NY(hc:X.calm=true):gR X (.builtin "sum") EM:=⟨_,BV hc,λws vs st H m Q S rs p=>by
  match ws,rs,p with
  | [],rs,p=>exact aa p
  | x::y::t,rs,p=>cases x<;>exact aa p
  | [x],rs,p=>
    obtain⟨v,rfl,r1⟩:=p_ rs
    cases x with
    | ref l=>
      unfold EM at p
      unfold ag at r1
      obtain⟨a,rfl,hl⟩:=r1
      cases e:av st l with
      | none=>simp only[e] at p;exact aa p
      | some ws=>
        simp only[e] at p
        cases e2:intsOf ws with
        | none=>simp only[e2] at p;exact aa p
        | some bs=>
          simp only[e2] at p
          obtain⟨xs,q1,q2⟩:=S.read hl e
          have q3:=qo q2 e2
          subst q3
          exact⟨a,bs,rfl,q1,p _ m H Ext.refl S mkInt⟩
    | _=>exact aa p⟩
def mxI(n:Int)(r:List Int):Int:=r.foldl (λa b=>if b > a then b else a) n
def RJ:List Wv->Hs->Re Wv
  | [.ref l],st=>match av st l with
    | some ws=>(match intsOf ws with | some (n::r)=> .ok (.int (mxI n r)) st | _=> .bad)
    | none=> .bad
  | ws,st=>Vk ws st
def sI:List Wv->Hs->Re Wv:=λws st=>RD ws st
theorem Jp(hc:X.calm=true):gR X (.builtin "min") sI:=NL hc
end
section
variable {X:Cx}
theorem sJ{z:PySem.Str}:aO z=true↔∀c∈z.cps.toList,c < 1114112:=by
 unfold aO
 rw[Rq]
 constructor
 ·intro h c hc
  simpa using h c (Array.mem_toList_iff.mp hc)
 ·intro h c hc
  simpa using h c (Array.mem_toList_iff.mpr hc)
end
section
variable {X:Cx}
theorem NZ:HA X (λx lo hi H Q=>∃z,x= .str z/\z.length<=adA/\Q (.str (kW z lo hi)) H):=by
 intro pins s σ H x v vl vu lo hi sl Q I rx hs pl pu h
 obtain⟨z,rfl,hz,q⟩:=h
 obtain⟨t,rfl⟩:=rx
 have fin:∀t' k,EP X pins σ Q (.str (kW z lo hi) t') { s with toks:=k }:=λt' k=>⟨.str _,H,I.tok k,⟨t',rfl⟩,q⟩
 refine⟨"str",_,PySem.F.slot_str_getitem.lookup,typeIs_str _ _ _,?_⟩
 have hl:=bf (Txt.slice_le z lo hi) hz
 cases pl with
 | none=>
  cases pu with
  | none=>exact wpAny_getItem_str_slice (l:=none) (u:=none) (st:=none) hs rfl (post_val_or_str ⟨hl,fin⟩)
  | int j tj=>exact wpAny_getItem_str_slice (l:=none) (u:=some (j,tj)) (st:=none) hs rfl (post_val_or_str ⟨hl,fin⟩)
 | int i ti=>
  cases pu with
  | none=>exact wpAny_getItem_str_slice (l:=some (i,ti)) (u:=none) (st:=none) hs rfl (post_val_or_str ⟨hl,fin⟩)
  | int j tj=>exact wpAny_getItem_str_slice (l:=some (i,ti)) (u:=some (j,tj)) (st:=none) hs rfl (post_val_or_str ⟨hl,fin⟩)
theorem BW{z:PySem.Str}{lo hi:Option Int}{c:Nat}(h:c∈(kW z lo hi).cps.toList):c∈z.cps.toList:=by
 unfold kW at h
 split at h
 ·exact h
 ·simp only[List.mem_filterMap] at h
  obtain⟨i,_,e⟩:=h
  rw[Array.getElem?_eq_some_iff] at e
  obtain⟨hi,rfl⟩:=e
  exact Array.mem_toList_iff.mpr (Array.getElem_mem hi)
theorem vU{z:PySem.Str}{lo hi:Option Int}(h:aO z=true):aO (kW z lo hi)=true:=by
 rw[sJ] at h ⊢
 exact λc hc=>h c (BW hc)
end
section
open HT
theorem rM{prog:adm}{w:adp}{A:adj}{E:ado->adn->Prop}{s:adn}{t sl:adi}{us:Array ado}{vl vu:ado}{lo hi:Option Int}{Q:ado->adn->Prop}(ht:IsTup s.heap t us)(hs:s.heap.IsSliceOf sl vl vu .none)(pl:IsPart vl lo)(pu:IsPart vu hi)
  (hw:dC us.size 0 lo=0/\dC us.size us.size hi=us.size)(h:Q (.ref t) s):adC (model prog w) A (getItem (.ref t) (.ref sl)) Q E s:=by
 obtain⟨os,o1,o2,o3⟩:=id hs
 have tys:s.TypeIs (.ref sl) "slice":=⟨os,o1,o2⟩
 unfold getItem;try with_reducible refine adF ?_
 first | refine adD (adJ ?_) | skip
 refine adD (wpAny_sequenceKey ht.typeIs (by decide) ?_);refine adD (wpAny_callSpecial?_slot (name:=gn "__getitem__") ht.typeIs tQ (wpAny_call_entry tQ ht.typeIs entry_tuple_getitem ?_ (args_tuple_getitem _ _)))
 show adC _ _ (Dg (.ref t) >>= _) _ _ _;refine adD (tupleItemsOf_ ht ?_);refine adD (wpAny_typeOf tys ?_)
 rw[if_pos (by decide)];refine adD (iX hs pl pu ?_)
 rw[hw.1,hw.2]
 have yes:((((0:Nat):Int)) == 0&&(1:Int) == 1&&(us.size - 0) == us.size)=true:=by simp
 show adC _ _ (if((((0:Nat):Int)) == 0&&(1:Int) == 1&&(us.size - 0) == us.size)=true then _ else _) _ _ s
 rw[if_pos yes]
 refine adD (m:=N0 _) ?_
 unfold N0
 refine adD (wpAny_typeOf ht.typeIs (adJ ?_))
 rw[if_pos (by decide)]
 exact adD (wpAny_rule (adJ ⟨_,rfl,adJ h⟩))
end
section
variable {X:Cx}
def Vz(K:PySem.W.Frag):V->Option Int->Option Int->Hp->VK->Prop:=λx lo hi H Q=>∃a xs,x= .ref a/\fb K H a xs/\(HT.dC xs.length 0 lo=0/\HT.dC xs.length xs.length hi=xs.length)/\Q (.ref a) H
theorem EN:HA X (Vz X.K):=by
 intro pins s σ H x v vl vu lo hi sl Q I rx hs pl pu h
 obtain⟨a,xs,rfl,hx,hw,q⟩:=h
 cases rx
 obtain⟨its,r,ht,hz⟩:=I.tuple hx
 have n:its.toArray.size=xs.length:=by rw[bB];exact r.length.symm
 exact⟨"tuple",_,PyProof.Rows.slot_tuple_getitem.lookup,ht.typeIs,rM ht hs pl pu (by rw[n];exact hw) ⟨.ref a,H,I,rfl,q⟩⟩
def cW(n:Nat)(lo hi:Option Int):Prop:=HT.dC n 0 lo=0/\HT.dC n n hi=n
instance {n:Nat}{lo hi:Option Int}:Decidable (cW n lo hi):=inferInstanceAs (Decidable (HT.dC n 0 lo=0/\HT.dC n n hi=n))
def vV(x:Wv)(lo hi:Option Int)(st:Hs):Re Wv:=match x with
 | .str z=>if z.length<=lim then .ok (.str (kW z lo hi)) st else .bad
 | .tup ws=>if cW ws.length lo hi then .ok (.tup ws) st else P5 (.tup ws) lo hi st
 | x=>P5 x lo hi st
def fz(ga:GE)(gl gh:GO):GE:=λρ st=>(ga ρ st).bind λx st1=>(gl ρ st1).bind λlo st2=>(gh ρ st2).bind λhi st3=>vV x lo hi st3
theorem BX{a:Expr}{lo hi:Option Expr}{ga:GE}{gl gh:GO}{pos p2:Pos}(ha:JE X a ga)(hl:JO X lo gl)(hh:JO X hi gh):JE X (.Subscript a (.Slice lo hi none p2) pos) (fz ga gl gh):=by
 have hS:JE X (.Subscript a (.Slice lo hi none p2) pos) (λρ st=>(ga ρ st).bind λx st1=>(gl ρ st1).bind λlo st2=>(gh ρ st2).bind λhi st3=>match x with | .str z=>if z.length<=lim then .ok (.str (kW z lo hi)) st3 else .bad | _=> .bad):=by
  refine JE.of (pP NZ aV sv sv) λρ st σ H m Q S R p=>?_
  refine ha.go S R (aw.bind p) λx st1 v m1 H1 p1 e1 S1 rx=>?_
  refine hl.go S1 (R.mono e1) ((aw.bind p1).imp e1 λ_ _ q=>q) λl st2 m2 H2 p2 e2 S2=>?_
  refine hh.go S2 (R.mono (e1.trans e2)) ((aw.bind p2).imp (e1.trans e2) λ_ _ q=>q) λh st3 m3 H3 p3 e3 S3=>?_
  have xW:=e1.trans (e2.trans e3)
  cases x with
  | str z=>
   dsimp only at p3
   by_cases c:z.length<=lim
   ·rw[if_pos c] at p3
    unfold ag at rx
    obtain⟨rfl,hz⟩:=rx
    exact⟨z,rfl,fT c,p3 _ m3 H3 xW S3 (mkStr (vU hz))⟩
   ·rw[if_neg c] at p3;exact aa p3
  | _=>exact aa p3
 have hW:JE X (.Subscript a (.Slice lo hi none p2) pos) (λρ st=>(ga ρ st).bind λx st1=>(gl ρ st1).bind λlo st2=>(gh ρ st2).bind λhi st3=>match x with | .tup ws=>if cW ws.length lo hi then .ok (.tup ws) st3 else P5 (.tup ws) lo hi st3 | _=> .bad):=by
  refine JE.of (pP (HA.or EN DE) aV sv sv) λρ st σ H m Q S R p=>?_
  refine ha.go S R (aw.bind p) λx st1 v m1 H1 p1 e1 S1 rx=>?_
  refine hl.go S1 (R.mono e1) ((aw.bind p1).imp e1 λ_ _ q=>q) λl st2 m2 H2 p2 e2 S2=>?_
  refine hh.go S2 (R.mono (e1.trans e2)) ((aw.bind p2).imp (e1.trans e2) λ_ _ q=>q) λh st3 m3 H3 p3 e3 S3=>?_
  have xW:=e1.trans (e2.trans e3)
  cases x with
  | tup ws=>
   dsimp only at p3
   have ug:=ag.mono (e2.trans e3) _ _ rx
   unfold ag at ug
   obtain⟨a',xs,rfl,f1,f2⟩:=ug
   by_cases c:cW ws.length l h
   ·rw[if_pos c] at p3
    unfold cW at c
    rw[f2.length] at c
    exact .inl ⟨a',xs,rfl,fb.of f1,c,p3 _ m3 H3 xW S3 (by unfold ag;exact⟨a',xs,rfl,f1,f2⟩)⟩
   ·rw[if_neg c] at p3
    unfold P5 at p3
    dsimp only at p3
    unfold cW at c
    rw[if_neg c] at p3
    rw[f2.length] at c
    refine .inr ⟨a',xs,rfl,fb.of f1,c,λq hq=>?_⟩
    have eU:Ext X.K m3 H3 m3 (L2.upd H3 q (.tup (rF xs l h))):=Ext.iG (.inl hq)
    exact p3 (.ref q) m3 _ (xW.trans eU) (S3.fresh hq) (by unfold ag;exact⟨q,_,rfl,L2.aP,ah.mono eU _ _ (ue f2)⟩)
  | _=>exact aa p3
 intro ρ st σ H m Q S R p
 unfold fz at p
 cases e1:ga ρ st with
 | bad=>rw[e1] at p;exact aa p
 | err c st1=>rw[e1] at p;exact vG ha hl hh ρ st σ H m Q S R (by unfold xV;rw[e1];exact p)
 | ok x st1=>
  rw[e1] at p
  cases x with
  | str z=>exact hS ρ st σ H m Q S R (by dsimp only;rw[e1];exact p)
  | tup ws=>exact hW ρ st σ H m Q S R (by dsimp only;rw[e1];exact p)
  | _=>exact vG ha hl hh ρ st σ H m Q S R (by unfold xV;rw[e1];exact p)
def oK:fY
 | .str i,.str j,st=> .ok (.bl (!(MM j i 0 j.length 1).isEmpty)) st
 | x,y,st=>Ve x y st
theorem N2:kO X (adw .In) oK:=by
 obtain⟨r,h1,h2⟩:=Rp (X:=X)
 refine⟨_,fI.or Bz h1,λx y a b st H m Q S rx ry p=>?_⟩
 unfold oK at p
 split at p
 ·rename_i i j
  unfold ag at rx ry
  obtain⟨rfl,_⟩:=rx
  obtain⟨rfl,_⟩:=ry
  exact .inl ⟨i,j,rfl,rfl,p _ m H Ext.refl S jW⟩
 ·exact .inr (h2 x y a b st H m Q S rx ry p)
end
open PySem PySem.Spec PyProof.Rows L2 PySem.W
section
variable {X:Cx}
end
section
variable {X:Cx}
end
section
variable {X:Cx}
end
def RK(x:Str):It:=⟨λi _=>i < x.cps.size,λi H v H'=>H'=H/\∃c,x.cps[i]? =some c/\v= .str ⟨#[c]⟩,λi _=>x.cps.size<=i⟩
theorem yb{P:adm}{w:adp}{K:PySem.W.Frag}{tg:Expr}(x:Str)(t:Tok)(it:adi):Turn P w K tg (RK x) [it] it (λi h=>h.IsStrIter it "str_ascii_iterator" x t i) where
 mem:=List.mem_singleton.mpr rfl
 obj:=λi h st b hb=>by
  cases List.mem_singleton.mp hb
  obtain⟨o,e,c,d⟩:=st
  exact⟨o,e,λv z=>by rw[d] at z;cases z⟩
 keep:=λi h h' st k=>let ⟨o,e,r⟩:=st;⟨o,k it (List.mem_singleton.mpr rfl) o e,r⟩
 item:=by
  intro X hP hw hK hc i pins s σ H E I hf st hg
  subst hP;subst hw;subst hK
  obtain⟨f0,f1,f2,f3,f4,f5⟩:=hf it (List.mem_singleton.mpr rfl)
  have hi:i < x.cps.size:=hg
  refine wpAny_pyNext_ascii_item st (c:=x.cps[i]) (by simp[hi]) λh' st' sb=>?_
  have I1:L2.Inv X pins σ H { s with heap:=h',toks:=s.toks+1 }:=I.turned (t':=s.toks+1) (λb o hb e=>sb.extBut b o hb e) f0 f1 f3 f4 f5
  obtain⟨o,e,c,d⟩:=id st'
  exact⟨_,rfl,pK (s:={ s with heap:=h',toks:=s.toks+1 }) e c d (by decide) ⟨.str ⟨#[x.cps[i]]⟩,H,I1,⟨_,rfl⟩,⟨rfl,_,by simp[hi],rfl⟩,st',λb hb=>(hf b hb).1⟩⟩
 done:=by
  intro X hP hw hK hc i pins s σ H E I hf st hg
  subst hP;subst hw;subst hK
  obtain⟨f0,f1,f2,f3,f4,f5⟩:=hf it (List.mem_singleton.mpr rfl)
  have hi:x.cps.size<=i:=hg
  exact wpAny_pyNext_ascii_end (I.ok.hd hc) st (by simp[hi]) λh' eb=>⟨rfl,I.turned (t':=s.toks) (λb o hb e=>eb b o hb e) f0 f1 f3 f4 f5⟩
 self:=λ_ _ _ _ _ st h=>wpAny_pyIter_striter_ascii st h
theorem BY{P:adm}{w:adp}{K:PySem.W.Frag}{tg:Expr}(x:Str)(t:Tok)(it:adi):Turn P w K tg (RK x) [it] it (λi h=>h.IsStrIter it "str_iterator" x t i) where
 mem:=List.mem_singleton.mpr rfl
 obj:=λi h st b hb=>by
  cases List.mem_singleton.mp hb
  obtain⟨o,e,c,d⟩:=st
  exact⟨o,e,λv z=>by rw[d] at z;cases z⟩
 keep:=λi h h' st k=>let ⟨o,e,r⟩:=st;⟨o,k it (List.mem_singleton.mpr rfl) o e,r⟩
 item:=by
  intro X hP hw hK hc i pins s σ H E I hf st hg
  subst hP;subst hw;subst hK
  obtain⟨f0,f1,f2,f3,f4,f5⟩:=hf it (List.mem_singleton.mpr rfl)
  have hi:i < x.cps.size:=hg
  refine wpAny_pyNext_wide_item st (c:=x.cps[i]) (by simp[hi]) λh' st' sb=>?_
  have I1:L2.Inv X pins σ H { s with heap:=h',toks:=s.toks+1 }:=I.turned (t':=s.toks+1) (λb o hb e=>sb.extBut b o hb e) f0 f1 f3 f4 f5
  obtain⟨o,e,c,d⟩:=id st'
  exact⟨_,rfl,pK (s:={ s with heap:=h',toks:=s.toks+1 }) e c d (by decide) ⟨.str ⟨#[x.cps[i]]⟩,H,I1,⟨_,rfl⟩,⟨rfl,_,by simp[hi],rfl⟩,st',λb hb=>(hf b hb).1⟩⟩
 done:=by
  intro X hP hw hK hc i pins s σ H E I hf st hg
  subst hP;subst hw;subst hK
  obtain⟨f0,f1,f2,f3,f4,f5⟩:=hf it (List.mem_singleton.mpr rfl)
  have hi:x.cps.size<=i:=hg
  exact wpAny_pyNext_wide_end (I.ok.hd hc) st (by simp[hi]) λh' eb=>⟨rfl,I.turned (t':=s.toks) (λb o hb e=>eb b o hb e) f0 f1 f3 f4 f5⟩
 self:=λ_ _ _ _ _ st h=>wpAny_pyIter_striter_wide st h
section
variable {X:Cx}
theorem N3{tg l:Expr}{tl:TE}(hl:PE X l tl):PI X tg l (λσ H R=>tl σ H λv H1=>∃z,v= .str z/\R (RK z) H1):=by
 intro pins s σ H R I h
 refine bA (hl pins s σ H _ I h) λv s1 ⟨x,H1,I1,r1,z,e,q⟩=>?_
 subst e
 obtain⟨t,rfl⟩:=r1
 have frs:∀b∈[s1.heap.objs.size],eN X pins H1 b:=λb hb=>by
  cases List.mem_singleton.mp hb
  exact I1.vm (aj _) (I1.hok.fresh (aj _))
 cases ha:z.cps.all (· < 128)
 ·exact wpAny_pyIter_wide ha ⟨s1.heap.objs.size,[s1.heap.objs.size],_,_,H1,rfl,I1.kept (t':=s1.toks) λb o e=>aL _ e,BY z t _,⟨_,aU _ rfl,rfl,rfl⟩,frs,q⟩
 ·exact wpAny_pyIter_ascii ha ⟨s1.heap.objs.size,[s1.heap.objs.size],_,_,H1,rfl,I1.kept (t':=s1.toks) λb o e=>aL _ e,yb z t _,⟨_,aU _ rfl,rfl,rfl⟩,frs,q⟩
def iJ(z:PySem.Str):List Wv:=z.cps.toList.map λc=>Wv.str ⟨#[c]⟩
def Ah(w:Wv)(st:Hs):Re Wk:=match w with
 | .str z=> .ok (none,iJ z) st
 | w=>NT w st
def iK(g:GE):GI:=λρ st=>(g ρ st).bind Ah
theorem N4{z:PySem.Str}{m1:Mp}{H1:Hp}(hz:aO z=true):sF X (none,iJ z) m1 H1 (RK z) where
 go:=λk H m' st _ _ _ hk=>by
  have:k < z.cps.size:=by simpa [iJ] using hk
  exact this
 stop:=λk H m' st _ _ _ hk=>by
  have:k=z.cps.size:=by simpa [iJ] using hk
  exact mJ this.symm
 ve:=λk hk H v H' m' st _ _ _ y=>by
  obtain⟨rfl,c,hc,rfl⟩:=y
  refine⟨rfl,?_⟩
  have hk':k < z.cps.size:=by simpa [iJ] using hk
  have e:∀h:k < (iJ z).length,(iJ z)[k]'h= .str ⟨#[z.cps[k]]⟩:=by intro h;simp[iJ]
  have hc':z.cps[k]=c:=by simpa [hk'] using hc
  show ag X.K m' H' ((iJ z)[k]'hk) _
  rw[e hk,hc']
  refine mkStr ?_
  rw[sJ] at hz ⊢
  intro d hd
  simp at hd
  rw[hd,<-hc']
  exact hz _ (by simp)
theorem Ai{tg iter:Expr}{g:GE}(h:JE X iter g):JI X tg iter (iK g):=by
 obtain⟨w1,h1,k1⟩:=NU (tg:=tg) h
 refine⟨λσ H R=>w1 σ H R\/(SE X iter σ H λv H1=>∃z,v= .str z/\R (RK z) H1),λpins s σ H R I q=>?_,λρ st σ H m R S RR p=>?_⟩
 ·rcases q with q | q
  ·exact h1 pins s σ H R I q
  ·exact N3 aV pins s σ H R I q
 ·unfold iK at p
  cases e:g ρ st with
  | bad=>rw[e] at p;exact aa p
  | err c st'=>rw[e] at p;exact .inl (k1 ρ st σ H m R S RR (by unfold EJ;rw[e];exact p))
  | ok w st'=>
   rw[e] at p
   cases w with
   | str z=>
    refine .inr ?_
    refine h.go (ok:=λw st1=>w= .str z/\st1=st') S RR (by rw[e];exact⟨rfl,rfl⟩) λw st1 v m1 H1 q e1 S1 r1=>?_
    obtain⟨rfl,rfl⟩:=q
    unfold ag at r1
    obtain⟨rfl,hz⟩:=r1
    exact⟨z,rfl,p m1 H1 _ e1 S1 trivial (N4 hz)⟩
   | _=>exact .inl (k1 ρ st σ H m R S RR (by unfold EJ;rw[e];exact p))
end
section
variable {X:Cx}
end
def keyOf:Wv->Option L2.Key
 | .int i=>some (.inl i)
 | .str x=>some (.inr x)
 | .non=>some .non
 | _=>none
theorem nG{K:PySem.W.Frag}{m:Mp}{H:Hp}{w:Wv}{v:V}{k:L2.Key}(r:ag K m H w v)(e:keyOf w=some k):v=kV k:=by
 cases w with
 | int i=>cases e;unfold ag at r;rw[r];rfl
 | str x=>cases e;unfold ag at r;rw[r.1];rfl
 | non=>cases e;unfold ag at r;rw[r];rfl
 | _=>cases e
def bJ{κ:Type}[DecidableEq κ](kvs:List (κ×Wv))(k:κ):Option Wv:=match kvs with
 | []=>none
 | p::r=>if p.1=k then some p.2 else bJ r k
def fU{κ:Type}[DecidableEq κ](kvs:List (κ×Wv))(k:κ)(v:Wv):List (κ×Wv):=if(kvs.any λkv=>decide (kv.1=k))=true then kvs.map (λkv=>if kv.1=k then(kv.1,v) else kv) else kvs++[(k,v)]
section
variable {K:PySem.W.Frag} {m:Mp} {H:Hp} {κ:Type}
theorem RelK.nil:RelK (κ:=κ) K m H [] []:=⟨rfl,ah.nil⟩
theorem RelK.cons{k:κ}{w:Wv}{v:V}{kvs:List (κ×Wv)}{xs:List (κ×V)}(h:ag K m H w v)(t:RelK K m H kvs xs):RelK K m H ((k,w)::kvs) ((k,v)::xs) :=
 ⟨by simp[t.1],by simpa using ah.cons h t.2⟩
theorem RelK.nil_inv{xs:List (κ×V)}(h:RelK K m H [] xs):xs=[]:=by
 have:=h.1
 cases xs with
 | nil=>rfl
 | cons a b=>simp at this
theorem RelK.cons_inv{p:κ×Wv}{kvs:List (κ×Wv)}{xs:List (κ×V)}(h:RelK K m H (p::kvs) xs):∃v t,xs=(p.1,v)::t/\ag K m H p.2 v/\RelK K m H kvs t:=by
 obtain⟨h1,h2⟩:=h
 cases xs with
 | nil=>simp at h1
 | cons q t=>
  simp at h1 h2
  unfold ah at h2
  obtain⟨x,r,e1,e2,e3⟩:=h2
  cases e1
  exact⟨q.2,t,by rw[h1.1],e2,h1.2,e3⟩
theorem RelK.length{kvs:List (κ×Wv)}{xs:List (κ×V)}(h:RelK K m H kvs xs):kvs.length=xs.length:=by
 have:=congrArg dZ h.1
 simpa using this
variable [DecidableEq κ]
theorem RelK.val:∀{kvs:List (κ×Wv)}{xs:List (κ×V)}(k:κ),RelK K m H kvs xs->(bJ kvs k=none->jV xs k=none)/\∀w,bJ kvs k=some w->∃v,jV xs k=some v/\ag K m H w v
 | [],xs,k,h=>by
  rw[h.nil_inv]
  exact⟨λ_=>rfl,(λw e=>by cases e)⟩
 | p::r,xs,k,h=>by
  obtain⟨v,t,rfl,h1,h2⟩:=h.cons_inv
  obtain⟨i1,i2⟩:=RelK.val k h2
  unfold bJ
  by_cases e:p.1=k
  ·rw[if_pos e,j8 (by exact e)]
   exact⟨(λz=>by cases z),λw z=>⟨v,rfl,by cases z;exact h1⟩⟩
  ·rw[if_neg e,j_ (by exact e)]
   exact⟨i1,i2⟩
theorem RelK.any:∀{kvs:List (κ×Wv)}{xs:List (κ×V)}(k:κ),RelK K m H kvs xs->(kvs.any λkv=>decide (kv.1=k))=xs.any λkv=>decide (kv.1=k)
 | [],xs,k,h=>by rw[h.nil_inv];rfl
 | p::r,xs,k,h=>by
  obtain⟨v,t,rfl,h1,h2⟩:=h.cons_inv
  rw[gQ,gQ,RelK.any k h2]
theorem RelK.repl:∀{kvs:List (κ×Wv)}{xs:List (κ×V)}(k:κ){w:Wv}{v:V},RelK K m H kvs xs->ag K m H w v->RelK K m H (kvs.map λkv=>if kv.1=k then(kv.1,w) else kv) (xs.map λkv=>if kv.1=k then(kv.1,v) else kv)
 | [],xs,k,w,v,h,r=>by rw[h.nil_inv];exact RelK.nil
 | p::kvs,xs,k,w,v,h,r=>by
  obtain⟨u,t,rfl,h1,h2⟩:=h.cons_inv
  rw[aD,aD]
  by_cases e:p.1=k
  ·rw[if_pos e,if_pos (by exact e)]
   exact RelK.cons r (RelK.repl k h2 r)
  ·rw[if_neg e,if_neg (by exact e)]
   exact RelK.cons h1 (RelK.repl k h2 r)
theorem RelK.snoc:∀{kvs:List (κ×Wv)}{xs:List (κ×V)}(k:κ){w:Wv}{v:V},RelK K m H kvs xs->ag K m H w v->RelK K m H (kvs++[(k,w)]) (xs++[(k,v)])
 | [],xs,k,w,v,h,r=>by rw[h.nil_inv];exact RelK.cons r RelK.nil
 | p::kvs,xs,k,w,v,h,r=>by
  obtain⟨u,t,rfl,h1,h2⟩:=h.cons_inv
  exact RelK.cons h1 (RelK.snoc k h2 r)
theorem RelK.put{kvs:List (κ×Wv)}{xs:List (κ×V)}(k:κ){w:Wv}{v:V}(h:RelK K m H kvs xs)(r:ag K m H w v):RelK K m H (fU kvs k w) (putK xs k v):=by
 unfold fU putK
 rw[h.any k]
 split
 ·exact h.repl k r
 ·exact h.snoc k r
end
section
variable {K:PySem.W.Frag} {m:Mp} {H:Hp}
end
section
variable {X:Cx}
end
def Aj:Wv->ado->Prop
 | .int i,u=>∃t,u= .int i t
 | .str x,u=>(∃t,u= .str x t)/\aO x=true
 | _,_=>False
abbrev Dc:=List (PySem.Str×Wv)
def ur(w:adp):Dc->List DictEntry->Prop
 | [],[]=>True
 | (k,v)::r,e::t=>(e.hash=hashStr w k/\(∃tk,e.key= .str k tk)/\Aj v e.val)/\ur w r t
 | _,_=>False
def yc(K:PySem.W.Frag)(w:adp)(mg:Str->Option ado)(x:Str)(kvs:Dc):Prop :=
 ∃(a:adi)(es:Array DictEntry)(ep:Nat),mg x=some (.ref a)/\K.lookup a=some ⟨.type "dict",none,.dict es ep,#[]⟩/\(a == sysModules)=false/\ur w kvs es.toList/\(kvs.map (·.1)).Nodup
theorem mQ{P:adm}{w:adp}:∀{kvs:Dc}{l:List DictEntry},ur w kvs l->∃vs:List (PySem.Str×ado),vs.map (·.1)=kvs.map (·.1)/\Pairs (PySem.strKind P w) l vs/\(∀e∈l,∃k,(PySem.strKind P w).is k e.key=true/\e.hash=(PySem.strKind P w).hash k)/\
  ∀k,(kvs.lookup k=none->valueAt vs k=none)/\∀v,kvs.lookup k=some v->∃u,valueAt vs k=some u/\Aj v u
 | [],[],_=>⟨[],rfl,.nil,(λ_ z=>by cases z),λk=>⟨λ_=>rfl,(λv z=>by cases z)⟩⟩
 | (k,v)::r,e::t,h=>by
  obtain⟨⟨h1,⟨tk,h2⟩,h3⟩,h4⟩:=h
  obtain⟨vs,i1,i2,i3,i4⟩:=mQ (P:=P) h4
  have his:(PySem.strKind P w).is k e.key=true:=by rw[h2];exact strKind_is P w k tk
  refine⟨(k,e.val)::vs,by simp[i1],.cons his rfl i2,λe' he=>?_,λk'=>?_⟩
  ·rcases List.mem_cons.mp he with z | z
   ·subst z;exact⟨k,his,h1⟩
   ·exact i3 e' z
  ·rw[bL]
   unfold valueAt
   rw[j9]
   by_cases ek:k=k'
   ·subst ek
    have b1:(k == k)=true:=by simp
    rw[b1]
    simp only[decide_true,my]
    exact⟨(λz=>by cases z),λv' z=>⟨e.val,rfl,by cases z;exact h3⟩⟩
   ·have b1:(k' == k)=false:=beq_eq_false_iff_ne.mpr λz=>ek z.symm
    rw[b1]
    simp only[ek,decide_false]
    exact i4 k'
 | [],_::_,h=>aa h
 | _::_,[],h=>aa h
theorem Jq{P:adm}{w:adp}{K:PySem.W.Frag}{h:Heap}{a:adi}{es:Array DictEntry}{ep:Nat}{kvs:Dc}(KX:K.In h)(hl:K.lookup a=some ⟨.type "dict",none,.dict es ep,#[]⟩)(he:ur w kvs es.toList)(nd:(kvs.map (·.1)).Nodup) :
  ∃vs:List (PySem.Str×ado),h.DictOf (PySem.strKind P w) a vs/\∀k,(kvs.lookup k=none->valueAt vs k=none)/\∀v,kvs.lookup k=some v->∃u,valueAt vs k=some u/\Aj v u:=by
 obtain⟨vs,i1,i2,i3,i4⟩:=mQ (P:=P) he
 exact⟨vs,⟨_,es,ep,KX a _ hl,⟨rfl,rfl,rfl⟩,rfl,λe hm=>i3 e (by simpa using hm),i2,by rw[i1];exact nd⟩,i4⟩
section
variable {X:Cx}
def Ak(kvs:Dc)(ga:GE):GE:=λρ st=>(ga ρ st).bind λa st1=>match a with
 | .str k=>(match kvs.lookup k with | some w=> .ok w st1 | none=> .bad)
 | _=> .bad
def RL(kvs:Dc)(ty:TE):TE:=λσ H Q=>ty σ H λy H1=>∃z w v,y= .str z/\kvs.lookup z=some w/\(∀u,Aj w u->RelV v u)/\Q v H1
theorem Jr{b:Expr}{ty:TE}{x:Str}{p pos:Pos}{kvs:Dc}(hb:PE X b ty)(hs:DK b)(hg:Gl X x)(hd:(x == ("__debug__":Str))=false)(D:yc X.K X.w X.mg x kvs):PE X (.Subscript (.Name x p) b pos) (RL kvs ty):=by
 intro pins s σ H Q I h
 obtain⟨a,es,ep,g1,g2,g3,g4,g5⟩:=D
 refine zP PySem.F.slot_dict_getitem.lookup hs (bA (kL (v:=.ref a) hg g1 rfl hd pins s σ H (λv H2=>v= .ref a/\H2=H) I ⟨rfl,rfl⟩) λu s1 ⟨v,H1,I1,rv,ev,eH⟩=>?_)
 subst ev eH
 obtain rfl:u=aB a:=rv
 refine bA (hb pins s1 σ H1 _ I1 h) λiv s2 ⟨y,H2,I2,ry,z,w,v,ey,ew,ev,q⟩=>?_
 subst ey
 obtain⟨t,rfl⟩:=(show ∃t,iv=tF z t from ry)
 obtain⟨vs,dd,look⟩:=Jq (P:=X.prog) (w:=X.w) I2.C4 g2 g4 g5
 obtain⟨u,e1,e2⟩:=(look z).2 w ew
 exact⟨dd.typeIs,wpAny_getItem_of (strKind_is X.prog X.w z t) dd.mapOf e1 ⟨v,H2,I2.tok _,ev u e2,q⟩⟩
theorem Js{b:Expr}{gb:GE}{x:Str}{p pos:Pos}{kvs:Dc}(hb:JE X b gb)(hs:DK b)(hg:Gl X x)(hd:(x == ("__debug__":Str))=false)(D:yc X.K X.w X.mg x kvs):JE X (.Subscript (.Name x p) b pos) (Ak kvs gb) :=
 JE.of (Jr aV hs hg hd D) λρ st σ H m Q S R p=>by
  refine hb.go S R (aw.bind p) λw st1 v m1 H1 p1 e1 S1 r1=>?_
  cases w with
  | str k=>
   dsimp only at p1
   cases e:kvs.lookup k with
   | none=>rw[e] at p1;exact aa p1
   | some u=>
    rw[e] at p1
    unfold ag at r1
    cases u with
    | int i=>exact⟨k,.int i,.int i,r1.1,e,λu h=>h,p1 _ m1 H1 e1 S1 (by unfold ag;rfl)⟩
    | str y=>
     by_cases hy:aO y=true
     ·exact⟨k,.str y,.str y,r1.1,e,λu h=>h.1,p1 _ m1 H1 e1 S1 (by unfold ag;exact⟨rfl,hy⟩)⟩
     ·obtain⟨a,es,ep,_,_,_,g4,_⟩:=D
      obtain⟨vs,_,_,_,i4⟩:=mQ (P:=X.prog) g4
      obtain⟨u,_,e2⟩:=(i4 k).2 _ e
      exact absurd e2.2 hy
    | _=>
     obtain⟨a,es,ep,_,_,_,g4,_⟩:=D
     obtain⟨vs,_,_,_,i4⟩:=mQ (P:=X.prog) g4
     obtain⟨u,_,e2⟩:=(i4 k).2 _ e
     exact aa e2
  | _=>exact aa p1
end
open PySem PySem.Spec PyProof.Rows PySem.W L2
section
variable (lt:Nat->Nat->Bool) (N:Nat)
def Kg{α:Type}:KasT α->(α->Prop)->Prop
 | .ret a,Q=>Q a
 | .ask i j k,Q=>(i < N/\j < N)/\Kg (k (lt i j)) Q
end
section
variable {lt:Nat->Nat->Bool} {N:Nat}
theorem Kg.bind{α β:Type}{f:α->KasT β}{Q:β->Prop}:∀{t:KasT α},Kg lt N t (λa=>Kg lt N (f a) Q)->Kg lt N (t.bind f) Q
 | .ret a,h=>h
 | .ask i j k,h=>⟨h.1,Kg.bind (t:=k (lt i j)) h.2⟩
theorem Kg.imp{α:Type}{Q R:α->Prop}(hq:∀a,Q a->R a):∀{t:KasT α},Kg lt N t Q->Kg lt N t R
 | .ret a,h=>hq a h
 | .ask i j k,h=>⟨h.1,Kg.imp hq (t:=k (lt i j)) h.2⟩
theorem Kg.wp{α:Type}{cmp:Nat->Nat->(Bool->adn->Prop)->adn->Prop}{P:adn->Prop}(hc:∀i j C s,i < N->j < N->P s->(∀s',P s'->C (lt i j) s')->cmp i j C s){G:α->adn->Prop} :
  ∀{t:KasT α}{s:adn},P s->Kg lt N t (λa=>∀s',P s'->G a s')->t.kasWp cmp G s
 | .ret a,s,hs,h=>h s hs
 | .ask i j k,s,hs,h=>hc i j _ s h.1.1 h.1.2 hs λs' hs'=>Kg.wp hc (t:=k (lt i j)) hs' h.2
structure Ord(lt:Nat->Nat->Bool):Prop where
 as:∀a b,lt a b=true->lt b a=false
 tr:∀a b c,lt a b=false->lt b c=false->lt a c=false
theorem Ord.Lw(o:Ord lt)(a:Nat):lt a a=false:=by
 cases h:lt a a with
 | false=>rfl
 | true=>have:=o.as a a h;rw[h] at this;cases this
theorem Ord.RM(o:Ord lt){a b c:Nat}(h1:lt a b=true)(h2:lt c b=false):lt a c=true:=by
 cases h:lt a c with
 | true=>rfl
 | false=>have:=o.tr a c b h h2;rw[h1] at this;cases this
abbrev at_(p:Array Nat)(i:Nat):Nat:=p.getD i 0
structure Pm(N:Nat)(p:Array Nat):Prop where
 sz:p.size=N
 pm:p.toList.Perm (hU N)
theorem Pm.bd{p:Array Nat}(h:Pm N p){i:Nat}(hi:i < N):at_ p i < N:=by
 have e:at_ p i=p[i]'(by rw[h.sz];exact hi):=by simp[at_,Al,h.sz,hi]
 rw[e]
 have:p[i]'(by rw[h.sz];exact hi)∈p.toList:=by simp
 exact List.mem_range.mp (h.pm.mem_iff.mp this)
theorem mR{p q:Array Nat}{i j:Nat}(h:p[i]? =q[j]?):at_ p i=at_ q j:=by
 unfold at_
 rw[RN,RN,h]
theorem Pm.rev{p:Array Nat}(h:Pm N p)(i j:Nat):Pm N (kas_rev p i j):=⟨by unfold kas_rev;rw[mirror_size];exact h.sz,((Array.perm_iff_toList_perm.mp (mirror_perm _ _ _ _)).trans h.pm)⟩
theorem Pm.bub{p:Array Nat}(h:Pm N p)(k d:Nat):Pm N (bubble p k d):=⟨by rw[bubble_size];exact h.sz,((Array.perm_iff_toList_perm.mp (bubble_perm _ _ _)).trans h.pm)⟩
theorem iL{p:Array Nat}(h:Pm N p){i j:Nat}(hj:j<=N)(k:Nat):at_ (kas_rev p i j) k=if i<=k/\k < j then at_ p (i+j - 1 - k) else at_ p k:=by
 have q:=getElem?_mirror_all (xs:=p) (i:=i) (j:=j) (by rw[h.sz];exact hj) k
 unfold kas_rev
 split
 ·rename_i c;rw[if_pos c] at q;exact mR q
 ·rename_i c;rw[if_neg c] at q;exact mR q
theorem EO{p:Array Nat}(h:Pm N p){k l:Nat}(hk:k < N)(hl:l<=k)(i:Nat):at_ (bubble p k (k - l)) i=if i=l then at_ p k else if l < i/\i<=k then at_ p (i - 1) else at_ p i:=by
 have q:=getElem?_bubble (xs:=p) (src:=k) (by rw[h.sz];exact hk) (k - l) (by omega) i
 have e:k - (k - l)=l:=by omega
 rw[e] at q
 split
 ·rename_i c;rw[if_pos c] at q;exact mR q
 ·rename_i c
  rw[if_neg c] at q
  split
  ·rename_i d;rw[if_pos d] at q;exact mR q
  ·rename_i d;rw[if_neg d] at q;exact mR q
def Up(lt:Nat->Nat->Bool)(p:Array Nat)(k:Nat):Prop:=∀i j,i<=j->j < k->lt (at_ p j) (at_ p i)=false
def Dn(lt:Nat->Nat->Bool)(p:Array Nat)(k:Nat):Prop:=∀i j,i<=j->j < k->lt (at_ p i) (at_ p j)=false
theorem Up.succ(o:Ord lt){p:Array Nat}{k:Nat}(h:Up lt p k)(hk:1<=k)(e:lt (at_ p k) (at_ p (k - 1))=false):Up lt p (k+1):=by
 intro i j hij hj
 by_cases c:j < k
 ·exact h i j hij c
 ·have:j=k:=by omega
  subst this
  by_cases c2:i=j
  ·subst c2;exact o.Lw _
  ·exact o.tr _ _ _ e (h i (j - 1) (by omega) (by omega))
theorem Dn.succ(o:Ord lt){p:Array Nat}{k:Nat}(h:Dn lt p k)(hk:1<=k)(e:lt (at_ p (k - 1)) (at_ p k)=false):Dn lt p (k+1):=by
 intro i j hij hj
 by_cases c:j < k
 ·exact h i j hij c
 ·have:j=k:=by omega
  subst this
  by_cases c2:i=j
  ·subst c2;exact o.Lw _
  ·exact o.tr _ _ _ (h i (j - 1) (by omega) (by omega)) e
theorem yd(o:Ord lt){p:Array Nat}(hp:Pm N p):∀(f n:Nat),1<=n->n+f<=N->Up lt p n->Kg lt N (kas_asc p f n) (λm=>n<=m/\m<=n+f/\Up lt p m/\(m < n+f->lt (at_ p m) (at_ p (m - 1))=true))
 | 0,n,h1,h2,h3=>⟨aj _,aj _,h3,λz=>absurd z (cb _)⟩
 | f+1,n,h1,h2,h3=>by
  refine⟨⟨hp.bd (by omega),hp.bd (by omega)⟩,?_⟩
  cases e:lt (p.getD n 0) (p.getD (n - 1) 0) with
  | true=>
   dsimp only
   rw[if_pos rfl]
   exact⟨aj _,by omega,h3,λ_=>e⟩
  | false=>
   dsimp only
   rw[if_neg (by simp)]
   refine(yd o hp f (n+1) (by omega) (by omega) (h3.succ o h1 e)).imp λm ⟨q1,q2,q3,q4⟩=>⟨by omega,by omega,q3,λz=>q4 (by omega)⟩
def Lv(lt:Nat->Nat->Bool)(p:Array Nat)(a n:Nat):Prop:=∀i j,a<=i->i < n->a<=j->j < n->lt (at_ p i) (at_ p j)=false
theorem Dn.rev(o:Ord lt){p:Array Nat}(hp:Pm N p){a n:Nat}(hn:n<=N)(ha:a<=n)(h:Dn lt p n)(hl:Lv lt p a n):Dn lt (kas_rev p a n) n:=by
 intro i j hij hj
 rw[iL hp hn,iL hp hn]
 by_cases ci:a<=i
 ·rw[if_pos ⟨ci,by omega⟩,if_pos ⟨by omega,hj⟩]
  exact hl _ _ (by omega) (by omega) (by omega) (by omega)
 ·rw[if_neg (by omega)]
  by_cases cj:a<=j
  ·rw[if_pos ⟨cj,hj⟩]
   exact h _ _ (by omega) (by omega)
  ·rw[if_neg (by omega)]
   exact h _ _ hij hj
theorem Dn.up{p:Array Nat}(hp:Pm N p){n:Nat}(hn:n<=N)(h:Dn lt p n):Up lt (kas_rev p 0 n) n:=by
 intro i j hij hj
 rw[iL hp hn,iL hp hn,if_pos ⟨by omega,hj⟩,if_pos ⟨by omega,by omega⟩]
 exact h _ _ (by omega) (by omega)
theorem pv(o:Ord lt):∀(f:Nat)(p:Array Nat)(n q:Nat),Pm N p->q+1<=n->n+f<=N->Dn lt p n->Lv lt p (n - 1 - q) n->
  Kg lt N (kas_desc f p n q) (λr=>Pm N r.1/\r.2.2+1<=r.2.1/\r.2.1<=N/\Dn lt r.1 r.2.1/\Lv lt r.1 (r.2.1 - 1 - r.2.2) r.2.1)
 | 0,p,n,q,hp,hq,hn,hd,hl=>⟨hp,hq,by omega,hd,hl⟩
 | f+1,p,n,q,hp,hq,hn,hd,hl=>by
  refine⟨⟨hp.bd (by omega),hp.bd (by omega)⟩,?_⟩
  cases e:lt (p.getD n 0) (p.getD (n - 1) 0) with
  | true=>
   dsimp only
   rw[if_pos rfl]
   have one:∀p':Array Nat,Lv lt p' (n+1 - 1 - 0) (n+1):=λp' i j h1 h2 h3 h4=>by
    have:i=j:=by omega
    subst this
    exact o.Lw _
   by_cases Ye:q > 0
   ·rw[if_pos Ye]
    have z:n - (q+1)=n - 1 - q:=by omega
    have hl2:Lv lt p (n - (q+1)) n:=by rw[z];exact hl
    refine pv o f _ (n+1) 0 (hp.rev _ _) (by omega) (by omega) (Dn.succ o (Dn.rev o hp (by omega) (by omega) hd hl2) (by omega) ?_) (one _)
    rw[iL hp (by omega),iL hp (by omega),if_pos ⟨by omega,by omega⟩,if_neg (by omega)]
    -- the last of the row stands level with the one Vb was last
    have lv:=hl (n - (q+1)+n - 1 - (n - 1)) (n - 1) (by omega) (by omega) (by omega) (by omega)
    cases z:lt (at_ p (n - (q+1)+n - 1 - (n - 1))) (at_ p n) with
    | false=>rfl
    | true=>
     have a1:=o.as _ _ e
     have:=o.tr _ _ _ lv a1
     rw[z] at this
     cases this
   ·rw[if_neg Ye]
    exact pv o f p (n+1) 0 hp (by omega) (by omega) (hd.succ o (by omega) (o.as _ _ e)) (one _)
  | false=>
   dsimp only
   rw[if_neg (by simp)]
   refine⟨⟨hp.bd (by omega),hp.bd (by omega)⟩,?_⟩
   cases e2:lt (p.getD (n - 1) 0) (p.getD n 0) with
   | true=>
    dsimp only
    rw[if_pos rfl]
    exact⟨hp,hq,by show n<=N;omega,hd,hl⟩
   | false=>
    dsimp only
    rw[if_neg (by simp)]
    refine pv o f p (n+1) (q+1) hp (by omega) (by omega) (hd.succ o (by omega) e2) ?_
    intro i j h1 h2 h3 h4
    have key:∀i,n - 1 - q<=i->i < n->lt (at_ p i) (at_ p n)=false/\lt (at_ p n) (at_ p i)=false:=λi a b=>
     ⟨o.tr _ _ _ (hl i (n - 1) a b (by omega) (by omega)) e2,o.tr _ _ _ e (hl (n - 1) i (by omega) (by omega) a b)⟩
    by_cases ci:i < n
    ·by_cases cj:j < n
     ·exact hl i j (by omega) ci (by omega) cj
     ·have:j=n:=by omega
      subst this
      exact(key i (by omega) ci).1
    ·have:i=n:=by omega
     subst this
     by_cases cj:j < i
     ·exact(key j (by omega) cj).2
     ·have:j=i:=by omega
      subst this
      exact o.Lw _
abbrev Run(lt:Nat->Nat->Bool)(N:Nat)(r:Nat×Array Nat):Prop:=Pm N r.2/\1<=r.1/\r.1<=N/\Up lt r.2 r.1
theorem Am(o:Ord lt){p:Array Nat}{n:Nat}(hp:Pm N p)(h1:1<=n)(hn:n<=N)(hd:Dn lt p n):Kg lt N (kas_tail3 n N p) (Run lt N):=by
 unfold kas_tail3
 refine Kg.bind ((yd o (hp.rev 0 n) (N - n) n h1 (by omega) (hd.up hp hn)).imp λm ⟨q1,q2,q3,_⟩=>?_)
 exact⟨hp.rev 0 n,by show 1<=m;omega,by show m<=N;omega,q3⟩
theorem oo(o:Ord lt){p:Array Nat}{n:Nat}(hp:Pm N p)(hn:n+1<=N)(h1:1<=n)(hd:Dn lt p (n+1)):Kg lt N (kas_descPart n N p) (Run lt N):=by
 unfold kas_descPart
 have one:Lv lt p (n+1 - 1 - 0) (n+1):=λi j h1 h2 h3 h4=>by
  have:i=j:=by omega
  subst this
  exact o.Lw _
 refine Kg.bind ((pv o (N - (n+1)) p (n+1) 0 hp (by omega) (by omega) hd one).imp λr ⟨q1,q2,q3,q4,q5⟩=>?_)
 by_cases c:r.2.2 > 0
 ·rw[if_pos c]
  refine Am o (q1.rev _ _) (by omega) q3 (Dn.rev o q1 q3 (by omega) q4 ?_)
  have z:r.2.1 - (r.2.2+1)=r.2.1 - 1 - r.2.2:=by omega
  rw[z];exact q5
 ·rw[if_neg c]
  exact Am o q1 (by omega) q3 q4
theorem ER(o:Ord lt){p:Array Nat}(hp:Pm N p)(h1:1<=N):Kg lt N (kas_count N p) (Run lt N):=by
 unfold kas_count
 have u1:Up lt p 1:=λi j a b=>by
  have:i=j:=by omega
  subst this
  exact o.Lw _
 refine Kg.bind ((yd o hp (N - 1) 1 (aj _) (by omega) u1).imp λn ⟨q1,q2,q3,q4⟩=>?_)
 by_cases c:n=N
 ·rw[if_pos (by simp[c])]
  exact⟨hp,by show 1<=n;omega,by show n<=N;omega,q3⟩
 ·rw[if_neg (by simp[c])]
  have hs:=q4 (by omega)
  by_cases c2:n > 1
  ·rw[if_pos c2]
   refine⟨⟨hp.bd (by omega),hp.bd (by omega)⟩,?_⟩
   cases e:lt (p.getD 0 0) (p.getD (n - 1) 0) with
   | true=>
    dsimp only
    rw[if_pos rfl]
    exact⟨hp,by show 1<=n;omega,by show n<=N;omega,q3⟩
   | false=>
    dsimp only
    rw[if_neg (by simp)]
    -- all level
    have lv:∀i j,i < n->j < n->lt (at_ p i) (at_ p j)=false:=λi j hi hj=>by
     have a1:=q3 0 i (by omega) hi
     have a2:=q3 j (n - 1) (by omega) (by omega)
     exact o.tr _ _ _ (o.tr _ _ _ a1 e) a2
    refine oo o (hp.rev 0 n) (by omega) (by omega) (Dn.succ o ?_ (by omega) ?_)
    ·intro i j hij hj
     rw[iL hp (by omega),iL hp (by omega),if_pos ⟨by omega,by omega⟩,if_pos ⟨by omega,by omega⟩]
     exact lv _ _ (by omega) (by omega)
    ·rw[iL hp (by omega),iL hp (by omega),if_pos ⟨by omega,by omega⟩,if_neg (by omega)]
     have a1:=o.as _ _ hs
     exact o.tr _ _ _ (lv _ (n - 1) (by omega) (by omega)) a1
  ·rw[if_neg c2]
   have hn:n=1:=by omega
   subst hn
   refine oo o hp (by omega) (by omega) ?_
   refine Dn.succ o (λi j a b=>by
    have:i=j:=by omega
    subst this
    exact o.Lw _) (by omega) (o.as _ _ hs)
theorem qr(o:Ord lt){p:Array Nat}(hp:Pm N p){k:Nat}(hk:k < N):∀(f l r:Nat),l<=r->r<=k->r - l<=f->Up lt p k->(∀i,i < l->lt (at_ p k) (at_ p i)=false)->(∀i,r<=i->i < k->lt (at_ p k) (at_ p i)=true)->
  Kg lt N (kas_place p k f l r) (λm=>m<=k/\(∀i,i < m->lt (at_ p k) (at_ p i)=false)/\∀i,m<=i->i < k->lt (at_ p k) (at_ p i)=true)
 | 0,l,r,h1,h2,h3,u,a,b=>⟨by omega,a,λi h=>b i (by omega)⟩
 | f+1,l,r,h1,h2,h3,u,a,b=>by
  unfold kas_place
  by_cases c:l >= r
  ·rw[if_pos c]
   exact⟨by omega,a,λi h=>b i (by omega)⟩
  ·rw[if_neg c]
   refine⟨⟨hp.bd hk,hp.bd (by omega)⟩,?_⟩
   cases e:lt (p.getD k 0) (p.getD ((l+r) / 2) 0) with
   | true=>
    dsimp only
    rw[if_pos rfl]
    refine qr o hp hk f l ((l+r) / 2) (by omega) (by omega) (by omega) u a λi hi hk'=>?_
    exact o.RM e (u _ _ hi hk')
   | false=>
    dsimp only
    rw[if_neg (by simp)]
    refine qr o hp hk f ((l+r) / 2+1) r (by omega) h2 (by omega) u (λi hi=>?_) b
    exact o.tr _ _ _ e (u i ((l+r) / 2) (by omega) (by omega))
theorem ES(o:Ord lt):∀(f:Nat)(p:Array Nat)(k:Nat),Pm N p->k+f=N->Up lt p k->Kg lt N (kas_bin f p k) (λp'=>Pm N p'/\Up lt p' N)
 | 0,p,k,hp,hk,u=>by
  have:k=N:=by omega
  subst this
  exact⟨hp,u⟩
 | f+1,p,k,hp,hk,u=>by
  unfold kas_bin
  refine Kg.bind ((qr o hp (by omega) k 0 k (by omega) (aj _) (by omega) u (λi h=>absurd h (by omega)) (λi h1 h2=>absurd h2 (by omega))).imp λl ⟨q1,q2,q3⟩=>?_)
  refine ES o f _ (k+1) (hp.bub _ _) (by omega) ?_
  intro i j hij hj
  have bi:=EO hp (k:=k) (l:=l) (by omega) q1 i
  have bj:=EO hp (k:=k) (l:=l) (by omega) q1 j
  rw[bi,bj]
  by_cases e:j=l
  ·rw[if_pos e]
   by_cases e':i=l
   ·rw[if_pos e'];exact o.Lw _
   ·rw[if_neg e',if_neg (by omega)]
    exact q2 i (by omega)
  ·rw[if_neg e]
   by_cases d:l < j/\j<=k
   ·rw[if_pos d]
    by_cases e':i=l
    ·rw[if_pos e']
     exact o.as _ _ (q3 (j - 1) (by omega) (by omega))
    ·rw[if_neg e']
     by_cases d':l < i/\i<=k
     ·rw[if_pos d']
      exact u _ _ (by omega) (by omega)
     ·rw[if_neg d']
      exact u _ _ (by omega) (by omega)
   ·rw[if_neg d,if_neg (by omega),if_neg (by omega)]
    exact u _ _ hij (by omega)
theorem An(o:Ord lt)(h1:1<=N):Kg lt N (kas_sort N) (λp=>Pm N p/\Up lt p N):=by
 have h0:Pm N (List.toArray (hU N)):=⟨by simp,by simp⟩
 unfold kas_sort
 refine Kg.bind ((ER o h0 h1).imp λr ⟨q1,q2,q3,q4⟩=>?_)
 by_cases c:r.1 < N
 ·rw[if_pos c]
  have z:max r.1 1=r.1:=by omega
  rw[z]
  exact ES o _ _ _ q1 (by omega) q4
 ·rw[if_neg c]
  have z:r.1=N:=by omega
  rw[z] at q4
  exact⟨q1,q4⟩
end
def rC(a b:Int×Int):Bool:=decide (a.1 < b.1)||(decide (a.1=b.1)&&decide (a.2 < b.2))
theorem ye{a b:Int×Int}(h:rC a b=true):rC b a=false:=by
 unfold rC at h ⊢
 simp at h ⊢
 omega
theorem yf{a b c:Int×Int}(h:rC a b=false)(k:rC b c=false):rC a c=false:=by
 unfold rC at h k ⊢
 simp at h k ⊢
 omega
theorem N5{a b:Int×Int}(h:rC a b=false)(k:rC b a=false):a=b:=by
 unfold rC at h k
 simp at h k
 exact Prod.ext (by omega) (by omega)
def yg(n:Int×Int):List (Int×Int)->List (Int×Int)
 | []=>[n]
 | a::r=>if rC a n=true then a::yg n r else n::a::r
def b9:List (Int×Int)->List (Int×Int)
 | []=>[]
 | a::r=>yg a (b9 r)
theorem nH(n:Int×Int):∀l,(yg n l).Perm (n::l)
 | []=> .refl _
 | a::r=>by
  unfold yg
  split
  ·exact((nH n r).cons a).trans (.swap n a r)
  ·exact .refl _
theorem dn:∀l,(b9 l).Perm l
 | []=> .nil
 | a::r=>(nH a (b9 r)).trans ((dn r).cons a)
abbrev HC(l:List (Int×Int)):Prop:=l.Pairwise λa b=>rC b a=false
theorem Ao(n:Int×Int):∀l,HC l->HC (yg n l)
 | [],_=>by simp[yg]
 | a::r,h=>by
  unfold yg
  rw[HC,uu] at h
  split
  ·rename_i c
   rw[HC,uu]
   refine⟨λb hb=>?_,Ao n r h.2⟩
   rcases List.mem_cons.mp ((nH n r).mem_iff.mp hb) with z | z
   ·rw[z];exact ye c
   ·exact h.1 b z
  ·rename_i c
   have c':rC a n=false:=by simpa using c
   rw[HC,uu,uu]
   refine⟨λb hb=>?_,h⟩
   rcases List.mem_cons.mp hb with z | z
   ·rw[z];exact c'
   ·exact yf (h.1 b z) c'
theorem mS:∀l,HC (b9 l)
 | []=> .nil
 | a::r=>Ao a _ (mS r)
theorem qt{a b:List (Int×Int)}(h:a.Perm b)(ha:HC a)(hb:HC b):a=b :=
 List.Perm.eq_of_pairwise (λ_ _ _ _ h1 h2=>N5 h2 h1) ha hb h
section
variable {prog:adm} {w:adp} {A:adj} {E:ado->adn->Prop} {s:adn}
theorem Ap{x y:adi}{ox oy:Obj}{a1 a2 b1 b2:Int}{t1 t2 u1 u2:Tok}{n k:Nat}{Q:Bool->adn->Prop}(hx:s.heap.get? x=some ox)(dx:ox.data= .seq #[.int a1 t1,.int a2 t2] n)(hy:s.heap.get? y=some oy)(dy:oy.data= .seq #[.int b1 u1,.int b2 u2] k)
  (h:Q (rC (a1,a2) (b1,b2)) s):adC (model prog w) A (keyLt' (tuples' true) (.ref x) (.ref y)) Q E s:=by
 have hq:∀b,b=rC (a1,a2) (b1,b2)->Q b s:=λb e=>by rw[e];exact h
 refine kat_lt hx dx hy dy ?_
 refine kat_cons (wpAny_eqBool_int (kat_go (λe=>kat_yes ?_) (λe=>kat_no ?_)))
 ·refine kat_cons (wpAny_eqBool_int (kat_go (λe2=>kat_yes ?_) (λe2=>kat_no ?_)))
  ·refine kat_nil (hq _ ?_)
   have z1:a1=b1:=by simpa using e
   have z2:a2=b2:=by simpa using e2
   subst z1 z2
   simp[rC]
  ·refine kat_one _ _ (PyProof.Rows.lt_int ?_)
   show Q (decide (a2 < b2)) s
   refine hq _ ?_
   have z1:a1=b1:=by simpa using e
   subst z1
   simp[rC]
 ·refine oneLt_int (hq _ ?_)
  have z1:¬a1=b1:=by simpa using e
  simp[rC,z1]
end
theorem cz{α β:Type}{F:α->β->Prop}{a:α}{b:β}:∀{l:List α}{k:List β}{i:Nat},Paired F l k->i < k.length->F (l.getD i a) (k.getD i b)
 | _,_,0,.cons h _,_=>by simpa using h
 | _,_,i+1,.cons _ t,hi=>by simpa using cz (i:=i) t (by simpa using hi)
theorem gS{α β:Type}{F:α->β->Prop}{f:Nat->α}{g:Nat->β}:∀{l:List Nat},(∀i∈l,F (f i) (g i))->Paired F (l.map f) (l.map g)
 | [],_=> .nil
 | i::l,h=> .cons (h i (by simp)) (gS λj hj=>h j (by simp[hj]))
def TupAt(h:Heap)(v:ado)(q:Int×Int):Prop:=∃(a:adi)(o:Obj)(t u:Tok)(n:Nat),v= .ref a/\h.get? a=some o/\o.cls= .type "tuple"/\o.data= .seq #[.int q.1 t,.int q.2 u] n
abbrev ET(H:Hp):List V->List (Int×Int)->Prop:=Paired λv q=>∃a,v= .ref a/\H a=some (.tup [.int q.1,.int q.2])
theorem BZ{x y:Int}{its:List ado}(h:Vals [.int x,.int y] its):∃t u,its=[.int x t,.int y u]:=by
 cases h with
 | cons h1 h2=>
  cases h2 with
  | cons h3 h4=>
   cases h4
   obtain⟨t,rfl⟩:=h1
   obtain⟨u,rfl⟩:=h3
   exact⟨t,u,rfl⟩
section
variable {X:Cx} {pins:List (adi×Obj)} {σ:St} {H:Hp} {s:adn}
theorem yh(I:Inv X pins σ H s):∀{vs:List V}{ps:List (Int×Int)}{its:List ado},ET H vs ps->Vals vs its->Paired (TupAt s.heap) its ps
 | _,_,_,.nil,.nil=> .nil
 | _,_,_,.cons h t,.cons r rs=>by
  obtain⟨a,rfl,hT⟩:=h
  cases r
  obtain⟨its,rv,⟨o,g1,g2,n,g3⟩,_⟩:=I.tuple (fb.of hT)
  obtain⟨t1,u1,rfl⟩:=BZ rv
  exact .cons ⟨a,o,t1,u1,n,rfl,g1,g2,g3⟩ (yh I t rs)
end
theorem qu{h:Heap}:∀{its:List ado}{ps:List (Int×Int)},Paired (TupAt h) its ps->∃fs:List ado,KatTups h its fs/\fs.length=ps.length/\∀v∈fs,∃i t,v= .int i t
 | _,_,.nil=>⟨[],.nil,rfl,(λ_ z=>by cases z)⟩
 | _,_,.cons (b:=q) hd tl=>by
  obtain⟨fs,k1,k2,k3⟩:=qu tl
  obtain⟨a,o,t,u,n,rfl,g1,g2,g3⟩:=hd
  refine⟨.int q.1 t::fs,.cons g1 g2 g3 rfl k1,by simp[k2],λv hv=>?_⟩
  rcases List.mem_cons.mp hv with z | z
  ·exact⟨_,_,z⟩
  ·exact k3 v z
theorem nI{h h':Heap}(k:∀a o its n,h.get? a=some o->o.data= .seq its n->h'.get? a=some o):∀{its:List ado}{ps:List (Int×Int)},Paired (TupAt h) its ps->Paired (TupAt h') its ps
 | _,_,.nil=> .nil
 | _,_,.cons hd tl=>by
  obtain⟨a,o,t,u,n,e,g1,g2,g3⟩:=hd
  exact .cons ⟨a,o,t,u,n,e,k a o _ _ g1 g3,g2,g3⟩ (nI k tl)
theorem yi{h h':Heap}{L:adi}{m m':Str->Option ado}(a:h.Ns L m)(b:h.Ns L m')(c:h'.Ns L m):h'.Ns L m':=by
 obtain⟨o,es,ep,e1,e2,_,e4⟩:=a
 obtain⟨o',es',Hz,f1,f2,_,f4⟩:=b
 rw[e1] at f1
 cases f1
 rw[e2] at f2
 cases f2
 have:m=m':=funext λx=>(e4 x).symm.trans (f4 x)
 rw[<-this]
 exact c
theorem range_getD{α:Type}{d:α}(l:List α):(hU l.length).map (λi=>l.getD i d)=l:=by
 refine List.ext_getElem (by simp) λi h1 h2=>?_
 simp[h2]
section
variable {X:Cx}
theorem B0:dB X (.builtin "sorted") (λxs H Q=>∃(p:adi)(vs:List V)(ps:List (Int×Int)),xs=[.ref p]/\lO X.K H p vs/\ET H vs ps/\2<=ps.length/\ps.length < 64/\∀l vs',H l=none->ET H vs' (b9 ps)->Q (.ref l) (upd H l (.lst vs'))):=by
 intro pins s σ H xs us Q I r h
 obtain⟨p,vs,ps,rfl,hq,hp,h2,h64,q⟩:=h
 obtain⟨u,rfl,rx⟩:=vals1 r
 cases rx
 obtain⟨its,r',pl,hz⟩:=I.list hq
 have tu:=yh I hp r'
 have l1:vs.length=its.length:=r'.length
 have l2:its.length=ps.length:=tu.length
 obtain⟨m,hn,hl⟩:=id I.loc
 obtain⟨oL,esL,epL,gL,dL,_⟩:=id hn
 refine kat_sorted (Att.tY hn) (mz (g:=Att.lQ s.heap) (h:=s.heap) (L:=X.env.locals)) pl.isList (by omega) (by omega) λD e1 h' F' N' hD=>?_
 have keep:∀b o,b≠X.env.locals->s.heap.get? b=some o->h'.get? b=some o:=λb o n e=>(N' (b,o) (aJ _ (bS n (Att.bZ _ _) e))).1
 have N6:Paired (TupAt h') its ps:=nI (λa o its n e d=>keep a o (λz=>by
  subst z
  rw[gL] at e
  cases e
  rw[dL] at d
  cases d) e) tu
 obtain⟨fs,k1,k2,k3⟩:=qu N6
 refine kat_kind (T:=.type "int") (s:={ s with heap:=h' }) k1 (by omega) (λv hv=>by obtain⟨i,t,rfl⟩:=k3 v hv;exact Looks.of_pure rfl) (by decide) ?_
 have et:(kK "int" != kK "tuple")=true:=by decide
 rw[et,l2]
 have od:Ord λi j=>rC (ps.getD i (0,0)) (ps.getD j (0,0)):=⟨λa b h=>ye h,λa b c h k=>yf h k⟩
 refine Kg.wp (lt:=λi j=>rC (ps.getD i (0,0)) (ps.getD j (0,0))) (N:=ps.length) (P:=λs''=>s''={ s with heap:=h' }) (λi j C s'' hi hj hs hC=>?_) rfl ((An od (by omega)).imp λpm ⟨P1,P2⟩ s'' hs=>?_)
 ·subst hs
  obtain⟨a,o,t,u,n,e,g1,g2,g3⟩:=cz (a:=aS) (b:=(0,0)) N6 hi
  obtain⟨a',o',t',u',n',e',C7,Q4,P9⟩:=cz (a:=aS) (b:=(0,0)) N6 hj
  unfold kas_ask
  rw[e,e']
  exact Ap (s:={ s with heap:=h' }) g1 g3 C7 P9 (hC _ rfl)
 ·subst hs
  refine KasFin.intro (s:={ s with heap:=h' }) F' N' (.head λq hq=>aX (hD q hq)) λh'' c N7 Jt=>?_
  have hDL:D≠X.env.locals:=(N' (D,_) aK).2.1
  have f_:∀b o,b≠X.env.locals->s.heap.get? b=some o->h''.get? b=some o:=λb o n e=>(Jt (b,o) (aJ _ (bS n (Att.bZ _ _) e))).1
  have B1:s.heap.get? D=none:=by
   cases e:s.heap.get? D with
   | none=>rfl
   | some o=>exact absurd (hD (D,o) (bS hDL (Att.bZ _ _) e)) (cb _)
  have C_:H D=none:=by
   cases e:H D with
   | none=>rfl
   | some ob=>
    obtain⟨z,e'⟩:=nB (I.hok D ob e)
    rw[B1] at e'
    cases e'
  have mem:∀i∈pm.toList,i < ps.length:=λi hi=>List.mem_range.mp (P1.pm.mem_iff.mp hi)
  have hv:Vals (pm.toList.map λi=>vs.getD i .non) (pm.toList.map λi=>its.getD i aS):=gS λi hi=>cz r' (by have:=mem i hi;omega)
  have VA:(pm.toList.map λi=>ps.getD i (0,0))=b9 ps:=by
   refine qt ((P1.pm.map _).trans (by rw[range_getD];exact(dn ps).symm)) ?_ (mS _)
   rw[HC,List.pairwise_map,Ju]
   intro i j hi hj hij
   have z:=P2 i j (by omega) (by have:=P1.sz;simpa [this] using hj)
   have ei:at_ pm i=pm.toList[i]:=by
    have:i < pm.size:=by simpa using hi
    simp[at_,Al,this]
   have ej:at_ pm j=pm.toList[j]:=by
    have:j < pm.size:=by simpa using hj
    simp[at_,Al,this]
   rw[ei,ej] at z
   exact z
  have VB:ET H (pm.toList.map λi=>vs.getD i .non) (b9 ps):=by
   rw[<-VA]
   exact gS λi hi=>cz hp (mem i hi)
  have hlen:pm.toList.length=ps.length:=by have:=P1.sz;simpa using this
  have vW:∀b u,H b=some u->b≠D:=λb u e=>aT e C_
  have Di:∀b u,H b=some u->b≠X.env.locals:=λb u e=>aT e I.free
  have I':Inv X pins σ (upd H D (.lst (pm.toList.map λi=>vs.getD i .non))) { s with heap:=h'' }:=by
   refine I.step (g':=s.gens) (d':=s.drawn) (t':=s.toks) (ch:=[]) (λ_ z=>nomatch z) (λb o n _ _ e _=>f_ b o n e) (λb o n _ _ e _=>⟨o.slots,f_ b o n e⟩) (λb o _ e n=>?_) (λb o _ e=>?_) (λb xs e=>?_) (λb o u e=>?_) (λb ps e=>?_) (λm' hm=>yi hn hm N7.ns) (λb ob e=>?_) I.bare
   ·rw[au (λz=>by subst z;rw[B1] at e;cases e)];exact n
   ·by_cases z:b=X.env.locals
    ·subst z
     obtain⟨o',_,_,e',_⟩:=N7.ns
     exact⟨o',e'⟩
    ·exact⟨o,f_ b o z e⟩
   ·rw[au (vW _ _ e)];exact e
   ·rw[au (vW _ _ e)];exact e
   ·exact⟨#[],by rw[au (vW _ _ e),e];simp⟩
   ·by_cases z:b=D
    ·subst z
     rw[aP] at e
     cases e
     exact⟨by rw[bK,hlen,<-l2,<-l1];exact hz,_,c,hv,(Jt (b,_) aK).1⟩
    ·rw[au z] at e
     refine(I.hok b ob e).stay (λc v hc q=>f_ c v ?_ q) (λc q=>by rw[au (vW _ _ q)];exact q) λc xs q=>by rw[au (vW _ _ q)];exact q
     rcases hc with y | y
     ·rw[y];exact Di b ob e
     ·exact Di c _ y
  exact⟨.ref D,_,I',rfl,q D _ C_ VB⟩
end
section
variable {prog:adm} {w:adp} {A:adj} {E:ado->adn->Prop} {s:adn}
theorem sL{a:adi}{its:List ado}{n:Nat}{P:PySem.Fin->adn->Prop}(h2:its.length < 2)(ho:s.heap.get? a=some (seqObj "list" its.toArray n))(k:P (.done (.ret .none)) { s with heap:=sortedHeap s.heap a its its.toArray }):adC (model prog w) A (Builtin.«list.sort» ⟨[.ref a],[]⟩) P E s:=by
 obtain⟨c,hc⟩:∃c,(s.heap.update a (dg λ_=>(#[]:Array ado))).get? a=some (seqObj "list" #[] c):=⟨_,get?_update_seq ho λ_=>#[]⟩
 have big:(((s.heap.update a (dg λ_=>(#[]:Array ado))).push (seqObj "tuple" its.toArray 0)).push (seqObj "list" #[] 0)).get? a=some (seqObj "list" #[] c):=aL _ (aL _ hc)
 rw[list_sort_plain]
 refine adD (listItems_at ho rfl (adD (listUpdate_at ho rfl (adD (seqEpoch_at hc rfl (adD (wpAny_newTuple (adD (adH (adF ?_))))))))))
 show adC (model prog w) A _ P E { s with heap:=((s.heap.update a (dg λ_=>(#[]:Array ado))).push (seqObj "tuple" its.toArray 0)).push (seqObj "list" #[] 0) }
 have few:its.toArray.size < 2:=by simpa using h2
 dsimp only
 rw[if_pos few,if_pos few]
 refine adD (adJ (adD ?_))
 rw[StateT.run_pure]
 refine adJ ?_
 have mp:Array.map (λx:adL=>x.2) (arrOf (SortSt.mk' general' (its.toArray.zip its.toArray) #[] 7 none))=its.toArray:=by
  show Array.map (λx:adL=>x.2) (its.toArray.zip its.toArray)=its.toArray
  match its,h2 with
  | [],_=>simp
  | [v],_=>simp
 dsimp only
 simp only[mp]
 refine adD (seqEpoch_at big rfl (adD (listUpdate_at big rfl ?_)))
 simp only[bne_self_eq_false,dD,if_false]
 exact adJ k
theorem yj{l:adi}{its:List ado}{Q:ado->adn->Prop}(h2:its.length < 2)(hl:s.heap.IsList l its.toArray)(k:Q (.ref (s.heap.objs.size+1)) { s with heap:=sortedAll s.heap its its.toArray }):adC (model prog w) A (call (.builtin "sorted") [.ref l]) Q E s:=by
 have zz:((s.heap.push (seqObj "list" #[] 0)).update s.heap.objs.size (dg (· ++its.toArray))).objs.size=s.heap.objs.size+1:=(Heap.size_update ..).trans (size_push' ..)
 have hh:(((s.heap.push (seqObj "list" #[] 0)).update s.heap.objs.size (dg (· ++its.toArray))).push (seqObj "list" its.toArray 0)).get? (s.heap.objs.size+1)=some (seqObj "list" its.toArray 0):=zz ▸ aU _ rfl
 refine Calls.call_function_entry kind_sorted plain_sorted entry_sorted (args_sorted1 _) ?_
 unfold Builtin.«sorted»
 refine adD (m:=checkCount "sorted" 1 1 _) (adJ (adD (collect_list hl (adD (adH ?_)))))
 show adC _ _ _ _ _ { s with heap:=((s.heap.push (seqObj "list" #[] 0)).update s.heap.objs.size (dg (· ++its.toArray))).push (seqObj "list" its.toArray 0) }
 rw[zz]
 exact adD (adF (wpAny_call_entry slot_list_sort ⟨_,hh,rfl⟩ entry_list_sort (sL h2 hh ⟨_,rfl,adJ ⟨_,rfl,k⟩⟩) (args_list_sort _)))
end
section
variable {X:Cx}
theorem B2:dB X (.builtin "sorted") (λxs H Q=>∃(p:adi)(vs:List V),xs=[.ref p]/\lO X.K H p vs/\vs.length < 2/\∀l,H l=none->Q (.ref l) (upd H l (.lst vs))):=by
 intro pins s σ H xs us Q I r h
 obtain⟨p,v,rfl,hq,h2,q⟩:=h
 obtain⟨u,rfl,rx⟩:=vals1 r
 cases rx
 obtain⟨its,r',pl,hz⟩:=I.list hq
 obtain⟨n,hat⟩:=sortedAll_at s.heap its its.toArray
 refine yj (by rw[<-r'.length];exact h2) pl.isList ⟨.ref (s.heap.objs.size+1),_,I.laid (t':=s.toks) (λ_ _=>sortedAll_old) (mP _) (show cO X.prog X.w _ _ _ (.lst _) from⟨hz,its,n,r',?_⟩),rfl,q _ (I.hok.fresh (mP _))⟩
 rw[hat]
def jg:List Wv->Option (List (Int×Int))
 | []=>some []
 | .tup [.int a,.int b]::r=>(match jg r with | some l=>some ((a,b)::l) | none=>none)
 | _=>none
abbrev pw(p:Int×Int):Wv:=.tup [.int p.1,.int p.2]
theorem qv:∀ps:List (Int×Int),jg (ps.map pw)=some ps
 | []=>rfl
 | p::r=>by rw[aD];unfold jg;rw[qv r]
theorem qw{K:PySem.W.Frag}{m:Mp}{H:Hp}:∀{ws:List Wv}{vs:List V}{ps:List (Int×Int)},ah K m H ws vs->jg ws=some ps->ET H vs ps
 | [],vs,ps,r,e=>by
  unfold ah at r
  subst r
  cases e
  exact .nil
 | w::ws,vs,ps,r,e=>by
  unfold ah at r
  obtain⟨x,t,rfl,r1,r2⟩:=r
  unfold jg at e
  split at e
  ·cases ‹_::_=[]›
  ·rename_i a b r' he
   cases he
   cases q:jg ws with
   | none=>rw[q] at e;cases e
   | some l=>
    rw[q] at e
    cases e
    unfold ag at r1
    obtain⟨ad,xs,rfl,hT,rx⟩:=r1
    unfold ah at rx
    obtain⟨y1,z1,rfl,Yf,rx⟩:=rx
    unfold ah at rx
    obtain⟨y2,z2,rfl,Yg,rx⟩:=rx
    unfold ah at rx
    subst rx
    unfold ag at Yf Yg
    subst Yf Yg
    exact .cons ⟨ad,rfl,hT⟩ (qw r2 q)
  ·cases e
theorem lW{K:PySem.W.Frag}{m:Mp}{H:Hp}:∀{vs:List V}{ps:List (Int×Int)},ET H vs ps->ah K m H (ps.map pw) vs
 | _,_,.nil=>ah.nil
 | _,_,.cons h t=>by
  obtain⟨a,rfl,hT⟩:=h
  refine ah.cons ?_ (lW t)
  unfold ag
  exact⟨a,_,rfl,hT,ah.cons (by unfold ag;rfl) (ah.cons (by unfold ag;rfl) ah.nil)⟩
def jO:List Wv->Hs->Re Wv
 | [.ref l],st=>match av st l with
  | some ws=>if ws.length < 2 then .ok (.ref st.length) (st++[.lst ws]) else(match jg ws with | some ps=>if 2<=ps.length/\ps.length < 64 then .ok (.ref st.length) (st++[.lst ((b9 ps).map pw)]) else .bad | none=> .bad)
  | none=> .bad
 | _,_=> .bad
theorem Jv:gR X (.builtin "sorted") jO:=by
 refine⟨_,B2.or B0,λws vs st H m Q S rs p=>?_⟩
 match ws,rs,p with
 | [],rs,p=>exact aa p
 | x::y::t,rs,p=>cases x<;>exact aa p
 | [x],rs,p=>
  cases x with
  | ref l=>
   obtain⟨v,rfl,r1⟩:=p_ rs
   unfold jO at p
   unfold ag at r1
   obtain⟨a,rfl,hl⟩:=r1
   cases e:av st l with
   | none=>simp only[e] at p;exact aa p
   | some ws=>
    simp only[e] at p
    obtain⟨xs,q1,q2⟩:=S.read hl e
    by_cases c0:ws.length < 2
    ·rw[if_pos c0] at p
     exact .inl ⟨a,xs,rfl,q1,q2.length ▸ c0,λk hk=>p (.ref k) (m++[k]) _ (Ext.more.trans (Ext.upd (.inl hk))) (S.alloc hk q2) (S.newest k _)⟩
    ·rw[if_neg c0] at p
     cases e2:jg ws with
     | none=>rw[e2] at p;exact aa p
     | some ps=>
      rw[e2] at p
      dsimp only at p
      by_cases c:2<=ps.length/\ps.length < 64
      ·rw[if_pos c] at p
       refine .inr ⟨a,xs,ps,rfl,q1,qw q2 e2,c.1,c.2,λk vs' hk hp=>?_⟩
       exact p (.ref k) (m++[k]) _ (Ext.more.trans (Ext.upd (.inl hk))) (S.alloc hk (lW hp)) (S.newest k _)
      ·rw[if_neg c] at p
       exact aa p
  | _=>exact aa p
end
def keysOf:List Wv->Option (List L2.Key)
 | []=>some []
 | w::r=>(match keyOf w,keysOf r with | some k,some l=>some (k::l) | _,_=>none)
def nJ:Wv->Option (List L2.Key)
 | .tup ws=>keysOf ws
 | _=>none
theorem qx{K:PySem.W.Frag}{m:Mp}{H:Hp}:∀{ws:List Wv}{xs:List V}{ks:List L2.Key},ah K m H ws xs->keysOf ws=some ks->xs=ks.map kV
 | [],xs,ks,r,e=>by unfold ah at r;subst r;cases e;rfl
 | w::ws,xs,ks,r,e=>by
  unfold ah at r
  obtain⟨x,t,rfl,r1,r2⟩:=r
  unfold keysOf at e
  cases e1:keyOf w with
  | none=>rw[e1] at e;cases e
  | some k=>
   cases e2:keysOf ws with
   | none=>rw[e1,e2] at e;cases e
   | some l=>
    rw[e1,e2] at e
    cases e
    rw[nG r1 e1,qx r2 e2]
    rfl
theorem mT{K:PySem.W.Frag}{m:Mp}{H:Hp}{w:Wv}{v:V}{ks:List L2.Key}(r:ag K m H w v)(e:nJ w=some ks):∃b,v= .ref b/\H b=some (.tup (ks.map kV)):=by
 cases w with
 | tup ws=>
  unfold ag at r
  obtain⟨a,xs,rfl,h1,h2⟩:=r
  rw[qx h2 e] at h1
  exact⟨a,rfl,h1⟩
 | _=>cases e
def vX:GE:=λ_ st=> .ok (.ref st.length) (st++[.gw []])
section
variable {X:Cx}
theorem Aq{pos:Pos}:JE X (.Dict [] [] pos) vX:=JE.of DM λρ st σ H m Q S R p=>λq hq=>
 p (.ref q) (m++[q]) _ (Ext.more.trans (Ext.iG (.inl hq))) (S.t8 hq ⟨[],aP,RelK.nil⟩) (S.newest q _)
def putD(d k v:Wv)(st:Hs):Option Hs:=match d with
 | .ref l=>(match st[l]? with
  | some (.dct kvs)=>(match keyOf k with | some kk=>if kvs.length < lim then some (st.set l (.dct (fU kvs kk v))) else none | none=>none)
  | some (.gw kvs)=>(match nJ k with | some kk=>if kvs.length < lim then some (st.set l (.gw (fU kvs kk v))) else none | none=>none)
  | _=>none)
 | _=>none
def sM(gv gd gk:GE):GS:=λρ st=>(gv ρ st).bA ρ λv st1=>(gd ρ st1).bA ρ λd st2=>(gk ρ st2).bA ρ λk st3=>match putD d k v st3 with
 | some zU=> .nx ρ zU
 | none=> .bad
theorem Jw{m:Mp}{st st':Hs}{H:Hp}{d k v:Wv}{x y z:V}(S:a_ X.K m st H)(rd:ag X.K m H d x)(rk:ag X.K m H k y)(rv:ag X.K m H v z)(e:putD d k v st=some st'):∃a H',x= .ref a/\tZ H a y z H'/\Ext X.K m H m H'/\a_ X.K m st' H':=by
 unfold putD at e
 cases d with
 | ref l=>
  dsimp only at e
  unfold ag at rd
  obtain⟨a,rfl,ha⟩:=rd
  cases e1:st[l]? with
  | none=>rw[e1] at e;cases e
  | some o=>
   rw[e1] at e
   cases o with
   | dct kvs=>
    dsimp only at e
    cases e2:keyOf k with
    | none=>rw[e2] at e;cases e
    | some kk=>
     rw[e2] at e
     dsimp only at e
     by_cases c:kvs.length < lim
     ·rw[if_pos c] at e
      cases e
      obtain⟨xs,h1,h2⟩:=(show ∃ys,H a=some (.dK ys)/\RelK X.K m H kvs ys from S.obj _ _ _ ha e1)
      have ex:Ext X.K m H m (upd H a (.dK (putK xs kk z))):=Ext.iG (.inr (.inr (.inl ⟨_,h1⟩)))
      refine⟨a,_,rfl,by rw[nG rk e2];exact tZ.k h1 (by rw[<-h2.length];exact p6 c),ex,?_⟩
      exact S.pX ha e1 rfl ⟨_,aP,(h2.put kk rv).mono ex⟩
     ·rw[if_neg c] at e;cases e
   | gw kvs=>
    dsimp only at e
    cases e2:nJ k with
    | none=>rw[e2] at e;cases e
    | some kk=>
     rw[e2] at e
     dsimp only at e
     by_cases c:kvs.length < lim
     ·rw[if_pos c] at e
      cases e
      obtain⟨xs,h1,h2⟩:=(show ∃ys,H a=some (.dT ys)/\RelK X.K m H kvs ys from S.obj _ _ _ ha e1)
      obtain⟨b,rfl,hb⟩:=mT rk e2
      have ex:Ext X.K m H m (upd H a (.dT (putK xs kk z))):=Ext.iG (.inr (.inr (.inr (.inl ⟨_,h1⟩))))
      refine⟨a,_,rfl,tZ.t h1 hb (by rw[<-h2.length];exact p6 c),ex,?_⟩
      exact S.pX ha e1 rfl ⟨_,aP,(h2.put kk rv).mono ex⟩
     ·rw[if_neg c] at e;cases e
   | _=>cases e
 | _=>cases e
theorem Jx{o i e:Expr}{go gi ge:GE}{pos pos':Pos}(hu:X.A.units+1 < cLine)(he:JE X e ge)(ho:JE X o go)(hi:JE X i gi)(hs:swapsWith e (some (.Subscript o i pos')) pos.line X.env=pure false):JS X (.Assign [.Subscript o i pos'] e pos) (sM ge go gi) :=
 JS.of (IE hu aV aV aV hs) λρ st σ H m D S R p=>by
  refine he.go S R (bg.eB R p) λv st1 vv m1 H1 p1 e1 S1 rv=>?_
  refine ho.go S1 (R.mono e1) ((bg.eB (m:=m) (H:=H) R p1).imp e1 λ_ _ q=>q) λd st2 vd m2 H2 p2 e2 S2 rd=>?_
  refine hi.go S2 (R.mono (e1.trans e2)) ((bg.eB (m:=m) (H:=H) R p2).imp (e1.trans e2) λ_ _ q=>q) λk st3 vk m3 H3 p3 e3 S3 rk=>?_
  have xW:=e1.trans (e2.trans e3)
  cases e4:putD d k v st3 with
  | none=>rw[e4] at p3;exact aa p3
  | some zU=>
   rw[e4] at p3
   obtain⟨a,H4,f1,f2,f3,f4⟩:=Jw (X:=X) S3 (ag.mono e3 _ _ rd) rk (ag.mono (e2.trans e3) _ _ rv) e4
   exact⟨a,H4,f1,f2,p3 σ m3 H4 (xW.trans f3) f4 (R.mono (xW.trans f3))⟩
end
def jZ(h:Heap)(d:adi)(es:Array DictEntry)(ep:Nat):Prop:=∃o,h.get? d=some o/\o.cls= .type "dict"/\o.data= .dict es ep
section
variable {prog:adm} {w:adp} {A:adj} {E:ado->adn->Prop} {s:adn} {d it:adi} {es:Array DictEntry} {ep i:Nat}
theorem jZ.ty(x:jZ s.heap d es ep):s.TypeIs (.ref d) "dict":=let ⟨o,h1,h2,_⟩:=x;⟨o,h1,h2⟩
theorem vY{Q:ado->adn->Prop}(lo:(d == sysModules)=false)(x:jZ s.heap d es ep)
  (k:Q (.ref s.heap.objs.size) { s with heap:=s.heap.push { cls:=.type "dict_keyiterator",data:=.fields #[.ref d,.int 0 0,.int es.size 0,.int ep 0] } }):adC (model prog w) A (pyIter (.ref d)) Q E s:=by
 have ty:=x.ty
 obtain⟨o,g1,g2,g3⟩:=x
 refine wpAny_pyIter_slot ty PySem.F.slot_dict_iter (wpAny_call_entry PySem.F.slot_dict_iter ty PySem.F.entry_dict_iter ?_ (PySem.F.args_dict_iter_1 _))
 unfold Builtin.«dict.__iter__» Builtin.Dict.dictSlotNone
 refine adD (adD (wpAny_notOrdered_dict ty (adJ ?_)))
 unfold uv
 have nlo:¬(d == sysModules)=true:=by rw[lo];exact bh
 refine adD (show adC _ _ (pure d) _ _ s from adJ (adD ?_))
 rw[if_neg nlo]
 exact adJ (adD (adE g1 g3 (adD (wpAny_dictEpoch g1 g3 (adD (adI (adJ ⟨_,rfl,"dict_keyiterator",_,⟨_,aU _ rfl,rfl⟩,PySem.F.slot_dict_keyiterator_next.lookup,by simpa [rawInt] using k⟩)))))))
theorem vZ{Q:Option ado->adn->Prop}(ki:s.heap.IsKeyIter it d i es.size ep)(x:jZ s.heap d es ep)(hi:i < es.size)
  (k:∀h',h'.IsKeyIter it d (i+1) es.size ep->gN it s.heap h'->Q (some es[i].key) { s with heap:=h' }):adC (model prog w) A (pyNext (.ref it)) Q E s:=by
 have ty:=ki.typeIs
 obtain⟨oi,f1,f2,f3⟩:=id ki
 obtain⟨o,g1,g2,g3⟩:=x
 have own:uw "dict_keyiterator"=false:=by decide
 have nn:¬((aB d == aS)=true):=bh
 unfold pyNext
 refine adD (wpAny_attempt (wpAny_callSpecial?_slot (name:=gn "__next__") ty PySem.F.slot_dict_keyiterator_next (wpAny_call_entry PySem.F.slot_dict_keyiterator_next ty PySem.F.entry_dict_keyiterator_next ?_ (PySem.F.args_dict_keyiterator_next_1 _))))
 refine adD (adJ (adD (adD ?_)))
 first | refine adD (wpAny_typeNameOfWhole_keyiter ty (adJ (adD (wpAny_fieldsOf f1 f3 ?_)))) | refine adD (wpAny_typeNameOf_keyiter ty (adJ (adD (wpAny_fieldsOf f1 f3 ?_))))
 simp only[own,dD,if_false]
 refine(show adC _ _ (if(aB d == aS)=true then _ else _) _ _ s from ?_);rw[if_neg nn]
 refine adD (adJ (adD (adE g1 g3 ?_)))
 rw[if_neg (by simp)]
 refine adD (adJ (adD (wpAny_dictEpoch g1 g3 ?_)))
 rw[if_neg (by simp)]
 refine adJ ?_
 have n0:¬((i:Int) < 0):=by omega
 simp only[n0,if_false,qy,RO hi]
 refine adD ?_
 first | refine adD (wpAny_typeNameOfWhole_keyiter ty (adJ (adD (wpAny_isOneOf_keyiter ty ?_)))) | refine adD (wpAny_typeNameOf_keyiter ty (adJ (adD (wpAny_isOneOf_keyiter ty ?_))))
 refine(show adC _ _ (setField (.ref it) 1 (rawInt ((i:Int)+1)) >>= _) _ _ s from ?_)
 have Jy:(s.heap.update it (fu (·.setIfInBounds 1 (rawInt ((i:Int)+1))))).IsKeyIter it d (i+1) es.size ep:=⟨_,j7 _ f1 (pe (h_ f3 _)),(t7 ..).trans f2,by rw[h_ f3];simp[rawInt]⟩
 refine adD (wpAny_setField f1 f3 (by simp) (adD (adF (adD (wpAny_isOneOf_keyiter (s:={ s with heap:=s.heap.update it (fu (·.setIfInBounds 1 (rawInt ((i:Int)+1)))) }) Jy.typeIs ?_)))))
 exact(show adC _ _ (pure es[i].key) _ _ _ from adJ (adJ ⟨_,rfl,adJ (k _ Jy (fV ..))⟩))
theorem Ar{Q:Option ado->adn->Prop}(hh:A.handled=none)(ki:s.heap.IsKeyIter it d i es.size ep)(x:jZ s.heap d es ep)(hi:es.size<=i)(k:∀h',EU it s.heap h'->Q none { s with heap:=h' }):adC (model prog w) A (pyNext (.ref it)) Q E s:=by
 have ty:=ki.typeIs
 obtain⟨oi,f1,f2,f3⟩:=id ki
 obtain⟨o,g1,g2,g3⟩:=x
 have own:uw "dict_keyiterator"=false:=by decide
 have nn:¬((aB d == aS)=true):=bh
 unfold pyNext
 refine adD (wpAny_attempt (wpAny_callSpecial?_slot (name:=gn "__next__") ty PySem.F.slot_dict_keyiterator_next (wpAny_call_entry PySem.F.slot_dict_keyiterator_next ty PySem.F.entry_dict_keyiterator_next ?_ (PySem.F.args_dict_keyiterator_next_1 _))))
 refine adD (adJ (adD (adD ?_)))
 first | refine adD (wpAny_typeNameOfWhole_keyiter ty (adJ (adD (wpAny_fieldsOf f1 f3 ?_)))) | refine adD (wpAny_typeNameOf_keyiter ty (adJ (adD (wpAny_fieldsOf f1 f3 ?_))))
 simp only[own,dD,if_false]
 refine(show adC _ _ (if(aB d == aS)=true then _ else _) _ _ s from ?_);rw[if_neg nn]
 refine adD (adJ (adD (adE g1 g3 ?_)))
 rw[if_neg (by simp)]
 refine adD (adJ (adD (wpAny_dictEpoch g1 g3 ?_)))
 rw[if_neg (by simp)]
 refine adJ ?_
 have n0:¬((i:Int) < 0):=by omega
 simp only[n0,if_false,qy,RP hi]
 refine adD ?_
 first | refine adD (wpAny_typeNameOfWhole_keyiter ty (adJ ?_)) | refine adD (wpAny_typeNameOf_keyiter ty (adJ ?_))
 refine(show adC _ _ (setField (.ref it) 0 .none >>= _) _ _ s from adD (wpAny_setField f1 f3 (by simp) ?_))
 refine(show adC _ _ (newExc (.type "StopIteration") [] >>= _) _ _ _ from ?_)
 simp only[newExc,newTuple,raiseNew]
 refine adD (adD (adI (adD (m:=firstArgMember _ _) (wpAny_of_eq (a:=aS) (by first | rfl | (simp only[firstArgMember];rfl)) (adI ?_ (by size_fits)))) (by size_fits)))
 refine(adD (wpAny_handled ?_))
 rw[show A.in1.handled=none by exact hh]
 refine(adD (adJ (wpAny_throw ?_)))
 refine adD (wpAny_isInstance (b:=true) (T:="StopIteration") ⟨_,aU _ rfl,rfl⟩ isSubtype_stop (adJ ?_))
 refine k _ ?_;exact((fV ..).extBut.push _).push _
theorem B3(hh:A.handled=none)(I:adi)(hne:d≠I):Walks prog w A I [I,d] [I] es.size (λi v=>∃h:i < es.size,v=es[i].key) (λi h=>h.IsKeyIter I d i es.size ep/\jZ h d es ep) where
 sub:=λb hb=>List.mem_cons.mpr (.inl (List.mem_singleton.mp hb))
 frame:=λ_ _ _ st hk=>⟨st.1.at λo e=>hk I (by simp) o e,let ⟨o,e1,e2⟩:=st.2;⟨o,hk d (by simp) o e1,e2⟩⟩
 item:=λi s Q E hi st hQ=>vZ st.1 st.2 hi λh' ki sb=>hQ _ h' s.toks ⟨hi,rfl⟩ ⟨ki,let ⟨o,e1,e2⟩:=st.2;⟨o,sb.extBut d o hne e1,e2⟩⟩ λb o hb e=>sb.extBut b o (λz=>hb (by simp[z])) e
 done:=λs Q E st hQ=>Ar hh st.1 st.2 (aj _) λh' eb=>hQ h' s.toks λb o hb e=>eb b o (λz=>hb (by simp[z])) e
 self:=λ_ _ _ _ st k=>wpAny_pyIter_keyiter st.1 k
theorem As(lo:(d == sysModules)=false):KdlSrc prog w "dict" d d es.size (λi v=>∃h:i < es.size,v=es[i].key) (λh=>jZ h d es ep) where
 type:=λ_ x=>x.ty
 there:=λ_ x=>let ⟨o,e,_⟩:=x;⟨aF e,aF e⟩
 keep:=λ_ _ x hk=>let ⟨o,e,r⟩:=x;⟨o,hk d (.inl rfl) o e,r⟩
 notList:=by decide
 notTuple:=by decide
 hint:=λ_ _ _ _ x hq=>kdl_hint_dict x.ty hq
 iter:=λ_ s hh x=>⟨_,_,(λ_ _ hq=>vY lo x hq),B3 hh _ (by obtain⟨o,e,_⟩:=x;exact aX (aF e)),⟨⟨_,aU _ rfl,rfl,rfl⟩,let ⟨o,e,r⟩:=x;⟨o,aL _ e,r⟩⟩⟩
end
abbrev Yh(H:Hp):List V->List (List L2.Key)->Prop:=Paired λv k=>∃b,v= .ref b/\H b=some (.tup (k.map kV))
theorem ux{H:Hp}:∀{kvs:List (List L2.Key×V)}{xs:List (List L2.Key×adi×ado)},KT H kvs xs->Yh H (xs.map λx=>V.ref x.2.1) (kvs.map (·.1))
 | _,_,.nil=> .nil
 | _,_,.cons h t=> .cons ⟨_,rfl,h.2.1⟩ (ux t)
theorem nK{α:Type}(f:α->adi):∀xs:List α,Vals (xs.map λx=>V.ref (f x)) (xs.map λx=>aB (f x))
 | []=> .nil
 | x::r=> .cons rfl (nK f r)
section
variable {X:Cx}
end
def nL:List L2.Key->Option (List Int)
 | []=>some []
 | .inl i::r=>(match nL r with | some l=>some (i::l) | none=>none)
 | _=>none
theorem Au:∀{ks:List L2.Key}{ns:List Int},nL ks=some ns->ks.map kV=ns.map V.int
 | [],ns,e=>by cases e;rfl
 | .inl i::r,ns,e=>by
  unfold nL at e
  cases q:nL r with
  | none=>rw[q] at e;cases e
  | some l=>rw[q] at e;cases e;rw[aD,aD,Au q];rfl
 | .inr x::r,ns,e=>by cases e
 | .non::r,ns,e=>by cases e
def ic:List (List L2.Key)->Option (List Wv)
 | []=>some []
 | k::r=>(match nL k,ic r with | some ns,some l=>some (.tup (ns.map Wv.int)::l) | _,_=>none)
section
variable {X:Cx}
end
open PySem L2 PyProof.Rows
section
open PySem.SeqAt PySem.MeetsSeq PySem.MeetsSeq2 PySem.MeetsSeq3
end
variable {X:Cx}
def oLe:fY:=λx y st=>Ra x y st
theorem N8(hu:X.A.units+64 < cLine):kO X (adw .LtE) oLe:=Rf
def RQ:fY:=λx y st=>Q_ x y st
theorem N9(hu:X.A.units+64 < cLine):kO X (adw .Lt) RQ:=Rc
structure qA(k:Nat)(A:adj):Prop where
 d:A.depth+3 * k+5 < recursionLimit
 u:A.units+16 * k+200 < cLine
theorem qA.of{k:Nat}{A:adj}(r:iF k A):qA k A:=⟨r.dp,r.un⟩
structure RS(P:adm)(w:adp)(K:PySem.W.Frag)(mg:Str->Option ado)(base:Heap)(k:Nat)(f:adi)(fd:adk)(ps:List Str)(sp:Sp):Prop where
 n:∀vs H Q E,sp vs H Q E->vs.length=ps.length
 go:∀(A:adj)(outer:List Env)(s:adn)(H:Hp)(args:Args)(us:List ado)(vs:List V)(Q:VK)(E:XK),qA k A->BS A H->xI P w K mg base A outer s H->
  BindsTo s fd args (ps.zip us)->Vals vs us->sp vs H Q E->adu (model P w) A (.call (.ref f) args) (CR (CXJ P w) outer P w H s Q E) s
section
variable {P:adm} {w:adp} {K:PySem.W.Frag} {mg:Str->Option ado} {base:Heap}
end
section
variable {X:Cx}
end
def Jz(P:adm)(w:adp)(K:PySem.W.Frag)(mg:Str->Option ado)(base:Heap)(k:Nat)(x:Str)(n:Nat)(F:List Wv->Hs->Re Wv):Prop :=
 ∃f fd ps,RS P w K mg base k f fd ps (spW K n F)/\mg x=some (.ref f)/\PySem.W.keepIn K (.ref f)=true/\Binds K fd ps []
section
variable {X:Cx}
end
section
variable {X:Cx}
end
abbrev RT:=Option (Nat×List Wv)×List Wv
def Av(c:Option (Nat×List Wv))(st:Hs):Prop:=match c with
 | some (l,ws)=>av st l=some ws
 | none=>True
structure EV(X:Cx)(w:RT)(m1:Mp)(H1:Hp)(J':It):Prop where
 go:∀(k:Nat)(H:Hp)(m':Mp)(st:Hs),Ext X.K m1 H1 m' H->a_ X.K m' st H->Av w.1 st->k < w.2.length->J'.go k H
 stop:∀(k:Nat)(H:Hp)(m':Mp)(st:Hs),Ext X.K m1 H1 m' H->a_ X.K m' st H->Av w.1 st->k=w.2.length->J'.stop k H
 ve:∀(k:Nat)(hk:k < w.2.length)(H:Hp)(v:V)(H':Hp)(m':Mp)(st:Hs),Ext X.K m1 H1 m' H->a_ X.K m' st H->Av w.1 st->J'.ve k H v H'->Ext X.K m' H m' H'/\a_ X.K m' st H'/\ag X.K m' H' w.2[k] v
abbrev JB:=bw->Hs->Re RT
def N_(X:Cx)(tg iter:Expr)(gi:JB):Prop:=∃wi,PI X tg iter wi/\∀(ρ:bw)(st:Hs)(σ:St)(H:Hp)(m:Mp)(R:It->Hp->Prop),a_ X.K m st H->aA X.K m H ρ σ->
 aw X σ m H (gi ρ st) (λw st1=>∀(m1:Mp)(H1:Hp)(J':It),Ext X.K m H m1 H1->a_ X.K m1 st1 H1->Av w.1 st1->EV X w m1 H1 J'->R J' H1)->wi σ H R
def EW:JB:=λ_ _=> .bad
section
variable {X:Cx}
theorem JC{tg iter:Expr}:N_ X tg iter EW:=⟨_,vS,λρ st σ H m Q S R p=>p⟩
theorem Oa{tg iter:Expr}{gi:GI}(h:JI X tg iter gi):N_ X tg iter (λρ st=>(gi ρ st).bind λw st1=> .ok (w.1.map λl=>(l,w.2),w.2) st1):=by
 obtain⟨wi,hp,hw⟩:=h
 refine⟨wi,hp,λρ st σ H m R S r p=>hw ρ st σ H m R S r ((aw.bind p).imp Ext.refl λw st1 q m1 H1 J' e1 S1 c1 ya=>?_)⟩
 obtain⟨o,ws⟩:=w
 have cc:∀st,Av (o.map λl=>(l,ws)) st->i9 (o,ws) st:=λst c=>by cases o<;>exact c
 have cc':i9 (o,ws) st1->Av (o.map λl=>(l,ws)) st1:=λc=>by cases o<;>exact c
 refine q m1 H1 J' e1 S1 (cc' c1) ⟨λk H2 m' st2 e S2 c=>ya.go k H2 m' st2 e S2 (cc _ c),λk H2 m' st2 e S2 c=>ya.stop k H2 m' st2 e S2 (cc _ c),λk hk H2 v H3 m' st2 e S2 c y=>?_⟩
 obtain⟨rfl,rr⟩:=ya.ve k hk H2 v H3 m' st2 e S2 (cc _ c) y
 exact⟨Ext.refl,S2,rr⟩
end
open Classical in
section
variable {X:Cx}
end
def EY(n:Nat):Wv->Option (List Wv)
 | .tup us=>if us.length=n then some us else none
 | _=>none
open Classical in
def fW(ck:Hs->Prop)(n:Nat)(gt:List Wv->Hs->Re Bool)(ge:List Wv->Hs->Re Wv)(l:Nat):List Wv->Hs->Option Hs
 | [],st=>some st
 | w::r,st=>match EY n w with
  | none=>none
  | some us=>match gt us st with
   | .ok false st1=>if ck st1 then fW ck n gt ge l r st1 else none
   | .ok true st1=>(match ge us st1 with
    | .ok v st2=>(match iI (.ref l) v st2 with
     | .ok _ st3=>if ck st3 then fW ck n gt ge l r st3 else none
     | _=>none)
    | _=>none)
   | _=>none
def eQ(X:Cx)(scope:Scope)(xs:List Str)(cs:dM)(C:adi)(s0:adn)(H0:Hp)(fp:List adi)(pn:List (adi×Obj)):Cx :=
 { fL X scope "" cs C s0 H0 fp pn (λ_ _=>False) with N:=xs++cs.map (·.1) }
structure kX(X:Cx)(scope:Scope)(x:Str)(xr:List Str)(cs:dM):Prop where
 one:cI X scope x cs
 var:∀y∈x::xr,scope.names.lookup y=some .local
 nd:((x::xr)++cs.map (·.1)).Nodup
inductive eR:List Expr->List Str->Prop
 | nil:eR [] []
 | cons {x:Str} {p:Pos} {es:List Expr} {xs:List Str}:eR es xs->eR (.Name x p::es) (x::xs)
section
variable {X:Cx} {pins:List (adi×Obj)} {σ:St} {H:Hp} {s:adn} {scope:Scope} {x:Str} {xr:List Str} {cs:dM}
theorem inv2{fp:List adi}{tk:Nat}(S:kX X scope x xr cs)(hc:X.calm=true)(I:Inv X pins σ H s)(hf:∀b∈fp,eN X pins H b)(hl:∀b∈fp,b < s.heap.objs.size) :
  Inv (eQ X scope (x::xr) cs s.heap.objs.size s H fp (X.pn++pins)) [] (aQ (x::xr).length none++mM cs σ) H { s with heap:=pushCells (s.heap.push { cls:=.type "dict",data:=.dict #[] }) scope.names,toks:=tk }:=by
 have J:=vP (E:=λ_ _=>False) (tk:=tk) S.one I hf hl
 have o:=J.ok
 obtain⟨m,hn,hv⟩:=J.loc
 refine⟨⟨o.mod,o.kind,o.glob,o.blt,o.above,o.inj,o.has,o.Qn,o.hd,o.frames,o.stk,o.ZQ,o.bs,o.HX,o.HY,o.Mi,o.ni,o.Mj⟩,J.os,J.bare,J.base,⟨m,hn,λi y v e1 e2 e3=>?_⟩,J.cell,J.free,J.jL,J.pin,J.hok,?_⟩
 ·have xt:((x::xr)++cs.map (·.1))[i]? =some y:=e1
  by_cases hi:i < (x::xr).length
  ·rw[d_ (by rw[jc];exact hi),tO,if_pos hi] at e2
   cases e2
  ·rw[gP (by rw[jc];omega),jc] at e2
   rw[gP (by omega)] at xt
   exact hv (i - (x::xr).length+1) y v xt e2 e3
 ·show(aQ (x::xr).length none++mM cs σ).length=((x::xr)++cs.map (·.1)).length
  unfold mM
  simp
  omega
theorem VC{fp:List adi}{Hb He:Hp}{sb se:adn}{C:adi}{σ':St}{rZ:List (adi×Obj)}(I:Inv X pins σ Hb sb)(hf:∀b∈fp,eN X pins Hb b)(J:Inv (eQ X scope (x::xr) cs C sb Hb fp (X.pn++pins)) rZ σ' He se):Inv X pins σ He se:=by
 have un:Un (frs X.stack) fp Hb He sb.heap se.heap:=J.base
 exact I.zw (ch:=fp) J.os un J.hok J.bare λb hb=>⟨(hf b hb).2.2.2.1,(hf b hb).2.1,(hf b hb).2.2.2.2.1,λp hp=>(hf b hb).2.2.2.2.2 p hp⟩
end
theorem EZ{Y:Cx}:∀{es:List Expr}{xs:List Str}(pre:List Str)(post:List Str),eR es xs->Y.N=pre++(xs++post)->(∀y∈xs,Y.env.scope.names.lookup y=some .local)->Slots Y es (jh pre.length xs.length)
 | _,_,pre,post,.nil,hN,hv=> .nil
 | _,_,pre,post,.cons (x:=x) (xs:=xs) t,hN,hv=>by
  show Slots Y _ (pre.length::jh (pre.length+1) xs.length)
  have hx:=hv x aK
  refine .cons (by rw[hN];simp) ⟨.inl hx,.inr hx⟩ ?_
  have:=EZ (pre++[x]) post t (by rw[hN];simp) λy hy=>hv y (aJ _ hy)
  rw[eh] at this
  exact this
theorem Lx:∀(us:List Wv)(pre:bw)(zs:bw)(post:bw),zs.length=us.length->Ez (jh pre.length us.length) us (pre++(zs++post))=some (pre++(us.map some++post))
 | [],pre,zs,post,h=>by
  have:zs=[]:=List.length_eq_zero_iff.mp h
  subst this
  rfl
 | u::us,pre,[],post,h=>by cases h
 | u::us,pre,z::zs,post,h=>by
  show Ez (jh (pre.length+1) us.length) us ((pre++(z::zs++post)).set pre.length (some u))=_
  have e:(pre++(z::zs++post)).set pre.length (some u)=(pre++[some u])++(zs++post):=by
   rw[List.set_append_right _ _ (aj _)]
   simp
  have q:=Lx us (pre++[some u]) zs post (by simpa using h)
  rw[eh,zM] at q
  rw[e,q]
  simp
theorem VD{K:PySem.W.Frag}{m:Mp}{H:Hp}{us:List Wv}{ρ:bw}{σ:St}(R:aA K m H (us.map some++ρ) σ):aA K m H (aQ us.length none++ρ) σ:=by
 refine⟨by rw[<-R.len];simp,λi w e=>?_⟩
 by_cases hi:i < us.length
 ·rw[d_ (by simpa using hi),tO,if_pos hi] at e
  cases e
 ·refine R.get i w ?_
  rw[gP (by simpa using Nat.le_of_not_lt hi)] at e ⊢
  simpa using e
section
variable {prog:adm} {w:adp} {A:adj} {R:Result->adn->Prop} {s:adn}
abbrev NB(prog:adm)(w:adp)(A:adj)(env:Env)(R:Result->adn->Prop):ado->adn->Prop:=notedBy (model prog w) A env λe s'=>R (.error e) s'
theorem Oc{elt tg iter:Expr}{ifs:List Expr}{scope:Scope}{pos:Pos}{it acc:ado}{env:Env}(Iv:Nat->adn->Prop)
  (turn:∀n t,Iv n t->adC (model prog w) A (pyNext it) (λr t1=>match r with
   | none=>R (.ok .next) t1
   | some v=>adC (model prog w) A (letOwnedTupleGo tg it v) (λ_ t2=>adC (model prog w) A (assign tg env v) (λ_ t3=>
     adC (model prog w) A (forIn ifs true λc r=>if r=true then do let ok <-isTrue c env (eval c env);pure (j5 ok) else pure (j5 r)) (λok t4=>
      if ok=true then adC (model prog w) A (eval elt env) (λx t5=>adC (model prog w) A (call (.builtin "list.append") [acc,x]) (λ_ t6=>∃m,m < n/\Iv m t6) (NB prog w A env R) t5) (NB prog w A env R) t4
      else ∃m,m < n/\Iv m t4) (NB prog w A env R) t3) (NB prog w A env R) t2) (NB prog w A env R) t1) (NB prog w A env R) t)
  (n:Nat) (h:Iv n s):adu (model prog w) A (.compLoop (.ListComp elt [⟨tg,iter,ifs,0⟩] scope pos) 0 it acc env) R s:=by
 refine codeAny_loop rfl Iv (λn t hI=>?_) n h
 show adC _ A ((compTurn (.ListComp elt [⟨tg,iter,ifs,0⟩] scope pos) 0 it acc env).onRaise (λx=>do noteFrame x env;theTreesLotGoes x)) _ _ t
 refine wpAny_noted ?_
 rw[compTurn_list]
 refine adD (wpAny_standAt (adD (adG (turn n t hI) (λr t1 g1=>?_) λ_ _ z=>z)))
 cases r with
 | none=>exact adJ g1
 | some v=>
  refine adD (adG g1 (λ_ t2 g2=>adD (adG g2 (λ_ t3 g3=>adD (adG g3 (λok t4 g4=>?_) λ_ _ z=>z)) λ_ _ z=>z)) λ_ _ z=>z)
  cases ok with
  | false=>exact adJ ⟨rfl,g4⟩
  | true=>exact adD (adD (adG g4 (λx t5 g5=>adD (adG g5 (λ_ t6 g6=>adJ (adJ ⟨rfl,g6⟩)) λ_ _ z=>z)) λ_ _ z=>z))
end
section
variable {X:Cx}
theorem v5{pins:List (adi×Obj)}{σ:St}{ρ:bw}{scope:Scope}{x:Str}{xr:List Str}{cs:dM}{es:List Expr}{kt:Nat}{pt pos:Pos}{elt iter:Expr}{ifs:List Expr}{gt:GT}{ge:GE}{ck:Hs->Prop}{ws:List Wv}{E:ado->adn->Prop}
  {RR:ado->adi->Result->adn->Prop}
  {it:adi}{fp:List adi}{tn:Nat->Heap->Prop}{J':It}{H2:Hp}{s2:adn}{m1:Mp}{st1 mq:Hs}(S:kX X scope x xr cs)(sl:eR es (x::xr))(hc:X.calm=true)(I2:Inv X pins σ H2 s2)(T:Turn X.prog X.w X.K (.Tuple es kt pt) J' fp it tn)(t0:tn 0 s2.heap)(f2:∀b∈fp,eN X pins H2 b)
  (S1:a_ X.K m1 st1 H2)(R:aA X.K m1 H2 ρ σ)(hck:ck (st1++[.lst []]))(run:fW ck (x::xr).length (λw=>gt (w.map some++eC cs ρ)) (λw=>ge (w.map some++eC cs ρ)) st1.length ws (st1++[.lst []])=some mq)
  (hE:∀C s0 H0 pn,JE (eQ X scope (x::xr) cs C s0 H0 fp pn) elt ge)(hT:∀C s0 H0 pn,Ac (eQ X scope (x::xr) cs C s0 H0 fp pn) ifs gt)
  (hgo:∀(k:Nat)(H:Hp)(m':Mp)(st:Hs),Ext X.K m1 H2 m' H->a_ X.K m' st H->ck st->k < ws.length->J'.go k H)(hstop:∀(k:Nat)(H:Hp)(m':Mp)(st:Hs),Ext X.K m1 H2 m' H->a_ X.K m' st H->ck st->k=ws.length->J'.stop k H)
  (hy:∀(k:Nat)(hk:k < ws.length)(H:Hp)(v:V)(H':Hp)(m':Mp)(st:Hs),Ext X.K m1 H2 m' H->a_ X.K m' st H->ck st->J'.ve k H v H'->Ext X.K m' H m' H'/\a_ X.K m' st H'/\ag X.K m' H' ws[k] v)
  (fin:∀(D C:adi)(mm:Str->Option ado)(m':Mp)(H':Hp)(s':adn),Ext X.K m1 H2 m' H'->a_ X.K m' mq H'->m'[st1.length]? =some D->Inv X pins σ H' s'->eN X pins H' C->s'.heap.Ns C mm->(∀y c,X.env.cells.lookup y=some c->c≠C)->RR (.ref D) C (.ok .next) s') :
  adC (model X.prog X.w) X.A (newList []) (λacc s3=>adC (model X.prog X.w) X.A (newFunctionEnv scope X.env.globals (rL X.env scope.names []) [] X.env.qual none .none (some X.env)) (λcenv s4=>
   adu (model X.prog X.w) X.A (.compStart (.ListComp elt [⟨.Tuple es kt pt,iter,ifs,0⟩] scope pos) 0 (.ref it) acc { cenv with scope:=relabel scope X.env }) (RR acc cenv.locals) s4) E s3) E s2:=by
 refine adH ?_
 have I3:Inv X pins σ (upd H2 s2.heap.objs.size (.lst [])) { s2 with heap:=s2.heap.push { cls:=.type "list",data:=.seq ([]:List ado).toArray } }:=I2.IA (ys:=[]) (its:=[]) (t':=s2.toks) .nil (bb _)
 have Vn:∀b∈fp,b < s2.heap.objs.size:=λb hb=>by
  obtain⟨o,e,_⟩:=T.obj _ _ t0 b hb
  exact aF e
 have hD:H2 s2.heap.objs.size=none:=I2.fresh
 have f3:∀b∈fp,eN X pins (upd H2 s2.heap.objs.size (.lst [])) b:=λb hb=>⟨by rw[au (aX (Vn b hb))];exact(f2 b hb).1,(f2 b hb).2⟩
 have S3:=S1.alloc (ws:=[]) (xs:=[]) hD ah.nil
 have e3:Ext X.K m1 H2 (m1++[s2.heap.objs.size]) (upd H2 s2.heap.objs.size (.lst [])):=Ext.more.trans (Ext.upd (.inl hD))
 have Jj:(m1++[s2.heap.objs.size])[st1.length]? =some s2.heap.objs.size:=by
  rw[<-S1.len,gP (aj _),pf];rfl
 generalize Lr:({ s2 with heap:=s2.heap.push { cls:=.type "list",data:=.seq ([]:List ado).toArray } }:adn)=s3 at I3
 have EG:∀b o,s2.heap.get? b=some o->s3.heap.get? b=some o:=λb o e=>by rw[<-Lr];exact aL _ e
 have NN:∀b∈fp,b < s3.heap.objs.size:=λb hb=>by
  obtain⟨o,e,_⟩:=T.obj _ _ t0 b hb
  exact aF (EG b o e)
 generalize hDD:s2.heap.objs.size=D at *
 generalize hH3:upd H2 D (.lst [])=H3 at *
 generalize hm3:m1++[D]=m3 at *
 have R3:aA X.K m3 H3 (eC cs ρ) (mM cs σ):=(z_ cs R).mono e3
 generalize hrr:eC cs ρ=ρc at *
 generalize hss:mM cs σ=σc at *
 refine kf ?_
 have Ic:=inv2 (tk:=s3.toks) S hc I3 f3 NN
 rw[hss] at Ic
 have P6:∀b o,s3.heap.get? b=some o->(pushCells (s3.heap.push { cls:=.type "dict",data:=.dict #[] }) scope.names).get? b=some o:=λb o e=>pushCells_keeps _ _ b o (aL _ e)
 generalize (pushCells (s3.heap.push { cls:=.type "dict",data:=.dict #[] }) scope.names)=h4 at Ic P6 ⊢
 have t4:tn 0 h4:=T.keep _ _ _ t0 λb _ o e=>P6 b o (EG b o e)
 let Xc:=eQ X scope (x::xr) cs s3.heap.objs.size s3 H3 fp (X.pn++pins)
 have vis:∀y∈x::xr,Xc.env.scope.names.lookup y=some .local:=λy hy=>lookup_relabel_local (S.var y hy)
 have VE:Slots Xc es (jh 0 (x::xr).length):=EZ (Y:=Xc) [] (cs.map (·.1)) sl rfl vis
 have NO:∀(H':Hp),(∀b∈fp,H' b=none)->∀b∈fp,eN Xc [] H' b:=λH' hn b hb=>⟨hn b hb,aX (NN b hb),qj I3 (f3 b hb),.inl hb,λy c e=>(by
  rcases S.one.sub I3.ok e with ⟨q1,_,_⟩ | ⟨q1,_⟩
  ·rw[q1];exact hV (Aa (NN b hb))
  ·exact(f3 b hb).2.2.2.2.1 y c q1),λp hp=>(f2 b hb).2.2.2.2.2 p (by have x_:p∈(X.pn++pins)++[]:=hp;rw[gO] at x_;exact x_)⟩
 let Pv:Nat->adn->Prop:=λk s'=>∃σ' H' st m',Inv Xc [] σ' H' s'/\aA X.K m' H' (aQ (x::xr).length none++ρc) σ'/\tn k s'.heap/\(∀b∈fp,H' b=none)/\Ext X.K m3 H3 m' H'/\a_ X.K m' st H'/\ck st/\fW ck (x::xr).length (λw=>gt (w.map some++ρc)) (λw=>ge (w.map some++ρc)) st1.length (ws.drop k) st=some mq
 have loop:∀s4:adn,Pv 0 s4->adu (model X.prog X.w) X.A (.compLoop (.ListComp elt [⟨.Tuple es kt pt,iter,ifs,0⟩] scope pos) 0 (.ref it) (.ref D) (compEnvC scope (vO X scope s3.heap.objs.size) s3.heap.objs.size X.env)) (RR (.ref D) s3.heap.objs.size) s4:=λs4 p0=>by
  refine Oc (λn s'=>∃k,n=ws.length - k/\k<=ws.length/\Pv k s') ?_ ws.length ⟨0,by simp,bb _,p0⟩
  rintro n s5 ⟨k,rfl,hk,σ5,H5,vn,m5,I5,R5,RF,MG,e5,S5,c5,ba⟩
  have EH:=e3.trans e5
  by_cases hlt:k < ws.length
  ·refine bA (T.item Xc rfl rfl rfl hc k [] s5 σ5 H5 _ I5 (NO H5 MG) RF (hgo k H5 m5 vn EH S5 c5 hlt)) λr s6 h6=>?_
   obtain⟨u,rfl,h6⟩:=h6
   refine bA h6 λ_ s7 h7=>?_
   obtain⟨v,H7,I7,rv,yl,NP,Vo⟩:=h7
   obtain⟨eY,S7,RG⟩:=hy k hlt H5 v H7 m5 vn EH S5 c5 yl
   have Vp:=I7.pinned (NO H7 Vo) (T.obj _ _ NP)
   have Yi:=e5.trans eY
   have ed:ws.drop k=ws[k]::ws.drop (k+1):=uh hlt
   rw[ed] at ba
   unfold fW at ba
   cases ep:EY (x::xr).length ws[k] with
   | none=>rw[ep] at ba;cases ba
   | some us=>
   rw[ep] at ba
   dsimp only at ba
   have ht:ws[k]= .tup us/\us.length=(x::xr).length:=by
    cases eb:ws[k] with
    | tup vs=>
     rw[eb] at ep
     replace ep:(if vs.length=(x::xr).length then some vs else none)=some us:=ep
     by_cases cl:vs.length=(x::xr).length
     ·rw[if_pos cl] at ep;cases ep;exact⟨rfl,cl⟩
     ·rw[if_neg cl] at ep;cases ep
    | _=>rw[eb] at ep;cases ep
   rw[ht.1] at RG
   unfold ag at RG
   obtain⟨tb,ys,rfl,f1,Yj⟩:=RG
   have e5s:Ez (jh 0 (x::xr).length) us (aQ (x::xr).length none++ρc)=some (us.map some++ρc):=by
    have q:=Lx us [] (aQ (x::xr).length none) ρc (by rw[jc];exact ht.2.symm)
    rw[ht.2] at q
    exact q
   have asg:=Mz (X:=Xc) (k:=kt) (pos:=pt) hc (sD S.nd VE) (vM VE) (sE VE) ([]++dE fp s7.heap) s7 σ5 H7 (.ref tb) u (λσ' H'=>H'=H7/\aA X.K m5 H' (us.map some++ρc) σ') Vp rv ⟨tb,ys,rfl,fb.of f1,by rw[<-Yj.length,ht.2];simp,vL (X:=Xc) Yj (R5.mono eY) e5s λσ' R'=>⟨rfl,R'⟩⟩
   refine adG asg (λ_ s8 h8=>?_) λ_ _ z=>aa z
   obtain⟨σ8,H8,Ua,rfl,R8⟩:=h8
   have back:∀{H':Hp}{s':adn}{m':Mp}{st:Hs},Inv Xc ([]++dE fp s7.heap) σ8 H' s'->Ext X.K m3 H3 m' H'->Ext X.K m5 H8 m' H'->a_ X.K m' st H'->ck st->fW ck (x::xr).length (λw=>gt (w.map some++ρc)) (λw=>ge (w.map some++ρc)) st1.length (ws.drop (k+1)) st=some mq->∃n',n' < ws.length - k/\∃k',n'=ws.length - k'/\k'<=ws.length/\Pv k' s' :=
    λ{H' s' m' st} I' e' e8 S' c' r'=>⟨ws.length - (k+1),by omega,k+1,rfl,hlt,σ8,H',st,m',I'.j6,by have q:=VD (R8.mono e8);rw[ht.2] at q;exact q,T.keep _ _ _ NP λb hb o e=>(I'.pin (b,o) (de _ (de _ (fc hb e)))).1,λb hb=>by
     obtain⟨o,e,_⟩:=T.obj _ _ NP b hb
     exact(I'.pin (b,o) (de _ (de _ (fc hb e)))).2.1,e',S',c',r'⟩
   cases eg:gt (us.map some++ρc) vn with
   | err c C9=>rw[eg] at ba;cases ba
   | bad=>rw[eg] at ba;cases ba
   | ok b C9=>
    rw[eg] at ba
    have Lf:=hT s3.heap.objs.size s3 H3 (X.pn++pins) (us.map some++ρc) vn σ8 H8 m5 (λb' H'=>b'=b/\∃m',Ext X.K m5 H8 m' H'/\a_ X.K m' C9 H') S7 R8 (by rw[eg];exact λm' H' e' S'=>⟨rfl,m',e',S'⟩) ([]++dE fp s7.heap) s8 Ua
    refine adG Lf (λok s9 h9=>?_) λ_ _ z=>aa z
    obtain⟨H9,I9,rfl,m9,e9,S9⟩:=h9
    cases ok with
    | false=>
     dsimp only at ba
     by_cases c6:ck C9
     ·rw[if_pos c6] at ba
      rw[if_neg bh]
      exact back I9 (Yi.trans e9) e9 S9 c6 ba
     ·rw[if_neg c6] at ba;cases ba
    | true=>
     dsimp only at ba
     rw[if_pos rfl]
     cases ee:ge (us.map some++ρc) C9 with
     | err c Jk=>rw[ee] at ba;cases ba
     | bad=>rw[ee] at ba;cases ba
     | ok w Jk=>
      rw[ee] at ba
      dsimp only at ba
      cases ea:iI (.ref st1.length) w Jk with
      | err c NQ=>rw[ea] at ba;cases ba
      | bad=>rw[ea] at ba;cases ba
      | ok w2 NQ=>
       rw[ea] at ba
       dsimp only at ba
       by_cases c8:ck NQ
       ·rw[if_pos c8] at ba
        have el:=hE s3.heap.objs.size s3 H3 (X.pn++pins) (us.map some++ρc) C9 σ8 H9 m9 (λv' H'=>∃m',Ext X.K m9 H9 m' H'/\a_ X.K m' Jk H'/\ag X.K m' H' w v') S9 (R8.mono e9) (by rw[ee];exact λv' m' H' e' S' r'=>⟨m',e',S',r'⟩) ([]++dE fp s7.heap) s9 I9
        refine adG el (λu2 P7 RH=>?_) λ_ _ z=>aa z
        obtain⟨v2,EI,Vq,r2,Jl,P8,Vr,NR⟩:=RH
        obtain⟨r,h1,h2⟩:=uj (X:=Xc)
        have eA:=(Yi.trans e9).trans P8
        have ro:ag X.K Jl EI (.ref st1.length) (.ref D):=by unfold ag;exact⟨D,rfl,eA.pre _ _ Jj⟩
        have rd:=h2 (.ref st1.length) w (.ref D) v2 Jk EI Jl (λ_ H'=>∃m',Ext X.K Jl EI m' H'/\a_ X.K m' NQ H') Vr ro NR (by rw[ea];exact λv' m' H' e' S' r'=>⟨m',e',S'⟩)
        refine adG (h1 ([]++dE fp s7.heap) P7 σ8 EI (.ref D) [v2] (.ref D) [u2] _ Vq rfl (.cons r2 .nil) rd) (λ_ s11 h11=>?_) λ_ _ z=>aa z
        obtain⟨_,Vs,Vt,_,m11,Ub,Vu⟩:=h11
        exact back Vt (eA.trans Ub) ((e9.trans P8).trans Ub) Vu c8 ba
       ·rw[if_neg c8] at ba;cases ba
  ·have ek:k=ws.length:=by omega
   subst ek
   refine bA (T.done Xc rfl rfl rfl hc _ [] s5 σ5 H5 _ I5 (NO H5 MG) RF (hstop _ H5 m5 vn EH S5 c5 rfl)) λr s6 h6=>?_
   obtain⟨rfl,I6⟩:=h6
   rw[xZ] at ba
   cases ba
   obtain⟨mm,Vv,_⟩:=id I6.loc
   have fC:=I3.vm (H':=H5) (aj _) I6.free
   exact fin D _ mm m5 H5 _ EH S5 (e5.pre _ _ Jj) (VC I3 f3 I6) fC Vv fC.2.2.2.2.1
 have Rn:aA X.K m3 H3 (aQ (x::xr).length none++ρc) (aQ (x::xr).length none++σc):=by
  refine⟨by rw[eh,eh,R3.len];simp,λi w e=>?_⟩
  by_cases hi:i < (x::xr).length
  ·rw[d_ (by rw[jc];exact hi),tO,if_pos hi] at e
   cases e
  ·rw[gP (by rw[jc];omega),jc] at e ⊢
   exact R3.get _ w e
 have p0:Pv 0 { s3 with heap:=h4,toks:=s3.toks }:=⟨_,H3,st1++[Ob.lst []],m3,Ic,Rn,t4,λb hb=>(f3 b hb).1,Ext.refl,S3,hck,by rw[List.drop_zero];exact run⟩
 exact codeAny_compStart_list (loop _ p0) (T.self X.A 0 _ _ _ t4 (loop _ p0))
def kg(n:Nat)(cs:dM)(gt:GT)(ge:GE)(ρ:bw)(w:RT)(st:Hs):Re Wv:=match fW (Av w.1) n (λv=>gt (v.map some++eC cs ρ)) (λv=>ge (v.map some++eC cs ρ)) st.length w.2 (st++[.lst []]) with
 | some mq=> .ok (.ref st.length) mq
 | none=> .bad
def lX(n:Nat)(cs:dM)(gi:JB)(gt:GT)(ge:GE):GE:=λρ st=>(gi ρ st).bind λw st1=>kg n cs gt ge ρ w st1
theorem JD{c:Option (Nat×List Wv)}{st more:Hs}(h:Av c st):Av c (st++more):=by
 cases c with
 | none=>trivial
 | some p=>exact sG h
theorem v7{scope:Scope}{x:Str}{xr:List Str}{cs:dM}{es:List Expr}{kt:Nat}{pt pos:Pos}{elt iter:Expr}{ifs:List Expr}{gi:JB}{gt:GT}{ge:GE}{use:Option (ado->Sem Unit)}{Q:ado->adn->Prop}{P:Wv->Hs->Prop}
  {ρ:bw}{st:Hs}{σ:St}{H:Hp}{m:Mp}{pins:List (adi×Obj)}{s:adn}{ps:Pos}
  (CS:kX X scope x xr cs)(sl:eR es (x::xr))(hc:X.calm=true)(hi:N_ X (.Tuple es kt pt) iter gi)(hE:∀C s0 H0 fp pn,JE (eQ X scope (x::xr) cs C s0 H0 fp pn) elt ge)(hT:∀C s0 H0 fp pn,Ac (eQ X scope (x::xr) cs C s0 H0 fp pn) ifs gt)(hs:∀x,adx iter X.env x=pure x)
  (S:a_ X.K m st H)(R:aA X.K m H ρ σ)(I:Inv X pins σ H s)(p:aw X σ m H (lX (x::xr).length cs gi gt ge ρ st) P)
  (fin:∀(w:Wv)(mq:Hs)(v:V)(D C:adi)(mm:Str->Option ado)(m':Mp)(H':Hp)(s':adn),P w mq->Ext X.K m H m' H'->a_ X.K m' mq H'->ag X.K m' H' w v->v= .ref D->Inv X pins σ H' s'->eN X pins H' C->s'.heap.Ns C mm->adv (model X.prog X.w) X.A X.xe use Q (.ref D) C (.ok .next) s') :
  adC (model X.prog X.w) X.A (comprehension (.ListComp elt [⟨.Tuple es kt pt,iter,ifs,0⟩] scope pos) scope X.env ps (newList []) false (eval iter X.env) use) Q X.xe s:=by
 obtain⟨wi,Vy,hw⟩:=hi
 let R':It->Hp->Prop:=λJ' H1=>∃(w:RT)(st1:Hs)(m1:Mp),aw X σ m H (kg (x::xr).length cs gt ge ρ w st1) P/\Ext X.K m H m1 H1/\a_ X.K m1 st1 H1/\Av w.1 st1/\EV X w m1 H1 J'
 have hr:=hw ρ st σ H m R' S R ((aw.bind p).imp Ext.refl λw st1 q m1 H1 J' e1 S1 c1 ya=>⟨w,st1,m1,q,e1,S1,c1,ya⟩)
 refine wpAny_comprehension_free (g:=⟨.Tuple es kt pt,iter,ifs,0⟩) (gs:=[]) (cl:=rL X.env scope.names []) rfl hs (zZ (CS.one.has I.ok)) CS.one.kind (λy hy e=>by rw[CS.one.look y hy,e]) (bA (Vy pins s σ H R' I hr) λv s1 h1=>bA h1 λitv s2 h2=>?_)
 obtain⟨it,fp,tn,J',H1,rfl,I2,T,t0,f2,w,st1,m1,q,e1,S1,c1,ya⟩:=h2
 unfold kg at q
 cases run:fW (Av w.1) (x::xr).length (λv=>gt (v.map some++eC cs ρ)) (λv=>ge (v.map some++eC cs ρ)) st1.length w.2 (st1++[.lst []]) with
 | none=>rw[run] at q;exact aa q
 | some mq=>
  rw[run] at q
  refine v5 (RR:=λacc C=>adv (model X.prog X.w) X.A X.xe use Q acc C) CS sl hc I2 T t0 f2 S1 (R.mono e1) (JD c1) run (λC s0 H0 pn=>hE C s0 H0 fp pn) (λC s0 H0 pn=>hT C s0 H0 fp pn) ya.go ya.stop ya.ve ?_
  intro D C mm m' H' s' e' S' Jj I' fC ns _
  exact fin _ mq (.ref D) D C mm m' H' s' q (e1.trans e') S' (by unfold ag;exact⟨D,rfl,Jj⟩) rfl I' fC ns
theorem v_{scope:Scope}{x:Str}{xr:List Str}{cs:dM}{es:List Expr}{kt:Nat}{pt pos:Pos}{elt iter:Expr}{ifs:List Expr}{gi:JB}{gt:GT}{ge:GE}
  (CS:kX X scope x xr cs)(sl:eR es (x::xr))(hc:X.calm=true)(hi:N_ X (.Tuple es kt pt) iter gi)(hE:∀C s0 H0 fp pn,JE (eQ X scope (x::xr) cs C s0 H0 fp pn) elt ge)(hT:∀C s0 H0 fp pn,Ac (eQ X scope (x::xr) cs C s0 H0 fp pn) ifs gt)(hs:∀x,adx iter X.env x=pure x) :
  JE X (.ListComp elt [⟨.Tuple es kt pt,iter,ifs,0⟩] scope pos) (lX (x::xr).length cs gi gt ge):=λρ st σ H m Q S R p pins s I=>by
 rw[eval_ListComp]
 refine v7 (use:=none) CS sl hc hi hE hT hs S R I p ?_
 intro w mq v D C mm m' H' s' q e' S' rw' ev I' fC ns
 exact⟨mm,ns,λh' same=>⟨.ref D,H',kU I' fC same,rfl,ev ▸ q v m' H' e' S' rw'⟩⟩
theorem E0(i:Nat){scope:Scope}{x y:Str}{xr:List Str}{cs:dM}{es:List Expr}{kt:Nat}{pt pos spos py:Pos}{elt iter:Expr}{ifs:List Expr}{gi:JB}{gt:GT}{ge:GE}(hN:X.N.Nodup)
  (CS:kX X scope x xr cs)(sl:eR es (x::xr))(hc:X.calm=true)(hi:N_ X (.Tuple es kt pt) iter gi)(hE:∀C s0 H0 fp pn,JE (eQ X scope (x::xr) cs C s0 H0 fp pn) elt ge)(hT:∀C s0 H0 fp pn,Ac (eQ X scope (x::xr) cs C s0 H0 fp pn) ifs gt)(hs:∀x,adx iter X.env x=pure x)
  (hx:X.N[i]? =some y)(hl:Loc X.env.scope y)(hf:X.fn y=true\/X.env.scope.names.lookup y=some .local) :
  JS X (.Assign [.Name y py] (.ListComp elt [⟨.Tuple es kt pt,iter,ifs,0⟩] scope pos) spos) (bt i (lX (x::xr).length cs gi gt ge)):=by
 have sw:∃b,swapsWith (.ListComp elt [⟨.Tuple es kt pt,iter,ifs,0⟩] scope pos) (some (.Name y py)) spos.line X.env=pure b:=⟨_,rfl⟩
 obtain⟨b,sw⟩:=sw
 cases b with
 | false=>exact qa i hN (v_ CS sl hc hi hE hT hs) hx hl sw hf
 | true=>
  intro ρ st σ H m D S R p pins s I
  rw[exec_Assign_Name_used _ _ _ _ sw]
  refine adD (wpAny_standAt (adD ?_))
  show adC _ X.A (do let _ <-comprehension (.ListComp elt [⟨.Tuple es kt pt,iter,ifs,0⟩] scope pos) scope X.env _ (newList []) false (eval iter X.env) (some (assign (.Name y py) X.env))) _ _ s
  refine adD (adG (v7 (use:=some (assign (.Name y py) X.env)) (Q:=λ_ s'=>SP X pins D .next s') CS sl hc hi hE hT hs S R I (bg.eB R p) ?_) (λ_ s' hq=>adJ (adJ hq)) λ_ _ e=>e)
  intro w mq v D' C mm m' H' s' q e' S' rw' ev I' fC ns
  refine wpAny_assign_Name (nj (i:=i) I' hN hx hl (show RelV v (.ref D') by rw[ev];rfl) (λs2 I2 h2=>?_) hf)
  obtain⟨a,sb,ha⟩:=h2
  have hca:C≠a:=by
   rcases ha with z | z
   ·rw[z];exact fC.2.1
   ·exact ay (fC.2.2.2.2.1 y a z)
  exact⟨mm,ns.sameBut sb hca,λh' same=>⟨_,_,kU I2 fC same,q _ m' H' e' S' ((R.mono e').set i rw')⟩⟩
end
section
variable {X:Cx}
theorem E1{ob:Expr}{name:Str}{id:String}{e:Expr}{go ga:GE}{apos cpos:Pos}{mt:Wv->Wv->Hs->Re Wv}(hm:T_ X id mt)(slot:Slot "list" name id)(hty:typeOf (.builtin id)=pure (.type "method_descriptor"))(hbase:attributeBase ob name X.env (eval ob X.env)=eval ob X.env)(ho:JE X ob go)(ha:JE X e ga)
  (hst:adB [e] X.env=[(false,eval e X.env)])(hline:(apos.endLine == cpos.line)=true):JE X (.Call (.Attribute ob name apos) [e] [] cpos) (eF mt go ga):=by
 obtain⟨r,h1,h2⟩:=hm
 have hfew:((backTo cpos (adB [e] X.env)).all (λx=> !x.1)&&(backToKw cpos (keywordEach [] X.env)).all (λx=>x.1.isSome)&&decide ([e].length+([]:List Keyword).length+(if([]:List Keyword).isEmpty then 0 else 1) < 30))=true:=by
  rw[hst];rfl
 refine JE.of (K' PySem.F.plainAttrs_list slot hty h1 aV kc hbase hfew hline hst rfl) λρ st σ H m Q S R p=>?_
 refine ho.go S R (aw.bind p) λo st1 v m1 H1 p1 e1 S1 ro=>?_
 cases o with
 | ref l=>
  dsimp only at p1
  cases el:av st1 l with
  | none=>rw[el] at p1;exact aa p1
  | some ws0=>
   rw[el] at p1
   dsimp only at p1
   have RB:=ro
   unfold ag at RB
   obtain⟨a,rfl,hla⟩:=RB
   obtain⟨xs,hq,_⟩:=S1.read hla el
   refine⟨.inl ⟨rfl,xs,hq⟩,?_⟩
   refine(ua ha xU hst).go S1 (R.mono e1) (ok:=λws st2=>aw X σ m H (match ws with | [w]=>(mt (.ref l) w st2).mn | _=> .bad) (P4 X.K m H Q)) ?_ λws st2 vs m2 H2 p2 e2 S2 rs=>?_
   ·have p3:=(aw.bind p1).imp e1 (λ_ _ q=>q)
    show aw X σ m1 H1 ((ga ρ st1).bind λx st1=>(ao ρ st1).bind λxs st2=> .ok (x::xs) st2) _
    cases eg:ga ρ st1 with
    | ok w st2=>rw[eg] at p3;exact p3
    | err c st2=>rw[eg] at p3;exact p3
    | bad=>rw[eg] at p3;exact p3
   ·match ws,rs,p2 with
    | [],rs,p2=>exact aa p2
    | [w],rs,p2=>
     obtain⟨v2,rfl,Ji⟩:=p_ rs
     exact h2 (.ref l) w (.ref a) v2 st2 H2 m2 Q S2 (ag.mono e2 _ _ ro) Ji (dI.shift (aw.mn p2) (e1.trans e2))
    | _::_::_,rs,p2=>exact aa p2
 | _=>exact aa p1
end
section
open PySem.SeqAt PySem.MeetsSeq PySem.MeetsSeq2 PySem.MeetsSeq3
end
section
variable {X:Cx}
end
section
variable {X:Cx}
end
section
variable {X:Cx}
end
def E2:List Wv->Hs->Re Wv:=λ_ _=> .bad
theorem pz{P:adm}{w:adp}{K:PySem.W.Frag}{mg:Str->Option ado}{base:Heap}{h:Heap}{k:Nat}{x:Str}{st:Stmt}{ps:List Str}(KX:K.In h)(NS:h.Ns adz mg)(D:bT K x st)
  (hb:∀(kV doc pm:ado)(an:Option adi)(cdv ct:ado)(us:List ado),us.length=ps.length->bindArgs (PySem.W.fnOf x x (defArgs st) (defBody st) (defScope st) .none kV doc pm an cdv ct) ⟨us,[]⟩=pure (ps.zip us)) :
  oJ P w K mg base k x ps.length E2:=by
 obtain⟨f,fd,a,F⟩:=D
 exact⟨f,fd,ps,⟨λvs H Q E ⟨_,_,_,_,_,_,p⟩=>aa p,λA outer s H args us vs Q E hr e0 hb r ⟨_,_,_,_,_,_,p⟩=>aa p⟩,PySem.W.mg_of KX NS a,F.kp,F.binds hb⟩
section
variable {X:Cx}
theorem E3:fI X (ads .Mult) (λx y H Q=>∃z n,x= .str z/\y= .int n/\(n=0\/n=1)/\Q (.str (if n=0 then PySem.Str.empty else z)) H):=by
 intro pins s σ H x y v u Q I rx ry h
 obtain⟨z,n,rfl,rfl,hn,q⟩:=h
 obtain⟨t,rfl⟩:=rx
 obtain⟨t',rfl⟩:=ry
 rcases hn with rfl | rfl
 ·exact PySem.P.mul_str_none (by omega) (by omega) ⟨.str PySem.Str.empty,H,I.tok _,⟨_,rfl⟩,q⟩
 ·refine PySem.P.mul_str (by decide) (λ_ h=>by cases h) (λ_ h=>by cases h) ?_
  rw[if_neg (by omega),if_pos (by rfl)]
  exact⟨.str z,H,I,⟨t,rfl⟩,q⟩
def cR:fY:=λx y st=>match x,y with
 | .str z,.int n=>if n=0\/n=1 then .ok (.str (if n=0 then PySem.Str.empty else z)) st else ql (.str z) (.int n) st
 | x,y=>ql x y st
theorem E4:kO X (ads .Mult) cR:=by
 obtain⟨r,h1,h2⟩:=Jo (X:=X)
 refine⟨_,fI.or E3 h1,λx y a b st H m Q S rx ry p=>?_⟩
 cases x with
 | str z=>
  cases y with
  | int n=>
   have p':dI X.K m H (if n=0\/n=1 then .ok (.str (if n=0 then PySem.Str.empty else z)) st else ql (.str z) (.int n) st) Q:=p
   by_cases c:n=0\/n=1
   ·rw[if_pos c] at p'
    obtain⟨rfl,ok⟩:=fe rx
    refine .inl ⟨z,n,rfl,bo ry,c,p' _ m H Ext.refl S (mkStr ?_)⟩
    by_cases c0:n=0
    ·rw[if_pos c0];decide+kernel
    ·rw[if_neg c0];exact ok
   ·rw[if_neg c] at p'
    exact .inr (h2 _ _ _ _ st H m Q S rx ry p')
  | _=>exact .inr (h2 _ _ _ _ st H m Q S rx ry p)
 | _=>exact .inr (h2 _ _ _ _ st H m Q S rx ry p)
end
abbrev LF:=List Wv->List Wv->Hs->Re Wv
def ie(X:Cx)(H:Hp)(s:adn):Heap:=PySem.W.hideAll (rD s.heap H) (frs X.stack)
section
variable {X:Cx} {pins:List (adi×Obj)} {σ:St} {H:Hp} {s:adn}
theorem RU{b:adi}{o:Obj}(e:(ie X H s).get? b=some o):s.heap.get? b=some o/\H b=none:=zt (PySem.W.of_hideAll _ e)
theorem yk{b:adi}{o:Obj}(e:s.heap.get? b=some o)(n:H b=none)(hf:b∉frs X.stack):(ie X H s).get? b=some o:=PySem.W.hideAll_get _ (mx e n) hf
theorem qB(I:Inv X pins σ H s):∀b o,X.base.get? b=some o->(ie X H s).get? b=some o:=λb o e=>by
 obtain⟨e1,e2⟩:=I.bs b o e
 refine yk e1 e2 λz=>?_
 rcases List.mem_cons.mp (I.lN b z) with q | q
 ·have h1:X.base.get? b=none:=by
   rw[q]
   exact Mk (bf I.ok.HX I.ok.above)
  rw[e] at h1;cases h1
 ·exact I.ok.Qo e q
theorem E5(I:Inv X pins σ H s):Mod X.K X.mg (ie X H s) :=
 ⟨I.mod.PV.keeps (qB I),I.mod.glob.keeps (qB I),let ⟨mb,h1,h2⟩:=I.mod.blt;⟨mb,h1.keeps (qB I),h2⟩,I.mod.nolimit.keeps (qB I)⟩
theorem Aw{h B B':Heap}:∀{l:List Env},(∀env∈l,∀L,env.frame=some L->B'.get? L=none)->h.FunFrames B l->h.FunFrames B' l
 | [],_,_=>trivial
 | env::r,hn,⟨hk,⟨L,o,hf,_,ho,hd⟩,hr⟩=>⟨hk,⟨L,o,hf,hn env (.head _) L hf,ho,hd⟩,Aw (λe he=>hn e (.tail _ he)) hr⟩
theorem JF(I:Inv X pins σ H s):xI X.prog X.w X.K X.mg (ie X H s) X.A X.stack s H :=
 ⟨I.ok.frames,E5 I,λb o e=>RU e,by unfold ie;rw[PySem.W.hideAll_size,rY];exact aj _,
  Aw (λenv he L hL=>PySem.W.hideAll_none _ (List.mem_filterMap.mpr ⟨env,he,hL⟩)) I.stack,I.oY,I.hok,I.bare⟩
end
def Yk(K:PySem.W.Frag)(n:Nat)(p:Lm)(L:LF):Sp:=λvs H Q E=>∃m st ws caps,a_ K m st H/\ah K m H ws vs/\ah K m H caps p.xs/\H p.c=some (.ext (pW p.c p.q))/\ws.length=n/\Ef K m H (L caps ws st) Q E
def qC(P:adm)(w:adp)(K:PySem.W.Frag)(mg:Str->Option ado)(base:Heap)(k:Nat)(p:Lm)(n:Nat)(L:LF):Prop :=
 ∃fd ps ob,FnOk P w K mg base (CXJ P w) k p.a fd ps (Yk K n p L)/\base.get? p.a=some ob/\ob.data= .func fd/\Binds K fd ps []
open Classical in
def lY(p:Lm)(n:Nat)(L:LF)(i:Nat)(g:GA):GE:=λρ st=>match ρ[i]? with
 | some (some (.fn p' caps))=>if p'=p then(g ρ st).bind λws st1=>if ws.length=n then L caps ws st1 else .bad else .bad
 | _=> .bad
section
variable {X:Cx}
theorem E6{k n:Nat}{p:Lm}{L:LF}{x:Str}{i:Nat}{pp pos:Pos}{e:Expr}{es:List Expr}{g:GA}(G:qC X.prog X.w X.K X.mg X.base k p n L)(hr:iF k X.A)(hN:X.N[i]? =some x)(hv:PX X.env.scope x)(ha:JA X (e::es) g)
  (hd:(x == ("__debug__":Str))=false)(hcd:(x == ("__classdict__":Str))=false)(he:adB (e::es) X.env=(false,eval e X.env)::adB es X.env:=by rfl)(hpl:(backTo pos (adB es X.env)).any (·.1)=false:=by rfl) :
  JE X (.Call (.Name x pp) (e::es) [] pos) (lY p n L i g):=by
 intro ρ st σ H m Q S R pq pins s I
 unfold lY at pq
 cases er:ρ[i]? with
 | none=>rw[er] at pq;exact aa pq
 | some ow=>
  rw[er] at pq
  cases ow with
  | none=>exact aa pq
  | some w=>
   cases w with
   | fn p' caps=>
    dsimp only at pq
    by_cases ep:p'=p
    ·rw[if_pos ep] at pq
     subst ep
     obtain⟨v,ev,rv⟩:=R.get i _ er
     have rv0:=rv
     unfold ag at rv
     obtain⟨rfl,hc,rc⟩:=rv
     obtain⟨fd,ps,ob,F,ho,hod,hb⟩:=G
     have args:=ha.go (T:=λvs H1=>∃ws st1 m1,eE X σ m H (if ws.length=n then L caps ws st1 else .bad) Q/\Ext X.K m H m1 H1/\a_ X.K m1 st1 H1/\ah X.K m1 H1 ws vs) S R (aw.bind pq)
      λws st1 vs m1 H1 p1 e1 S1 rs=>⟨ws,st1,m1,p1,e1,S1,rs⟩
     refine wpAny_Call_Name_kw (bA (Dl hN hv hd hcd pins s σ H (λv H'=>v= .ref p'.a/\H'=H) I ⟨_,ev,rfl,rfl⟩) λu s0 ⟨v,H0,I0,r0,hv0,hH0⟩=>?_)
     subst hv0 hH0
     obtain rfl:u=aB p'.a:=r0
     let K1:PySem.W.Frag:=[(p'.a,ob)]
     have k1:PySem.W.keepIn K1 (.ref p'.a)=true:=by
      obtain⟨oc,od,da,sl⟩:=ob
      dsimp only at hod
      subst hod
      simp[PySem.W.keepIn,K1]
     have RV:∀{h:Heap},h.get? p'.a=some ob->K1.In h:=λ{h} q a o e=>by
      simp only[K1,bL,List.lookup_nil] at e
      cases q2:a == p'.a with
      | true=>rw[q2] at e;cases e;rw[eq_of_beq q2];exact q
      | false=>rw[q2] at e;cases e
     refine PySem.W.callWith_K (K:=K1) (h₀:=X.base) (RV ho) k1 (bA (args pos pins s0 I0) λus s1 ⟨vs,H1,I1,r,ws,st1,m1,p1,e1,S1,rs⟩=>⟨RV (I1.bk _ _ ho),?_⟩) he hpl
     by_cases c:ws.length=n
     ·rw[if_pos c] at p1
      let E:XK:=λcl _ H2=>∃c' st2 m2 C,cl= .ref C/\ClsAt X.K c' C/\L caps ws st1= .err c' st2/\Ext X.K m1 H1 m2 H2/\a_ X.K m2 st2 H2
      have sp:Yk X.K n p' L vs H1 Q E:=by
       refine⟨m1,st1,ws,caps,S1,rs,ah.mono e1 _ _ rc,e1.ext _ _ hc,c,?_⟩
       cases er:L caps ws st1 with
       | ok w st2=>rw[er] at p1;exact eE.shift (r:=.ok w st2) p1 e1
       | err c' st2=>exact λm2 H2 C e2 S2 hC=>⟨c',st2,m2,C,rfl,hC,er,e2,S2⟩
       | bad=>rw[er] at p1;exact aa p1
      have hl:us.length=ps.length:=by rw[<-r.length];exact F.len _ _ _ _ sp
      have bd:=hb s1 us I1.C4 (by rw[gO];exact hl)
      rw[gO] at bd
      refine wpAny_call (codeAny_mono (F.run X.A X.stack s1 H1 ⟨us,[]⟩ us vs Q E hr I1.QM bd r sp) λrr s2 hq=>?_)
      cases rr with
      | error x=>
       obtain⟨H2,C,fl,c',st2,m2,C',ec,hC,er,e2,S2⟩:=hq
       cases ec
       rw[er] at p1
       exact p1 m2 H2 x s2 (e1.trans e2) S2 ⟨C,pins,H1,s1,hC,I1,.inl fl.any⟩
      | ok fw=>
       cases fw with
       | ret u=>exact I1.after hq
       | next=>exact aa hq
       | brk=>exact aa hq
       | cont=>exact aa hq
     ·rw[if_neg c] at p1;exact aa p1
    ·rw[if_neg ep] at pq;exact aa pq
   | _=>exact aa pq
end
def freeOf(sc:Scope):List Str:=(sc.names.filter λp=>decide (p.2= .free)).map (·.1)
structure Ax(sc:Scope)(x1 x2 x3 y:Str):Prop where
 kind:sc.kind= .function
 co:sc.isCoroutine=false
 gen:sc.isGenerator=false
 E7:∀p∈sc.names,p.2≠.cell
 p1:sc.names.lookup x1=some .local
 p2:sc.names.lookup x2=some .local
 p3:sc.names.lookup x3=some .local
 fr:freeOf sc=[y]
 fy:sc.names.lookup y=some .free
 nd:[x1,x2,x3,y].Nodup
abbrev ji(x1 x2 x3:Str)(a1 a2 a3:Option Expr)(q1 q2 q3:Pos):Arguments:=⟨[],[⟨x1,a1,q1⟩,⟨x2,a2,q2⟩,⟨x3,a3,q3⟩],none,[],[],none,[]⟩
theorem E8{x1 x2 x3:Str}{a1 a2 a3:Option Expr}{q1 q2 q3:Pos}{name qual:Str}{body:Expr}{scope:Scope}{cl:List (Str×adi)}{pm cdv ct:ado}(RX:x1≠x2)(RY:x1≠x3)(RZ:x2≠x3)(u1 u2 u3:ado) :
  bindArgs (PySem.W.kla_fn name qual (ji x1 x2 x3 a1 a2 a3 q1 q2 q3) body scope cl pm cdv ct) ⟨[u1,u2,u3],[]⟩=pure [(x1,u1),(x2,u2),(x3,u3)]:=by
 have h:([x1,x2,x3]:List Str).filter (λn=>(mL n [(x1,u1),(x2,u2),(x3,u3)]).isNone)=[]:=by
  rw[List.filter_eq_nil_iff]
  intro n hn
  simp only[bM,bP,or_false] at hn
  simp only[bL,List.lookup_nil]
  rcases hn with rfl | rfl | rfl
  ·simp
  ·split<;>simp
  ·split
   ·simp
   ·split<;>simp
 have e21:(x2 == x1)=false:=beq_eq_false_iff_ne.mpr (ay RX)
 have e31:(x3 == x1)=false:=beq_eq_false_iff_ne.mpr (ay RY)
 have e32:(x3 == x2)=false:=beq_eq_false_iff_ne.mpr (ay RZ)
 have hs:notAStandIn aS=pure ():=rfl
 unfold bindArgs
 simp[seqItems?,h,hs,bL,e21,e31,e32]
abbrev wa(p:Lm)(scope:Scope)(L:adi)(cl:List (Str×adi)):Env:=PySem.W.envX p.q scope L p.a (.ref p.c) cl
def HD(P:adm)(w:adp)(K:PySem.W.Frag)(mg:Str->Option ado)(base:Heap)(N:List Str)(p:Lm)(scope:Scope)(cl:List (Str×adi))(A:adj)(outer:List Env)(s:adn)(H:Hp)(E:XK):Cx where
 prog:=P
 w:=w
 K:=K
 mg:=mg
 base:=base
 A:=A.deeper (wa p scope s.heap.objs.size cl)
 N:=N
 s₀:=s
 H₀:=H
 env:=wa p scope s.heap.objs.size cl
 outer:=outer
 stack:=wa p scope s.heap.objs.size cl::outer
 ex:=[]
 fn:=λ_=>false
 calm:=true
 pn:=[]
 xe:=λe s'=>adC (model P w) (A.deeper (wa p scope s.heap.objs.size cl)) (leaving (wa p scope s.heap.objs.size cl) e) (λ_ s''=>CXJ P w outer H s E e s'') (λe' s''=>CXJ P w outer H s E e' s'') s'
theorem E9{y x:Str}{c c':adi}(h:mL x [(y,c)]=some c'):x=y/\c'=c:=by
 rw[bL] at h
 cases q:x == y with
 | true=>rw[q] at h;cases h;exact⟨eq_of_beq q,rfl⟩
 | false=>rw[q] at h;cases h
theorem E_{l:List (Str×adl)}{x:Str}(h:l.lookup x=some .free):x∈(l.filter λp=>decide (p.2= .free)).map (·.1) :=
 List.mem_map.mpr ⟨(x,.free),List.mem_filter.mpr ⟨PySem.mem_of_lookup h,by simp⟩,rfl⟩
section
variable {P:adm} {w:adp} {K:PySem.W.Frag} {mg:Str->Option ado} {base:Heap} {p:Lm} {scope:Scope} {x1 x2 x3 y:Str} {cy:adi}
theorem wb{N:List Str}{cl:List (Str×adi)}{A:adj}{outer:List Env}{s s':adn}{H H':Hp}{E:XK}{σ:St}{c:PySem.Str}{e:ado}
  (r:t9 (HD P w K mg base N p scope cl A outer s H E) σ H' c e s')(h:∀C,ClsAt K c C->E (.ref C) none H'):(HD P w K mg base N p scope cl A outer s H E).xe e s':=by
 obtain⟨C,pins,Hc,sc,hC,I,r⟩:=r
 rcases r with fl | ⟨rfl,a,args,rfl,ho,hg,M⟩
 ·exact oh (X:=HD P w K mg base N p scope cl A outer s H E) rfl rfl rfl I fl λs2 zW=>⟨H',C,zW,h C hC⟩
 ·exact qb (X:=HD P w K mg base N p scope cl A outer s H E) rfl rfl rfl I ho hg M λs2 zW=>⟨H',C,zW,h C hC⟩
theorem JG{A:adj}{outer:List Env}{s:adn}{H:Hp}{E:XK}{v1 v2 v3 vy:V}{u1 u2 u3 uy:ado}{oc:Obj}{h1:Heap}{tk:Nat}(S:Ax scope x1 x2 x3 y)(hd:A.handled=none)(e0:xI P w K mg base A outer s H)
  (r1:RelV v1 u1)(r2:RelV v2 u2)(r3:RelV v3 u3)(ry:RelV vy uy)(hc:base.get? cy=some oc)(hcd:oc.data= .cell (some uy))
  (hns:h1.Ns s.heap.objs.size (λx=>([(x1,u1),(x2,u2),(x3,u3)]:List (Str×ado)).reverse.lookup x))(hk:∀b o,s.heap.get? b=some o->h1.get? b=some o) :
  Inv (HD P w K mg base [x1,x2,x3,y] p scope [(y,cy)] A outer s H E) [] [some v1,some v2,some v3,some vy] H { s with heap:=h1,toks:=tk }:=by
 have MS:∀b:adi,b∉(HD P w K mg base [x1,x2,x3,y] p scope [(y,cy)] A outer s H E).ex:=λb z=>absurd (show b∈([]:List adi) from z) (by simp)
 have nd:=S.nd
 simp only[jj,bM,bP,or_false,not_or,eP,and_true,not_false_eq_true] at nd
 obtain⟨⟨RX,RY,_⟩,⟨RZ,_⟩,_⟩:=nd
 have e12:(x1 == x2)=false:=beq_eq_false_iff_ne.mpr RX
 have xW:(x1 == x3)=false:=beq_eq_false_iff_ne.mpr RY
 have e23:(x2 == x3)=false:=beq_eq_false_iff_ne.mpr RZ
 have Ly:∀x c,mL x [(y,cy)]=some c->s.heap.get? c=some oc/\H c=none:=λx c h=>by
  obtain⟨_,rfl⟩:=E9 h
  exact e0.bs _ _ hc
 refine⟨⟨e0.mod,S.kind,rfl,rfl,aj _,λa b c h1 h2=>?_,λa ha=>?_,(λa c h=>by cases h),λ_=>hd,QN e0.frames,.inr ⟨rfl,rfl⟩,λb z=>absurd z (MS b),e0.bs,e0.HX,λb _ _=>MS b,λb z=>absurd z (MS b),e0.ni,e0.Mj⟩,
  rfl,e0.bare,Un.kept hk,⟨_,hns,λi a v h1 h2 h3=>?_⟩,λa c h=>⟨some uy,oc,hk _ _ (Ly a c h).1,hcd⟩,e0.hok.fresh (aj _),λa c h=>(Ly a c h).2,λq hq=>absurd (show q∈([]:List (adi×Obj)) from hq) (by simp),e0.hok.kept hk,rfl⟩
 ·exact(E9 h1).1.trans (E9 h2).1.symm
 ·have ha:scope.names.lookup a=some .cell\/scope.names.lookup a=some .free:=ha
  rcases ha with ha | ha
  ·exact absurd rfl (S.E7 _ (PySem.mem_of_lookup ha))
  ·have q:=E_ ha
   have q2:a∈freeOf scope:=q
   rw[S.fr] at q2
   simp at q2
   subst q2
   exact⟨cy,by show mL a [(a,cy)]=_;simp⟩
 ·match i,h1,h2 with
  | 0,h1,h2=>
   cases h1;cases h2
   exact⟨u1,r1,.inl ⟨S.p1,by simp[bL,e12,xW]⟩⟩
  | 1,h1,h2=>
   cases h1;cases h2
   exact⟨u2,r2,.inl ⟨S.p2,by simp[bL,e23]⟩⟩
  | 2,h1,h2=>
   cases h1;cases h2
   exact⟨u3,r3,.inl ⟨S.p3,by simp[bL]⟩⟩
  | 3,h1,h2=>
   cases h1;cases h2
   exact⟨uy,ry,.inr ⟨.inr S.fy,cy,by show mL y [(y,cy)]=_;simp,oc,hk _ _ (e0.bs _ _ hc).1,hcd⟩⟩
  | i+4,h1,h2=>simp[HD] at h1
def mU(g:GE):LF:=λcaps ws st=>g (ws.map some++caps.map some) st
theorem Od{m:Mp}{H:Hp}{ws:List Wv}{vs:List V}(r:ah K m H ws vs)(h:ws.length=3):∃w1 w2 w3 v1 v2 v3,ws=[w1,w2,w3]/\vs=[v1,v2,v3]/\ag K m H w1 v1/\ag K m H w2 v2/\ag K m H w3 v3:=by
 match ws,h with
 | [w1,w2,w3],_=>
  unfold ah at r
  obtain⟨v1,t1,rfl,r1,r⟩:=r
  unfold ah at r
  obtain⟨v2,t2,rfl,r2,r⟩:=r
  unfold ah at r
  obtain⟨v3,t3,rfl,r3,r⟩:=r
  unfold ah at r
  subst r
  exact⟨w1,w2,w3,v1,v2,v3,rfl,rfl,r1,r2,r3⟩
theorem Oe{k:Nat}{a1 a2 a3:Option Expr}{q1 q2 q3:Pos}{body:Expr}{pm ctv uy:ado}{vy:V}{oc:Obj}{gb:GE}(S:Ax scope x1 x2 x3 y)(hxs:p.xs=[vy])
  (hf:base.get? p.a=some (PySem.W.kla_obj "<lambda>" p.q (ji x1 x2 x3 a1 a2 a3 q1 q2 q3) body scope [(y,cy)] pm p.c ctv))(hc:base.get? cy=some oc)(hcd:oc.data= .cell (some uy))(ry:RelV vy uy)
  (hb:∀(A:adj)(outer:List Env)(s:adn)(H:Hp)(E:XK),iF k (A.deeper (wa p scope s.heap.objs.size [(y,cy)]))->JE (HD P w K mg base [x1,x2,x3,y] p scope [(y,cy)] A outer s H E) body gb) :
  qC P w K mg base (k+1) p 3 (mU gb):=by
 have nd:=S.nd
 simp only[jj,bM,bP,or_false,not_or,eP,and_true,not_false_eq_true] at nd
 obtain⟨⟨RX,RY,_⟩,⟨RZ,_⟩,_⟩:=nd
 refine⟨_,[x1,x2,x3],_,⟨λvs H Q E h=>?_,λA outer s H args us vs Q E hr e0 hbi r K_=>?_⟩,hf,rfl,Binds.all λus hl=>?_⟩
 ·obtain⟨m,st,ws,caps,_,r,_,_,hl,_⟩:=h
  rw[<-r.length];exact hl
 ·obtain⟨m,st,ws,caps,S',rs,rc,hcx,hl,post⟩:=K_
  obtain⟨w1,w2,w3,v1,v2,v3,rfl,rfl,s1,s2,s3⟩:=Od rs hl
  rw[hxs] at rc
  have rc0:=rc
  have hcl:=rc.length
  obtain⟨wy,rfl⟩:∃wy,caps=[wy]:=by
   match caps,hcl with
   | [wy],_=>exact⟨wy,rfl⟩
  unfold ah at rc
  obtain⟨vy',t,e,ryw,_⟩:=rc
  cases e
  rcases r with _ | ⟨r1,r⟩
  rcases r with _ | ⟨r2,r⟩
  rcases r with _ | ⟨r3,r⟩
  cases r
  rename_i u1 u2 u3
  have lim:s.heap.NoLimit:=e0.mod.nolimit.keeps λb o e=>(e0.bs b o e).1
  have code:s.heap.CodeRec (.ref p.c) p.q:=(e0.hok p.c _ hcx).1
  refine PySem.W.kla_callFunE hr.depth (e0.bs _ _ hf).1 rfl S.co S.gen rfl code (hbi _ _ _ _ ?_)
  refine wpAny_newFunctionEnv S.E7 (λz hz=>?_) (λh1 hns Yl=>⟨lim.fresh _ Yl,?_⟩) S.kind
  ·simp only[List.zip_cons_cons,List.zip_nil_right,bM,bP,or_false] at hz
   rcases hz with rfl | rfl | rfl
   ·exact S.p1
   ·exact S.p2
   ·exact S.p3
  ·have hk:∀b o,s.heap.get? b=some o->h1.get? b=some o:=λb o e=>Yl.extBut b o (aX (aF e)) (aL _ e)
   show adu _ _ (.expr body (wa p scope s.heap.objs.size [(y,cy)])) _ _
   have I:=JG (p:=p) (E:=E) (tk:=s.toks+([x1,x2,x3].zip [u1,u2,u3]).length) S hr.hd e0 r1 r2 r3 ry hc hcd hns hk
   have R:aA K m H [some w1,some w2,some w3,some wy] [some v1,some v2,some v3,some vy]:=⟨rfl,λi z h=>by
    match i,h with
    | 0,h=>cases h;exact⟨_,rfl,s1⟩
    | 1,h=>cases h;exact⟨_,rfl,s2⟩
    | 2,h=>cases h;exact⟨_,rfl,s3⟩
    | 3,h=>cases h;exact⟨_,rfl,ryw⟩
    | i+4,h=>simp at h⟩
   have run:=hb A outer s H E (hr.deeper _) [some w1,some w2,some w3,some wy] st [some v1,some v2,some v3,some vy] H m Q S' R (by
    have post':Ef K m H (gb [some w1,some w2,some w3,some wy] st) Q E:=post
    cases er:gb [some w1,some w2,some w3,some wy] st with
    | ok z st2=>rw[er] at post';exact post'
    | err c st2=>rw[er] at post';exact λm' H' x s' e' S2 rz=>wb rz λC hC=>post' m' H' C e' S2 hC
    | bad=>rw[er] at post';exact aa post') [] _ I
   refine PySem.W.kla_codeExpr (adG run (λu s' hs=>?_) λe s' hs=>hs)
   obtain⟨v,H',J,rv,q⟩:=hs
   exact⟨v,H',J.os,J.bare,J.base,J.hok,rv,q⟩
 ·match us,hl with
  | [u1,u2,u3],_=>exact E8 RX RY RZ u1 u2 u3
end
structure Ay(X:Cx)(q:Str)(P:adi):Prop where
 code:∃c,X.env.code= .ref c/\PySem.W.CodeHd X.base c P
 qual:X.env.qual=q++".<locals>."
 tab:bu X.K q=some P
 mem:q∈br
 uniq:∀q',q'∈br->bu X.K q'=some P->q'=q
 bm:∃bm ob,X.mg "__builtins__"=some (.ref bm)/\bm≠builtinsNs/\bm≠adz/\X.base.get? bm=some ob/\ob.cls= .type "module"/\ob.dict=some builtinsNs/\ob.data= .plain
theorem Lz{env:Env}{f:Str×adl->List (Str×adi)->Sem (ForInStep (List (Str×adi)))}(hf:∀x k acc,k≠.free->f (x,k) acc=pure (.yield acc)) :
  ∀(l:List (Str×adl))(acc:List (Str×adi)),(l.filter λp=>decide (p.2= .free)).map (·.1)=[]->forIn l acc f=pure acc
 | [],acc,_=>by rw[um]
 | (x,k)::l,acc,h=>by
  have hk:k≠.free:=λz=>by subst z;simp at h
  rw[lK,hf x k acc hk,pure_bind]
  refine Lz (env:=env) hf l acc ?_
  rw[nE (by simpa using hk)] at h
  exact h
theorem LA{env:Env}{y:Str}{cy:adi}{f:Str×adl->List (Str×adi)->Sem (ForInStep (List (Str×adi)))}(hf:∀x k acc,k≠.free->f (x,k) acc=pure (.yield acc))(hg:∀acc,f (y,.free) acc=pure (.yield ((y,cy)::acc))) :
  ∀(l:List (Str×adl))(acc:List (Str×adi)),(l.filter λp=>decide (p.2= .free)).map (·.1)=[y]->forIn l acc f=pure ((y,cy)::acc)
 | [],acc,h=>by simp at h
 | (x,k)::l,acc,h=>by
  by_cases hk:k= .free
  ·subst hk
   rw[qi (by simp),aD] at h
   obtain⟨e,h9⟩:=List.cons.inj h
   have e':x=y:=e
   subst e'
   rw[lK,hg acc,pure_bind]
   exact Lz (env:=env) hf l _ h9
  ·rw[lK,hf x k acc hk,pure_bind]
   refine LA (env:=env) hf hg l acc ?_
   rw[nE (by simpa using hk)] at h
   exact h
theorem wc{scope:Scope}{env:Env}{y:Str}{cy:adi}(h:freeOf scope=[y])(hc:env.cells.lookup y=some cy):closureFor scope env=pure [(y,cy)]:=by
 unfold closureFor
 dsimp only
 rw[LA (env:=env) (y:=y) (cy:=cy) (λx k acc hk=>?_) (λacc=>?_) scope.names [] h,pure_bind]
 ·have:(k == dm)=false:=by simpa using hk
  simp only[this,dD,if_false]
 ·have e:cellOf env y=pure cy:=by unfold cellOf;rw[hc]
  simp[e]
theorem ym{pos pos':Pos}{c cv:ado}(l:List ado)(h:TriplesOk l)(e:codeAmong pos' (l++[rawInt pos.line,rawInt pos.col,c])=some cv):codeAmong pos' l=some cv\/cv=c:=by
 fun_induction TriplesOk l with
 | case1=>
  simp only[tX,rawInt,codeAmong] at e
  split at e
  ·exact .inr (Option.some.inj e).symm
  ·cases e
 | case2 a t b u x rest ih=>
  simp only[List.cons_append,codeAmong] at e ⊢
  split at e
  ·rename_i q;rw[if_pos q];exact .inl e
  ·rename_i q;rw[if_neg q];exact ih h e
 | case3 l h1 h2=>exact h.elim
section
variable {X:Cx} {pins:List (adi×Obj)} {σ:St} {H:Hp} {s:adn} {q:Str} {P:adi}
theorem Fb(I:Inv X pins σ H s)(T:lS X.K H)(D:Ay X q P){args:Arguments}{body:Expr}{scope:Scope}{lB:Pos}{y:Str}{cy:adi}(hfr:freeOf scope=[y])(Of:X.env.cells.lookup y=some cy){Q:ado->adn->Prop}{E:ado->adn->Prop}
  (h:∀(f c':adi)(ctv:ado)(H':Hp)(s':adn),Inv X pins σ H' s'->s'.heap.get? f=some (PySem.W.kla_obj "<lambda>" (nu q) args body scope [(y,cy)] ((X.mg "__name__").getD .none) c' ctv)->H' f=none->f∉frs X.stack->
   H' c'=some (.ext (pW c' (nu q)))->lS X.K H'->(∀b u,H b=some u->(∀ps,u≠.iW ps)->H' b=some u)->Q (.ref f) s') :
  adC (model X.prog X.w) X.A (makeFunction "<lambda>" (X.env.qual++"<lambda>") args (.expr body) scope X.env [] [] [] lB lB.line) Q E s:=by
 obtain⟨c,hcode,CH⟩:=D.code
 obtain⟨ps,hP,htr,hits⟩:=T q P D.mem D.tab
 obtain⟨bm,ob,b1,b2,b3,b4,b5,b6,b7⟩:=D.bm
 have R0:s.heap.get? P=some (PySem.W.tabObj ps):=I.hok P _ hP
 have gl:s.heap.Ns adz X.mg:=I.mod.glob.keeps I.bk
 have Ym:PySem.W.CodeHd s.heap c P:=CH.keeps I.bk
 have hgP:adz≠P:=λz=>by
  obtain⟨o,es,ep,e,hd,_⟩:=gl
  rw[z,R0] at e;cases e;cases hd
 have hbP:bm≠P:=λz=>by
  have e:=I.bk _ _ b4
  rw[z,R0] at e;cases e;cases b5
 have Yn:s.heap.BuiltinsAt X.mg P:=⟨bm,ob,b1,b2,b3,hbP,I.bk _ _ b4,b5,b6,b7⟩
 have hcl:=wc (scope:=scope) (env:=X.env) hfr Of
 have Ud:∀a,s.heap.objs.size<=a->a∉frs X.stack:=λa ha z=>by
  rcases List.mem_cons.mp (I.lN a z) with e | e
  ·rw[e] at ha;exact absurd (bc I.lt ha) (cb _)
  ·exact I.Qp ha e
 have hq:X.env.qual++"<lambda>"=nu q:=by rw[D.qual];rfl
 rw[hq]
 cases hit:codeAmong lB ps.toList with
 | some cv=>
  obtain⟨c',rfl,hc'⟩:=hits lB cv hit
  refine PySem.W.kla_makeFunctionHit (mg:=X.mg) hcl I.ok.glob gl hcode Ym R0 htr hit Yn λctv h' tk hk hsz=>?_
  have k2:∀b o,s.heap.get? b=some o->(h'.push (PySem.W.kla_obj "<lambda>" (nu q) args body scope [(y,cy)] ((X.mg "__name__").getD .none) c' ctv)).get? b=some o:=λb o e=>aL _ (hk b o e)
  refine h h'.objs.size c' ctv H _ (I.un (Un.kept k2) (I.hok.kept k2)) (aU _ rfl) (I.hok.fresh hsz) (Ud _ hsz) hc' T λb u e _=>e
 | none=>
  refine PySem.W.kla_makeFunction (mg:=X.mg) hcl I.ok.glob gl hcode Ym R0 htr hit hgP Yn λc' ctv h' tk hx hge hlt hrec htb=>?_
  have Yo:P < s.heap.objs.size:=aF R0
  have hcP:c'≠P:=hV (bc Yo hge)
  have hnc:H c'=none:=I.hok.fresh hge
  have hfc:h'.objs.size≠c':=hV hlt
  have hfP:h'.objs.size≠P:=hV (bc Yo (bf hge (oX hlt)))
  have Yp:s.heap.objs.size<=h'.objs.size:=bf hge (oX hlt)
  let ps':Array ado:=ps++#[rawInt lB.line,rawInt lB.col,.ref c']
  let H':Hp:=upd (upd H P (.iW ps')) c' (.ext (pW c' (nu q)))
  have VF:H' c'=some (.ext (pW c' (nu q))):=aP
  have at2:H' P=some (.iW ps'):=by show upd _ _ _ P=_;rw[au (ay hcP),aP]
  have P_:∀b,b≠c'->b≠P->H' b=H b:=λb n1 n2=>by show upd _ _ _ b=_;rw[au n1,au n2]
  have mV:∀b u,H b=some u->(∀ps,u≠.iW ps)->H' b=some u:=λb u e nt=>by
   rw[P_ b (aT e hnc) (λz=>by rw[z,hP] at e;cases e;exact nt _ rfl)];exact e
  have kp:∀b o,b≠P->s.heap.get? b=some o->(h'.push (PySem.W.kla_obj "<lambda>" (nu q) args body scope [(y,cy)] ((X.mg "__name__").getD .none) c' ctv)).get? b=some o:=λb o n e=>aL _ (hx b o n e)
  have Ue:∀b,H b=none->b≠P:=λb n z=>by rw[z,hP] at n;cases n
  have LB:pW c' (nu q) (h'.push (PySem.W.kla_obj "<lambda>" (nu q) args body scope [(y,cy)] ((X.mg "__name__").getD .none) c' ctv)):=by
   obtain⟨c₂,oc,vs,t,e2,hoc,hd,hv⟩:=hrec
   exact⟨c₂,oc,vs,t,e2,aL _ hoc,hd,hv⟩
  have JH:jb X.prog X.w H' (h'.push (PySem.W.kla_obj "<lambda>" (nu q) args body scope [(y,cy)] ((X.mg "__name__").getD .none) c' ctv)):=λa o e=>by
   by_cases e1:a=c'
   ·subst e1
    rw[VF] at e
    cases e
    obtain⟨c₂,oc,vs,t,e2,hoc,hd,hv⟩:=id LB
    cases e2
    refine⟨LB,⟨oc,hoc⟩,λh1 h2 φ k=>?_⟩
    obtain⟨c₃,o3,vs3,t3,e3,g1,g2,g3⟩:=φ
    cases e3
    exact⟨_,o3,vs3,t3,rfl,k _ g1,g2,g3⟩
   ·by_cases e2:a=P
    ·subst e2
     rw[at2] at e
     cases e
     exact aL _ htb
    ·rw[P_ a e1 e2] at e
     refine(I.hok a o e).stay (λb u hb r=>kp b u ?_ r) (λb r=>mV b _ r (λ_ z=>by cases z)) λb xs r=>mV b _ r (λ_ z=>by cases z)
     rcases hb with rfl | hb
     ·exact e2
     ·exact λz=>by rw[z,hP] at hb;cases hb
  have T':lS X.K H':=λq2 P2 hq2 Yq=>by
   obtain⟨ps2,g1,g2,g3⟩:=T q2 P2 hq2 Yq
   by_cases e:P2=P
   ·subst e
    have eq:=D.uniq q2 hq2 Yq
    subst eq
    rw[hP] at g1
    cases g1
    refine⟨ps',at2,by simpa [ps'] using TriplesOk_snoc _ _ (.ref c') ps.toList g2,λpos cv e=>?_⟩
    have e':codeAmong pos (ps.toList++[rawInt lB.line,rawInt lB.col,.ref c'])=some cv:=by simpa [ps'] using e
    rcases ym ps.toList g2 e' with z | z
    ·obtain⟨c2,f1,f2⟩:=g3 pos cv z
     exact⟨c2,f1,mV _ _ f2 (λ_ z=>by cases z)⟩
    ·exact⟨c',z,VF⟩
   ·refine⟨ps2,?_,g2,λpos cv e=>?_⟩
    ·rw[P_ P2 (aT g1 hnc) e];exact g1
    ·obtain⟨c2,f1,f2⟩:=g3 pos cv e
     exact⟨c2,f1,mV _ _ f2 (λ_ z=>by cases z)⟩
  have hL:X.env.locals≠P:=Ue _ I.free
  have I':Inv X pins σ H' { s with heap:=h'.push (PySem.W.kla_obj "<lambda>" (nu q) args body scope [(y,cy)] ((X.mg "__name__").getD .none) c' ctv),toks:=tk }:=by
   refine I.step (g':=s.gens) (d':=s.drawn) (ch:=[]) (λ_ z=>nomatch z) (λb o _ _ _ e n=>kp b o (Ue b n) e) (λb o _ _ _ e n=>⟨o.slots,kp b o (Ue b n) e⟩) (λb o _ e n=>?_) (λb o _ e=>?_)
    (λb xs e=>mV b _ e (λ_ z=>by cases z)) (λb o u e=>mV b _ e (λ_ z=>by cases z)) (λb ps2 e=>?_) (λm hm=>(hm.extBut hx hL).push _) JH I.bare
   ·rw[P_ b (λz=>by rw[z] at e;exact absurd (bc (aF e) hge) (cb _)) (Ue b n)];exact n
   ·by_cases z:b=P
    ·exact⟨_,by rw[z];exact aL _ htb⟩
    ·exact⟨o,kp b o z e⟩
   ·by_cases z:b=P
    ·rw[z,hP] at e
     cases e
     exact⟨#[rawInt lB.line,rawInt lB.col,.ref c'],by rw[z];exact at2⟩
    ·exact⟨#[],by rw[P_ b (aT e hnc) z,e];simp⟩
  refine h h'.objs.size c' ctv H' _ I' (aU _ rfl) ?_ (Ud _ Yp) VF T' mV
  rw[P_ _ hfc hfP]
  exact I.hok.fresh Yp
theorem a_.mV{K:PySem.W.Frag}{m:Mp}{st:Hs}{H H':Hp}(S:a_ K m st H)(k:∀b u,H b=some u->(∀ps,u≠.iW ps)->H' b=some u)(T:lS K H'):Ext K m H m H'/\a_ K m st H':=by
 have ex:Ext K m H m H':=⟨λ_ _ h=>h,λa xs h=>k a _ h (λ_ z=>by cases z),λa φ h=>k a _ h (λ_ z=>by cases z),λa o u h=>k a _ h (λ_ z=>by cases z)⟩
 refine⟨ex,S.len,λl a o h1 h2=>?_,S.inj,T⟩
 have q:=S.obj l a o h1 h2
 cases o with
 | lst ws=>obtain⟨xs,e1,e2⟩:=q;exact⟨xs,k _ _ e1 (λ_ z=>by cases z),ah.mono ex _ _ e2⟩
 | dct kvs=>obtain⟨xs,e1,e2⟩:=q;exact⟨xs,k _ _ e1 (λ_ z=>by cases z),e2.mono ex⟩
 | gw kvs=>obtain⟨xs,e1,e2⟩:=q;exact⟨xs,k _ _ e1 (λ_ z=>by cases z),e2.mono ex⟩
 | iU kvs=>obtain⟨xs,e1,e2⟩:=q;exact⟨xs,k _ _ e1 (λ_ z=>by cases z),e2.mono ex⟩
 | lR kvs=>obtain⟨o,xs,e1,e2⟩:=q;exact⟨o,xs,k _ _ e1 (λ_ z=>by cases z),e2.mono ex⟩
 | DR kvs=>obtain⟨o,xs,e1,e2⟩:=q;exact⟨o,xs,k _ _ e1 (λ_ z=>by cases z),e2.mono ex⟩
 | sj ns=>
  rcases q with ⟨o',q⟩ | q
  ·exact .inl ⟨o',k _ _ q (λ_ z=>by cases z)⟩
  ·exact .inr q
end
def sN(G:Lm->Re Wv):Re Wv:=open Classical in if h:∃r,∀p,G p=r then h.choose else .bad
theorem Fc{G:Lm->Re Wv}{r:Re Wv}(h:∀p,G p=r):sN G=r:=by
 have e:∃r,∀p,G p=r:=⟨r,h⟩
 unfold sN
 rw[dif_pos e]
 exact(e.choose_spec ⟨0,0,"",[]⟩).symm.trans (h _)
abbrev Qa:=Lm->LF->List Wv->Hs->Re Wv
def B4(FL:Qa)(iy:Nat)(g gb:GE):GE:=λρ st=>(g ρ st).bind λw st1=>match ρ[iy]? with
 | some (some wy)=>sN λp=>FL p (mU gb) [w,.fn p [wy]] st1
 | _=> .bad
def JJ(mg:Str->Option ado)(base:Heap):Prop:=∃bm ob,mg "__builtins__"=some (.ref bm)/\bm≠builtinsNs/\bm≠adz/\base.get? bm=some ob/\ob.cls= .type "module"/\ob.dict=some builtinsNs/\ob.data= .plain
def jk(K:PySem.W.Frag)(mg:Str->Option ado)(base:Heap):Prop:=Mod K mg base/\JJ mg base
def Ug(P:adm)(w:adp)(K:PySem.W.Frag)(mg:Str->Option ado)(k j:Nat)(x:Str)(FL:Qa):Prop :=
 (∃f,mg x=some (.ref f)/\PySem.W.keepIn K (.ref f)=true)/\∀(base:Heap)(p:Lm)(L:LF),jk K mg base->qC P w K mg base (j+1) p 3 L->oJ P w K mg base k x 2 (FL p L)
section
variable {X:Cx}
theorem Og{k j:Nat}{x q y x1 x2 x3:Str}{P:adi}{FL:Qa}{iy:Nat}{p pos lB q1 q2 q3:Pos}{a1 a2 a3:Option Expr}{e body:Expr}{scope:Scope}{g gb:GE}(hF:Ug X.prog X.w X.K X.mg k j x FL)(hr:iF k X.A)(hg:Gl X x)(hdb:(x == ("__debug__":Str))=false)
  (he:JE X e g)(D:Ay X q P)(S:Ax scope x1 x2 x3 y)(hy:X.N[iy]? =some y)(Yr:X.env.scope.names.lookup y=some .cell\/X.env.scope.names.lookup y=some .free)(hfn:X.fn y=true)
  (hb:∀(base:Heap)(p:Lm)(cy:adi)(A:adj)(outer:List Env)(s:adn)(H:Hp)(E:XK),jk X.K X.mg base->iF j (A.deeper (wa p scope s.heap.objs.size [(y,cy)]))->JE (HD X.prog X.w X.K X.mg base [x1,x2,x3,y] p scope [(y,cy)] A outer s H E) body gb)
  (hs:∀r,adB (e::r) X.env=(false,eval e X.env)::adB r X.env):JE X (.Call (.Name x p) [e,.Lambda (ji x1 x2 x3 a1 a2 a3 q1 q2 q3) body scope lB] [] pos) (B4 FL iy g gb):=by
 intro ρ st σ H m Q S0 R pq pins s I
 obtain⟨⟨f,hm,hk⟩,HF⟩:=hF
 unfold B4 at pq
 have first:=he.go (T:=λv H1=>∃w st1 m1,eE X σ m H (match ρ[iy]? with
  | some (some wy)=>sN λp=>FL p (mU gb) [w,.fn p [wy]] st1
  | _=> .bad) Q/\Ext X.K m H m1 H1/\a_ X.K m1 st1 H1/\ag X.K m1 H1 w v) S0 R (aw.bind pq) λw st1 v m1 H1 p1 e1 S1 r1=>⟨w,st1,m1,p1,e1,S1,r1⟩
 refine wpAny_Call_Name_kw (tJ I hg hm ?_ hdb)
 refine PySem.W.callWith_K (h₀:=X.base) I.ok.mod.PV hk ?_ (hs _) rfl
 rw[hs]
 show adC _ _ (spliced ((false,eval e X.env)::backTo pos (adB [.Lambda (ji x1 x2 x3 a1 a2 a3 q1 q2 q3) body scope lB] X.env))) _ _ s
 refine pN (bA (first pins s I) λu s1 ⟨v,H1,I1,r1,w,st1,m1,p1,e1,S1,rw1⟩=>?_)
 show adC _ _ (spliced ((false,eval (.Lambda (ji x1 x2 x3 a1 a2 a3 q1 q2 q3) body scope lB) X.env)::backTo pos (adB [] X.env))) _ _ s1
 cases er:ρ[iy]? with
 | none=>rw[er] at p1;exact aa p1
 | some ow=>
  rw[er] at p1
  cases ow with
  | none=>exact aa p1
  | some wy=>
   dsimp only at p1
   obtain⟨vy,evy,rvy⟩:=R.get iy wy er
   have vis:PX X.env.scope y:=.inr Yr
   have hcell:∀{H':Hp}{s':adn},Inv X pins σ H' s'->∃uy cy,RelV vy uy/\X.env.cells.lookup y=some cy/\s'.heap.IsCell cy (some uy):=λ{H' s'} I'=>by
    obtain⟨mm,hn,hl⟩:=I'.loc
    obtain⟨uy,ry,lk⟩:=hl iy y vy hy evy vis
    rcases lk with ⟨hkk,_⟩ | ⟨_,c,hc,hcl⟩
    ·have hkk:X.env.scope.names.lookup y=some .local:=hkk
     rcases Yr with z | z<;>rw[z] at hkk<;>cases hkk
    ·exact⟨uy,c,ry,hc,hcl⟩
   obtain⟨_,cy,_,Of,_⟩:=hcell I1
   refine pN (PySem.W.kla_eval rfl (Fb I1 S1.tab D S.fr Of λf2 c' ctv H2 s2 I2 hf2 nf2 Ud hc2 T2 kH=>?_))
   refine xH ⟨I2.C4,?_⟩
   obtain⟨Uh,S2⟩:=S1.mV kH T2
   obtain⟨uy,cy',ryv,R1,oc,hoc,Ml⟩:=hcell I2
   rw[Of] at R1
   cases R1
   have ncy:cy∉frs X.stack:=λz=>by
    rcases List.mem_cons.mp (I2.lN cy z) with e | e
    ·exact I2.K7 y cy Of e
    ·obtain⟨_,o,ho,_⟩:=I2.ok.ni.mem e
     exact absurd (bc (aF ho) (I2.ok.Qn y cy hfn Of)) (cb _)
   let pl:Lm:=⟨f2,c',nu q,[vy]⟩
   have mB:jk X.K X.mg (ie X H2 s2):=⟨E5 I2,let ⟨bm,ob,b1,b2,b3,b4,b5⟩:=D.bm;⟨bm,ob,b1,b2,b3,qB I2 _ _ b4,b5⟩⟩
   have HL:qC X.prog X.w X.K X.mg (ie X H2 s2) (j+1) pl 3 (mU gb):=Oe (p:=pl) (vy:=vy) S rfl (yk hf2 nf2 Ud) (yk hoc (I2.jL y cy Of) ncy) Ml ryv λA outer s H E hr=>hb _ pl cy A outer s H E mB hr
   obtain⟨f',fd,ps,G,hm',hk',hbn⟩:=HF _ pl (mU gb) mB HL
   rw[hm] at hm'
   cases hm'
   have p2:eE X σ m H (FL pl (mU gb) [w,.fn pl [wy]] st1) Q:=by
    unfold sN at p1
    by_cases ee:∃r,∀p,FL p (mU gb) [w,.fn p [wy]] st1=r
    ·rw[dif_pos ee] at p1
     rw[ee.choose_spec pl]
     exact p1
    ·rw[dif_neg ee] at p1;exact aa p1
   let E:XK:=λcl _ H3=>∃c' st2 m2 C,cl= .ref C/\ClsAt X.K c' C/\FL pl (mU gb) [w,.fn pl [wy]] st1= .err c' st2/\Ext X.K m1 H2 m2 H3/\a_ X.K m2 st2 H3
   have sp:spW X.K 2 (FL pl (mU gb)) [v,.ref f2] H2 Q E:=by
    refine⟨m1,st1,[w,.fn pl [wy]],S2,ah.cons (ag.mono Uh _ _ rw1) (ah.cons ?_ ah.nil),rfl,?_⟩
    ·unfold ag
     exact⟨rfl,hc2,ah.cons (ag.mono (e1.trans Uh) _ _ rvy) ah.nil⟩
    ·cases er:FL pl (mU gb) [w,.fn pl [wy]] st1 with
     | ok w st2=>rw[er] at p2;exact eE.shift (r:=.ok w st2) p2 (e1.trans Uh)
     | err c' st2=>exact λm2 H2 C e2 S2 hC=>⟨c',st2,m2,C,rfl,hC,er,e2,S2⟩
     | bad=>rw[er] at p2;exact aa p2
   have rv:Vals [v,.ref f2] [u,.ref f2]:=.cons r1 (.cons rfl .nil)
   have hl:[u,aB f2].length=ps.length:=by rw[<-rv.length];exact G.len _ _ _ _ sp
   have bd:=hbn s2 [u,.ref f2] I2.C4 (by rw[gO];exact hl)
   rw[gO] at bd
   refine wpAny_call (codeAny_mono (G.run X.A X.stack s2 H2 ⟨[u,.ref f2],[]⟩ [u,.ref f2] [v,.ref f2] Q E hr (JF I2) bd rv sp) λrr s3 hq=>?_)
   cases rr with
   | error z=>
    obtain⟨H3,C,fl,c',st2,m2,C',ec,hC,er,e2,S3⟩:=hq
    cases ec
    rw[er] at p2
    exact p2 m2 H3 z s3 ((e1.trans Uh).trans e2) S3 ⟨C,pins,H2,s2,hC,I2,.inl fl.any⟩
   | ok fw=>
    cases fw with
    | ret u=>exact I2.after hq
    | next=>exact aa hq
    | brk=>exact aa hq
    | cont=>exact aa hq
end
section
variable {P:adm} {w:adp} {A:adj} {E:ado->adn->Prop} {s:adn}
theorem lZ{j t:adi}{i:Nat}{vs:Array ado}{u:ado}{Q:ado->adn->Prop}(hj:s.heap.IsTupleIter j t i)(ht:s.heap.IsTuple t vs)(hu:vs[i]? =some u)
  (k:∀g,g.IsTupleIter j t (i+1)->gN j s.heap g->Q u { s with heap:=g }):adC (model P w) A (l5 (.ref j)) Q E s:=by
 obtain⟨oj,ej,cj,dj⟩:=id hj
 obtain⟨ot,et,_,nt,dt⟩:=ht
 unfold l5
 refine adD (wpAny_callSpecial?_slot (name:=gn "__next__") hj.typeIs yn (wpAny_call_entry yn hj.typeIs Oh ?_ (Oi _)))
 show adC _ _ (field (.ref j) 0 >>= _) _ _ s
 refine adD (wpAny_field ej dj (x:=.ref t) rfl ?_)
 show adC _ _ (if(aB t == aS)=true then _ else _) _ _ s
 rw[if_neg (by intro z;exact bh z)]
 show adC _ _ (field (.ref j) 1 >>= _) _ _ s
 refine adD (wpAny_field ej dj (x:=.int i 0) rfl ?_)
 show adC _ _ (seqItems? (.ref t) >>= _) _ _ s
 refine adD (wpAny_seqItems et dt ?_)
 simp only[qy,hu]
 refine adD (wpAny_setField ej dj (by simp) (adJ ⟨u,rfl,adJ (k _ ?_ (fV ..))⟩))
 refine⟨_,j7 _ ej (pe (h_ dj _)),(t7 ..).trans cj,?_⟩
 rw[h_ dj];simp[rawInt]
theorem B5{j t:adi}{i:Nat}{vs:Array ado}{Q:ado->adn->Prop}(hh:A.handled=none)(hj:s.heap.IsTupleIter j t i)(ht:s.heap.IsTuple t vs)(hu:vs[i]? =none)
  (k:∀g e,EU j s.heap g->(∃o,g.get? e=some o/\o.cls= .type "StopIteration")->E (.ref e) { s with heap:=g }):adC (model P w) A (l5 (.ref j)) Q E s:=by
 obtain⟨oj,ej,cj,dj⟩:=id hj
 obtain⟨ot,et,_,nt,dt⟩:=ht
 unfold l5
 refine adD (wpAny_callSpecial?_slot (name:=gn "__next__") hj.typeIs yn (wpAny_call_entry yn hj.typeIs Oh ?_ (Oi _)))
 show adC _ _ (field (.ref j) 0 >>= _) _ _ s
 refine adD (wpAny_field ej dj (x:=.ref t) rfl ?_)
 show adC _ _ (if(aB t == aS)=true then _ else _) _ _ s
 rw[if_neg (by intro z;exact bh z)]
 show adC _ _ (field (.ref j) 1 >>= _) _ _ s
 refine adD (wpAny_field ej dj (x:=.int i 0) rfl ?_)
 show adC _ _ (seqItems? (.ref t) >>= _) _ _ s
 refine adD (wpAny_seqItems et dt ?_)
 simp only[qy,hu]
 refine adD (wpAny_rule (adD (wpAny_setField ej dj (by simp) ?_)))
 show adC _ _ (newExc (.type "StopIteration") [] >>= _) _ _ _
 refine adD ?_
 simp only[newExc,newTuple]
 refine adD (adI ?_ (by size_fits))
 refine adD (m:=firstArgMember _ _) (wpAny_of_eq (a:=aS) (by first | rfl | (simp only[firstArgMember];rfl)) ?_)
 refine adI ?_ (by size_fits)
 simp only[raiseNew]
 refine adD (wpAny_handled ?_)
 first | rw[show A.in1.handled=none from hh] | rw[hh]
 refine adD (adJ (wpAny_throw ?_))
 exact k _ _ (((fV ..).extBut.push _).push _) ⟨_,aU _ rfl,rfl⟩
abbrev pA(h:Heap)(t:adi)(a b c:ado):Prop:=h.get? t=some { cls:=.type "tuple",data:=.seq #[a,b,c] }
theorem uz{t:adi}{a b c v:ado}{k:Nat}{Q:Unit->adn->Prop}(ht:pA s.heap t a b c)
  (q:∀g,g.get? t=some { cls:=.type "tuple",data:=.seq ((#[a,b,c]:Array ado).setIfInBounds k v) }->gN t s.heap g->Q () { s with heap:=g }):adC (model P w) A (updateSeq t (·.setIfInBounds k v)) Q E s:=by
 refine wpAny_updateSeq ht rfl (q _ ?_ (fV ..))
 rw[j7 _ ht rfl]
 simp[dg]
structure Zd(z T O j1 j2 j3 t1 t2 t3:adi):Prop where
 nd:[z,T,O,j1,j2,j3].Nodup
 a1:t1∉[z,O,j1,j2,j3]
 a2:t2∉[z,O,j1,j2,j3]
 a3:t3∉[z,O,j1,j2,j3]
theorem B6{z T O j1 j2 j3 t1 t2 t3:adi}{i:Nat}{v1 v2 v3:Array ado}{u1 u2 u3 a b c:ado}{Q:ado->adn->Prop}(D:Zd z T O j1 j2 j3 t1 t2 t3)(hz:IsZip s.heap z T O .none)(hT:pA s.heap T (.ref j1) (.ref j2) (.ref j3))(hO:pA s.heap O a b c)
  (h1:s.heap.IsTupleIter j1 t1 i)(h2:s.heap.IsTupleIter j2 t2 i)(h3:s.heap.IsTupleIter j3 t3 i)(w1:s.heap.IsTuple t1 v1)(w2:s.heap.IsTuple t2 v2)(w3:s.heap.IsTuple t3 v3)(e1:v1[i]? =some u1)(e2:v2[i]? =some u2)(e3:v3[i]? =some u3)
  (k:∀g,IsZip g z T O (rawInt s.heap.objs.size)->pA g O u1 u2 u3->g.IsTupleIter j1 t1 (i+1)->g.IsTupleIter j2 t2 (i+1)->g.IsTupleIter j3 t3 (i+1)->pA g s.heap.objs.size u1 u2 u3->g.objs.size=s.heap.objs.size+1->
   (∀y o,y∉[z,O,j1,j2,j3]->s.heap.get? y=some o->g.get? y=some o)->Q (.ref s.heap.objs.size) { s with heap:=g }) :
  adC (model P w) A (Builtin.«zip.__next__» ⟨[.ref z],[]⟩) (λfin s'=>∃v,fin= .done (.ret v)/\Q v s') E s:=by
 obtain⟨nd,n1,n2,n3⟩:=D
 simp only[jj,bM,bP,or_false,not_or,eP,and_true,not_false_eq_true] at nd n1 n2 n3
 obtain⟨⟨zT,zO,z1,z2,z3⟩,⟨TO,T1,T2,T3⟩,⟨O1,O2,O3⟩,⟨Qb,Fd⟩,Ys⟩:=nd
 obtain⟨p1z,p1O,p11,p12,p13⟩:=n1
 obtain⟨p2z,p2O,p21,p22,p23⟩:=n2
 obtain⟨p3z,Yt,p31,p32,p33⟩:=n3
 show adC _ _ (field (.ref z) 2 >>= _) _ _ s
 refine adD (wpAny_field hz rfl (x:=.bool false) rfl ?_)
 show adC _ _ (field (.ref z) 3 >>= _) _ _ s
 refine adD (wpAny_field hz rfl (x:=.ref T) rfl ?_)
 refine adD (wpAny_seqItems hT rfl ?_)
 show adC _ _ (yo (.ref z) >>= _) _ _ s
 refine adD ?_
 unfold yo
 refine adD (wpAny_field hz rfl (x:=.none) rfl (adJ ?_))
 simp only[if_true]
 refine adD (wpAny_rule ?_)
 refine adD (wpAny_field hz rfl (x:=.ref O) rfl ?_)
 refine adD (wpAny_setField_rec hz (by simp) λg0 y0 b0=>?_)
 replace y0:IsZip g0 z T O .ellipsis:=y0
 refine adD ?_
 simp only[List.zipIdx_cons,List.zipIdx_nil,lK,um]
 refine adD (adD (wpAny_onRaise ?_))
 show adC _ _ (l5 (.ref j1) >>= _) _ _ _
 refine adD (lZ (h1.extBut b0.extBut (ay z1)) (w1.extBut b0.extBut p1z) e1 λg1 Lc b1=>adJ ?_)
 have Yu:pA g1 O a b c:=b1.extBut _ _ O1 (b0.extBut _ _ (ay zO) hO)
 refine adD (wpAny_seqItems Yu rfl ?_)
 refine adD (uz Yu λg2 VG b2=>?_)
 replace VG:pA g2 O u1 b c:=VG
 refine adD (wpAny_letGo (adJ ?_))
 refine adD (adD (wpAny_onRaise ?_))
 show adC _ _ (l5 (.ref j2) >>= _) _ _ _
 refine adD (lZ (((h2.extBut b0.extBut (ay z2)).extBut b1.extBut (ay Qb)).extBut b2.extBut (ay O2)) (((w2.extBut b0.extBut p2z).extBut b1.extBut p21).extBut b2.extBut p2O) e2 λg3 h2' b3=>adJ ?_)
 have Yv:pA g3 O u1 b c:=b3.extBut _ _ O2 VG
 refine adD (wpAny_seqItems Yv rfl ?_)
 refine adD (uz Yv λg4 VH b4=>?_)
 replace VH:pA g4 O u1 u2 c:=VH
 refine adD (wpAny_letGo (adJ ?_))
 refine adD (adD (wpAny_onRaise ?_))
 show adC _ _ (l5 (.ref j3) >>= _) _ _ _
 refine adD (lZ (((((h3.extBut b0.extBut (ay z3)).extBut b1.extBut (ay Fd)).extBut b2.extBut (ay O3)).extBut b3.extBut (ay Ys)).extBut b4.extBut (ay O3))
  (((((w3.extBut b0.extBut p3z).extBut b1.extBut p31).extBut b2.extBut Yt).extBut b3.extBut p32).extBut b4.extBut Yt) e3 λg5 h3' b5=>adJ ?_)
 have Yw:pA g5 O u1 u2 c:=b5.extBut _ _ O3 VH
 refine adD (wpAny_seqItems Yw rfl ?_)
 refine adD (uz Yw λg6 Ui b6=>?_)
 replace Ui:pA g6 O u1 u2 u3:=Ui
 refine adD (wpAny_letGo (adJ (adJ ?_)))
 refine adD (wpAny_seqItems Ui rfl ?_)
 refine adD (wpAny_newTuple ?_)
 have sz:g6.objs.size=s.heap.objs.size:=by rw[b6.1,b5.1,b4.1,b3.1,b2.1,b1.1,b0.1]
 have keep:∀y o,y∉[z,O,j1,j2,j3]->s.heap.get? y=some o->g6.get? y=some o:=λy o hy q=>by
  simp only[bM,bP,or_false,not_or] at hy
  obtain⟨y1,y2,y3,y4,y5⟩:=hy
  exact b6.extBut _ _ y2 (b5.extBut _ _ y5 (b4.extBut _ _ y2 (b3.extBut _ _ y4 (b2.extBut _ _ y2 (b1.extBut _ _ y3 (b0.extBut _ _ y1 q))))))
 have z6:IsZip g6 z T O .ellipsis:=b6.extBut _ _ zO (b5.extBut _ _ z3 (b4.extBut _ _ zO (b3.extBut _ _ z2 (b2.extBut _ _ zO (b1.extBut _ _ z1 y0)))))
 have k1:g6.IsTupleIter j1 t1 (i+1):=((((Lc.extBut b2.extBut (ay O1)).extBut b3.extBut Qb).extBut b4.extBut (ay O1)).extBut b5.extBut Fd).extBut b6.extBut (ay O1)
 have k2:g6.IsTupleIter j2 t2 (i+1):=((h2'.extBut b4.extBut (ay O2)).extBut b5.extBut Ys).extBut b6.extBut (ay O2)
 have k3:g6.IsTupleIter j3 t3 (i+1):=h3'.extBut b6.extBut (ay O3)
 have R4:z < g6.objs.size:=aF z6
 show adC _ _ (Oj (.ref z) (.ref g6.objs.size) >>= _) _ _ _
 refine adD ?_
 unfold Oj
 have z7:IsZip (g6.push { cls:=.type "tuple",data:=.seq #[u1,u2,u3] }) z T O .ellipsis:=aL _ z6
 refine adD (wpAny_setField_rec z7 (by simp) λg7 y7 b7=>?_)
 replace y7:IsZip g7 z T O (rawInt g6.objs.size):=y7
 refine wpAny_setField_rec y7 (by simp) λg8 y8 b8=>?_
 replace y8:IsZip g8 z T O (rawInt g6.objs.size):=y8
 have up:∀y o,y≠z->g6.get? y=some o->g8.get? y=some o:=λy o n q=>b8.extBut _ _ n (b7.extBut _ _ n (aL _ q))
 have tn:pA g8 g6.objs.size u1 u2 u3:=b8.extBut _ _ (hV R4) (b7.extBut _ _ (hV R4) (aU _ rfl))
 have s8:g8.objs.size=g6.objs.size+1:=by rw[b8.1,b7.1,lV]
 rw[sz] at y8 tn s8
 refine adJ ⟨_,rfl,?_⟩
 show Q (.ref g6.objs.size) _
 rw[sz]
 have at':∀{j t:adi}{n:Nat},j≠z->g6.IsTupleIter j t n->g8.IsTupleIter j t n:=λn ⟨o,q,r⟩=>⟨o,up _ o n q,r⟩
 exact k g8 y8 (up _ _ (ay zO) Ui) (at' (ay z1) k1) (at' (ay z2) k2) (at' (ay z3) k3) tn s8 λy o hy q=>up y o (λe=>hy (by simp[e])) (keep y o hy q)
theorem Fe{z T O j1 j2 j3 t1 t2 t3:adi}{i:Nat}{v1:Array ado}{a b c:ado}{Q:Fin->adn->Prop}(hh:A.handled=none)(D:Zd z T O j1 j2 j3 t1 t2 t3)(hz:IsZip s.heap z T O .none)(hT:pA s.heap T (.ref j1) (.ref j2) (.ref j3))(hO:pA s.heap O a b c)
  (h1:s.heap.IsTupleIter j1 t1 i)(w1:s.heap.IsTuple t1 v1)(e1:v1[i]? =none)
  (k:∀g e,(∀y o,y∉[z,O,j1,j2,j3]->s.heap.get? y=some o->g.get? y=some o)->(∃o,g.get? e=some o/\o.cls= .type "StopIteration")->E (.ref e) { s with heap:=g }) :
  adC (model P w) A (Builtin.«zip.__next__» ⟨[.ref z],[]⟩) Q E s:=by
 obtain⟨nd,n1,n2,n3⟩:=D
 simp only[jj,bM,bP,or_false,not_or,eP,and_true,not_false_eq_true] at nd n1
 obtain⟨⟨zT,zO,z1,z2,z3⟩,_⟩:=nd
 show adC _ _ (field (.ref z) 2 >>= _) _ _ s
 refine adD (wpAny_field hz rfl (x:=.bool false) rfl ?_)
 show adC _ _ (field (.ref z) 3 >>= _) _ _ s
 refine adD (wpAny_field hz rfl (x:=.ref T) rfl ?_)
 refine adD (wpAny_seqItems hT rfl ?_)
 show adC _ _ (yo (.ref z) >>= _) _ _ s
 refine adD ?_
 unfold yo
 refine adD (wpAny_field hz rfl (x:=.none) rfl (adJ ?_))
 simp only[if_true]
 refine adD (wpAny_rule ?_)
 refine adD (wpAny_field hz rfl (x:=.ref O) rfl ?_)
 refine adD (wpAny_setField_rec hz (by simp) λg0 y0 b0=>?_)
 replace y0:IsZip g0 z T O .ellipsis:=y0
 refine adD ?_
 simp only[List.zipIdx_cons,List.zipIdx_nil,lK,um]
 refine adD (adD (wpAny_onRaise ?_))
 show adC _ _ (l5 (.ref j1) >>= _) _ _ _
 refine adD (B5 hh (h1.extBut b0.extBut (ay z1)) (w1.extBut b0.extBut n1.1) e1 λg1 e b1 he=>?_)
 obtain⟨oe,qe,ce⟩:=he
 have y1:IsZip g1 z T O .ellipsis:=b1 _ _ z1 y0
 have ez:e≠z:=λq=>by subst q;rw[y1] at qe;cases qe;simp at ce
 refine wpAny_setField_rec y1 (by simp) λg2 _ b2=>k g2 e (λy o hy q=>?_) ⟨oe,b2.extBut _ _ ez qe,ce⟩
 simp only[bM,bP,or_false,not_or] at hy
 exact b2.extBut _ _ hy.1 (b1 _ _ hy.2.2.1 (b0.extBut _ _ hy.1 q))
end
theorem boot_zip:adt "zip"=some (.type "zip"):=by decide+kernel
theorem JK(a b c:ado):checkTypeCall "zip" ⟨[a,b,c],[]⟩=pure ():=by kernel_rfl
theorem JM(a b c:ado):checkBuiltinCall "zip.__new__" ⟨[.type "zip",a,b,c],[]⟩=pure ():=by kernel_rfl
theorem R6(a b c d:ado):argsOk "object.__init__" ⟨[a,b,c,d],[]⟩:=by
 unfold argsOk;rw[signature?_of (id:="object.__init__") (n:=['_','_','t','i','n','i','_','_']) (o:=['t','c','e','j','b','o']) (by kernel_rfl) F.owner_object];kernel_rfl
abbrev zA(h:Heap)(t1:adi):Heap:=h.push { cls:=.type "tuple_iterator",data:=.fields #[.ref t1,.int 0 0] }
abbrev zB(h:Heap)(t1 t2:adi):Heap:=zA (zA h t1) t2
abbrev zC(h:Heap)(t1 t2 t3:adi):Heap:=zA (zB h t1 t2) t3
abbrev zD(h:Heap)(t1 t2 t3:adi):Heap:=(zC h t1 t2 t3).push { cls:=.type "tuple",data:=.seq #[.ref h.objs.size,.ref (zA h t1).objs.size,.ref (zB h t1 t2).objs.size] }
abbrev zE(h:Heap)(t1 t2 t3:adi):Heap:=(zD h t1 t2 t3).push { cls:=.type "tuple",data:=.seq #[.none,.none,.none] }
abbrev zF(h:Heap)(t1 t2 t3:adi):Heap:=(zE h t1 t2 t3).push { cls:=.type "zip",data:=.fields #[.none,.bool false,.bool false,.ref (zC h t1 t2 t3).objs.size,.ref (zD h t1 t2 t3).objs.size] }
theorem JN(t1 t2 t3:adi)(v1 v2 v3:Array ado):Meets (Builtin.«zip.__new__» ⟨[.type "zip",.ref t1,.ref t2,.ref t3],[]⟩) (λ_ R s=>s.heap.IsTuple t1 v1/\s.heap.IsTuple t2 v2/\s.heap.IsTuple t3 v3/\
   R (.ok (.ret (.ref (zE s.heap t1 t2 t3).objs.size))) { s with heap:=zF s.heap t1 t2 t3 }) :=
 .of_wp λprog w A R s h=>by
  obtain⟨hp,g,d,tk,os⟩:=s;obtain⟨q1,q2,q3,h⟩:=h
  have hsub:=sub_zip
  have r1:Ff (Az ⟨hp,g,d,tk,os⟩) t1 v1:=q1
  have r2:Ff (Az ⟨zA hp t1,g,d,tk,os⟩) t2 v2:=Fg q2 _
  have r3:Ff (Az ⟨zB hp t1 t2,g,d,tk,os⟩) t3 v3:=Fg (Fg q3 _) _
  wp_walk using wpAny_pyIter_tuple r1,wpAny_pyIter_tuple r2,wpAny_pyIter_tuple r3
  exact⟨_,rfl,h⟩
section
variable {P:adm} {w:adp} {A:adj} {E:ado->adn->Prop} {s:adn}
theorem B7{t1 t2 t3:adi}{v1 v2 v3:Array ado}{Q:ado->adn->Prop}(q1:s.heap.IsTuple t1 v1)(q2:s.heap.IsTuple t2 v2)(q3:s.heap.IsTuple t3 v3)
  (k:∀g,IsZip g (s.heap.objs.size+5) (s.heap.objs.size+3) (s.heap.objs.size+4) .none->pA g (s.heap.objs.size+3) (.ref s.heap.objs.size) (.ref (s.heap.objs.size+1)) (.ref (s.heap.objs.size+2))->pA g (s.heap.objs.size+4) .none .none .none->
   g.IsTupleIter s.heap.objs.size t1 0->g.IsTupleIter (s.heap.objs.size+1) t2 0->g.IsTupleIter (s.heap.objs.size+2) t3 0->(∀b o,s.heap.get? b=some o->g.get? b=some o)->Q (.ref (s.heap.objs.size+5)) { s with heap:=g }) :
  adC (model P w) A (call (.type "zip") [.ref t1,.ref t2,.ref t3]) Q E s:=by
 refine callType_new F.called_zip (by decide) (JK _ _ _) (JM _ _ _) (λobj=>R6 obj _ _ _) F.entry_zip_new (JN t1 t2 t3 v1 v2 v3) ⟨q1,q2,q3,?_⟩
 have s1:(zA s.heap t1).objs.size=s.heap.objs.size+1:=lV ..
 have s2:(zB s.heap t1 t2).objs.size=s.heap.objs.size+2:=by rw[lV,s1]
 have s3:(zC s.heap t1 t2 t3).objs.size=s.heap.objs.size+3:=by rw[lV,s2]
 have s4:(zD s.heap t1 t2 t3).objs.size=s.heap.objs.size+4:=by rw[lV,s3]
 have s5:(zE s.heap t1 t2 t3).objs.size=s.heap.objs.size+5:=by rw[lV,s4]
 have up:∀{h:Heap}{b:adi}{o o':Obj},h.get? b=some o->(h.push o').get? b=some o:=λe=>aL _ e
 have g6:(zF s.heap t1 t2 t3).get? (zE s.heap t1 t2 t3).objs.size=some _:=aU _ rfl
 have g5:(zF s.heap t1 t2 t3).get? (zD s.heap t1 t2 t3).objs.size=some _:=up (aU _ rfl)
 have g4:(zF s.heap t1 t2 t3).get? (zC s.heap t1 t2 t3).objs.size=some _:=up (up (aU _ rfl))
 have g3:(zF s.heap t1 t2 t3).get? (zB s.heap t1 t2).objs.size=some _:=up (up (up (aU _ rfl)))
 have g2:(zF s.heap t1 t2 t3).get? (zA s.heap t1).objs.size=some _:=up (up (up (up (aU _ rfl))))
 have g1:(zF s.heap t1 t2 t3).get? s.heap.objs.size=some _:=up (up (up (up (up (aU _ rfl)))))
 show _/\_
 rw[s3,s4,s5] at g6
 rw[s1,s2,s3] at g4
 rw[s4] at g5
 rw[s2] at g3
 rw[s1] at g2
 rw[s5]
 exact⟨⟨_,g6,rfl⟩,k _ g6 g4 g5 ⟨_,g1,rfl,rfl⟩ ⟨_,g2,rfl,rfl⟩ ⟨_,g3,rfl,rfl⟩ λb o e=>up (up (up (up (up (up e)))))⟩
end
section
variable {P:adm} {w:adp} {A:adj} {E:ado->adn->Prop} {s:adn}
theorem JP{z T O j1 j2 j3 t1 t2 t3:adi}{i:Nat}{v1 v2 v3:Array ado}{u1 u2 u3 a b c:ado}{Q:Option ado->adn->Prop}(D:Zd z T O j1 j2 j3 t1 t2 t3)(hz:IsZip s.heap z T O .none)(hT:pA s.heap T (.ref j1) (.ref j2) (.ref j3))(hO:pA s.heap O a b c)
  (h1:s.heap.IsTupleIter j1 t1 i)(h2:s.heap.IsTupleIter j2 t2 i)(h3:s.heap.IsTupleIter j3 t3 i)(w1:s.heap.IsTuple t1 v1)(w2:s.heap.IsTuple t2 v2)(w3:s.heap.IsTuple t3 v3)(e1:v1[i]? =some u1)(e2:v2[i]? =some u2)(e3:v3[i]? =some u3)
  (k:∀g,IsZip g z T O (rawInt s.heap.objs.size)->pA g O u1 u2 u3->g.IsTupleIter j1 t1 (i+1)->g.IsTupleIter j2 t2 (i+1)->g.IsTupleIter j3 t3 (i+1)->pA g s.heap.objs.size u1 u2 u3->g.objs.size=s.heap.objs.size+1->
   (∀y o,y∉[z,O,j1,j2,j3]->s.heap.get? y=some o->g.get? y=some o)->Q (some (.ref s.heap.objs.size)) { s with heap:=g }):adC (model P w) A (pyNext (.ref z)) Q E s:=by
 have ty:s.TypeIs (.ref z) "zip":=⟨_,hz,rfl⟩
 unfold pyNext
 refine adD (wpAny_attempt (wpAny_callSpecial?_slot (name:=gn "__next__") ty yp (wpAny_call_entry yp ty F.entry_zip_next ?_ (F.args_zip_next_1 _))))
 exact B6 D hz hT hO h1 h2 h3 w1 w2 w3 e1 e2 e3 λg a1 a2 a3 a4 a5 a6 a7 a8=>adJ (k g a1 a2 a3 a4 a5 a6 a7 a8)
theorem Fh{z T O j1 j2 j3 t1 t2 t3:adi}{i:Nat}{v1:Array ado}{a b c:ado}{Q:Option ado->adn->Prop}(hh:A.handled=none)(D:Zd z T O j1 j2 j3 t1 t2 t3)(hz:IsZip s.heap z T O .none)(hT:pA s.heap T (.ref j1) (.ref j2) (.ref j3))(hO:pA s.heap O a b c)
  (h1:s.heap.IsTupleIter j1 t1 i)(w1:s.heap.IsTuple t1 v1)(e1:v1[i]? =none)
  (k:∀g,(∀y o,y∉[z,O,j1,j2,j3]->s.heap.get? y=some o->g.get? y=some o)->Q none { s with heap:=g }):adC (model P w) A (pyNext (.ref z)) Q E s:=by
 have ty:s.TypeIs (.ref z) "zip":=⟨_,hz,rfl⟩
 unfold pyNext
 refine adD (wpAny_attempt (wpAny_callSpecial?_slot (name:=gn "__next__") ty yp (wpAny_call_entry yp ty F.entry_zip_next ?_ (F.args_zip_next_1 _))))
 refine Fe hh D hz hT hO h1 w1 e1 λg e kp he=>?_
 obtain⟨o,q,c⟩:=he
 exact adD (wpAny_isInstance (T:="StopIteration") (b:=true) ⟨o,q,c⟩ isSubtype_stop (adJ (k g kp)))
end
def Yx(t1 t2 t3:adi):It :=
 ⟨λi H=>∃xs ys zs x y z,H t1=some (.tup xs)/\H t2=some (.tup ys)/\H t3=some (.tup zs)/\xs[i]? =some x/\ys[i]? =some y/\zs[i]? =some z,
  λi H v H'=>∃p,v= .ref p/\H p=none/\∃xs ys zs x y z,H t1=some (.tup xs)/\H t2=some (.tup ys)/\H t3=some (.tup zs)/\xs[i]? =some x/\ys[i]? =some y/\zs[i]? =some z/\H'=upd H p (.tup [x,y,z]),
  λi H=>∃xs,H t1=some (.tup xs)/\xs.length<=i⟩
def LC(z T O j1 j2 j3 t1 t2 t3:adi)(i:Nat)(h:Heap):Prop:=IsZip h z T O .none/\pA h T (.ref j1) (.ref j2) (.ref j3)/\(∃a b c,pA h O a b c)/\h.IsTupleIter j1 t1 i/\h.IsTupleIter j2 t2 i/\h.IsTupleIter j3 t3 i
theorem Fi{b z T O j1 j2 j3:adi}(h:b∈[z,O,j1,j2,j3]):b∈[z,T,O,j1,j2,j3]:=(List.mem_cons.mp h).elim (λe=>e ▸ aK) λh=>aJ _ (aJ _ h)
theorem Fj{P:adm}{w:adp}{K:PySem.W.Frag}{es:List Expr}{kt:Nat}{pt:Pos}{z T O j1 j2 j3 t1 t2 t3:adi}(nd:[z,T,O,j1,j2,j3].Nodup):Turn P w K (.Tuple es kt pt) (Yx t1 t2 t3) [z,T,O,j1,j2,j3] z (LC z T O j1 j2 j3 t1 t2 t3) where
 mem:=by simp
 obj:=λi h st b hb=>by
  obtain⟨a1,a2,⟨a,b',c,a3⟩,⟨o1,q1,_,d1⟩,⟨o2,q2,_,d2⟩,⟨o3,q3,_,d3⟩⟩:=st
  simp only[bM,bP,or_false] at hb
  rcases hb with rfl | rfl | rfl | rfl | rfl | rfl
  ·exact⟨_,a1,λv z=>by cases z⟩
  ·exact⟨_,a2,λv z=>by cases z⟩
  ·exact⟨_,a3,λv z=>by cases z⟩
  ·exact⟨o1,q1,λv z=>by rw[d1] at z;cases z⟩
  ·exact⟨o2,q2,λv z=>by rw[d2] at z;cases z⟩
  ·exact⟨o3,q3,λv z=>by rw[d3] at z;cases z⟩
 keep:=λi h h' st k=>by
  obtain⟨a1,a2,⟨a,b,c,a3⟩,⟨o1,q1,r1⟩,⟨o2,q2,r2⟩,⟨o3,q3,r3⟩⟩:=st
  exact⟨k z (by simp) _ a1,k T (by simp) _ a2,⟨a,b,c,k O (by simp) _ a3⟩,⟨o1,k j1 (by simp) _ q1,r1⟩,⟨o2,k j2 (by simp) _ q2,r2⟩,⟨o3,k j3 (by simp) _ q3,r3⟩⟩
 item:=by
  intro X hP hw hK hc i pins s σ H E I hf st hg
  subst hP hw hK
  obtain⟨xs,ys,zs,x,y,v,H1,H2,H3,x1,x2,x3⟩:=hg
  obtain⟨i1,r1,p1,_⟩:=I.tuple (fb.of H1)
  obtain⟨i2,r2,p2,_⟩:=I.tuple (fb.of H2)
  obtain⟨i3,r3,p3,_⟩:=I.tuple (fb.of H3)
  obtain⟨u1,e1,m1⟩:=r1.get x1
  obtain⟨u2,e2,m2⟩:=r2.get x2
  obtain⟨u3,e3,m3⟩:=r3.get x3
  obtain⟨a1,a2,⟨a,b,c,a3⟩,a4,a5,a6⟩:=st
  have no:∀{t:adi}{ws:List V},H t=some (.tup ws)->t∉[z,O,j1,j2,j3]:=λ{t ws} q hb=>by
   have n:=(hf t (Fi hb)).1
   rw[q] at n;cases n
  refine JP ⟨nd,no H1,no H2,no H3⟩ a1 a2 a3 a4 a5 a6 p1 p2 p3 (by simpa using e1) (by simpa using e2) (by simpa using e3) λg b1 b2 b3 b4 b5 b6 b7 b8=>?_
  refine⟨.ref s.heap.objs.size,rfl,?_⟩
  refine wpAny_letOwnedTupleGo_zip b1 λh2 c1 sb=>?_
  have hfr:H s.heap.objs.size=none:=I.hok.fresh (aj _)
  have Yy:=nd
  simp only[jj,bM,bP,or_false,not_or,eP,and_true,not_false_eq_true] at Yy
  obtain⟨⟨zT,zO,z1,z2,z3⟩,⟨TO,T1,T2,T3⟩,_⟩:=Yy
  have lt:∀b o,s.heap.get? b=some o->b≠s.heap.objs.size:=λb o q=>aX (aF q)
  have R4:z≠s.heap.objs.size:=lt _ _ a1
  have kp:∀b o,b∉[z,O,j1,j2,j3]->s.heap.get? b=some o->h2.get? b=some o:=λb o hb q=>sb.extBut _ _ (λe=>hb (by simp[e])) (b8 b o hb q)
  have R7:∀b u,H b=some u->b∉[z,O,j1,j2,j3]:=λb u q hb=>by
   have n:=(hf b (Fi hb)).1
   rw[q] at n;cases n
  have yq:∀b,b∉[z,T,O,j1,j2,j3]->b∉[z,O,j1,j2,j3]:=λb h hb=>h (Fi hb)
  have kt:∀b u,H b=some u->b≠s.heap.objs.size:=λb u q=>aT q hfr
  have Tn:h2.get? s.heap.objs.size=some { cls:=.type "tuple",data:=.seq #[u1,u2,u3] }:=sb.extBut _ _ (ay R4) b6
  have fpz:∀b∈[z,T,O,j1,j2,j3],b≠s.heap.objs.size:=λb hb=>by
   simp only[bM,bP,or_false] at hb
   rcases hb with rfl | rfl | rfl | rfl | rfl | rfl
   ·exact R4
   ·exact lt _ _ a2
   ·exact lt _ _ a3
   ·obtain⟨o,q,_⟩:=a4;exact lt _ _ q
   ·obtain⟨o,q,_⟩:=a5;exact lt _ _ q
   ·obtain⟨o,q,_⟩:=a6;exact lt _ _ q
  have at':∀{j t:adi}{n:Nat},j≠z->g.IsTupleIter j t n->h2.IsTupleIter j t n:=λn ⟨o,q,r⟩=>⟨o,sb.extBut _ _ n q,r⟩
  refine⟨.ref s.heap.objs.size,upd H s.heap.objs.size (.tup [x,y,v]),?_,rfl,⟨s.heap.objs.size,rfl,hfr,xs,ys,zs,x,y,v,H1,H2,H3,x1,x2,x3,rfl⟩,⟨c1,?_,⟨u1,u2,u3,sb.extBut _ _ (ay zO) b2⟩,at' (ay z1) b3,at' (ay z2) b4,at' (ay z3) b5⟩,λb hb=>?_⟩
  ·refine I.zw (s':={ s with heap:=h2 }) (ch:=[z,T,O,j1,j2,j3]) rfl ?_ ?_ I.bare (λb hb=>⟨(hf b hb).2.2.2.1,(hf b hb).2.1,(hf b hb).2.2.2.2.1,(hf b hb).2.2.2.2.2⟩)
   ·refine⟨λb o q _ _ hx=>kp b o (yq b hx) q,λb o q _ _ hx=>⟨o.slots,kp b o (yq b hx) q⟩,λb o q n _=>by rw[au (lt b o q)];exact n,λb o q hx=>⟨o,kp b o (yq b hx) q⟩,λb ys q=>by rw[au (kt b _ q)];exact q,λb o y q=>by rw[au (kt b _ q)];exact q,λb ps q=>⟨#[],by rw[au (kt b _ q),q];simp⟩⟩
   ·intro b o q
    by_cases hb:b=s.heap.objs.size
    ·subst hb
     rw[aP] at q
     cases q
     exact⟨by show 3<=adA;decide,[u1,u2,u3],.cons m1 (.cons m2 (.cons m3 .nil)),⟨_,Tn,rfl,0,rfl⟩,λo q=>by rw[Tn] at q;cases q;rfl⟩
    ·rw[au hb] at q
     refine(I.hok b o q).stay (λc v hc g=>?_) (λc g=>by rw[au (kt c _ g)];exact g) λc ys g=>by rw[au (kt c _ g)];exact g
     rcases hc with e | e
     ·subst e;exact kp _ _ (R7 _ _ q) g
     ·exact kp _ _ (R7 _ _ e) g
  ·refine kp T _ ?_ a2
   simp only[bM,bP,or_false,not_or]
   exact⟨ay zT,TO,T1,T2,T3⟩
  ·rw[au (fpz b hb)];exact(hf b hb).1
 done:=by
  intro X hP hw hK hc i pins s σ H E I hf st hg
  subst hP hw hK
  obtain⟨xs,H1,hl⟩:=hg
  obtain⟨i1,r1,p1,_⟩:=I.tuple (fb.of H1)
  obtain⟨a1,a2,⟨a,b,c,a3⟩,a4,a5,a6⟩:=st
  have no:t1∉[z,O,j1,j2,j3]:=λhb=>by
   have n:=(hf t1 (by simp only[bM,bP,or_false] at hb ⊢;rcases hb with h | h | h | h | h<;>simp[h])).1
   rw[H1] at n;cases n
  have hlen:=r1.length
  have R7:∀b u,H b=some u->b∉[z,O,j1,j2,j3]:=λb u q hb=>by
   have n:=(hf b (Fi hb)).1
   rw[q] at n;cases n
  have yq:∀b,b∉[z,T,O,j1,j2,j3]->b∉[z,O,j1,j2,j3]:=λb h hb=>h (Fi hb)
  refine Fh (I.ok.hd hc) (t2:=t1) (t3:=t1) ⟨nd,no,no,no⟩ a1 a2 a3 a4 p1 (by simp;omega) λg kp=>⟨rfl,?_⟩
  refine I.zw (s':={ s with heap:=g }) (ch:=[z,T,O,j1,j2,j3]) rfl ?_ ?_ I.bare (λb hb=>⟨(hf b hb).2.2.2.1,(hf b hb).2.1,(hf b hb).2.2.2.2.1,(hf b hb).2.2.2.2.2⟩)
  ·exact⟨λb o q _ _ hx=>kp b o (yq b hx) q,λb o q _ _ hx=>⟨o.slots,kp b o (yq b hx) q⟩,λb o q n _=>n,λb o q hx=>⟨o,kp b o (yq b hx) q⟩,λb ys q=>q,λb o y q=>q,λb ps q=>⟨#[],by rw[q];simp⟩⟩
  ·intro b o q
   refine(I.hok b o q).stay (λc v hc g=>?_) (λc g=>g) λc ys g=>g
   rcases hc with e | e
   ·subst e;exact kp _ _ (R7 _ _ q) g
   ·exact kp _ _ (R7 _ _ e) g
 self:=λ_ _ _ _ _ st h=>wpAny_pyIter_zip st.1 h
section
variable {X:Cx}
def VI(ta:TA):TI:=λσ H R=>ta σ H λvs H1=>∃t1 t2 t3 xs ys zs,vs=[.ref t1,.ref t2,.ref t3]/\H1 t1=some (.tup xs)/\H1 t2=some (.tup ys)/\H1 t3=some (.tup zs)/\R (Yx t1 t2 t3) H1
theorem R9{a b c:adi}{us:List ado}(r:Vals [.ref a,.ref b,.ref c] us):∃u v w,us=[u,v,w]/\u= .ref a/\v= .ref b/\w= .ref c:=by
 cases r with
 | cons r1 r=>
  cases r with
  | cons r2 r=>
   cases r with
   | cons r3 r=>
    cases r
    exact⟨_,_,_,rfl,r1,r2,r3⟩
theorem Ol{es:List Expr}{kt:Nat}{pt p q:Pos}{l:Expr}{ls:List Expr}{ta:TA}(hg:Gl X "zip")(hm:X.mg "zip"=none)(ha:PA X (l::ls) ta)(hst:adB (l::ls) X.env=(false,eval l X.env)::adB ls X.env)(hpl:(backTo q (adB ls X.env)).any (·.1)=false) :
  PI X (.Tuple es kt pt) (.Call (.Name "zip" p) (l::ls) [] q) (VI ta):=by
 intro pins s σ H R I h
 refine wpAny_Call_Name_kw (nr I hg hm boot_zip ?_)
 refine tL (bA (ha q pins s σ H _ I h) λus s1 ⟨vs,H1,I1,r1,q1⟩=>?_) hst hpl
 obtain⟨t1,t2,t3,xs,ys,zs,e,h1,h2,h3,k⟩:=q1
 subst e
 obtain⟨v1,v2,v3,rfl,rfl,rfl,rfl⟩:=R9 r1
 ·
  obtain⟨i1,_,p1,_⟩:=I1.tuple (fb.of h1)
  obtain⟨i2,_,p2,_⟩:=I1.tuple (fb.of h2)
  obtain⟨i3,_,p3,_⟩:=I1.tuple (fb.of h3)
  refine B7 p1 p2 p3 λg b1 b2 b3 b4 b5 b6 kp=>wpAny_pyIter_zip b1 ?_
  have nd:[s1.heap.objs.size+5,s1.heap.objs.size+3,s1.heap.objs.size+4,s1.heap.objs.size,s1.heap.objs.size+1,s1.heap.objs.size+2].Nodup:=by
   simp only[jj,bM,bP,or_false,not_or,eP,and_true,not_false_eq_true]
   refine⟨⟨?_,?_,?_,?_,?_⟩,⟨?_,?_,?_,?_⟩,⟨?_,?_,?_⟩,⟨?_,?_⟩,?_⟩<;>omega
  have zs:LC (s1.heap.objs.size+5) (s1.heap.objs.size+3) (s1.heap.objs.size+4) s1.heap.objs.size (s1.heap.objs.size+1) (s1.heap.objs.size+2) t1 t2 t3 0 g:=⟨b1,b2,⟨_,_,_,b3⟩,b4,b5,b6⟩
  have tz:=Fj (P:=X.prog) (w:=X.w) (K:=X.K) (es:=es) (kt:=kt) (pt:=pt) (t1:=t1) (t2:=t2) (t3:=t3) nd
  refine⟨s1.heap.objs.size+5,_,_,_,H1,rfl,I1.kept (t':=s1.toks) kp,tz,zs,λb hb=>?_,k⟩
  have ge:s1.heap.objs.size<=b:=by
   simp only[bM,bP,or_false] at hb
   rcases hb with rfl | rfl | rfl | rfl | rfl | rfl<;>omega
  exact I1.vm (pins:=pins) (H':=H1) (b:=b) ge (I1.hok.fresh ge)
def qD:List Wv->List Wv->List Wv->List Wv
 | a::as,b::bs,c::cs=> .tup [a,b,c]::qD as bs cs
 | _,_,_=>[]
theorem qE:∀{as bs cs:List Wv}{i:Nat},as.length<=bs.length->as.length<=cs.length->(h:i < as.length)->∃a b c,as[i]? =some a/\bs[i]? =some b/\cs[i]? =some c/\(qD as bs cs)[i]? =some (.tup [a,b,c])
 | a::as,b::bs,c::cs,0,_,_,_=>⟨a,b,c,rfl,rfl,rfl,rfl⟩
 | a::as,b::bs,c::cs,i+1,h1,h2,h=>by
  obtain⟨x,y,z,e⟩:=qE (as:=as) (bs:=bs) (cs:=cs) (i:=i) (by simpa using h1) (by simpa using h2) (by simpa using h)
  exact⟨x,y,z,by simpa [qD] using e⟩
 | [],_,_,_,_,_,h=>by simp at h
 | _::_,[],_,_,h,_,_=>by simp at h
 | _::_,_::_,[],_,_,h,_=>by simp at h
theorem wd:∀{as bs cs:List Wv},as.length<=bs.length->as.length<=cs.length->(qD as bs cs).length=as.length
 | a::as,b::bs,c::cs,h1,h2=>by simp only[qD,kM];rw[wd (by simpa using h1) (by simpa using h2)]
 | [],_,_,_,_=>by simp[qD]
 | _::_,[],_,h,_=>by simp at h
 | _::_,_::_,[],_,h=>by simp at h
def Om(ws:List Wv)(st:Hs):Re RT:=match ws with
 | [.tup as,.tup bs,.tup cs]=>if as.length<=bs.length/\as.length<=cs.length then .ok (none,qD as bs cs) st else .bad
 | _=> .bad
def sO(g:GA):JB:=λρ st=>(g ρ st).bind Om
theorem JQ{es:List Expr}{kt:Nat}{pt p q:Pos}{l:Expr}{ls:List Expr}{ga:GA}(hg:Gl X "zip")(hm:X.mg "zip"=none)(ha:JA X (l::ls) ga)(hst:adB (l::ls) X.env=(false,eval l X.env)::adB ls X.env)(hpl:(backTo q (adB ls X.env)).any (·.1)=false) :
  N_ X (.Tuple es kt pt) (.Call (.Name "zip" p) (l::ls) [] q) (sO ga):=by
 refine⟨_,Ol hg hm kc hst hpl,λρ st σ H m Q S R p=>?_⟩
 refine ha.go S R (aw.bind p) λws st1 vs m1 H1 p1 e1 S1 rs=>?_
 unfold Om at p1
 split at p1
 ·rename_i as bs cs
  by_cases c:as.length<=bs.length/\as.length<=cs.length
  ·rw[if_pos c] at p1
   obtain⟨w1,w2,w3,v1,v2,v3,e,rfl,r1,r2,r3⟩:=Od rs rfl
   cases e
   unfold ag at r1 r2 r3
   obtain⟨t1,xs,rfl,f1,g1⟩:=r1
   obtain⟨t2,ys,rfl,f2,g2⟩:=r2
   obtain⟨t3,zs,rfl,f3,g3⟩:=r3
   have len:=wd c.1 c.2
   refine⟨t1,t2,t3,xs,ys,zs,rfl,f1,f2,f3,p1 m1 H1 _ e1 S1 trivial ⟨λk H' m' st' e S' _ hk=>?_,λk H' m' st' e S' _ hk=>?_,λk hk H' v uo m' st' e S' _ y=>?_⟩⟩
   ·have hk':k < as.length:=by rw[<-len];exact hk
    obtain⟨a,b,c',q1,q2,q3,_⟩:=qE c.1 c.2 hk'
    obtain⟨x,y1,_⟩:=g1.get q1
    obtain⟨y,y2,_⟩:=g2.get q2
    obtain⟨z,y3,_⟩:=g3.get q3
    exact⟨xs,ys,zs,x,y,z,e.tup _ _ f1,e.tup _ _ f2,e.tup _ _ f3,y1,y2,y3⟩
   ·exact⟨xs,e.tup _ _ f1,by rw[<-g1.length,hk];exact mJ len.symm⟩
   ·have hk':k < as.length:=by rw[<-len];exact hk
    obtain⟨a,b,c',q1,q2,q3,q4⟩:=qE c.1 c.2 hk'
    obtain⟨x,y1,z1⟩:=(ah.mono e _ _ g1).get q1
    obtain⟨x',y2,z2⟩:=(ah.mono e _ _ g2).get q2
    obtain⟨x'',y3,z3⟩:=(ah.mono e _ _ g3).get q3
    obtain⟨p',rfl,fr,xs',ys',zs',a1,a2,a3,d1,d2,d3,d4,d5,d6,rfl⟩:=y
    rw[e.tup _ _ f1] at d1
    rw[e.tup _ _ f2] at d2
    rw[e.tup _ _ f3] at d3
    cases d1
    cases d2
    cases d3
    rw[y1] at d4
    rw[y2] at d5
    rw[y3] at d6
    cases d4
    cases d5
    cases d6
    have eU:Ext X.K m' H' m' (upd H' p' (.tup [x,x',x''])):=Ext.iG (.inl fr)
    refine⟨eU,S'.fresh fr,?_⟩
    have q5:(qD as bs cs)[k]'hk= .tup [a,b,c']:=by
     have:=cE hk
     rw[q4] at this
     exact(Option.some.inj this).symm
    show ag X.K m' (upd H' p' (.tup [x,x',x''])) ((qD as bs cs)[k]'hk) (.ref p')
    rw[q5]
    unfold ag
    exact⟨p',[x,x',x''],rfl,aP,ah.cons (ag.mono eU _ _ z1) (ah.cons (ag.mono eU _ _ z2) (ah.cons (ag.mono eU _ _ z3) ah.nil))⟩
  ·rw[if_neg c] at p1;exact aa p1
 ·exact aa p1
end
def VJ(lo c:Int)(n:Nat):It:=⟨λi _=>i < n,λi H v H'=>H'=H/\v= .int (lo+i * c),λi _=>n<=i⟩
theorem we{P:adm}{w:adp}{K:PySem.W.Frag}{tg:Expr}(it:adi)(lo c:Int)(n:Nat):Turn P w K tg (VJ lo c n) [it] it (λi h=>IsRangeIter h it (lo+(i:Nat) * c) ((n:Int) - (i:Nat)) c) where
 mem:=by simp
 obj:=λi h st b hb=>by
  have e:b=it:=by simpa using hb
  subst e
  exact⟨_,st,λv z=>by cases z⟩
 keep:=λi h h' st k=>k it (by simp) _ st
 item:=by
  intro X hP hw hK hc i pins s σ H E I hf st hg
  subst hP hw hK
  obtain⟨f0,f1,f2,f3,f4,f5⟩:=hf it (by simp)
  have W:=Walks.range (prog:=X.prog) (w:=X.w) (I.ok.hd hc) it lo c n
  refine W.item i s _ _ hg st λv h' tk hv st' kk=>?_
  obtain⟨t,rfl⟩:=hv
  have I1:Inv X pins σ H { s with heap:=h',toks:=tk }:=I.turned (λb o hb e=>kk b o (by simpa using hb) e) f0 f1 f3 f4 f5
  exact⟨_,rfl,pK (s:={ s with heap:=h',toks:=tk }) (n:="range_iterator") st' rfl rfl (by decide) ⟨.int (lo+i * c),H,I1,⟨t,rfl⟩,⟨rfl,rfl⟩,st',λb hb=>(hf b hb).1⟩⟩
 done:=by
  intro X hP hw hK hc i pins s σ H E I hf st hg
  subst hP hw hK
  obtain⟨f0,f1,f2,f3,f4,f5⟩:=hf it (by simp)
  exact wpAny_pyNext_range_end (I.ok.hd hc) st (by have:n<=i:=hg;omega) λh' eb=>⟨rfl,I.turned (t':=s.toks) (λb o hb e=>eb b o hb e) f0 f1 f3 f4 f5⟩
 self:=λ_ _ _ _ _ st h=>wpAny_pyIter_rangeiter st h
theorem B8(a b c:ado):checkTypeCall "range" ⟨[a,b,c],[]⟩=pure ():=by kernel_rfl
theorem B9(a b c:ado):checkBuiltinCall "range.__new__" ⟨[.type "range",a,b,c],[]⟩=pure ():=by kernel_rfl
def Dd(a b c:Int):Prop:=0<=a/\a < 2 ^ 30/\0<=b/\b < 2 ^ 30/\1<=c/\c < 2 ^ 30
instance {a b c}:Decidable (Dd a b c):=Ep _
def gT(a b c:Int):Nat:=(if a < b then(b - a - 1) / c+1 else 0).toNat
theorem B_{a b c:Int}(h:Dd a b c):tK a b c=gT a b c:=by
 obtain⟨h1,h2,h3,h4,h5,h6⟩:=h
 unfold tK gT
 rw[if_pos (by omega)]
 by_cases e:a < b
 ·rw[if_pos e]
  have:0<=(b - a - 1) / c:=Int.ediv_nonneg (by omega) (by omega)
  omega
 ·rw[if_neg e];rfl
theorem yt{a b c:Int}(h:Dd a b c):Oo a b c=true:=by
 obtain⟨h1,h2,h3,h4,h5,h6⟩:=h
 unfold Oo tK
 have d1:0<=(b - a - 1) / c\/¬a < b:=by
  by_cases e:a < b
  ·exact .inl (Int.ediv_nonneg (by omega) (by omega))
  ·exact .inr e
 have d2:a < b->(b - a - 1) / c<=b - a - 1:=λe=>Int.ediv_le_self _ (by omega)
 simp only[Builtin.Range.rangeFitsLong,cD,xX,decide_eq_true_eq,beq_iff_eq,show c > 0 by omega,if_true]
 split<;>omega
theorem R_{a b c:Int}(h:Dd a b c):Oq (b - a) c=false:=by
 obtain⟨h1,h2,h3,h4,h5,h6⟩:=h
 have e0:(c == 0)=false:=by rw[beq_eq_false_iff_ne];omega
 have e1:c.natAbs.log2 < 30:=(Nat.log2_lt (by omega)).mpr (by omega)
 have e2:c.natAbs.log2 / 30=0:=Nat.div_eq_of_lt e1
 simp[Oq,e0,e2]
theorem wg{P:adm}{w:adp}{A:adj}{E:ado->adn->Prop}{s:adn}{a b c:Int}{t u v:Tok}{Q:ado->adn->Prop}(h:Dd a b c)
  (k:Q (.ref s.heap.objs.size) { s with heap:=s.heap.push { cls:=.type "range",data:=.fields #[.int a t,.int b u,.int c v] } }):adC (model P w) A (call (.type "range") [.int a t,.int b u,.int c v]) Q E s:=by
 refine callType_new F.called_range (by decide) (B8 _ _ _) (B9 _ _ _) (λobj=>R6 obj _ _ _) F.entry_range_new (AutoRange.range___new___type_int_int_int_1 a b c t u v F.called_range.sub ?_) ⟨R_ h,⟨_,aU _ rfl,rfl⟩,k⟩
 have:c≠0:=by have:=h.2.2.2.2.1;omega
 simpa using this
section
variable {X:Cx} {tg:Expr}
def Sa(ta:TA):TI:=λσ H R=>ta σ H λvs H1=>∃a b c:Int,vs=[.int a,.int b,.int c]/\Dd a b c/\R (VJ a c (gT a b c)) H1
theorem ints3{a b c:Int}{us:List ado}(r:Vals [.int a,.int b,.int c] us):∃t u v,us=[.int a t,.int b u,.int c v]:=by
 cases r with
 | cons r1 r=>
  cases r with
  | cons r2 r=>
   cases r with
   | cons r3 r=>
    cases r
    obtain⟨t,rfl⟩:=r1
    obtain⟨u,rfl⟩:=r2
    obtain⟨v,rfl⟩:=r3
    exact⟨t,u,v,rfl⟩
theorem Ca{l:Expr}{ls:List Expr}{ta:TA}{p pos:Pos}(hg:Gl X "range")(hm:X.mg "range"=none)(ha:PA X (l::ls) ta)(hst:adB (l::ls) X.env=(false,eval l X.env)::adB ls X.env)(hpl:(backTo pos (adB ls X.env)).any (·.1)=false) :
  PI X tg (.Call (.Name "range" p) (l::ls) [] pos) (Sa ta):=by
 intro pins s σ H R I h
 refine wpAny_Call_Name_kw (nr I hg hm boot_range ?_)
 refine tL (bA (ha pos pins s σ H _ I h) λus s1 ⟨vs,H1,I1,r1,q1⟩=>?_) hst hpl
 obtain⟨a,b,c,rfl,hc,q⟩:=q1
 obtain⟨t,u,v,rfl⟩:=ints3 r1
 refine wg hc ?_
 refine wpAny_pyIter_range (IsRange.new ..) (yt hc) ?_
 have I2:Inv X pins σ H1 { s1 with heap:=s1.heap.push { cls:=.type "range",data:=.fields #[.int a t,.int b u,.int c v] } }:=I1.kept (t':=s1.toks) λb o e=>aL _ e
 refine⟨(s1.heap.push { cls:=.type "range",data:=.fields #[.int a t,.int b u,.int c v] }).objs.size,[(s1.heap.push { cls:=.type "range",data:=.fields #[.int a t,.int b u,.int c v] }).objs.size],_,_,H1,rfl,I2.kept (t':=s1.toks) λb o e=>aL _ e,we _ a c (gT a b c),?_,λy hy=>?_,q⟩
 ·have e1:a+((0:Nat):Int) * c=a:=by simp
  have e2:((gT a b c:Nat):Int) - ((0:Nat):Int)=tK a b c:=by rw[B_ hc];simp
  show IsRangeIter _ _ (a+((0:Nat):Int) * c) (((gT a b c:Nat):Int) - ((0:Nat):Int)) c
  rw[e1,e2]
  exact aU _ rfl
 ·have e:y=(s1.heap.push { cls:=.type "range",data:=.fields #[.int a t,.int b u,.int c v] }).objs.size:=by simpa using hy
  subst e
  exact I2.vm (aj _) (I2.hok.fresh (aj _))
def oM(lo c:Int)(n:Nat):List Wv:=(hU n).map λk:Nat=>Wv.int (lo+k * c)
theorem mW{lo c:Int}{n:Nat}:(oM lo c n).length=n:=by unfold oM;simp
theorem sP{lo c:Int}{n k:Nat}(h:k < n):(oM lo c n)[k]? =some (.int (lo+k * c)):=by
 unfold oM
 rw[eO,List.getElem?_range h]
 rfl
theorem Fl{lo c:Int}{n k:Nat}(h:k < (oM lo c n).length):(oM lo c n)[k]= .int (lo+k * c):=by
 have q:=sP (lo:=lo) (c:=c) (n:=n) (k:=k) (by rw[mW] at h;exact h)
 rw[cE h] at q
 exact Option.some.inj q
def qF(i:Nat)(ga:GA)(gb:GS):GS:=λρ st=>(ga ρ st).bA ρ λws st1=>match ws with
 | [.int a,.int b,.int c]=>if Dd a b c then dh i gb (oM a c (gT a b c)) ρ st1 else .bad
 | _=> .bad
theorem Fn(i:Nat){x:Str}{l:Expr}{ls:List Expr}{body:List Stmt}{ga:GA}{gb:GS}{pos pos' p q:Pos}(hN:X.N.Nodup)(hp:PassesOwn (model X.prog X.w) X.A X.env X.xe)(hc:X.calm=true)(hg:Gl X "range")(hm:X.mg "range"=none)(ha:JA X (l::ls) ga)(hb:p5 X body gb)
  (hx:X.N[i]? =some x)(hlo:Loc X.env.scope x)(Rx:X.fn x=true\/X.env.scope.names.lookup x=some .local)(hst:adB (l::ls) X.env=(false,eval l X.env)::adB ls X.env)(hpl:(backTo q (adB ls X.env)).any (·.1)=false) :
  JS X (.For (.Name x pos') (.Call (.Name "range" p) (l::ls) [] q) body [] pos) (qF i ga gb):=by
 refine JS.of (xD hp hc (Ca hg hm kc hst hpl) (oZ hN hx hlo Rx) jd (λ_=>rfl)) λρ st σ H m D S R p=>?_
 refine ha.go S R (bg.eB R p) λws st1 vs m1 H1 p1 e1 S1 rs=>?_
 split at p1
 ·rename_i a b c
  by_cases cc:Dd a b c
  ·rw[if_pos cc] at p1
   obtain⟨w1,w2,w3,v1,v2,v3,e,rfl,r1,r2,r3⟩:=Od rs rfl
   cases e
   cases bo r1
   cases bo r2
   cases bo r3
   refine⟨a,b,c,rfl,cc,mI (J':=VJ a c (gT a b c)) i hb S1 (R.mono e1) (bg.shift p1 e1) (λk H m' e hk=>by rw[mW] at hk;exact hk) (λk H m' e hk=>by rw[mW] at hk;exact mJ hk.symm) λk hk H x H' m' e y=>?_⟩
   obtain⟨y1,y2⟩:=y
   refine⟨y1,?_⟩
   rw[Fl,y2]
   exact mkInt
  ·rw[if_neg cc] at p1;exact aa p1
 ·exact aa p1
end
section
variable {X:Cx}
end
section
variable {X:Cx}
end
section
variable {X:Cx}
end
def lC(neg:Bool):fY:=λx y st=>match aG st 20 y,aG st 20 x with
 | some (.list ds),some d=> .ok (.bl ((ds.any λz=>aC z d) != neg)) st
 | some (.tuple ds),some d=> .ok (.bl ((ds.any λz=>aC z d) != neg)) st
 | _,_=> .bad
section
variable {X:Cx}
def Ot(K:PySem.W.Frag)(neg:Bool):R2:=λa b H Q=>∃m st x y d ds c,a_ K m st H/\ag K m H x a/\ag K m H y b/\aG st 20 y=some c/\(c= .list ds\/c= .tuple ds)/\aG st 20 x=some d/\Q (.bl ((ds.any λz=>aC z d) != neg)) H
theorem AA{ds:List PyData}{c:PyData}(h:c= .list ds\/c= .tuple ds)(k:c.canLay0=true):mv ds=true:=by
 rcases h with rfl | rfl<;>exact k
theorem Ou(hu:X.A.units+64 < cLine):fI X (adw .In) (Ot X.K false):=by
 intro pins s σ H a b v u Q I rx ry h
 obtain⟨m,st,x,y,d,ds,c,S,h1,h2,e1,hc,e2,q⟩:=h
 obtain⟨as,q1,q2,q3⟩:=cP I S 20 x a v d h1 rx e2
 obtain⟨bs,p1,p2,p3⟩:=cP I S 20 y b u c h2 ry e1
 have hd:X.A.units+1+min (gj ds) d.depth < cLine:=by
  have:=tP (gj ds) d.depth
  omega
 have e:∀t:Bool,(t != false)=t:=by decide
 rw[e] at q
 have ca:=AA hc p2
 rcases hc with rfl | rfl
 ·exact SeqAt.in_list_reads p1 q1 ca q2 hd ⟨.bl _,H,I,rfl,q⟩
 ·exact SeqAt.in_tuple_reads p1 q1 ca q2 hd ⟨.bl _,H,I,rfl,q⟩
theorem Cb(hu:X.A.units+64 < cLine):fI X (adw .NotIn) (Ot X.K true):=by
 intro pins s σ H a b v u Q I rx ry h
 obtain⟨m,st,x,y,d,ds,c,S,h1,h2,e1,hc,e2,q⟩:=h
 obtain⟨as,q1,q2,q3⟩:=cP I S 20 x a v d h1 rx e2
 obtain⟨bs,p1,p2,p3⟩:=cP I S 20 y b u c h2 ry e1
 have hd:X.A.units+1+min (gj ds) d.depth < cLine:=by
  have:=tP (gj ds) d.depth
  omega
 have e:∀t:Bool,(t != true)= !t:=by decide
 rw[e] at q
 have ca:=AA hc p2
 rcases hc with rfl | rfl
 ·exact SeqAt.notIn_list_reads p1 q1 ca q2 hd ⟨.bl _,H,I,rfl,q⟩
 ·exact SeqAt.notIn_tuple_reads p1 q1 ca q2 hd ⟨.bl _,H,I,rfl,q⟩
theorem Fp{neg:Bool}{x y:Wv}{a b:V}{st:Hs}{H:Hp}{m:Mp}{Q:VK}(S:a_ X.K m st H)(rx:ag X.K m H x a)(ry:ag X.K m H y b)(p:dI X.K m H (lC neg x y st) Q):Ot X.K neg a b H Q:=by
 unfold lC at p
 split at p
 ·rename_i ds d e1 e2
  exact⟨m,st,x,y,d,ds,_,S,rx,ry,e1,.inl rfl,e2,p _ m H Ext.refl S jW⟩
 ·rename_i ds d e1 e2
  exact⟨m,st,x,y,d,ds,_,S,rx,ry,e1,.inr rfl,e2,p _ m H Ext.refl S jW⟩
 ·exact aa p
theorem Fq(hu:X.A.units+64 < cLine):kO X (adw .In) (lC false):=⟨_,Ou hu,λx y a b st H m Q S rx ry p=>Fp S rx ry p⟩
theorem sQ(hu:X.A.units+64 < cLine):kO X (adw .NotIn) (lC true):=⟨_,Cb hu,λx y a b st H m Q S rx ry p=>Fp S rx ry p⟩
end
section
variable {prog:adm} {w:adp} {A:adj} {E:ado->adn->Prop} {s:adn}
end
section
variable {X:Cx} {tg:Expr}
end
section
variable {X:Cx} {a b c d:Expr} {pos:Pos}
end
section
variable {X:Cx} {pins:List (adi×Obj)} {σ:St} {E:ado->adn->Prop} {p:adi}
end
section
variable {X:Cx} {pos:Pos}
end
def getD(d k:Wv)(st:Hs):Option Wv:=match d with
 | .ref l=>(match st[l]? with
  | some (.dct kvs)=>(match keyOf k with | some kk=>bJ kvs kk | none=>none)
  | some (.gw kvs)=>(match nJ k with | some kk=>bJ kvs kk | none=>none)
  | some (.lR kvs)=>(match nJ k with | some kk=>bJ kvs kk | none=>none)
  | _=>none)
 | _=>none
def LD(d k:Wv)(st:Hs):Re Wv:=match getD d k st with
 | some w=> .ok w st
 | none=> .bad
def fM(gd gk:GE):GE:=λρ st=>(gd ρ st).bind λd st1=>(gk ρ st1).bind λk st2=>LD d k st2
section
variable {X:Cx}
theorem JR{m:Mp}{st:Hs}{H:Hp}{d k w:Wv}{x y:V}(S:a_ X.K m st H)(rd:ag X.K m H d x)(rk:ag X.K m H k y)(e:getD d k st=some w):∃a v,x= .ref a/\oI H a y (some v)/\ag X.K m H w v:=by
 unfold getD at e
 cases d with
 | ref l=>
  dsimp only at e
  unfold ag at rd
  obtain⟨a,rfl,ha⟩:=rd
  cases e1:st[l]? with
  | none=>rw[e1] at e;cases e
  | some o=>
   rw[e1] at e
   cases o with
   | dct kvs=>
    dsimp only at e
    cases e2:keyOf k with
    | none=>rw[e2] at e;cases e
    | some kk=>
     rw[e2] at e
     obtain⟨xs,h1,h2⟩:=(show ∃ys,H a=some (.dK ys)/\RelK X.K m H kvs ys from S.obj _ _ _ ha e1)
     obtain⟨u,j1,j2⟩:=(h2.val kk).2 w e
     exact⟨a,u,rfl,by rw[nG rk e2,<-j1];exact oI.k h1,j2⟩
   | gw kvs=>
    dsimp only at e
    cases e2:nJ k with
    | none=>rw[e2] at e;cases e
    | some kk=>
     rw[e2] at e
     obtain⟨xs,h1,h2⟩:=(show ∃ys,H a=some (.dT ys)/\RelK X.K m H kvs ys from S.obj _ _ _ ha e1)
     obtain⟨b,rfl,hb⟩:=mT rk e2
     obtain⟨u,j1,j2⟩:=(h2.val kk).2 w e
     exact⟨a,u,rfl,by rw[<-j1];exact oI.t h1 hb,j2⟩
   | lR kvs=>
    dsimp only at e
    cases e2:nJ k with
    | none=>rw[e2] at e;cases e
    | some kk=>
     rw[e2] at e
     obtain⟨o,xs,h1,h2⟩:=(show ∃o ys,H a=some (.gH o (.dT ys))/\RelK X.K m H kvs ys from S.obj _ _ _ ha e1)
     obtain⟨b,rfl,hb⟩:=mT rk e2
     obtain⟨u,j1,j2⟩:=(h2.val kk).2 w e
     exact⟨a,u,rfl,by rw[<-j1];exact .inr ⟨xs,kk,b,.inr ⟨o,h1⟩,rfl,hb,rfl⟩,j2⟩
   | _=>cases e
 | _=>cases e
theorem JU{o i:Expr}{go gi:GE}{pos:Pos}(hu:X.A.units+1 < cLine)(ho:JE X o go)(hi:JE X i gi)(hs:DK i):JE X (.Subscript o i pos) (fM go gi) :=
 JE.of (ID hu aV aV hs) λρ st σ H m Q S R p=>by
  refine ho.go S R (aw.bind p) λd st1 v m1 H1 p1 e1 S1 rd=>?_
  refine hi.go S1 (R.mono e1) ((aw.bind p1).imp e1 λ_ _ q=>q) λk st2 u m2 H2 p2 e2 S2 rk=>?_
  unfold LD at p2
  cases e:getD d k st2 with
  | none=>rw[e] at p2;exact aa p2
  | some w=>
   rw[e] at p2
   obtain⟨a,v',ex,g,rw'⟩:=JR (X:=X) S2 (ag.mono e2 _ _ rd) rk e
   exact⟨a,v',ex,g,p2 v' m2 H2 (e1.trans e2) S2 rw'⟩
end
section
variable {X:Cx} {pins:List (adi×Obj)} {σ:St} {H:Hp} {s:adn} {a:adi} {xs:List (List L2.Key×V)}
theorem Ov(I:Inv X pins σ H s)(e:H a=some (.dT xs)):∃o,s.heap.get? a=some o/\Inv X pins σ (upd H a (.gH o (.dT xs))) s:=by
 obtain⟨z,lo,ys,kt,o,es,ep,g1,g2,g3,g4,g5⟩:=id (I.hok a _ e)
 refine⟨o,g1,pb (t':=s.toks) (h':=s.heap) I (by rw[e];exact hZ) (Heap.SameBut.refl _ _) ⟨o,g1⟩ ⟨g1,z,lo,ys,KT.keeps kt λc zs ec=>?_,o,es,ep,g1,g2,g3,g4,g5⟩⟩
 rw[au (Dh ec e (λz=>nomatch z))]
 exact ec
theorem JV{o:Obj}(I:Inv X pins σ H s)(e:H a=some (.gH o (.dT xs)))(n:∀o u,X.H₀ a≠some (.gH o u)):Inv X pins σ (upd H a (.dT xs)) s:=by
 have ne:∀{b:adi},H b=none->b≠a:=λh z=>by rw[z,e] at h;cases h
 have g:=I.base
 have ow:∀c b,H c=some (.own b)->upd H a (.dT xs) c=some (.own b):=λc b q=>by
  rw[au (λz=>by rw[z,e] at q;cases q)];exact q
 have tu:∀c ys,H c=some (.tup ys)->upd H a (.dT xs) c=some (.tup ys):=λc ys q=>by
  rw[au (λz=>by rw[z,e] at q;cases q)];exact q
 refine⟨I.ok,I.os,I.bare,⟨g.keep,g.slot,λb ob q h hx=>?_,g.there,λb ys q=>tu b ys (g.tups b ys q),λb ob u q=>?_,λb ps q=>?_⟩,I.loc,I.cell,?_,λy c q=>?_,λp hp=>?_,λb u q=>?_,I.len⟩
 ·have h1:=g.free b ob q h hx
  rw[au (ne h1)];exact h1
 ·rw[au (λz=>n ob u (by rw[<-z];exact q))];exact g.mw b ob u q
 ·obtain⟨m,h1⟩:=g.oG b ps q
  exact⟨m,by rw[au (λz=>by rw[z,e] at h1;cases h1)];exact h1⟩
 ·rw[au (ne I.free)];exact I.free
 ·rw[au (ne (I.jL y c q))];exact I.jL y c q
 ·obtain⟨p1,p2,p3⟩:=I.pin p hp
  exact⟨p1,by rw[au (ne p2)];exact p2,p3⟩
 ·by_cases hb:b=a
  ·subst hb
   rw[aP] at q
   cases q
   exact cO.stay (I.hok b _ e).2 (λc v _ q=>q) (λc q=>ow c _ q) tu
  ·rw[au hb] at q
   exact(I.hok b u q).stay (λc v _ q=>q) (λc q=>ow c _ q) tu
end
section
variable {K:PySem.W.Frag} {m:Mp} {st:Hs} {H:Hp}
theorem RelK.dG{κ:Type}{m1:Mp}{H1:Hp}{kvs:List (κ×Wv)}{xs:List (κ×V)}(e:vz K m H m1 H1)(h:RelK K m H kvs xs):RelK K m1 H1 kvs xs:=⟨h.1,ah.dG e _ _ h.2⟩
theorem sR{a:adi}{o:Obj}{xs:List (List L2.Key×V)}(e:H a=some (.gH o (.dT xs))):vz K m H m (upd H a (.dT xs)) :=
 ⟨λ_ _ h=>h,λb ys q=>by rw[au (λz=>by rw[z,e] at q;cases q)];exact q,λb φ q=>by rw[au (λz=>by rw[z,e] at q;cases q)];exact q,λb ob φ q=>by rw[au (λz=>by rw[z,e] at q;cases q)];exact q⟩
theorem a_.Ow{l:Nat}{a:adi}{o:Obj}{kvs:List (List L2.Key×Wv)}{xs:List (List L2.Key×V)}(S:a_ K m st H)(h1:m[l]? =some a)(h2:st[l]? =some (.lR kvs))(e:H a=some (.gH o (.dT xs))):a_ K m (st.set l (.gw kvs)) (upd H a (.dT xs)):=by
 have ez:=sR (K:=K) (m:=m) e
 have hl:l < st.length:=(List.getElem?_eq_some_iff.mp h2).1
 have at':∀(k:Nat)(ob:Ob),(st.set l (.gw kvs))[k]? =some ob->(k=l/\ob= .gw kvs)\/(k≠l/\st[k]? =some ob):=λk ob h=>by
  by_cases z:l=k
  ·subst z
   rw[nk hl] at h
   exact .inl ⟨rfl,(Option.some.inj h).symm⟩
  ·rw[a9 z] at h
   exact .inr ⟨λz'=>z z'.symm,h⟩
 refine⟨by simp[S.len],λk b ob g1 g2=>?_,λk k' b us us' g1 C7 g2 Q4 q q'=>?_,S.tab.keep (λc ps q=>?_) ez.ext⟩
 ·rcases at' k ob g2 with ⟨rfl,rfl⟩ | ⟨hk,g2⟩
  ·rw[h1] at g1
   cases g1
   obtain⟨o',xs',r1,r2⟩:=(show ∃o' xs',H a=some (.gH o' (.dT xs'))/\RelK K m H kvs xs' from S.obj _ _ _ h1 h2)
   rw[e] at r1
   cases r1
   exact⟨xs,aP,r2.dG ez⟩
  ·have q:=S.obj k b ob g1 g2
   have nb:ob.mu=true->b≠a:=λhm z=>hk (S.inj k l b ob _ g1 (z ▸ h1) g2 h2 hm rfl)
   cases ob with
   | lst ws=>obtain⟨ys,e1,e2⟩:=q;exact⟨ys,by rw[au (nb rfl)];exact e1,ah.dG ez _ _ e2⟩
   | dct ws=>obtain⟨ys,e1,e2⟩:=q;exact⟨ys,by rw[au (nb rfl)];exact e1,e2.dG ez⟩
   | gw ws=>obtain⟨ys,e1,e2⟩:=q;exact⟨ys,by rw[au (nb rfl)];exact e1,e2.dG ez⟩
   | iU ws=>obtain⟨ys,e1,e2⟩:=q;exact⟨ys,by rw[au (nb rfl)];exact e1,e2.dG ez⟩
   | lR ws=>obtain⟨o',ys,e1,e2⟩:=q;exact⟨o',ys,by rw[au (nb rfl)];exact e1,e2.dG ez⟩
   | DR ws=>obtain⟨o',ys,e1,e2⟩:=q;exact⟨o',ys,by rw[au (nb rfl)];exact e1,e2.dG ez⟩
   | sj ns=>
    rcases q with ⟨o',q⟩ | q
    ·exact .inl ⟨o',by rw[au (λz=>by rw[z,e] at q;cases q)];exact q⟩
    ·exact .inr q
 ·have back:∀(k:Nat)(ob:Ob),(st.set l (.gw kvs))[k]? =some ob->ob.mu=true->∃o',st[k]? =some o'/\o'.mu=true:=λk ob h ho=>by
   rcases at' k _ h with ⟨rfl,_⟩ | ⟨_,h⟩
   ·exact⟨_,h2,rfl⟩
   ·exact⟨ob,h,ho⟩
  obtain⟨u1,f1,f2⟩:=back k us g2 q
  obtain⟨u2,f3,f4⟩:=back k' us' Q4 q'
  exact S.inj k k' b u1 u2 g1 C7 f1 f3 f2 f4
 ·rw[au (λz=>by rw[z,e] at q;cases q)];exact q
theorem aA.dG{m1:Mp}{H1:Hp}{ρ:bw}{σ:St}(R:aA K m H ρ σ)(e:vz K m H m1 H1):aA K m1 H1 ρ σ:=⟨R.len,λi w h=>let ⟨v,h1,h2⟩:=R.get i w h;⟨v,h1,ag.dG e _ _ h2⟩⟩
theorem Ext.Ow{m1:Mp}{H1:Hp}{a:adi}{xs ys:List (List L2.Key×V)}(e:Ext K m H m1 H1)(h:H a=some (.dT xs)):Ext K m H m1 (L2.upd H1 a (.dT ys)) :=
 ⟨e.pre,λb zs q=>by rw[au (λz=>by rw[z,h] at q;cases q)];exact e.tup b zs q,λb φ q=>by rw[au (λz=>by rw[z,h] at q;cases q)];exact e.ext b φ q,λb o u q=>by rw[au (λz=>by rw[z,h] at q;cases q)];exact e.gH b o u q⟩
end
def oq(l:Nat)(st:Hs):Hs:=match st[l]? with
 | some (.lR kvs)=>st.set l (.gw kvs)
 | _=>st
def ou(w:Option (Option Wv))(st:Hs):Option Nat:=match w with
 | some (some (.ref l))=>(match st[l]? with | some (.gw _)=>some l | _=>none)
 | _=>none
def wj(i:Nat)(g:GS):GS:=λρ st=>match ou ρ[i]? st with
 | some l=>(match g ρ st with | .nx ρ' st'=> .nx ρ' (oq l st') | r=>r)
 | none=>g ρ st
def jl(i:Nat)(g:GE):GE:=λρ st=>match ou ρ[i]? st with
 | some l=>(match g ρ st with | .ok w st'=> .ok w (oq l st') | r=>r)
 | none=>g ρ st
section
variable {X:Cx}
theorem wk{ρ:bw}{st:Hs}{σ:St}{H:Hp}{m:Mp}{i l:Nat}(S:a_ X.K m st H)(R:aA X.K m H ρ σ)(h:ou ρ[i]? st=some l):∃a xs,m[l]? =some a/\H a=some (.dT xs):=by
 unfold ou at h
 split at h
 ·rename_i k e
  obtain⟨v,_,r⟩:=R.get i _ e
  unfold ag at r
  obtain⟨a,rfl,ha⟩:=r
  split at h
  ·rename_i kvs e1
   cases h
   obtain⟨xs,h1,_⟩:=(show ∃ys,H a=some (.dT ys)/\RelK X.K m H kvs ys from S.obj _ _ _ ha e1)
   exact⟨a,xs,ha,h1⟩
  ·cases h
 ·cases h
theorem wo{pins:List (adi×Obj)}{s0 s':adn}{σ σ':St}{H H':Hp}{m m':Mp}{l:Nat}{a:adi}{xs:List (List L2.Key×V)}{st':Hs}(I:Inv X pins σ H s0)(h0:H a=some (.dT xs))(ha:m[l]? =some a)(e:Ext X.K m H m' H')(S:a_ X.K m' st' H')(I':Inv X pins σ' H' s') :
  ∃uo,Inv X pins σ' uo s'/\Ext X.K m H m' uo/\a_ X.K m' (oq l st') uo/\vz X.K m' H' m' uo:=by
 unfold oq
 have same:∃uo,Inv X pins σ' uo s'/\Ext X.K m H m' uo/\a_ X.K m' st' uo/\vz X.K m' H' m' uo:=⟨H',I',e,S,Ext.refl.z⟩
 split
 ·rename_i kvs e1
  obtain⟨o,ys,h1,_⟩:=(show ∃o ys,H' a=some (.gH o (.dT ys))/\RelK X.K m' H' kvs ys from S.obj _ _ _ (e.pre _ _ ha) e1)
  exact⟨_,JV I' h1 λo u q=>(by have z:=I.base.mw _ _ _ q;rw[h0] at z;cases z),e.Ow h0,S.Ow (e.pre _ _ ha) e1 h1,sR h1⟩
 ·exact same
theorem JX(i:Nat){Yz:Stmt}{g:GS}(h:JS X Yz g):JS X Yz (wj i g):=by
 intro ρ st σ H m D S R p
 unfold wj at p
 cases eo:ou ρ[i]? st with
 | none=>rw[eo] at p;exact h ρ st σ H m D S R p
 | some l=>
  rw[eo] at p
  dsimp only at p
  cases eg:g ρ st with
  | nx ρ' st'=>
   rw[eg] at p
   intro pins s I
   obtain⟨a,xs,ha,h0⟩:=wk S R eo
   have go:=h ρ st σ H m { D with nx:=λσ' H'=>∃m',Ext X.K m H m' H'/\a_ X.K m' st' H'/\aA X.K m' H' ρ' σ' } S R (by rw[eg];exact λσ' m' H' e' S' R'=>⟨m',e',S',R'⟩) pins s I
   refine adG go (λf s' q=>?_) λ_ _ z=>z
   cases f with
   | next=>
    obtain⟨σ',H',I',m',e',S',R'⟩:=q
    obtain⟨uo,I2,e2,S2,z2⟩:=wo I h0 ha e' S' I'
    exact⟨σ',uo,I2,p σ' m' uo e2 S2 (R'.dG z2)⟩
   | brk=>exact q
   | cont=>exact q
   | ret u=>exact q
  | rt w st'=>rw[eg] at p;exact h ρ st σ H m D S R (by rw[eg];exact p)
  | bk ρ' st'=>rw[eg] at p;exact h ρ st σ H m D S R (by rw[eg];exact p)
  | ct ρ' st'=>rw[eg] at p;exact h ρ st σ H m D S R (by rw[eg];exact p)
  | err c ρ' st'=>rw[eg] at p;exact h ρ st σ H m D S R (by rw[eg];exact p)
  | bad=>rw[eg] at p;exact aa p
theorem JY(i:Nat){e:Expr}{g:GE}(h:JE X e g):JE X e (jl i g):=by
 intro ρ st σ H m Q S R p
 unfold jl at p
 cases eo:ou ρ[i]? st with
 | none=>rw[eo] at p;exact h ρ st σ H m Q S R p
 | some l=>
  rw[eo] at p
  dsimp only at p
  cases eg:g ρ st with
  | ok w st'=>
   rw[eg] at p
   intro pins s I
   obtain⟨a,xs,ha,h0⟩:=wk S R eo
   have go:=h ρ st σ H m (λv H'=>∃m',Ext X.K m H m' H'/\a_ X.K m' st' H'/\ag X.K m' H' w v) S R (by rw[eg];exact λv m' H' e' S' r'=>⟨m',e',S',r'⟩) pins s I
   refine adG go (λu s' q=>?_) λ_ _ z=>z
   obtain⟨v,H',I',rv,m',e',S',r'⟩:=q
   obtain⟨uo,I2,e2,S2,z2⟩:=wo I h0 ha e' S' I'
   exact⟨v,uo,I2,rv,p v m' uo e2 S2 (ag.dG z2 _ _ r')⟩
  | err c st'=>rw[eg] at p;exact h ρ st σ H m Q S R (by rw[eg];exact p)
  | bad=>rw[eg] at p;exact aa p
end
def JZ(a:adi)(o:Obj)(xs:List (List L2.Key×V)):It :=
 ⟨λi H=>H a=some (.gH o (.dT xs))/\i < xs.length,λi H v H'=>H'=H/\∃k b,(xs[i]?).map (·.1)=some k/\v= .ref b/\H b=some (.tup (k.map kV)),λi H=>H a=some (.gH o (.dT xs))/\xs.length<=i⟩
theorem yu{H:Hp}:∀{xs:List (List L2.Key×V)}{ys:List (List L2.Key×adi×ado)},KT H xs ys->∀{i:Nat}{y:List L2.Key×adi×ado},ys[i]? =some y->∃x,xs[i]? =some x/\x.1=y.1/\H y.2.1=some (.tup (x.1.map kV))/\RelV x.2 y.2.2
 | _,_,.nil,i,y,h=>by cases h
 | _,_,.cons h t,0,y,e=>by cases e;exact⟨_,rfl,h⟩
 | _,_,.cons h t,i+1,y,e=>yu t (i:=i) e
theorem uA{P:adm}{w:adp}{H:Hp}{h:Heap}{a:adi}{o:Obj}{xs:List (List L2.Key×V)}(ok:jb P w H h)(e:H a=some (.gH o (.dT xs))) :
  ∃es ep,(a == sysModules)=false/\o.data= .dict es ep/\jZ h a es ep/\es.size=xs.length/\∀(i:Nat)(hi:i < es.size),∃x b,xs[i]? =some x/\es[i].key= .ref b/\H b=some (.tup (x.1.map kV))/\RelV x.2 es[i].val:=by
 obtain⟨ho,z,lo,ys,kt,o',es,ep,g1,g2,g3,g4,g5⟩:=ok a _ e
 rw[ho] at g1
 cases g1
 have len:es.size=ys.length:=by have:=congrArg dZ g4;simpa using this
 have Sb:xs.length=ys.length:=Paired.length kt
 refine⟨es,ep,lo,g3,⟨o,ho,g2.1,g3⟩,by omega,λi hi=>?_⟩
 have hi':i < ys.length:=by omega
 have q1:es[i]=entryOfKey (tupleKind (aY P w)) ys[i]:=by
  have:es.toList[i]? =(ys.map (entryOfKey (tupleKind (aY P w))))[i]?:=by rw[g4]
  rw[cE (by simpa using hi),eO,cE hi'] at this
  simpa using this
 obtain⟨x,e1,e2,e3,e4⟩:=yu kt (cE hi')
 exact⟨x,ys[i].2.1,e1,by rw[q1];rfl,e3,by rw[q1];exact e4⟩
theorem Cc{P:adm}{w:adp}{K:PySem.W.Frag}{tg:Expr}(a it:adi)(o:Obj)(xs:List (List L2.Key×V)):Turn P w K tg (JZ a o xs) [it] it (λi h=>∃es ep,o.data= .dict es ep/\h.IsKeyIter it a i es.size ep) where
 mem:=by simp
 obj:=λi h st b hb=>by
  obtain⟨es,ep,_,oi,q1,q2,q3⟩:=st
  have e:b=it:=by simpa using hb
  subst e
  exact⟨oi,q1,λv z=>by rw[q3] at z;cases z⟩
 keep:=λi h h' st k=>let ⟨es,ep,hd,ki⟩:=st;⟨es,ep,hd,ki.at λob q=>k it (by simp) ob q⟩
 self:=λ_ _ _ _ _ st h=>let ⟨_,_,_,ki⟩:=st;wpAny_pyIter_keyiter ki h
 item:=by
  intro X hP hw hK hc i pins s σ H E I hf st hg
  subst hP hw hK
  obtain⟨es,ep,hd,ki⟩:=st
  obtain⟨he,hi⟩:=hg
  obtain⟨es',Hz,lo,hd',raw,sz,keys⟩:=uA I.hok he
  rw[hd] at hd'
  cases hd'
  obtain⟨f0,f1,f2,f3,f4,f5⟩:=hf it (by simp)
  have hi':i < es.size:=by omega
  refine vZ ki raw hi' λh' Jy sb=>?_
  obtain⟨x,b,e1,e2,e3,_⟩:=keys i hi'
  have I1:Inv X pins σ H { s with heap:=h' }:=I.turned (t':=s.toks) (λc ob hc e=>sb.extBut c ob hc e) f0 f1 f3 f4 f5
  obtain⟨oi,q1,q2,q3⟩:=id Jy
  exact⟨es[i].key,rfl,pK (s:={ s with heap:=h' }) q1 q2 q3 (by decide) ⟨.ref b,H,I1,e2,⟨rfl,x.1,b,by rw[e1];rfl,rfl,e3⟩,⟨es,ep,hd,Jy⟩,λc hb=>(hf c hb).1⟩⟩
 done:=by
  intro X hP hw hK hc i pins s σ H E I hf st hg
  subst hP hw hK
  obtain⟨es,ep,hd,ki⟩:=st
  obtain⟨he,hi⟩:=hg
  obtain⟨es',Hz,lo,hd',raw,sz,keys⟩:=uA I.hok he
  rw[hd] at hd'
  cases hd'
  obtain⟨f0,f1,f2,f3,f4,f5⟩:=hf it (by simp)
  exact Ar (I.ok.hd hc) ki raw (by omega) λh' eb=>⟨rfl,I.turned (t':=s.toks) (λb ob hb e=>eb b ob hb e) f0 f1 f3 f4 f5⟩
section
variable {X:Cx} {tg:Expr}
def Sd(te:TE):TI:=λσ H R=>te σ H λx H1=>∃a xs,x= .ref a/\((H1 a=some (.dT xs)/\∀o,R (JZ a o xs) (upd H1 a (.gH o (.dT xs))))\/∃o,H1 a=some (.gH o (.dT xs))/\R (JZ a o xs) H1)
theorem AB{pins:List (adi×Obj)}{σ:St}{H:Hp}{s:adn}{R:It->Hp->Prop}{E:ado->adn->Prop}{a:adi}{o:Obj}{xs:List (List L2.Key×V)}(I:Inv X pins σ H s)(e:H a=some (.gH o (.dT xs)))(r:R (JZ a o xs) H):adC (model X.prog X.w) X.A (pyIter (.ref a)) (U0 X pins σ tg R) E s:=by
 obtain⟨es,ep,lo,hd,raw,sz,keys⟩:=uA I.hok e
 refine vY lo raw ⟨s.heap.objs.size,[s.heap.objs.size],_,JZ a o xs,H,rfl,I.kept (t':=s.toks) λb ob q=>aL _ q,Cc a _ o xs,⟨es,ep,hd,_,aU _ rfl,rfl,rfl⟩,λb hb=>?_,r⟩
 rw[List.mem_singleton.mp hb]
 exact I.vm (aj _) (I.hok.fresh (aj _))
theorem J0{e:Expr}{te:TE}(he:PE X e te):PI X tg e (Sd te):=by
 intro pins s σ H R I h
 refine bA (he pins s σ H _ I h) λv s1 ⟨x,H1,I1,r1,a,xs,ex,q⟩=>?_
 subst ex
 cases r1
 rcases q with ⟨e1,k⟩ | ⟨o,e1,k⟩
 ·obtain⟨o,_,I2⟩:=Ov I1 e1
  exact AB I2 aP (k o)
 ·exact AB I1 e1 k
def Fs(w:Wv)(st:Hs):Re Wk:=match w with
 | .ref l=>(match st[l]? with
  | some (.gw kvs)=>(match ic (kvs.map (·.1)) with | some ws=> .ok (none,ws) (st.set l (.lR kvs)) | none=> .bad)
  | some (.lR kvs)=>(match ic (kvs.map (·.1)) with | some ws=> .ok (none,ws) st | none=> .bad)
  | _=> .bad)
 | _=> .bad
def nM(g:GE):GI:=λρ st=>(g ρ st).bind Fs
theorem sS:∀{ks:List (List L2.Key)}{ws:List Wv},ic ks=some ws->ws.length=ks.length/\∀(i:Nat)(h:i < ws.length),∃k ns,ks[i]? =some k/\nL k=some ns/\ws[i]= .tup (ns.map Wv.int)
 | [],ws,e=>by cases e;exact⟨rfl,λi h=>by cases h⟩
 | k::ks,ws,e=>by
  unfold ic at e
  cases q1:nL k with
  | none=>rw[q1] at e;cases e
  | some ns=>
   cases q2:ic ks with
   | none=>rw[q1,q2] at e;cases e
   | some l=>
    rw[q1,q2] at e
    cases e
    obtain⟨h1,h2⟩:=sS q2
    refine⟨by simp[h1],λi h=>?_⟩
    cases i with
    | zero=>exact⟨k,ns,rfl,q1,rfl⟩
    | succ i=>exact h2 i (by simpa using h)
theorem Ft{m1:Mp}{H1:Hp}{a:adi}{o:Obj}{kvs:List (List L2.Key×Wv)}{xs:List (List L2.Key×V)}{ws:List Wv}(e:H1 a=some (.gH o (.dT xs)))(r:RelK X.K m1 H1 kvs xs)(hk:ic (kvs.map (·.1))=some ws) :
  (∀(k:Nat)(H:Hp)(m':Mp),Ext X.K m1 H1 m' H->k < ws.length->(JZ a o xs).go k H)/\(∀(k:Nat)(H:Hp)(m':Mp),Ext X.K m1 H1 m' H->k=ws.length->(JZ a o xs).stop k H)/\
  ∀(k:Nat)(hk:k < ws.length)(H:Hp)(x:V)(H':Hp)(m':Mp),Ext X.K m1 H1 m' H->(JZ a o xs).ve k H x H'->H'=H/\ag X.K m' H ws[k] x:=by
 obtain⟨l1,g1⟩:=sS hk
 have l2:ws.length=xs.length:=by rw[l1,bK,r.length]
 refine⟨λk H m' e' h=>⟨e'.gH _ _ _ e,by omega⟩,λk H m' e' h=>⟨e'.gH _ _ _ e,by omega⟩,λk h H v H' m' e' y=>?_⟩
 obtain⟨rfl,kk,b,y1,rfl,y2⟩:=y
 refine⟨rfl,?_⟩
 obtain⟨k',ns,f1,f2,f3⟩:=g1 k h
 have e3:(xs[k]?).map (·.1)=some k':=by rw[<-eO,<-r.1];exact f1
 rw[y1] at e3
 cases e3
 rw[f3]
 rw[Au f2] at y2
 unfold ag
 exact⟨b,_,rfl,y2,ah.ints ns⟩
theorem AD{m1:Mp}{H1:Hp}{a:adi}{o:Obj}{kvs:List (List L2.Key×Wv)}{xs:List (List L2.Key×V)}{ws:List Wv}(e:H1 a=some (.gH o (.dT xs)))(r:RelK X.K m1 H1 kvs xs)(hk:ic (kvs.map (·.1))=some ws):sF X (none,ws) m1 H1 (JZ a o xs) :=
 let ⟨g1,g2,g3⟩:=Ft e r hk
 ⟨λk H m' _ e' _ _ h=>g1 k H m' e' h,λk H m' _ e' _ _ h=>g2 k H m' e' h,λk h H v H' m' _ e' _ _ y=>g3 k h H v H' m' e' y⟩
theorem J1{e:Expr}{g:GE}(h:JE X e g):JI X tg e (nM g):=by
 refine⟨_,J0 aV,λρ st σ H m Q S R p=>?_⟩
 refine h.go S R (aw.bind p) λw st1 v m1 H1 p1 e1 S1 rw'=>?_
 unfold Fs at p1
 cases w with
 | ref l=>
  unfold ag at rw'
  obtain⟨a,rfl,ha⟩:=rw'
  dsimp only at p1
  cases el:st1[l]? with
  | none=>rw[el] at p1;exact aa p1
  | some ob=>
   rw[el] at p1
   cases ob with
   | gw kvs=>
    dsimp only at p1
    cases ek:ic (kvs.map (·.1)) with
    | none=>rw[ek] at p1;exact aa p1
    | some ws=>
     rw[ek] at p1
     obtain⟨xs,h1,h2⟩:=(show ∃ys,H1 a=some (.dT ys)/\RelK X.K m1 H1 kvs ys from S1.obj _ _ _ ha el)
     refine⟨a,xs,rfl,.inl ⟨h1,λo=>?_⟩⟩
     have ex:Ext X.K m1 H1 m1 (upd H1 a (.gH o (.dT xs))):=Ext.iG (.inr (.inr (.inr (.inl ⟨_,h1⟩))))
     have S2:a_ X.K m1 (st1.set l (.lR kvs)) (upd H1 a (.gH o (.dT xs))):=S1.pX ha el rfl ⟨o,xs,aP,h2.mono ex⟩
     exact p1 m1 _ _ (e1.trans ex) S2 trivial (AD aP (h2.mono ex) ek)
   | lR kvs=>
    dsimp only at p1
    cases ek:ic (kvs.map (·.1)) with
    | none=>rw[ek] at p1;exact aa p1
    | some ws=>
     rw[ek] at p1
     obtain⟨o,xs,h1,h2⟩:=(show ∃o ys,H1 a=some (.gH o (.dT ys))/\RelK X.K m1 H1 kvs ys from S1.obj _ _ _ ha el)
     exact⟨a,xs,rfl,.inr ⟨o,h1,p1 m1 _ _ e1 S1 trivial (AD h1 h2 ek)⟩⟩
   | _=>exact aa p1
 | _=>exact aa p1
end
section
variable {prog:adm} {w:adp} {A:adj} {E:ado->adn->Prop} {s:adn} {d:adi} {es:Array DictEntry} {ep:Nat}
end
section
variable {prog:adm} {w:adp} {K:Type} [DecidableEq K] {knd:HeapKind prog w K} {A:adj} {E:ado->adn->Prop} {s:adn} {d a:adi} {xs:List (K×adi×ado)} {k:K}
end
section
variable {prog:adm} {w:adp} {A:adj} {E:ado->adn->Prop} {s:adn}
theorem AE{b:DictEntry->PUnit->Sem (ForInStep PUnit)}{Q:PUnit->adn->Prop}:∀{l:List DictEntry},(∀e∈l,∀Q':ForInStep PUnit->adn->Prop,Q' (.yield mr) s->adC (model prog w) A (b e mr) Q' E s)->Q mr s->adC (model prog w) A (forIn l mr b) Q E s
 | [],_,q=>by rw[um];exact adJ q
 | e::r,h,q=>by
  rw[lK]
  exact adD (h e (.head _) _ (AE (λe' he'=>h e' (.tail _ he')) q))
theorem Fv{es:List DictEntry}(n:(es.map (·.hash)).Nodup)(c:Int):(es.filter λe=>e.hash == c).length<=1:=by
 induction es with
 | nil=>simp
 | cons e r ih=>
  have n:=List.nodup_cons.mp (show(e.hash::r.map (·.hash)).Nodup from n)
  rw[List.filter_cons]
  by_cases h:(e.hash == c)=true
  ·rw[if_pos h]
   have:(r.filter λe=>e.hash == c)=[]:=List.filter_eq_nil_iff.mpr λy hy q=>n.1 (List.mem_map.mpr ⟨y,hy,by rw[eq_of_beq q,eq_of_beq h]⟩)
   rw[this]
   exact aj 1
  ·rw[if_neg h];exact ih n.2
theorem oN:typeLookup (.type "tuple") "__eq__"=pure (some (.builtin "tuple.__eq__")):=PySem.F.slot_tuple_eq.lookup
theorem Fw{o:adi}{es:Array DictEntry}{ep:Nat}{Q:ado->adn->Prop}(lo:(o == sysModules)=false)(x:jZ s.heap o es ep)(hz:es.size<=adA)(he:es.size≠0)(hn:(es.toList.map (·.hash)).Nodup)(ht:∀e∈es,∃b,e.key= .ref b/\s.TypeIs (.ref b) "tuple")
  (h:∀h',(∃q,h'.get? s.heap.objs.size=some q/\q.cls= .type "dict"/\q.dict=none/\q.slots=#[]/\∃e',q.data= .dict es e')->gN s.heap.objs.size (s.heap.push { cls:=.type "dict",data:=.dict #[] }) h'->Q (.ref s.heap.objs.size) { s with heap:=h' }) :
  adC (model prog w) A (call (.type "dict") [.ref o]) Q E s:=by
 refine callType_codes (Q₁:=λobj s₁=>obj= .ref s.heap.objs.size/\s₁={ s with heap:=s.heap.push { cls:=.type "dict",data:=.dict #[] } }) F.kt_called_dict (F.kt_typeCall_dict_1 _) F.entry_dict_init (kt_code_dict_new _ ⟨rfl,rfl⟩) ?_
 rintro obj s₁ ⟨rfl,rfl⟩
 obtain⟨q,g1,g2,g3⟩:=x
 have hne:s.heap.objs.size≠o:=λe=>absurd (aF g1) (by rw[e];exact cb _)
 have n1:(s.heap.push { cls:=.type "dict",data:=.dict #[] }).get? s.heap.objs.size=some { cls:=.type "dict",data:=.dict #[] }:=aU _ rfl
 have o1:(s.heap.push { cls:=.type "dict",data:=.dict #[] }).get? o=some q:=aL _ g1
 have tn:pB { s with heap:=s.heap.push { cls:=.type "dict",data:=.dict #[] } } (.ref s.heap.objs.size) "dict":=⟨_,n1,rfl⟩
 have to:pB { s with heap:=s.heap.push { cls:=.type "dict",data:=.dict #[] } } (.ref o) "dict":=⟨_,o1,g2⟩
 refine⟨tn,F.args_dict_init_2 _ _,?_⟩
 unfold Builtin.«dict.__init__»
 refine adD ?_
 unfold Ox
 refine adD (wpAny_notOrdered_dict tn (show adC _ _ (pure (s.heap.objs.size,[aB o])) _ _ _ from adJ ?_))
 refine(show adC _ _ (yv "dict.__init__" s.heap.objs.size (.ref o) [] .none) _ _ _ from ?_)
 unfold yv
 refine adD (wpAny_typeOf to ?_)
 rw[if_neg (by decide)]
 refine adD ?_
 unfold Oy
 refine adD ?_
 unfold Oz
 refine adD (wpAny_isInstance to isSubtype_dict_dict ?_)
 simp only[lL,dD,if_false]
 refine adD (wpAny_specialOf to F.slot_dict_iter.lookup (adJ ?_))
 simp only[beq_self_eq_true,if_true]
 refine adD (adJ ?_)
 unfold OA
 rw[if_neg (by simpa using hne)]
 unfold uv
 rw[if_neg (by rw[lo];exact bh)]
 refine adD (adJ (adD (adE o1 g3 ?_)))
 have few:(decide (es.size<=8)&&es.all λe=>(keyPart e.key).isSome)=false:=by
  rw[Bool.and_eq_false_iff]
  refine .inr ?_
  rw[<-Bool.not_eq_true,Array.all_eq_true]
  intro al
  have:=al 0 (by omega)
  obtain⟨b,e1,_⟩:=ht es[0] (by simp)
  rw[e1] at this
  cases this
 simp only[few,uB,if_true]
 refine adD (adE n1 rfl ?_)
 simp only[show(#[]:Array DictEntry).isEmpty=true from rfl,if_true]
 refine adD ?_
 unfold Builtin.Dict.entriesForEmpty
 refine adD (adE o1 g3 ?_)
 rw[<-K6]
 refine adD (AE (λe hm Q' q'=>?_) (adJ ?_))
 ·obtain⟨b,e1,e2⟩:=ht e (Array.mem_toList_iff.mp hm)
  rw[e1]
  obtain⟨ob,f1,f2⟩:=e2
  have tb:pB { s with heap:=s.heap.push { cls:=.type "dict",data:=.dict #[] } } (.ref b) "tuple":=⟨_,aL _ f1,f2⟩
  unfold Builtin.Dict.quietEq
  refine adD (adD (wpAny_specialOf tb oN (adJ ?_)))
  have nq:(some (jf "tuple.__eq__") == some (jf "object.__eq__"))=false:=by decide
  have sz:¬(es.filter (λx=>x.hash == e.hash)).size > 1:=by
   have q1:=Fv hn e.hash
   have q2:(es.filter (λx=>x.hash == e.hash)).size=(es.toList.filter (λx=>x.hash == e.hash)).length:=by rw[<-Dp,Array.toList_filter]
   rw[q2]
   omega
  simp only[nq,uB,if_true,if_neg sz]
  exact adJ q'
 ·have ne:es.isEmpty=false:=by simpa [Array.isEmpty] using he
  simp only[ne,uB,if_true]
  refine adD (wpAny_updateDictKeysTo (hz':=by show es.size<=adA+1;omega) n1 rfl (adJ ?_))
  refine(show adC _ _ (OB s.heap.objs.size [] >>= _) _ _ _ from adD (adJ (adJ ⟨rfl,h _ ?_ (fV ..)⟩)))
  exact⟨_,j7 _ n1 (Obj.isFreed_of_dict (AG rfl _)),rfl,rfl,rfl,_,rfl⟩
end
section
variable {prog:adm} {w:adp} {A:adj} {E:ado->adn->Prop} {s:adn} {d it:adi} {i:Nat} {es:Array DictEntry} {ep:Nat} {ok ov:ado}
end
section
variable {X:Cx}
theorem yw{P:adm}{w:adp}{H:Hp}{h:Heap}{a:adi}{xs:List (List L2.Key×V)}(ok:jb P w H h)(e:Rd H a (.dT xs)) :
  ∃es ep ys,xs.length<=adA/\(a == sysModules)=false/\jZ h a es ep/\es.size=xs.length/\KT H xs ys/\es.toList=ys.map (entryOfKey (tupleKind (aY P w)))/\(ys.map (·.1)).Nodup:=by
 obtain⟨z,lo,ys,kt,o,es,ep,g1,g2,g3,g4,g5⟩:=(show cO P w H h a (.dT xs) from DJ ok e)
 have len:es.size=ys.length:=by have:=congrArg dZ g4;simpa using this
 exact⟨es,ep,ys,z,lo,⟨o,g1,g2.1,g3⟩,by rw[len];exact(Paired.length kt).symm,kt,g4,g5⟩
def dq:Option Ob->Option (List (List L2.Key×Wv))
 | some (.gw kvs)=>some kvs
 | some (.lR kvs)=>some kvs
 | _=>none
theorem kY{m:Mp}{st:Hs}{H:Hp}{l:Nat}{a:adi}{kvs:List (List L2.Key×Wv)}(S:a_ X.K m st H)(ha:m[l]? =some a)(h:dq st[l]? =some kvs):∃xs,Rd H a (.dT xs)/\RelK X.K m H kvs xs:=by
 unfold dq at h
 split at h
 ·rename_i k' e
  cases h
  obtain⟨xs,h1,h2⟩:=(show ∃ys,H a=some (.dT ys)/\RelK X.K m H kvs ys from S.obj _ _ _ ha e)
  exact⟨xs,.inl h1,h2⟩
 ·rename_i k' e
  cases h
  obtain⟨o,xs,h1,h2⟩:=(show ∃o ys,H a=some (.gH o (.dT ys))/\RelK X.K m H kvs ys from S.obj _ _ _ ha e)
  exact⟨xs,.inr ⟨o,h1⟩,h2⟩
 ·cases h
def AH(ns:List Int):Int:=reduceHash (xx (ns.map hashInt))
def oz:List (List L2.Key)->Option (List (List Int))
 | []=>some []
 | k::r=>(match nL k,oz r with | some ns,some l=>some (ns::l) | _,_=>none)
theorem wq:∀{ks:List L2.Key}{ns:List Int},nL ks=some ns->ks=ns.map L2.Key.inl
 | [],ns,e=>by cases e;rfl
 | .inl i::r,ns,e=>by
  unfold nL at e
  cases q:nL r with
  | none=>rw[q] at e;cases e
  | some l=>rw[q] at e;cases e;rw[aD,<-wq q]
theorem Fx{P:adm}{w:adp}{ks:List L2.Key}{ns:List Int}(h:nL ks=some ns):(tupleKind (aY P w)).hash ks=AH ns:=by
 rw[wq h]
 show reduceHash (xx ((ns.map L2.Key.inl).map (aY P w).hash))=_
 rw[kZ]
 rfl
theorem qG{P:adm}{w:adp}:∀{YA:List (List L2.Key)}{nss:List (List Int)},oz YA=some nss->YA.map (tupleKind (aY P w)).hash=nss.map AH
 | [],nss,e=>by cases e;rfl
 | k::r,nss,e=>by
  unfold oz at e
  cases q1:nL k with
  | none=>rw[q1] at e;cases e
  | some ns=>
   cases q2:oz r with
   | none=>rw[q1,q2] at e;cases e
   | some l=>rw[q1,q2] at e;cases e;rw[aD,aD,Fx q1,qG q2]
def l6(ks:List (List L2.Key)):Bool:=match oz ks with
 | some nss=>decide ((nss.map AH).Nodup)
 | none=>false
theorem Cd{prog:adm}{w:adp}{A:adj}{E:ado->adn->Prop}{s:adn}{o:adi}{ep:Nat}{Q:ado->adn->Prop}(lo:(o == sysModules)=false)(x:jZ s.heap o #[] ep)(h:Q (.ref s.heap.objs.size) { s with heap:=s.heap.push { cls:=.type "dict",data:=.dict #[] } }) :
  adC (model prog w) A (call (.type "dict") [.ref o]) Q E s:=by
 refine callType_codes (Q₁:=λobj s₁=>obj= .ref s.heap.objs.size/\s₁={ s with heap:=s.heap.push { cls:=.type "dict",data:=.dict #[] } }) F.kt_called_dict (F.kt_typeCall_dict_1 _) F.entry_dict_init (kt_code_dict_new _ ⟨rfl,rfl⟩) ?_
 rintro obj s₁ ⟨rfl,rfl⟩
 obtain⟨q,g1,g2,g3⟩:=x
 have hne:s.heap.objs.size≠o:=λe=>absurd (aF g1) (by rw[e];exact cb _)
 have n1:(s.heap.push { cls:=.type "dict",data:=.dict #[] }).get? s.heap.objs.size=some { cls:=.type "dict",data:=.dict #[] }:=aU _ rfl
 have o1:(s.heap.push { cls:=.type "dict",data:=.dict #[] }).get? o=some q:=aL _ g1
 have tn:pB { s with heap:=s.heap.push { cls:=.type "dict",data:=.dict #[] } } (.ref s.heap.objs.size) "dict":=⟨_,n1,rfl⟩
 have to:pB { s with heap:=s.heap.push { cls:=.type "dict",data:=.dict #[] } } (.ref o) "dict":=⟨_,o1,g2⟩
 refine⟨tn,F.args_dict_init_2 _ _,?_⟩
 unfold Builtin.«dict.__init__»
 refine adD ?_
 unfold Ox
 refine adD (wpAny_notOrdered_dict tn (show adC _ _ (pure (s.heap.objs.size,[aB o])) _ _ _ from adJ ?_))
 refine(show adC _ _ (yv "dict.__init__" s.heap.objs.size (.ref o) [] .none) _ _ _ from ?_)
 unfold yv
 refine adD (wpAny_typeOf to ?_)
 rw[if_neg (by decide)]
 refine adD ?_
 unfold Oy
 refine adD ?_
 unfold Oz
 refine adD (wpAny_isInstance to isSubtype_dict_dict ?_)
 simp only[lL,dD,if_false]
 refine adD (wpAny_specialOf to F.slot_dict_iter.lookup (adJ ?_))
 simp only[beq_self_eq_true,if_true]
 refine adD (adJ ?_)
 unfold OA
 rw[if_neg (by simpa using hne)]
 unfold uv
 rw[if_neg (by rw[lo];exact bh)]
 refine adD (adJ (adD (adE o1 g3 ?_)))
 have few:(decide ((#[]:Array DictEntry).size<=8)&&(#[]:Array DictEntry).all λe=>(keyPart e.key).isSome)=true:=by simp
 simp only[few,lL,dD,if_false]
 refine adD (wpAny_dictEpoch o1 g3 (adD (adE o1 g3 (adD ?_))))
 rw[J2]
 refine(show adC _ _ (pure mr) _ _ _ from adJ (adJ ?_))
 exact(show adC _ _ (OB s.heap.objs.size [] >>= _) _ _ _ from adD (adJ (adJ ⟨rfl,h⟩)))
theorem yx:dB X (.type "dict") (λxs H Q=>∃a kvs,xs=[.ref a]/\Rd H a (.dT kvs)/\((kvs.map (·.1)).map (tupleKind (aY X.prog X.w)).hash).Nodup/\∀p,H p=none->Q (.ref p) (upd H p (.dT kvs))):=by
 intro pins s σ H xs us Q I rs q
 obtain⟨a,kvs,rfl,e,hn,q⟩:=q
 cases rs with
 | cons r rr=>
  cases rr
  cases r
  obtain⟨es,ep,ys,z,lo,raw,sz,kt,g4,g5⟩:=yw I.hok e
  by_cases ne:kvs=[]
  ·subst ne
   cases kt
   have l0:es=#[]:=Array.eq_empty_of_size_eq_zero (by rw[sz];rfl)
   subst l0
   have fr:H s.heap.objs.size=none:=I.hok.fresh (aj _)
   refine Cd lo raw ⟨.ref s.heap.objs.size,_,I.laid (a:=s.heap.objs.size) (o:=.dT []) (t':=s.toks) (λb ob hq=>aL _ hq) (aj _) ?_,rfl,q _ fr⟩
   exact⟨z,beq_eq_false_iff_ne.mpr (ay (aX I.big)),[],.nil,_,#[],_,aU _ rfl,⟨rfl,rfl,rfl⟩,rfl,g4,g5⟩
  have keys:kvs.map (·.1)=ys.map (·.1):=by
   clear q hn ne g5 g4 e sz z
   induction kt with
   | nil=>rfl
   | cons h t ih=>rw[aD,aD,ih,h.1]
  have hs:es.toList.map (·.hash)=(kvs.map (·.1)).map (tupleKind (aY X.prog X.w)).hash:=by
   rw[g4,keys,kZ,kZ]
   rfl
  have ht:∀e∈es,∃b,e.key= .ref b/\s.TypeIs (.ref b) "tuple":=λe' he=>by
   have:e'∈ys.map (entryOfKey (tupleKind (aY X.prog X.w))):=by rw[<-g4];exact Array.mem_toList_iff.mpr he
   obtain⟨y,hy,rfl⟩:=List.mem_map.mp this
   obtain⟨j,hj⟩:=List.mem_iff_getElem?.mp hy
   obtain⟨x,_,_,hx,_⟩:=yu kt hj
   have kk:=pU (P:=X.prog) (w:=X.w) I.hok hx
   obtain⟨ob,its,n,f1,f2,_⟩:=kk
   exact⟨y.2.1,rfl,ob,f1,f2⟩
  have l0:es.size≠0:=by rw[sz];exact λz0=>ne (List.length_eq_zero_iff.mp z0)
  refine Fw lo raw (by rw[sz];exact z) l0 (by rw[hs];exact hn) ht λh' nw sb=>?_
  obtain⟨o',f1,f2,f3,f4,Hz,f5⟩:=nw
  have fr:H s.heap.objs.size=none:=I.hok.fresh (aj _)
  refine⟨.ref s.heap.objs.size,_,I.laid (a:=s.heap.objs.size) (o:=.dT kvs) (t':=s.toks) (λb ob hq=>(sb.2 b (aX (aF hq))).trans (aL _ hq)) (aj _) ?_,rfl,q _ fr⟩
  refine⟨z,beq_eq_false_iff_ne.mpr (ay (aX I.big)),ys,kt.keeps λc zs ec=>?_,o',es,Hz,f1,⟨f2,f3,f4⟩,f5,g4,g5⟩
  rw[au (aT ec fr)]
  exact ec
def qH:List Wv->Hs->Re Wv
 | [.ref l],st=>(match dq st[l]? with | some kvs=>if l6 (kvs.map (·.1))=true then .ok (.ref st.length) (st++[.gw kvs]) else .bad | none=> .bad)
 | _,_=> .bad
theorem J3:gR X (.type "dict") qH:=⟨_,yx,λws vs st H m Q S r p=>by
 unfold qH at p
 split at p
 ·rename_i l
  cases e:dq st[l]? with
  | none=>rw[e] at p;exact aa p
  | some kvs=>
   rw[e] at p
   dsimp only at p
   by_cases c:l6 (kvs.map (·.1))=true
   ·rw[if_pos c] at p
    obtain⟨v,rfl,rx⟩:=p_ r
    unfold ag at rx
    obtain⟨a,rfl,ha⟩:=rx
    obtain⟨xs,h1,h2⟩:=kY (X:=X) S ha e
    refine⟨a,xs,rfl,h1,?_,λq hq=>?_⟩
    ·have c2:=c
     unfold l6 at c2
     rw[<-h2.1]
     cases ek:oz (kvs.map (·.1)) with
     | none=>rw[ek] at c2;cases c2
     | some nss=>rw[ek] at c2;rw[qG ek];exact of_decide_eq_true c2
    ·have ex:Ext X.K m H (m++[q]) (upd H q (.dT xs)):=Ext.more.trans (Ext.iG (.inl hq))
     exact p (.ref q) (m++[q]) _ ex (S.t8 hq ⟨xs,aP,h2.mono ex⟩) (by unfold ag;exact⟨q,rfl,by rw[<-S.len,gP (aj _),pf];rfl⟩)
   ·rw[if_neg c] at p;exact aa p
 ·exact aa p⟩
end
theorem Ce{o:Option V}(r:lM o none):o=none:=by
 cases o with
 | none=>rfl
 | some u=>exact(show False from r).elim
theorem sT{o:Option V}{u:ado}(r:lM o (some u)):∃v,o=some v/\RelV v u:=by
 cases o with
 | none=>exact(show False from r).elim
 | some v=>exact⟨v,rfl,r⟩
section
variable {X:Cx} {o e f:Expr} {apos cpos:Pos} {td ty tx:TE}
end
structure M0(X:Cx)(o:Expr)(m:Str)(apos cpos:Pos):Prop where
 base:attributeBase o m X.env (eval o X.env)=eval o X.env
 line:(apos.endLine == cpos.line)=true
section
variable {X:Cx} {es':List Expr} {kt:Nat} {pt:Pos}
end
section
variable {X:Cx}
end
section
variable {prog:adm} {w:adp} {K:Type} [DecidableEq K] {knd:HeapKind prog w K} {A:adj} {E:ado->adn->Prop} {s:adn} {a b:adi} {xs ys:List (K×adi×ado)}
theorem sU{id:String}{f:K->Bool}{Q:Bool->adn->Prop}(hu:knd.room A)(la:(a == sysModules)=false)(lb:(b == sysModules)=false)(hA:s.heap.DictOfH knd a xs)(hB:s.heap.DictOfH knd b ys)
  (hf:∀x∈xs,∀y∈ys,x.1=y.1->∀Q:Bool->adn->Prop,Q (f x.1) s->adC (model prog w) A (eqBool x.2.2 y.2.2) Q E s)
  (hQ:Q (decide (xs.length=ys.length)&&xs.all λx=>(atKey ys x.1).isSome&&f x.1) s):adC (model prog w) A (OC id a b) Q E s:=by
 obtain⟨oa,ea,epa,a1,a2,a3,a4,a5,a6⟩:=hA
 obtain⟨ob,eb,epb,b1,b2,b3,b4,b5,b6⟩:=hB
 have za:ea.size=xs.length:=size_of_entries a4
 have zb:eb.size=ys.length:=size_of_entries b4
 unfold OC uv
 rw[if_neg (by rw[la];exact bh),if_neg (by rw[lb];exact bh)]
 refine adD (adJ (adD (adJ (adD (adE a1 a3 (adD (adE b1 b3 ?_)))))))
 by_cases hl:xs.length=ys.length
 ·rw[if_neg (by rw[za,zb,hl];simp)]
  rw[decide_eq_true hl,Fy] at hQ
  refine adD (wpAny_dictEpoch a1 a3 (adD ?_))
  rw[J2]
  simp only[Std.Legacy.Range.size,Nat.sub_zero,Nat.add_sub_cancel,Nat.div_one]
  generalize hg:(λx:K×adi×ado=>(atKey ys x.1).isSome&&f x.1)=g at hQ
  refine wpAny_forIn_list _ (λrest st s'=>s'=s/\st=(none,())/\∃i,rest=jh i (xs.length - i)/\i<=xs.length/\xs.all g=(xs.drop i).all g) _ ?_ ?_ _ _ ⟨rfl,rfl,0,by rw[za,Nat.sub_zero],bb _,rfl⟩
  ·rintro x rest st s' ⟨rfl,rfl,i,hr,hi,hall⟩
   have hlt:i < xs.length:=by
    rcases Nat.lt_or_ge i xs.length with h | h
    ·exact h
    ·rw[Nat.sub_eq_zero_of_le h] at hr;simp at hr
   obtain⟨rfl,hrest⟩:x=i/\rest=jh (i+1) (xs.length - (i+1)):=by
    have e:xs.length - i=(xs.length - (i+1))+1:=by omega
    rw[e,List.range'_succ] at hr
    injection hr with h1 h2
    exact⟨h1,h2⟩
   rw[uh hlt,cV] at hall
   have hm:xs[x]∈xs:=List.getElem_mem hlt
   refine adD (adE a1 a3 ?_)
   rw[entry_at a4 x,cE hlt]
   refine adD (adF ?_)
   have next:xs.all g=(xs.drop (x+1)).all g->∀Q':ForInStep (Option Bool×Unit)->adn->Prop,Q' (.yield (none,())) s'->adC (model prog w) A (do
     let Hz <-dictEpoch a
     if(Hz != epa)=true then do
       (unsupported (toString id++toString ":changed-during-callback"):Sem PUnit)
       pure (j5 (none,()))
      else pure (j5 (none,()))) Q' E s':=λ_ Q' q'=>by
    refine adD (wpAny_dictEpoch a1 a3 ?_)
    rw[if_neg (by simp)]
    exact adJ q'
   refine adD (wpAny_dictFind_heap (k:=xs[x].1) hu (a5 _ hm) b1 b3 b4 b5 b6 (λno=>adJ ?_) λj p hj=>?_)
   ·simp only[uB,if_true]
    have gf:g xs[x]=false:=by rw[<-hg];simp only[atKey_none_of_get no];rfl
    rw[gf,zx] at hall
    rw[hall] at hQ
    exact adJ (adJ hQ)
   ·refine adD (adE b1 b3 ?_)
    rw[entry_at b4 j,hj]
    refine adF (hf _ hm _ (zH hj) rfl _ ?_)
    have gf:g xs[x]=f xs[x].1:=by rw[<-hg];simp only[atKey_of_get b6 hj];rfl
    cases hv:f xs[x].1 with
    | false=>
     simp only[uB,if_true]
     rw[gf,hv,zx] at hall
     rw[hall] at hQ
     exact adJ (adJ hQ)
    | true=>
     simp only[lL,dD,if_false]
     rw[gf,hv,Fy] at hall
     exact next hall _ ⟨rfl,rfl,x+1,hrest,hlt,hall⟩
  ·rintro st s' ⟨rfl,rfl,i,hr,hi,hall⟩
   have h0:xs.length - i=0:=by
    have:=congrArg dZ hr
    simpa using this.symm
   rw[List.drop_of_length_le (by omega),List.all_nil] at hall
   rw[hall] at hQ
   exact adJ hQ
 ·rw[if_pos (by rw[za,zb];simpa using hl)]
  rw[decide_eq_false hl,zx] at hQ
  exact adD (wpAny_rule (adJ hQ))
end
section
variable {prog:adm} {w:adp} {K:Type} [DecidableEq K] {knd:HeapKind prog w K} {A:adj} {E:ado->adn->Prop} {s:adn} {a b:adi} {xs ys:List (K×adi×ado)}
theorem J4{f:K->Bool}{Q:ado->adn->Prop}(hr:A.units < cLine)(hu:knd.room A.in1)(la:(a == sysModules)=false)(lb:(b == sysModules)=false)(hA:s.heap.DictOfH knd a xs)(hB:s.heap.DictOfH knd b ys)
  (hf:∀E:ado->adn->Prop,∀x∈xs,∀y∈ys,x.1=y.1->∀Q:Bool->adn->Prop,Q (f x.1) s->adC (model prog w) A.in1 (eqBool x.2.2 y.2.2) Q E s)
  (hQ:Q (.bool (decide (xs.length=ys.length)&&xs.all λx=>(atKey ys x.1).isSome&&f x.1)) s):adC (model prog w) A (adw .Eq (.ref a) (.ref b)) Q E s:=by
 have tA:s.TypeIs (.ref a) "dict":=hA.typeIs
 have tB:s.TypeIs (.ref b) "dict":=hB.typeIs
 refine(show adC (model prog w) A (richCompare .Eq (.ref a) (.ref b)) Q E s from wpAny_richCompare_same_room tA tB PySem.F.slot_dict_eq (wpAny_call_entry PySem.F.slot_dict_eq tA PySem.F.entry_dict_eq ?_ (PySem.F.args_dict_eq_2 _ _)) hr)
 refine(show adC _ _ (yy "__eq__" ⟨[.ref a,.ref b],[]⟩ >>= _) _ _ s from adD ?_)
 unfold yy
 refine adD (wpAny_notOrdered_dict tA (show adC _ _ (pure (aB a,aB b)) _ _ s from adJ ?_))
 refine adD (wpAny_isInstance tB isSubtype_dict_dict ?_)
 simp only[lL,dD,if_false]
 refine adD (adJ (adD (adJ (adD (sU hu la lb hA hB (hf _) ?_)))))
 refine adJ ⟨_,rfl,(λz=>nomatch z),?_⟩
 rw[show ∀c:Bool,(c == true)=c from by decide]
 exact hQ
theorem slot_dict_ne:Slot "dict" (cmpInfo .NotEq).2.1 "dict.__ne__" :=
 .of (owner:="dict") (n:="__ne__") (by rw[typeLookup_type,builtinLookup_eq_fast];kernel_rfl) (by decide+kernel) (by decide+kernel) (by decide+kernel) (by first | exact .inl (by decide+kernel) | exact .inr (by decide+kernel)) (by rw[ady];kernel_rfl)
theorem entry_dict_ne:entryFor table "dict.__ne__"=some Builtin.«dict.__ne__»:=entryFor_of_tree (by kernel_rfl)
theorem args_dict_ne_2(a b:ado):argsOk "dict.__ne__" ⟨[a,b],[]⟩:=by
 unfold argsOk;rw[signature?_of (id:="dict.__ne__") (n:=['_','_','e','n','_','_']) (o:=['t','c','i','d']) (by kernel_rfl) PySem.F.owner_dict];kernel_rfl
theorem J5{f:K->Bool}{Q:ado->adn->Prop}(hr:A.units < cLine)(hu:knd.room A.in1)(la:(a == sysModules)=false)(lb:(b == sysModules)=false)(hA:s.heap.DictOfH knd a xs)(hB:s.heap.DictOfH knd b ys)
  (hf:∀E:ado->adn->Prop,∀x∈xs,∀y∈ys,x.1=y.1->∀Q:Bool->adn->Prop,Q (f x.1) s->adC (model prog w) A.in1 (eqBool x.2.2 y.2.2) Q E s)
  (hQ:Q (.bool (!(decide (xs.length=ys.length)&&xs.all λx=>(atKey ys x.1).isSome&&f x.1))) s):adC (model prog w) A (adw .NotEq (.ref a) (.ref b)) Q E s:=by
 have tA:s.TypeIs (.ref a) "dict":=hA.typeIs
 have tB:s.TypeIs (.ref b) "dict":=hB.typeIs
 refine(show adC (model prog w) A (richCompare .NotEq (.ref a) (.ref b)) Q E s from wpAny_richCompare_same_room tA tB slot_dict_ne (wpAny_call_entry slot_dict_ne tA entry_dict_ne ?_ (args_dict_ne_2 _ _)) hr)
 refine(show adC _ _ (yy "__ne__" ⟨[.ref a,.ref b],[]⟩ >>= _) _ _ s from adD ?_)
 unfold yy
 refine adD (wpAny_notOrdered_dict tA (show adC _ _ (pure (aB a,aB b)) _ _ s from adJ ?_))
 refine adD (wpAny_isInstance tB isSubtype_dict_dict ?_)
 simp only[lL,dD,if_false]
 refine adD (adJ (adD (adJ (adD (sU hu la lb hA hB (hf _) ?_)))))
 refine adJ ⟨_,rfl,(λz=>nomatch z),?_⟩
 rw[show ∀c:Bool,(c == false)= !c from by decide]
 exact hQ
end
abbrev OD:=List (List L2.Key×Wv)
def nN(st:Hs)(kvs:OD):Bool:=kvs.all λkv=>(aG st 20 kv.2).isSome
def LG(st:Hs)(k1 k2:OD)(k:List L2.Key):Bool:=match bJ k1 k,bJ k2 k with
 | some v,some w=>(match aG st 20 v,aG st 20 w with | some a,some b=>aC a b | _,_=>false)
 | _,_=>false
def oA(st:Hs)(k1 k2:OD):Bool:=decide (k1.length=k2.length)&&(k1.map (·.1)).all λk=>(bJ k2 k).isSome&&LG st k1 k2 k
def VL(K:PySem.W.Frag)(neg:Bool):R2:=λa b H Q=>∃m st p q k1 k2 l1 l2,a_ K m st H/\a= .ref p/\b= .ref q/\Rd H p (.dT l1)/\Rd H q (.dT l2)/\RelK K m H k1 l1/\RelK K m H k2 l2/\nN st k1=true/\nN st k2=true/\Q (.bl (if neg then !oA st k1 k2 else oA st k1 k2)) H
theorem Fz{H:Hp}:∀{xs:List (List L2.Key×V)}{ys:List (List L2.Key×adi×ado)},KT H xs ys->xs.map (·.1)=ys.map (·.1)
 | _,_,.nil=>rfl
 | _,_,.cons h t=>by rw[aD,aD,Fz t,h.1]
theorem i_{κ:Type}[DecidableEq κ]{k:κ}{w:Wv}:∀{kvs:List (κ×Wv)},bJ kvs k=some w->(k,w)∈kvs
 | [],e=>by cases e
 | p::r,e=>by
  unfold bJ at e
  by_cases h:p.1=k
  ·rw[if_pos h] at e
   cases e
   rw[<-h]
   exact aK
  ·rw[if_neg h] at e
   exact aJ _ (i_ e)
section
variable {X:Cx}
theorem AI{m:Mp}{st:Hs}{H:Hp}{kvs:OD}{xs:List (List L2.Key×V)}{ys:List (List L2.Key×adi×ado)}{k:List L2.Key}{p:adi×ado}(r:RelK X.K m H kvs xs)(kt:KT H xs ys)(nd:(ys.map (·.1)).Nodup)(hd:nN st kvs=true)(h:(k,p)∈ys) :
  ∃w v d,bJ kvs k=some w/\ag X.K m H w v/\RelV v p.2/\aG st 20 w=some d:=by
 obtain⟨j,hj⟩:=List.mem_iff_getElem?.mp h
 have ak:=atKey_of_get nd hj
 have vl:=kt.val k
 rw[ak] at vl
 obtain⟨v,ev,rv⟩:=sT vl
 obtain⟨i1,i2⟩:=r.val k
 cases e:bJ kvs k with
 | none=>rw[i1 e] at ev;cases ev
 | some w=>
  obtain⟨u,j1,j2⟩:=i2 w e
  rw[ev] at j1
  cases j1
  obtain⟨d,e2⟩:=Option.isSome_iff_exists.mp (List.all_eq_true.mp hd _ (i_ e))
  exact⟨w,v,d,rfl,j2,rv,e2⟩
theorem wt{m:Mp}{st:Hs}{H:Hp}{k1 k2:OD}{l1 l2:List (List L2.Key×V)}{y1 y2:List (List L2.Key×adi×ado)}(r1:RelK X.K m H k1 l1)(r2:RelK X.K m H k2 l2)(t1:KT H l1 y1)(t2:KT H l2 y2) :
  (decide (y1.length=y2.length)&&y1.all λx=>(atKey y2 x.1).isSome&&LG st k1 k2 x.1)=oA st k1 k2:=by
 have e1:y1.length=k1.length:=by rw[<-Paired.length t1,r1.length]
 have e2:y2.length=k2.length:=by rw[<-Paired.length t2,r2.length]
 have ks:k1.map (·.1)=y1.map (·.1):=by rw[r1.1,Fz t1]
 have at2:∀k,(atKey y2 k).isSome=(bJ k2 k).isSome:=λk=>by
  have q:=(t2.val k).sg
  rw[Option.isSome_map] at q
  rw[<-q]
  obtain⟨i1,i2⟩:=r2.val k
  cases e:bJ k2 k with
  | none=>rw[i1 e];rfl
  | some w=>obtain⟨u,j1,_⟩:=i2 w e;rw[j1];rfl
 unfold oA
 rw[e1,e2,ks,List.all_map]
 congr 1
 refine List.all_congr rfl λx=>?_
 show((atKey y2 x.1).isSome&&LG st k1 k2 x.1)=((bJ k2 x.1).isSome&&LG st k1 k2 x.1)
 rw[at2]
theorem FA(neg:Bool)(hu:X.A.units+64 < cLine):fI X (adw (if neg then .NotEq else .Eq)) (VL X.K neg):=by
 intro pins s σ H a b v u Q I rx ry h
 obtain⟨m,st,p,q,k1,k2,l1,l2,S,rfl,rfl,d1,d2,r1,r2,h1,h2,hq⟩:=h
 cases rx
 cases ry
 obtain⟨z1,lo1,y1,t1,D1⟩:=pV I.hok d1
 obtain⟨z2,lo2,y2,t2,D2⟩:=pV I.hok d2
 have n1:(y1.map (·.1)).Nodup:=let ⟨_,_,_,_,_,_,_,_,n⟩:=D1;n
 have n2:(y2.map (·.1)).Nodup:=let ⟨_,_,_,_,_,_,_,_,n⟩:=D2;n
 have hf:∀E:ado->adn->Prop,∀x∈y1,∀y∈y2,x.1=y.1->∀Q:Bool->adn->Prop,Q (LG st k1 k2 x.1) s->adC (model X.prog X.w) X.A.in1 (eqBool x.2.2 y.2.2) Q E s:=λE x hx y hy e Q' q'=>by
  obtain⟨w,v,dw,a1,a2,a3,a4⟩:=AI (k:=x.1) (p:=x.2) (st:=st) r1 t1 n1 h1 hx
  obtain⟨w',v',Uj,b1,b2,b3,b4⟩:=AI (k:=y.1) (p:=y.2) (st:=st) r2 t2 n2 h2 hy
  rw[<-e] at b1
  obtain⟨as,q1,q2,q3⟩:=cP I S 20 w v _ dw a2 a3 a4
  obtain⟨bs,p1,p2,p3⟩:=cP I S 20 w' v' _ Uj b2 b3 b4
  have ee:LG st k1 k2 x.1=aC dw Uj:=by unfold LG;rw[a1,b1];dsimp only;rw[a4,b4]
  rw[ee] at q'
  exact HW X.prog X.w X.A.in1 E s _ _ dw Uj as bs Q' q1 p1 q2 p2 (by
   have:X.A.in1.units=X.A.units+1:=rfl
   have:min dw.depth Uj.depth<=dw.depth:=Nat.min_le_left _ _
   omega) q'
 cases neg with
 | false=>
  refine J4 (by omega) (tupleKind_room_in1 (by omega)) lo1 lo2 D1 D2 hf ?_
  rw[wt r1 r2 t1 t2]
  exact⟨.bl _,H,I,rfl,hq⟩
 | true=>
  refine J5 (by omega) (tupleKind_room_in1 (by omega)) lo1 lo2 D1 D2 hf ?_
  rw[wt r1 r2 t1 t2]
  exact⟨.bl _,H,I,rfl,hq⟩
def qI(st:Hs):Wv->Option OD
 | .ref l=>dq st[l]?
 | _=>none
def Cf:fY:=λx y st=>match qI st x,qI st y with
 | some k1,some k2=>if nN st k1=true/\nN st k2=true then .ok (.bl (oA st k1 k2)) st else .bad
 | _,_=>oEq x y st
def wu:fY:=λx y st=>match qI st x,qI st y with
 | some k1,some k2=>if nN st k1=true/\nN st k2=true then .ok (.bl (!oA st k1 k2)) st else .bad
 | _,_=>C8 x y st
theorem pC{m:Mp}{st:Hs}{H:Hp}{x:Wv}{a:V}{kvs:OD}(S:a_ X.K m st H)(r:ag X.K m H x a)(h:qI st x=some kvs):∃p l,a= .ref p/\Rd H p (.dT l)/\RelK X.K m H kvs l:=by
 cases x with
 | ref j=>
  unfold ag at r
  obtain⟨p,rfl,hp⟩:=r
  obtain⟨l,h1,h2⟩:=kY (X:=X) S hp h
  exact⟨p,l,rfl,h1,h2⟩
 | _=>cases h
theorem FC(hu:X.A.units+64 < cLine):kO X (adw .Eq) Cf:=by
 obtain⟨r0,c0,k0⟩:=Ll (X:=X) hu
 refine⟨_,fI.or (FA (X:=X) false hu) c0,λx y a b st H m Q S rx ry p=>?_⟩
 unfold Cf at p
 cases e1:qI st x with
 | none=>rw[e1] at p;exact .inr (k0 x y a b st H m Q S rx ry p)
 | some k1=>
  cases e2:qI st y with
  | none=>rw[e1,e2] at p;exact .inr (k0 x y a b st H m Q S rx ry p)
  | some k2=>
   rw[e1,e2] at p
   dsimp only at p
   by_cases c:nN st k1=true/\nN st k2=true
   ·rw[if_pos c] at p
    obtain⟨p1,l1,rfl,d1,r1⟩:=pC (X:=X) S rx e1
    obtain⟨p2,l2,rfl,d2,r2⟩:=pC (X:=X) S ry e2
    exact .inl ⟨m,st,p1,p2,k1,k2,l1,l2,S,rfl,rfl,d1,d2,r1,r2,c.1,c.2,p _ m H Ext.refl S jW⟩
   ·rw[if_neg c] at p;exact aa p
theorem FD(hu:X.A.units+64 < cLine):kO X (adw .NotEq) wu:=by
 obtain⟨r0,c0,k0⟩:=Ln (X:=X) hu
 refine⟨_,fI.or (FA (X:=X) true hu) c0,λx y a b st H m Q S rx ry p=>?_⟩
 unfold wu at p
 cases e1:qI st x with
 | none=>rw[e1] at p;exact .inr (k0 x y a b st H m Q S rx ry p)
 | some k1=>
  cases e2:qI st y with
  | none=>rw[e1,e2] at p;exact .inr (k0 x y a b st H m Q S rx ry p)
  | some k2=>
   rw[e1,e2] at p
   dsimp only at p
   by_cases c:nN st k1=true/\nN st k2=true
   ·rw[if_pos c] at p
    obtain⟨p1,l1,rfl,d1,r1⟩:=pC (X:=X) S rx e1
    obtain⟨p2,l2,rfl,d2,r2⟩:=pC (X:=X) S ry e2
    exact .inl ⟨m,st,p1,p2,k1,k2,l1,l2,S,rfl,rfl,d1,d2,r1,r2,c.1,c.2,p _ m H Ext.refl S jW⟩
   ·rw[if_neg c] at p;exact aa p
end
section
variable {X:Cx}
end
section
variable {prog:adm} {w:adp} {K:Type} [DecidableEq K] {knd:HeapKind prog w K} {A:adj} {E:ado->adn->Prop} {s:adn} {d:adi} {xs:List (K×adi×ado)}
end
section
variable {X:Cx}
def oO(tb:Tab)(tt:ui):List Wv->Hs->Re Wv
 | [.ref l,.ty T],st=>if T="dict"/\(dq st[l]?).isSome=true then .ok (.bl true) st else nD tb tt [.ref l,.ty T] st
 | ws,st=>nD tb tt ws st
theorem FE:dB X (.builtin "isinstance") (λvs H Q=>∃a kvs,vs=[.ref a,.ty "dict"]/\Rd H a (.dT kvs)/\Q (.bl true) H):=by
 intro pins s σ H xs us Q I r h
 obtain⟨a,kvs,rfl,e,q⟩:=h
 obtain⟨u,u',rfl,r1,r2⟩:=vals2 r
 cases r1
 cases r2
 obtain⟨t1,_,_⟩:=DN I (.inr ⟨kvs,e⟩)
 exact call_isinstance_yes (Tx:="dict") t1 (by kernel_rfl) (by rw[ady];kernel_rfl) ⟨.bl true,H,I,rfl,q⟩
theorem OE{tb:Tab}{tt:ui}{tc:Tab}(O:TabOk X.K tb tt tc):gR X (.builtin "isinstance") (oO tb tt):=by
 obtain⟨r0,c0,k0⟩:=Ey (X:=X) O
 refine⟨_,FE.or c0,λws vs st H m Q S r p=>?_⟩
 have old:dI X.K m H (nD tb tt ws st) Q->r0 vs H Q:=λp=>k0 ws vs st H m Q S r p
 unfold oO at p
 split at p
 ·rename_i l T
  by_cases c:T="dict"/\(dq st[l]?).isSome=true
  ·rw[if_pos c] at p
   obtain⟨rfl,c2⟩:=c
   obtain⟨kvs,e⟩:=Option.isSome_iff_exists.mp c2
   obtain⟨v,v',rfl,r1,r2⟩:=BL r
   unfold ag at r1 r2
   obtain⟨a,rfl,ha⟩:=r1
   subst r2
   obtain⟨xs,h1,_⟩:=kY (X:=X) S ha e
   exact .inl ⟨a,xs,rfl,h1,p _ m H Ext.refl S (by unfold ag;rfl)⟩
  ·rw[if_neg c] at p
   exact .inr (old p)
 ·exact .inr (old p)
end
def qJ(gd gk:GE):GE:=λρ st=>(gd ρ st).bind λd st1=>match d with
 | .ref l=>if(dq st1[l]?).isSome=true then(gk ρ st1).bind λk st2=>(match nJ k,dq st2[l]? with
  | some kk,some kvs=> .ok ((bJ kvs kk).getD .non) st2
  | _,_=> .bad) else .bad
 | _=> .bad
section
variable {X:Cx}
theorem FF{o e:Expr}{gd gk:GE}{apos cpos:Pos}(hu:X.A.units+1 < cLine)(ho:JE X o gd)(he:JE X e gk)(M:M1 X o "get" apos e cpos):JE X (.Call (.Attribute o "get" apos) [e] [] cpos) (qJ gd gk) :=
 JE.of (DO hu aV aV M) λρ st σ H m Q S R p=>by
  refine ho.go S R (aw.bind p) λd st1 v m1 H1 p1 e1 S1 r1=>?_
  cases d with
  | ref l=>
   dsimp only at p1
   by_cases hd:(dq st1[l]?).isSome=true
   ·rw[if_pos hd] at p1
    unfold ag at r1
    obtain⟨a,rfl,ha⟩:=r1
    obtain⟨kv1,hk1⟩:=Option.isSome_iff_exists.mp hd
    obtain⟨xs1,rd1,_⟩:=kY S1 ha hk1
    refine⟨a,rfl,.inr ⟨xs1,rd1⟩,?_⟩
    refine he.go S1 (R.mono e1) ((aw.bind p1).imp e1 λ_ _ q=>q) λk st2 y m2 H2 p2 e2 S2 r2=>?_
    cases q1:nJ k with
    | none=>rw[q1] at p2;exact aa p2
    | some kk=>
     cases q2:dq st2[l]? with
     | none=>rw[q1,q2] at p2;exact aa p2
     | some kvs=>
      rw[q1,q2] at p2
      have ha2:m2[l]? =some a:=e2.pre _ _ ha
      obtain⟨xs,y1,y2⟩:=kY S2 ha2 q2
      obtain⟨b,rfl,hb⟩:=mT r2 q1
      dsimp only at p2
      refine⟨_,.inr ⟨xs,kk,b,y1,rfl,hb,rfl⟩,?_⟩
      obtain⟨i1,i2⟩:=y2.val kk
      cases q3:bJ kvs kk with
      | none=>
       rw[i1 q3]
       rw[q3] at p2
       exact p2 .non m2 H2 (e1.trans e2) S2 (by unfold ag;rfl)
      | some w=>
       obtain⟨u,j1,j2⟩:=i2 w q3
       rw[j1]
       rw[q3] at p2
       exact p2 u m2 H2 (e1.trans e2) S2 j2
   ·rw[if_neg hd] at p1;exact aa p1
  | _=>exact aa p1
end
section
variable {X:Cx}
open Classical in
end
section
variable {X:Cx}
end
section
variable {prog:adm} {w:adp} {K:Type} [DecidableEq K] {knd:HeapKind prog w K} {A:adj} {E:ado->adn->Prop} {s:adn} {d a:adi} {k:K} {xs:List (K×adi×ado)}
end
section
variable {X:Cx} {o e:Expr} {apos cpos:Pos} {td ty:TE}
end
section
variable {X:Cx} {o e f:Expr} {apos cpos:Pos} {to te tf:TE}
end
section
variable {X:Cx}
abbrev kP(p:Int×Int):List L2.Key:=[L2.Key.inl p.1,L2.Key.inl p.2]
theorem uC{H:Hp}:∀{ps:List (Int×Int)}{vs:List V},Yh H vs (ps.map kP)->ET H vs ps
 | [],_,h=>by cases h;exact .nil
 | p::r,_,h=>by
  cases h with
  | cons h t=>exact .cons h (uC t)
theorem wx{prog:adm}{w:adp}{es:Array DictEntry}{ys:List (List L2.Key×adi×ado)}{vs:List ado}(g4:es.toList=ys.map (entryOfKey (tupleKind (aY prog w))))(hlen:vs.length=es.size)(hv:∀(j:Nat)(v:ado),vs[j]? =some v->∃h:j < es.size,v=es[j].key):vs=ys.map λx=>aB x.2.1:=by
 have len:es.size=ys.length:=by have:=congrArg dZ g4;simpa using this
 refine FG λj=>?_
 cases e:vs[j]? with
 | none=>
  have hj:vs.length<=j:=by simpa using e
  rw[OF]
  simp
  omega
 | some v=>
  obtain⟨hj,ev⟩:=hv j v e
  have hj':j < ys.length:=by omega
  have q1:es.toList[j]'(by simpa using hj)=entryOfKey (tupleKind (aY prog w)) ys[j]:=by
   have:es.toList[j]? =(ys.map (entryOfKey (tupleKind (aY prog w))))[j]?:=by rw[g4]
   rw[cE (by simpa using hj),eO,cE hj'] at this
   simpa using this
  rw[eO,cE hj',ev]
  have q2:es[j]=es.toList[j]'(by simpa using hj):=by simp
  rw[q2,q1]
  rfl
theorem wz{pins:List (adi×Obj)}{σ:L2.St}{H:Hp}{s:adn}{m:Str->Option ado}{h'':Heap}{D:adi}{its:List ado}{vs:List V}{c tk:Nat}(I:Inv X pins σ H s)(hn:s.heap.Ns X.env.locals m)(f_:∀b o,b≠X.env.locals->s.heap.get? b=some o->h''.get? b=some o)(B1:s.heap.get? D=none)
  (ns:h''.Ns X.env.locals m)(hv:Vals vs its)(hz:vs.length<=adA)(hg:h''.get? D=some (seqObj "list" its.toArray c)):H D=none/\Inv X pins σ (upd H D (.lst vs)) { s with heap:=h'',toks:=tk }:=by
 have C_:H D=none:=by
  cases e:H D with
  | none=>rfl
  | some ob=>
   obtain⟨z,e'⟩:=nB (I.hok D ob e)
   rw[B1] at e'
   cases e'
 refine⟨C_,?_⟩
 have vW:∀b u,H b=some u->b≠D:=λb u e=>aT e C_
 have Di:∀b u,H b=some u->b≠X.env.locals:=λb u e=>aT e I.free
 refine I.step (g':=s.gens) (d':=s.drawn) (t':=tk) (ch:=[]) (λ_ z=>nomatch z) (λb o n _ _ e _=>f_ b o n e) (λb o n _ _ e _=>⟨o.slots,f_ b o n e⟩) (λb o _ e n=>?_) (λb o _ e=>?_) (λb xs e=>?_) (λb o u e=>?_) (λb ps e=>?_) (λm' hm=>yi hn hm ns) (λb ob e=>?_) I.bare
 ·rw[au (λz=>by subst z;rw[B1] at e;cases e)];exact n
 ·by_cases z:b=X.env.locals
  ·subst z
   obtain⟨o',_,_,e',_⟩:=ns
   exact⟨o',e'⟩
  ·exact⟨o,f_ b o z e⟩
 ·rw[au (vW _ _ e)];exact e
 ·rw[au (vW _ _ e)];exact e
 ·exact⟨#[],by rw[au (vW _ _ e),e];simp⟩
 ·by_cases z:b=D
  ·subst z
   rw[aP] at e
   cases e
   exact⟨hz,its,c,hv,hg⟩
  ·rw[au z] at e
   refine(I.hok b ob e).stay (λc v hc q=>f_ c v ?_ q) (λc q=>by rw[au (vW _ _ q)];exact q) λc xs q=>by rw[au (vW _ _ q)];exact q
   rcases hc with y | y
   ·rw[y];exact Di b ob e
   ·exact Di c _ y
theorem Cg(hc:X.calm=true):dB X (.builtin "sorted") (λxs H Q=>∃(p:adi)(kvs:List (List L2.Key×V))(ps:List (Int×Int)),xs=[.ref p]/\Rd H p (.dT kvs)/\kvs.map (·.1)=ps.map kP/\2<=ps.length/\ps.length < 64/\∀l vs',H l=none->ET H vs' (b9 ps)->Q (.ref l) (upd H l (.lst vs'))):=by
 intro pins s σ H xs us Q I r h
 obtain⟨p,kvs,ps,rfl,hd,hk,h2,h64,q⟩:=h
 obtain⟨u,rfl,rx⟩:=vals1 r
 cases rx
 obtain⟨es,ep,ys,z,lo,raw,sz,kt,g4,g5⟩:=yw I.hok hd
 have ky:=ux kt
 rw[hk] at ky
 have hp:=uC ky
 have r':=nK (λx:List L2.Key×adi×ado=>x.2.1) ys
 have tu:=yh I hp r'
 have lk:kvs.length=ps.length:=by have:=congrArg dZ hk;simpa using this
 obtain⟨m,hn,hl⟩:=id I.loc
 obtain⟨oL,esL,epL,gL,dL,_⟩:=id hn
 refine kdu_sorted (As lo) (I.ok.hd hc) (Att.tY hn) (mz (g:=Att.lQ s.heap) (h:=s.heap) (L:=X.env.locals)) raw (by rw[sz];exact z) λD h1 tk vs F1 N1 hD hlen hv=>?_
 have Se:=wx g4 hlen hv
 subst Se
 have l2:(ys.map λx=>aB x.2.1).length=ps.length:=tu.length
 have l1:(ys.map λx=>V.ref x.2.1).length=(ys.map λx=>aB x.2.1).length:=r'.length
 have hz:(ys.map λx=>V.ref x.2.1).length<=adA:=by rw[l1,l2,<-lk];exact z
 generalize (ys.map λx:List L2.Key×adi×ado=>aB x.2.1)=its at r' tu F1 N1 hlen hv l1 l2
 generalize (ys.map λx:List L2.Key×adi×ado=>V.ref x.2.1)=vs at ky hp r' l1 hz
 obtain⟨Qc,hDL,J6⟩:=N1 (D,listOf its.toArray 0) aK
 refine wpAny_call_entry slot_list_sort ⟨_,Qc,rfl⟩ entry_list_sort ?_ (args_list_sort _)
 refine kat_list_sort (s:={ s with heap:=h1,toks:=tk }) F1 (λp hp=>N1 p (aJ _ hp)) Qc hDL J6 (λp hp=>aX (hD p hp)) (by omega) (by omega) λe1 h' F' N'=>?_
 have keep:∀b o,b≠X.env.locals->s.heap.get? b=some o->h'.get? b=some o:=λb o n e=>(N' (b,o) (aJ _ (bS n (Att.bZ _ _) e))).1
 have N6:Paired (TupAt h') its ps:=nI (λa o its n e d=>keep a o (λz=>by
  subst z
  rw[gL] at e
  cases e
  rw[dL] at d
  cases d) e) tu
 obtain⟨fs,k1,k2,k3⟩:=qu N6
 refine kat_kind (T:=.type "int") (s:={ s with heap:=h',toks:=tk }) k1 (by omega) (λv hv=>by obtain⟨i,t,rfl⟩:=k3 v hv;exact Looks.of_pure rfl) (by decide) ?_
 have et:(kK "int" != kK "tuple")=true:=by decide
 rw[et,l2]
 have od:Ord λi j=>rC (ps.getD i (0,0)) (ps.getD j (0,0)):=⟨λa b h=>ye h,λa b c h k=>yf h k⟩
 refine Kg.wp (lt:=λi j=>rC (ps.getD i (0,0)) (ps.getD j (0,0))) (N:=ps.length) (P:=λs''=>s''={ s with heap:=h',toks:=tk }) (λi j C s'' hi hj hs hC=>?_) rfl ((An od (by omega)).imp λpm ⟨P1,P2⟩ s'' hs=>?_)
 ·subst hs
  obtain⟨a,o,t,u,n,e,g1,g2,g3⟩:=cz (a:=aS) (b:=(0,0)) N6 hi
  obtain⟨a',o',t',u',n',e',C7,Q4,P9⟩:=cz (a:=aS) (b:=(0,0)) N6 hj
  unfold kas_ask
  rw[e,e']
  exact Ap (s:={ s with heap:=h',toks:=tk }) g1 g3 C7 P9 (hC _ rfl)
 ·subst hs
  refine KasFin.intro (s:={ s with heap:=h',toks:=tk }) F' N' (.head λq hq=>aX (hD q hq)) λh'' c N7 Jt=>?_
  have f_:∀b o,b≠X.env.locals->s.heap.get? b=some o->h''.get? b=some o:=λb o n e=>(Jt (b,o) (aJ _ (bS n (Att.bZ _ _) e))).1
  have B1:s.heap.get? D=none:=by
   cases e:s.heap.get? D with
   | none=>rfl
   | some o=>exact absurd (hD (D,o) (bS hDL (Att.bZ _ _) e)) (cb _)
  have mem:∀i∈pm.toList,i < ps.length:=λi hi=>List.mem_range.mp (P1.pm.mem_iff.mp hi)
  have hv:Vals (pm.toList.map λi=>vs.getD i .non) (pm.toList.map λi=>its.getD i aS):=gS λi hi=>cz r' (by have:=mem i hi;omega)
  have VA:(pm.toList.map λi=>ps.getD i (0,0))=b9 ps:=by
   refine qt ((P1.pm.map _).trans (by rw[range_getD];exact(dn ps).symm)) ?_ (mS _)
   rw[HC,List.pairwise_map,Ju]
   intro i j hi hj hij
   have z:=P2 i j (by omega) (by have:=P1.sz;simpa [this] using hj)
   have ei:at_ pm i=pm.toList[i]:=by
    have:i < pm.size:=by simpa using hi
    simp[at_,Al,this]
   have ej:at_ pm j=pm.toList[j]:=by
    have:j < pm.size:=by simpa using hj
    simp[at_,Al,this]
   rw[ei,ej] at z
   exact z
  have VB:ET H (pm.toList.map λi=>vs.getD i .non) (b9 ps):=by
   rw[<-VA]
   exact gS λi hi=>cz hp (mem i hi)
  have hlen:pm.toList.length=ps.length:=by have:=P1.sz;simpa using this
  obtain⟨C_,I'⟩:=wz (tk:=tk) I hn f_ B1 N7.ns hv (by rw[bK,hlen,<-l2,<-l1];exact hz) (Jt (D,_) aK).1
  exact⟨_,rfl,.ref D,_,I',rfl,q D _ C_ VB⟩
theorem Ci(hc:X.calm=true):dB X (.builtin "sorted") (λxs H Q=>∃(p:adi)(kvs:List (List L2.Key×V))(ps:List (Int×Int)),xs=[.ref p]/\Rd H p (.dT kvs)/\kvs.map (·.1)=ps.map kP/\ps.length < 2/\∀l vs',H l=none->ET H vs' ps->Q (.ref l) (upd H l (.lst vs'))):=by
 intro pins s σ H xs us Q I r h
 obtain⟨p,kvs,ps,rfl,hd,hk,h2,q⟩:=h
 obtain⟨u,rfl,rx⟩:=vals1 r
 cases rx
 obtain⟨es,ep,ys,z,lo,raw,sz,kt,g4,g5⟩:=yw I.hok hd
 have ky:=ux kt
 rw[hk] at ky
 have hp:=uC ky
 have r':=nK (λx:List L2.Key×adi×ado=>x.2.1) ys
 have lk:kvs.length=ps.length:=by have:=congrArg dZ hk;simpa using this
 have ly:kvs.length=ys.length:=kt.length
 obtain⟨m,hn,hl⟩:=id I.loc
 refine kdu_sorted (As lo) (I.ok.hd hc) (Att.tY hn) (mz (g:=Att.lQ s.heap) (h:=s.heap) (L:=X.env.locals)) raw (by rw[sz];exact z) λD h1 tk vs F1 N1 hD hlen hv=>?_
 have Se:=wx g4 hlen hv
 subst Se
 obtain⟨Qc,hDL,J6⟩:=N1 (D,listOf _ 0) aK
 refine wpAny_call_entry slot_list_sort ⟨_,Qc,rfl⟩ entry_list_sort ?_ (args_list_sort _)
 refine sL (s:={ s with heap:=h1,toks:=tk }) (by simp;omega) Qc ?_
 obtain⟨c,hc'⟩:=sortedHeap_at (vs:=ys.map λx=>aB x.2.1) (out:=(ys.map λx=>aB x.2.1).toArray) Qc
 have old:∀b o,b≠D->h1.get? b=some o->(sortedHeap h1 D (ys.map λx=>aB x.2.1) (ys.map λx=>aB x.2.1).toArray).get? b=some o:=λb o n e=>(sortedHeap_old n (aF e)).trans e
 have Sf:∀b o,b≠X.env.locals->s.heap.get? b=some o->h1.get? b=some o:=λb o n e=>(N1 (b,o) (aJ _ (bS n (Att.bZ _ _) e))).1
 have B1:s.heap.get? D=none:=by
  cases e:s.heap.get? D with
  | none=>rfl
  | some o=>exact absurd (hD (D,o) (bS hDL (Att.bZ _ _) e)) (cb _)
 obtain⟨C_,I'⟩:=wz (tk:=tk) I hn (λb o n e=>old b o (λz=>by subst z;rw[B1] at e;cases e) (Sf b o n e)) B1 (ksk_fr (((ksk_fr F1 (fV h1 D (dg λ_=>#[])) hDL J6).push (seqObj "tuple" _ 0)).push (seqObj "list" #[] 0)) (fV _ D (dg λ_=>_)) hDL J6).ns r' (by simp;rw[<-ly];exact z) hc'
 exact⟨_,rfl,.ref D,_,I',rfl,q D _ C_ hp⟩
def kj:List (List L2.Key)->Option (List (Int×Int))
 | []=>some []
 | [.inl a,.inl b]::r=>(match kj r with | some l=>some ((a,b)::l) | none=>none)
 | _=>none
theorem wA:∀{ks:List (List L2.Key)}{ps:List (Int×Int)},kj ks=some ps->ks=ps.map kP
 | [],ps,e=>by cases e;rfl
 | k::r,ps,e=>by
  unfold kj at e
  split at e
  ·cases ‹_::_=[]›
  ·rename_i a b r' he
   cases he
   cases q:kj r with
   | none=>rw[q] at e;cases e
   | some l=>rw[q] at e;cases e;rw[aD,<-wA q]
  ·cases e
def lF:List Wv->Hs->Re Wv
 | [.ref l],st=>(match dq st[l]? with
  | some kvs=>(match kj (kvs.map (·.1)) with | some ps=>if ps.length < 64 then .ok (.ref st.length) (st++[.lst ((b9 ps).map pw)]) else .bad | none=> .bad)
  | none=>jO [.ref l] st)
 | ws,st=>jO ws st
theorem J7(hc:X.calm=true):gR X (.builtin "sorted") lF:=by
 obtain⟨rr,h1,h2⟩:=Jv (X:=X)
 refine⟨_,(Ci hc).or ((Cg hc).or h1),λws vs st H m Q S rs p=>?_⟩
 have other:dI X.K m H (jO ws st) Q->rr vs H Q:=λp=>h2 ws vs st H m Q S rs p
 match ws,rs,p,other with
 | [],rs,p,other=>exact .inr (.inr (other p))
 | x::y::t,rs,p,other=>exact .inr (.inr (other (by cases x<;>exact p)))
 | [x],rs,p,other=>
  cases x with
  | ref l=>
   unfold lF at p
   dsimp only at p
   cases e:dq st[l]? with
   | none=>rw[e] at p;exact .inr (.inr (other p))
   | some kvs=>
    rw[e] at p
    dsimp only at p
    cases e2:kj (kvs.map (·.1)) with
    | none=>rw[e2] at p;exact aa p
    | some ps=>
     rw[e2] at p
     dsimp only at p
     by_cases c:ps.length < 64
     ·rw[if_pos c] at p
      obtain⟨v,rfl,r1⟩:=p_ rs
      unfold ag at r1
      obtain⟨a,rfl,ha⟩:=r1
      obtain⟨xs,g1,g2⟩:=kY (X:=X) S ha e
      have ek:xs.map (·.1)=ps.map kP:=by rw[<-g2.1];exact wA e2
      have fin:∀k vs',H k=none->ET H vs' (b9 ps)->Q (.ref k) (upd H k (.lst vs')):=λk vs' hk hp=>p (.ref k) (m++[k]) _ (Ext.more.trans (Ext.upd (.inl hk))) (S.alloc hk (lW hp)) (S.newest k _)
      by_cases c2:ps.length < 2
      ·refine .inl ⟨a,xs,ps,rfl,g1,ek,c2,λk vs' hk hp=>fin k vs' hk ?_⟩
       have:b9 ps=ps:=by
        match ps,c2 with
        | [],_=>rfl
        | [p],_=>rfl
       rw[this]
       exact hp
      ·exact .inr (.inl ⟨a,xs,ps,rfl,g1,ek,by omega,c,fin⟩)
     ·rw[if_neg c] at p;exact aa p
  | _=>exact .inr (.inr (other p))
end
section
variable {prog:adm} {w:adp} {A:adj} {E:ado->adn->Prop} {s:adn}
end
section
variable {X:Cx}
end
section
variable {X:Cx}
def LH(ws:List Wv)(st:Hs):Re Wk:=match ws with
 | [.int a,.int b,.int c]=>if Dd a b c then .ok (none,oM a c (gT a b c)) st else .bad
 | _=> .bad
def VM(g:GA):GI:=λρ st=>(g ρ st).bind LH
end
section
variable {prog:adm} {w:adp} {A:adj} {R:Result->adn->Prop} {I:adi} {fp wr:List adi} {n:Nat} {P:Nat->ado->Prop} {St:Nat->Heap->Prop}
end
section
variable {prog:adm} {w:adp} {A:adj} {E:ado->adn->Prop} {s:adn}
end
section
variable {X:Cx}
end
section
variable {lt:Nat->Nat->Bool} {N:Nat}
end
section
variable {P:adm} {w:adp} {K:PySem.W.Frag} {mg:Str->Option ado} {base:Heap} {p:Lm} {scope:Scope} {x y:Str} {cy:adi}
end
abbrev Kw:=Int×(Int ⊕ Str)
section
variable {prog:adm} {w:adp} {A:adj} {E:ado->adn->Prop} {s:adn}
end
section
variable {X:Cx} {pins:List (adi×Obj)} {σ:L2.St} {H:Hp} {s:adn} {m:Mp}
end
def kd:Kw:=(0,.inl 0)
section
variable {X:Cx} {pins:List (adi×Obj)} {σ:L2.St} {base:Heap} {m0 m m':Mp} {H0 H H':Hp} {st:Hs} {D kS:adi} {e1:Nat} {s s':adn}
end
section
variable {X:Cx} {pins:List (adi×Obj)} {σ:L2.St} {base:Heap} {m0 m m':Mp} {H0 H H':Hp} {st:Hs} {D kS:adi} {e1:Nat} {s s':adn}
end
section
variable {X:Cx} {pins:List (adi×Obj)} {σ:L2.St} {base:Heap} {m:Mp} {H:Hp} {st:Hs} {s:adn}
end
open Classical in
section
variable {X:Cx}
end
section
variable {X:Cx}
end
section
variable {X:Cx}
end
section
variable {prog:adm} {w:adp} {A:adj} {E:ado->adn->Prop} {s:adn}
end
section
variable {X:Cx}
end
section
variable {X:Cx}
end
section
open PySem.SeqAt PySem.MeetsSeq PySem.MeetsSeq2 PySem.MeetsSeq3
end
variable {X:Cx}
def oLt:fY:=λx y st=>RQ x y st
theorem OG(hu:X.A.units+64 < cLine):kO X (adw .Lt) oLt:=N9 hu
section
variable {X:Cx}
theorem J8:fI X (adw .IsNot) (λx y H Q=>∃a b,x= .bl a/\y= .bl b/\Q (.bl (a != b)) H):=by
 intro pins s σ H x y v u Q I rx ry h
 obtain⟨a,b,rfl,rfl,q⟩:=h
 cases rx
 cases ry
 exact isnot_bool ⟨.bl (a != b),H,I,rfl,q⟩
def wB:fY:=λx y st=>match x,y with
 | .bl a,.bl b=> .ok (.bl (a != b)) st
 | x,y=>ny x y st
theorem J9:kO X (adw .IsNot) wB:=by
 obtain⟨r,h1,h2⟩:=D5 (X:=X)
 refine⟨_,fI.or h1 J8,λx y a b st H m Q S rx ry p=>?_⟩
 cases x with
 | bl c=>
  cases y with
  | bl d=>
   have e1:a= .bl c:=by unfold ag at rx;exact rx
   have e2:b= .bl d:=by unfold ag at ry;exact ry
   exact .inr ⟨c,d,e1,e2,p _ m H Ext.refl S jW⟩
  | _=>exact .inl (h2 _ _ _ _ st H m Q S rx ry p)
 | _=>exact .inl (h2 _ _ _ _ st H m Q S rx ry p)
theorem OH{x:Wv}{st:Hs}:wB x .non st=ny x .non st:=by cases x<;>rfl
end
section
variable {X:Cx} {o e f:Expr} {apos cpos:Pos} {td ty tx:TE}
def FH:Expr->Bool
 | .Call _ (_::_) _ _=>true
 | _=>false
theorem Cj{o:Expr}{name:Str}{env:Env}(h:FH o=true):attributeBase o name env (eval o env)=eval o env:=by
 unfold FH at h
 split at h
 ·rename_i g e es ks p
  cases g<;>rfl
 ·cases h
end
section
variable {X:Cx} {pins:List (adi×Obj)} {σ:L2.St} {m:Mp} {H:Hp} {st:Hs} {s:adn}
end
section
variable {X:Cx}
end
section
variable {X:Cx} {es':List Expr} {kt:Nat} {pt:Pos}
end
section
variable {prog:adm} {w:adp} {A:adj}
end
section
variable {X:Cx}
end
section
variable {X:Cx}
end
section
variable {X:Cx}
end
section
variable {prog:adm} {w:adp} {A:adj} {E:ado->adn->Prop} {s:adn} {d it:adi} {es:Array DictEntry} {ep i:Nat}
theorem Ck{Q:ado->adn->Prop}(lo:(d == sysModules)=false)(x:jZ s.heap d es ep)(h:Q (.ref s.heap.objs.size) { s with heap:=s.heap.push { cls:=.type "dict_values",data:=.fields #[.ref d] } }):adC (model prog w) A (call (.builtin "dict.values") [.ref d]) Q E s:=by
 have ty:=x.ty
 have M:MeetsIn prog w (Builtin.«dict.values» ⟨[.ref d],[]⟩) (λ_ R s'=>s'=s/\R (.ok (.ret (.ref s.heap.objs.size))) { s with heap:=s.heap.push { cls:=.type "dict_values",data:=.fields #[.ref d] } }):=.of_wp λA' R s' ⟨e,h⟩=>by
  subst e
  unfold Builtin.«dict.values»
  refine adD ?_
  unfold Builtin.Dict.noArgs uv
  refine adD (wpAny_notOrdered_dict ty (show adC _ _ (pure d) _ _ s' from adJ ?_))
  rw[if_neg (by rw[lo];exact bh)]
  exact adD (adJ (adD (adI (adJ ⟨_,rfl,h⟩))))
 exact call_meetsIn PySem.F.slot_dict_values ty PySem.F.entry_dict_values (PySem.F.args_dict_values_1 _) M ⟨rfl,h⟩
theorem Cm{v:adi}{Q:ado->adn->Prop}(hv:s.heap.IsValuesView v d)(x:jZ s.heap d es ep)
  (h:Q (.ref s.heap.objs.size) { s with heap:=s.heap.push { cls:=.type "dict_valueiterator",data:=.fields #[.ref d,.int 0 0,.int es.size 0,.int ep 0] } }):adC (model prog w) A (pyIter (.ref v)) Q E s:=by
 have ty:=hv.typeIs
 obtain⟨o1,a1,a2,a3⟩:=hv
 obtain⟨o,g1,g2,g3⟩:=x
 refine wpAny_pyIter_slot ty PySem.F.slot_dict_values_iter (wpAny_call_entry PySem.F.slot_dict_values_iter ty PySem.F.entry_dict_values_iter ?_ (PySem.F.args_dict_values_iter_1 _))
 unfold Builtin.«dict_values.__iter__»
 refine adD (adJ (adD ?_))
 unfold Builtin.Dict_items.dictOf
 refine adD (wpAny_field a1 a3 (x:=.ref d) rfl (adJ (adD ?_)))
 unfold Builtin.Dict_items.newIterator
 refine adD (adE g1 g3 (adD (wpAny_dictEpoch g1 g3 ?_)))
 have own:uw "dict_valueiterator"=false:=by decide
 simp only[own,dD,if_false]
 refine adI (adJ ⟨_,rfl,"dict_valueiterator",_,⟨_,aU _ rfl,rfl⟩,PySem.F.slot_dict_valueiterator_next.lookup,?_⟩)
 simpa [rawInt] using h
theorem Co{Q:Option ado->adn->Prop}(ki:s.heap.IsValIter it d i es.size ep)(x:jZ s.heap d es ep)(hi:i < es.size)
  (k:∀h',h'.IsValIter it d (i+1) es.size ep->gN it s.heap h'->Q (some es[i].val) { s with heap:=h' }):adC (model prog w) A (pyNext (.ref it)) Q E s:=by
 have ty:=ki.typeIs
 obtain⟨oi,f1,f2,f3⟩:=id ki
 obtain⟨o,g1,g2,g3⟩:=x
 have own:uw "dict_valueiterator"=false:=by decide
 have nn:¬((aB d == aS)=true):=bh
 unfold pyNext
 refine adD (wpAny_attempt (wpAny_callSpecial?_slot (name:=gn "__next__") ty PySem.F.slot_dict_valueiterator_next (wpAny_call_entry PySem.F.slot_dict_valueiterator_next ty PySem.F.entry_dict_valueiterator_next ?_ (PySem.F.args_dict_valueiterator_next_1 _))))
 refine adD (adJ (adD (adD ?_)))
 first | refine adD (wpAny_typeNameOfWhole_valiter ty (adJ (adD (wpAny_fieldsOf f1 f3 ?_)))) | refine adD (wpAny_typeNameOf_valiter ty (adJ (adD (wpAny_fieldsOf f1 f3 ?_))))
 simp only[own,dD,if_false]
 refine(show adC _ _ (if(aB d == aS)=true then _ else _) _ _ s from ?_);rw[if_neg nn]
 refine adD (adJ (adD (adE g1 g3 ?_)))
 rw[if_neg (by simp)]
 refine adD (adJ (adD (wpAny_dictEpoch g1 g3 ?_)))
 rw[if_neg (by simp)]
 refine adJ ?_
 have n0:¬((i:Int) < 0):=by omega
 simp only[n0,if_false,qy,RO hi]
 refine adD ?_
 first | refine adD (wpAny_typeNameOfWhole_valiter ty (adJ (adD (wpAny_isOneOf_valiter ty ?_)))) | refine adD (wpAny_typeNameOf_valiter ty (adJ (adD (wpAny_isOneOf_valiter ty ?_))))
 refine(show adC _ _ (setField (.ref it) 1 (rawInt ((i:Int)+1)) >>= _) _ _ s from ?_)
 have Jy:(s.heap.update it (fu (·.setIfInBounds 1 (rawInt ((i:Int)+1))))).IsValIter it d (i+1) es.size ep:=⟨_,j7 _ f1 (pe (h_ f3 _)),(t7 ..).trans f2,by rw[h_ f3];simp[rawInt]⟩
 refine adD (wpAny_setField f1 f3 (by simp) (adD (adF (adD (wpAny_isOneOf_valiter (s:={ s with heap:=s.heap.update it (fu (·.setIfInBounds 1 (rawInt ((i:Int)+1)))) }) Jy.typeIs (adD (wpAny_isOneOf_valiter (s:={ s with heap:=s.heap.update it (fu (·.setIfInBounds 1 (rawInt ((i:Int)+1)))) }) Jy.typeIs ?_)))))))
 exact(show adC _ _ (pure es[i].val) _ _ _ from adJ (adJ ⟨_,rfl,adJ (k _ Jy (fV ..))⟩))
theorem FI{Q:Option ado->adn->Prop}(hh:A.handled=none)(ki:s.heap.IsValIter it d i es.size ep)(x:jZ s.heap d es ep)(hi:es.size<=i)(k:∀h',EU it s.heap h'->Q none { s with heap:=h' }):adC (model prog w) A (pyNext (.ref it)) Q E s:=by
 have ty:=ki.typeIs
 obtain⟨oi,f1,f2,f3⟩:=id ki
 obtain⟨o,g1,g2,g3⟩:=x
 have own:uw "dict_valueiterator"=false:=by decide
 have nn:¬((aB d == aS)=true):=bh
 unfold pyNext
 refine adD (wpAny_attempt (wpAny_callSpecial?_slot (name:=gn "__next__") ty PySem.F.slot_dict_valueiterator_next (wpAny_call_entry PySem.F.slot_dict_valueiterator_next ty PySem.F.entry_dict_valueiterator_next ?_ (PySem.F.args_dict_valueiterator_next_1 _))))
 refine adD (adJ (adD (adD ?_)))
 first | refine adD (wpAny_typeNameOfWhole_valiter ty (adJ (adD (wpAny_fieldsOf f1 f3 ?_)))) | refine adD (wpAny_typeNameOf_valiter ty (adJ (adD (wpAny_fieldsOf f1 f3 ?_))))
 simp only[own,dD,if_false]
 refine(show adC _ _ (if(aB d == aS)=true then _ else _) _ _ s from ?_);rw[if_neg nn]
 refine adD (adJ (adD (adE g1 g3 ?_)))
 rw[if_neg (by simp)]
 refine adD (adJ (adD (wpAny_dictEpoch g1 g3 ?_)))
 rw[if_neg (by simp)]
 refine adJ ?_
 have n0:¬((i:Int) < 0):=by omega
 simp only[n0,if_false,qy,RP hi]
 refine adD ?_
 first | refine adD (wpAny_typeNameOfWhole_valiter ty (adJ ?_)) | refine adD (wpAny_typeNameOf_valiter ty (adJ ?_))
 refine(show adC _ _ (setField (.ref it) 0 .none >>= _) _ _ s from adD (wpAny_setField f1 f3 (by simp) ?_))
 refine(show adC _ _ (newExc (.type "StopIteration") [] >>= _) _ _ _ from ?_)
 simp only[newExc,newTuple,raiseNew]
 refine adD (adD (adI (adD (m:=firstArgMember _ _) (wpAny_of_eq (a:=aS) (by first | rfl | (simp only[firstArgMember];rfl)) (adI ?_ (by size_fits)))) (by size_fits)))
 refine(adD (wpAny_handled ?_))
 rw[show A.in1.handled=none by exact hh]
 refine(adD (adJ (wpAny_throw ?_)))
 refine adD (wpAny_isInstance (b:=true) (T:="StopIteration") ⟨_,aU _ rfl,rfl⟩ isSubtype_stop (adJ ?_))
 refine k _ ?_;exact((fV ..).extBut.push _).push _
theorem yz(hh:A.handled=none)(I:adi)(hne:d≠I):Walks prog w A I [I,d] [I] es.size (λi v=>∃h:i < es.size,v=es[i].val) (λi h=>h.IsValIter I d i es.size ep/\jZ h d es ep) where
 sub:=λb hb=>List.mem_cons.mpr (.inl (List.mem_singleton.mp hb))
 frame:=λ_ _ _ st hk=>⟨let ⟨o,e,r⟩:=st.1;⟨o,hk I (by simp) o e,r⟩,let ⟨o,e1,e2⟩:=st.2;⟨o,hk d (by simp) o e1,e2⟩⟩
 item:=λi s Q E hi st hQ=>Co st.1 st.2 hi λh' ki sb=>hQ _ h' s.toks ⟨hi,rfl⟩ ⟨ki,let ⟨o,e1,e2⟩:=st.2;⟨o,sb.extBut d o hne e1,e2⟩⟩ λb o hb e=>sb.extBut b o (λz=>hb (by simp[z])) e
 done:=λs Q E st hQ=>FI hh st.1 st.2 (aj _) λh' eb=>hQ h' s.toks λb o hb e=>eb b o (λz=>hb (by simp[z])) e
 self:=λ_ _ _ _ st k=>wpAny_pyIter_valiter st.1 k
theorem FJ{r:adi}:KdlSrc prog w "dict_values" r d es.size (λi v=>∃h:i < es.size,v=es[i].val) (λh=>h.IsValuesView r d/\jZ h d es ep) where
 type:=λ_ x=>x.1.typeIs
 there:=λ_ x=>⟨let ⟨_,ho,_⟩:=x.1;aF ho,let ⟨o,e,_⟩:=x.2;aF e⟩
 keep:=λ_ _ x hk=>⟨let ⟨o,ho,r'⟩:=x.1;⟨o,hk r (.inl rfl) o ho,r'⟩,let ⟨o,e,r⟩:=x.2;⟨o,hk d (.inr rfl) o e,r⟩⟩
 notList:=by decide
 notTuple:=by decide
 hint:=λ_ _ _ _ x hq=>kdl_hint_values x.1.typeIs hq
 iter:=λ_ s hh x=>⟨_,_,(λ_ _ hq=>Cm x.1 x.2 hq),yz hh _ (by obtain⟨o,e,_⟩:=x.2;exact aX (aF e)),⟨⟨_,aU _ rfl,rfl,rfl⟩,let ⟨o,e,r⟩:=x.2;⟨o,aL _ e,r⟩⟩⟩
end
abbrev KN(H:Hp):List (NK.KD×V)->List (NK.KD×adi×ado)->Prop:=Paired λp q=>p.1=q.1/\KA H 8 (.ref q.2.1) p.1.1/\RelV p.2 q.2.2
theorem KN.val{H:Hp}{kvs:List (NK.KD×V)}{xs:List (NK.KD×adi×ado)}(r:KN H kvs xs)(k:NK.KD):lM (jV kvs k) ((atKey xs k).map (·.2)):=by
 induction r with
 | nil=>exact hZ
 | @cons p q ps qs h t ih=>
  obtain⟨h1,_,h2⟩:=h
  by_cases e:p.1=k
  ·have e':q.1=k:=h1.symm.trans e
   have b:atKey (q::qs) k=some q.2:=by simp[atKey,j9,e']
   rw[j8 e,b];exact h2
  ·have e':¬q.1=k:=λz=>e (h1.trans z)
   have b:atKey (q::qs) k=atKey qs k:=by simp[atKey,j9,e']
   rw[j_ e,b];exact ih
theorem KN.keeps{H H':Hp}{kvs:List (NK.KD×V)}{xs:List (NK.KD×adi×ado)}(r:KN H kvs xs)(ht:∀b ys,H b=some (.tup ys)->H' b=some (.tup ys)):KN H' kvs xs :=
 Paired.Bt r λ_ _ z=>⟨z.1,KA.stay ht _ _ _ z.2.1,z.2.2⟩
theorem FO{κ:Type}[DecidableEq κ]{kvs:List (κ×V)}{k:κ}(v:V)(h:jV kvs k=none):putK kvs k v=kvs++[(k,v)]:=by
 unfold putK
 rw[pT,h]
 rfl
theorem AJ{P:adm}{w:adp}{H:Hp}{h:Heap}{a:adi}{kvs:List (NK.KD×V)}(ok:jb P w H h)(e:H a=some (.dN kvs)):kvs.length<=adA/\(a == sysModules)=false/\∃xs,KN H kvs xs/\h.DictOfH (NK.iV P w) a xs:=by
 obtain⟨z,y,xs,r,o,es,ep,h1,h2,h3,h4,h5⟩:=(show cO P w H h a (.dN kvs) from ok a _ e)
 refine⟨z,y,xs,r,o,es,ep,h1,h2,h3,h4,λx hx=>?_,h5⟩
 have all:∀{l:List (NK.KD×V)}{m:List (NK.KD×adi×ado)},KN H l m->∀x∈m,(NK.iV P w).is h x.1 x.2.1:=by
  intro l m q
  induction q with
  | nil=>intro x hx;exact nomatch hx
  | @cons p q ps qs hq t ih=>
   intro x hx
   rcases List.mem_cons.mp hx with e | hx
   ·subst e
    exact KA.rd ok 8 (.ref x.2.1) _ _ (by rw[<-hq.1];exact hq.2.1) rfl
   ·exact ih x hx
 exact all r x hx
theorem yA{prog:adm}{w:adp}{A:adj}{E:ado->adn->Prop}{s:adn}{K:Type}[DecidableEq K]{knd:HeapKind prog w K}{d a:adi}{xs:List (K×adi×ado)}{k:K}{x:ado}{Q:ado->adn->Prop}(hu:knd.room A.in1)(lo:(d == sysModules)=false)(hkey:knd.is s.heap k a)(hm:s.heap.DictOfH knd d xs)(hsz:xs.length<=adA)
  (h1:∀p,atKey xs k=some p->∀t,Q p.2 { s with toks:=t })
  (h2:atKey xs k=none->∀h' t,h'.DictOfH knd d (xs++[(k,a,x)])->gN d s.heap h'->Q x { s with heap:=h',toks:=t }) :
  adC (model prog w) A (call (.builtin "dict.setdefault") [.ref d,.ref a,x]) Q E s:=by
 have ty:s.TypeIs (.ref d) "dict":=hm.typeIs
 obtain⟨o,es,ep,ho,hc,hd,he,his,hnd⟩:=id hm
 have hes:es.size<=adA:=by have e:=size_of_entries he;omega
 have M:MeetsIn prog w (Builtin.«dict.setdefault» ⟨[.ref d,.ref a,x],[]⟩) (λA' R s'=>A'=A/\s'=s/\(∀p,atKey xs k=some p->∀t,R (.ok (.ret p.2)) { s with toks:=t })/\
   (atKey xs k=none->∀h' t,h'.DictOfH knd d (xs++[(k,a,x)])->gN d s.heap h'->R (.ok (.ret x)) { s with heap:=h',toks:=t })):=.of_wp λA' R s' ⟨eA,e,h1,h2⟩=>by
  subst e eA
  unfold Builtin.«dict.setdefault»
  refine adD ?_
  unfold Builtin.Dict.keyAndDefault
  refine adD (wpAny_notOrdered_dict ty (show adC _ _ (pure (d,aB a,some x)) _ _ s' from adJ ?_))
  show adC _ _ (if(d == sysModules)=true then _ else(dictSetDefault d (.ref a) x >>= _)) _ _ s'
  rw[if_neg (by rw[lo];exact bh)]
  refine adD ?_
  unfold dictSetDefault
  refine adF ?_
  refine adD (knd.pyHash hu hkey (adD (wpAny_dictFind_heap (s:={ s' with toks:=s'.toks+knd.draws k }) hu hkey ho hd he his hnd (λno=>?_) λj p hj=>?_)))
  ·have hno:=atKey_none_of_get no
   have hnot:k∉xs.map (·.1):=not_mem_keys_of_get no
   refine adD (wpAny_rule (adD (wpAny_updateDictKeys (hz:=hes) (s:={ s' with toks:=s'.toks+knd.draws k }) ho hd (adJ (adJ ⟨x,rfl,h2 hno _ _ ⟨_,_,ep+1,j7 _ ho (Obj.isFreed_of_dict (AG hd _)),hc.mapDictKeys _,AG hd _,?_,?_,?_⟩ (fV ..)⟩)))))
   ·simp[he,entryOfKey]
   ·intro y hy
    rcases List.mem_append.mp hy with hy | hy
    ·exact knd.keeps (his y hy) ho hd (fV ..)
    ·simp only[List.mem_singleton] at hy
     subst hy
     exact knd.keeps hkey ho hd (fV ..)
   ·rw[k6,pD]
    refine⟨hnd,by simp,?_⟩
    intro y hy z hz
    simp only[aD,o_,List.mem_singleton] at hz
    subst hz
    exact λe=>hnot (e ▸ hy)
  ·refine adD (adE (s:={ s' with toks:=s'.toks+knd.draws k }) ho hd ?_)
   rw[entry_at he j,hj]
   exact adD (wpAny_rule (adJ (adJ ⟨p.2,rfl,h1 p (atKey_of_get hnd hj) _⟩)))
 exact call_meetsIn PySem.F.slot_dict_setdefault ty PySem.F.entry_dict_setdefault (PySem.F.args_dict_setdefault_3 _ _ _) M ⟨rfl,rfl,h1,h2⟩
theorem FP{X:Cx}{pins:List (adi×Obj)}{σ:St}{H:Hp}{s:adn}{a:adi}{kvs:List (NK.KD×V)}(I:Inv X pins σ H s)(e:H a=some (.dN kvs)) :
  s.TypeIs (.ref a) "dict"/\(∀b,aB a= .ref b->∃ob,s.heap.get? b=some ob/\ob.dict=none):=by
 obtain⟨_,hd,xs,_,dd⟩:=AJ I.hok e
 refine⟨dd.typeIs,λb q=>?_⟩
 cases q
 obtain⟨ob,_,_,h1,h2,_⟩:=dd
 exact⟨ob,h1,h2.2.1⟩
def OI:TE:=λ_ H Q=>∀p,H p=none->Q (.ref p) (upd H p (.dN []))
def Sg(td ty tx:TE):TE:=λσ H Q=>td σ H λx H1=>∃a Qd,x= .ref a/\H1 a=some (.dN Qd)/\ty σ H1 λy H2=>tx σ H2 λz H3=>∃kvs k b,H3 a=some (.dN kvs)/\y= .ref b/\KA H3 8 (.ref b) k.1/\kvs.length < adA/\
 (∀v,jV kvs k=some v->Q v H3)/\(jV kvs k=none->Q z (upd H3 a (.dN (putK kvs k z))))
section
variable {X:Cx} {o e f:Expr} {pos apos cpos:Pos} {td ty tx:TE}
theorem FQ:PE X (.Dict [] [] pos) OI:=λpins s σ H Q I h=>
 wpAny_Dict_empty ⟨.ref s.heap.objs.size,_,I.laid (a:=s.heap.objs.size) (o:=.dN []) (t':=s.toks) (λ_ _ q=>aL _ q) (aj _) ⟨bb _,beq_eq_false_iff_ne.mpr (ay (aX I.big)),[],.nil,_,#[],0,aU _ rfl,⟨rfl,rfl,rfl⟩,rfl,rfl,eP⟩,rfl,h _ (I.hok.fresh (aj _))⟩
theorem J_(hu:X.A.units+9 < cLine)(ho:PE X o td)(he:PE X e ty)(hf:PE X f tx)(m:M2 X o "setdefault" apos e f cpos):PE X (.Call (.Attribute o "setdefault" apos) [e,f] [] cpos) (Sg td ty tx):=by
 intro pins s σ H Q I h
 refine wpAny_Call_method m.base m.few m.line PySem.F.plainAttrs_dict PySem.F.slot_dict_setdefault PySem.F.type_dict_setdefault (bA (ho pins s σ H _ I h) λu s1 ⟨x,H1,I1,rx,a,Qd,ex,d,q1⟩=>?_)
 subst ex
 obtain rfl:u=aB a:=rx
 obtain⟨t1,t2⟩:=FP I1 d
 refine⟨t1,t2,?_⟩
 rw[m.trees]
 refine xP rfl (DG (pN (bA (he pins s1 σ H1 _ I1 q1) λiv s2 ⟨y,H2,I2,ry,q2⟩=>
  pN (bA (hf pins s2 σ H2 _ I2 q2) λfv s3 ⟨z,H3,I3,rz,kvs,k,b,ea,ey,eb,l,q3,q4⟩=>xH ?_))))
 subst ey
 cases (show iv=aB b from ry)
 obtain⟨zz,hd,xs,rel,dd⟩:=AJ I3.hok ea
 have vl:=rel.val k
 refine yA (knd:=NK.iV X.prog X.w) (by show X.A.in1.units+8 < cLine;simp only[Around.in1_units];omega) hd (KA.rd I3.hok 8 (.ref b) _ _ eb rfl) dd (by rw[<-Paired.length rel];exact zz) (λp hp t=>?_) λhn h' t M_ hs=>?_
 ·rw[hp] at vl
  obtain⟨v,ev,rv⟩:=sT vl
  exact⟨v,H3,I3.tok _,rv,q3 v ev⟩
 ·rw[hn] at vl
  obtain⟨q,es,ep,hq,h2,h3,h4,_,h5⟩:=M_
  have ev:=Ce vl
  have hp:=FO z ev
  refine⟨z,_,pb (ob:=.dN (putK kvs k z)) I3 (by rw[ea];exact hZ) hs ⟨q,hq⟩ ⟨?_,hd,_,(show KN _ (putK kvs k z) _ from by rw[hp];exact Paired.snoc rel ⟨rfl,eb,rz⟩).keeps λc ys ec=>?_,q,es,ep,hq,h2,h3,h4,h5⟩,rz,q4 ev⟩
  ·rw[hp,eh];exact l
  ·rw[au (Dh ec ea (λz=>nomatch z))]
   exact ec
end
def FR(p d:adi):Heap->Prop:=λh=>h.IsValuesView p d
theorem AK{H:Hp}:∀{kvs:List (NK.KD×V)}{xs:List (NK.KD×adi×ado)},KN H kvs xs->Vals (kvs.map (·.2)) (xs.map λx=>x.2.2)
 | _,_,.nil=> .nil
 | _,_,.cons h t=> .cons h.2.2 (AK t)
section
variable {X:Cx}
theorem yB(hc:X.calm=true):dB X (.type "list") (λxs H Q=>∃(r p:adi)(kvs:List (NK.KD×V)),xs=[.ref r]/\H r=some (.ext (FR r p))/\H p=some (.dN kvs)/\∀l,H l=none->Q (.ref l) (upd H l (.lst (kvs.map (·.2))))):=by
 intro pins s σ H xs us Q I r h
 obtain⟨v,p,kvs,rfl,hv,hp,q⟩:=h
 obtain⟨u,rfl,rx⟩:=vals1 r
 cases rx
 have hh:X.A.handled=none:=I.ok.hd hc
 have vw:s.heap.IsValuesView v p:=(I.hok v _ hv).1
 obtain⟨z,lo,ys,kt,o,es,ep,g1,g2,g3,g4,g5,g6⟩:=AJ I.hok hp
 have len:es.size=ys.length:=by have:=congrArg dZ g4;simpa using this
 have Sb:kvs.length=ys.length:=Paired.length kt
 obtain⟨m,hn,hl⟩:=id I.loc
 have raw:jZ s.heap p es ep:=⟨o,g1,g2.1,g3⟩
 refine kdl_N (FJ (r:=v)) hh (Att.tY hn) (mz (g:=Att.lQ s.heap) (h:=s.heap) (L:=X.env.locals)) ⟨vw,raw⟩ (by rw[len,<-Sb];exact z) λD c h'' tk vs N7 Jt hD hlen hv=>?_
 have Se:vs=ys.map λx=>x.2.2:=by
  refine FG λj=>?_
  cases e:vs[j]? with
  | none=>
   have hj:vs.length<=j:=by simpa using e
   rw[OF]
   simp
   omega
  | some v=>
   obtain⟨hj,ev⟩:=hv j v e
   have hj':j < ys.length:=by omega
   have q1:es.toList[j]'(by simpa using hj)=entryOfKey (NK.iV X.prog X.w) ys[j]:=by
    have:es.toList[j]? =(ys.map (entryOfKey (NK.iV X.prog X.w)))[j]?:=by rw[g4]
    rw[cE (by simpa using hj),eO,cE hj'] at this
    simpa using this
   rw[eO,cE hj',ev]
   have q2:es[j]=es.toList[j]'(by simpa using hj):=by simp
   rw[q2,q1]
   rfl
 subst Se
 have hDL:D≠X.env.locals:=(Jt (D,_) aK).2.1
 have f_:∀b o,b≠X.env.locals->s.heap.get? b=some o->h''.get? b=some o:=λb o n e=>(Jt (b,o) (aJ _ (bS n (Att.bZ _ _) e))).1
 have B1:s.heap.get? D=none:=by
  cases e:s.heap.get? D with
  | none=>rfl
  | some o=>exact absurd (hD (D,o) (bS hDL (Att.bZ _ _) e)) (cb _)
 have C_:H D=none:=by
  cases e:H D with
  | none=>rfl
  | some ob=>
   obtain⟨z,e'⟩:=nB (I.hok D ob e)
   rw[B1] at e'
   cases e'
 have vW:∀b u,H b=some u->b≠D:=λb u e=>aT e C_
 have Di:∀b u,H b=some u->b≠X.env.locals:=λb u e=>aT e I.free
 have I':Inv X pins σ (upd H D (.lst (kvs.map (·.2)))) { s with heap:=h'',toks:=tk }:=by
  refine I.step (g':=s.gens) (d':=s.drawn) (t':=tk) (ch:=[]) (λ_ z=>nomatch z) (λb o n _ _ e _=>f_ b o n e) (λb o n _ _ e _=>⟨o.slots,f_ b o n e⟩) (λb o _ e n=>?_) (λb o _ e=>?_) (λb xs e=>?_) (λb o u e=>?_) (λb ps e=>?_) (λm' hm=>yi hn hm N7.ns) (λb ob e=>?_) I.bare
  ·rw[au (λz=>by subst z;rw[B1] at e;cases e)];exact n
  ·by_cases z:b=X.env.locals
   ·subst z
    obtain⟨o',_,_,e',_⟩:=N7.ns
    exact⟨o',e'⟩
   ·exact⟨o,f_ b o z e⟩
  ·rw[au (vW _ _ e)];exact e
  ·rw[au (vW _ _ e)];exact e
  ·exact⟨#[],by rw[au (vW _ _ e),e];simp⟩
  ·by_cases z':b=D
   ·subst z'
    rw[aP] at e
    cases e
    exact⟨by rw[bK];exact z,_,c,AK kt,(Jt (b,_) aK).1⟩
   ·rw[au z'] at e
    refine(I.hok b ob e).stay (λc v hc q=>f_ c v ?_ q) (λc q=>by rw[au (vW _ _ q)];exact q) λc xs q=>by rw[au (vW _ _ q)];exact q
    rcases hc with y | y
    ·rw[y];exact Di b ob e
    ·exact Di c _ y
 exact⟨.ref D,_,I',rfl,q D C_⟩
def tVw(td:TE):TE:=λσ H Q=>td σ H λx H1=>∃a kvs,x= .ref a/\H1 a=some (.dN kvs)/\∀p,H1 p=none->Q (.ref p) (upd H1 p (.ext (FR p a)))
theorem Si{o:Expr}{td:TE}{apos cpos:Pos}(ho:PE X o td)(m:M0 X o "values" apos cpos):PE X (.Call (.Attribute o "values" apos) [] [] cpos) (tVw td):=by
 intro pins s σ H R I h
 refine wpAny_Call_method m.base rfl m.line PySem.F.plainAttrs_dict PySem.F.slot_dict_values PySem.F.type_dict_values (bA (ho pins s σ H _ I h) λu s1 ⟨x,H1,I1,rx,a,kvs,ex,d,q⟩=>?_)
 subst ex
 obtain rfl:u=aB a:=rx
 obtain⟨t1,t2⟩:=FP I1 d
 refine⟨t1,t2,xP rfl (show adC _ _ (evalArgs (jf "dict.values") true [] []) _ _ _ from ?_)⟩
 refine PyProof.Rows.evalArgs_none ?_
 obtain⟨z,lo,ys,kt,o,es,ep,g1,g2,g3,g4,g5,g6⟩:=AJ I1.hok d
 refine Ck lo ⟨o,g1,g2.1,g3⟩ ⟨.ref s1.heap.objs.size,_,I1.laid (a:=s1.heap.objs.size) (o:=.ext (FR s1.heap.objs.size a)) (t':=s1.toks) (λ_ _ q=>aL _ q) (aj _) ?_,rfl,q _ (I1.hok.fresh (aj _))⟩
 exact⟨⟨_,aU _ rfl,rfl,rfl⟩,⟨_,aU _ rfl⟩,λh1 h2 x k=>let ⟨o,e,r⟩:=x;⟨o,k o e,r⟩⟩
end
def jm:Nat->Wv->Option PyData
 | _,.non=>some .none
 | _,.int i=>some (.int i)
 | _,.str x=>some (.str x)
 | n+1,.tup ws=>(ws.mapM (jm n)).map ia
 | _,_=>none
def qL(w:Wv):Option NK.KD:=match jm 8 w with
 | some d=>if h:NK.kd 8 d=true/\NK.Hy d=true then some ⟨d,h⟩ else none
 | none=>none
theorem FT{K:PySem.W.Frag}{m:Mp}{H:Hp}:∀(n:Nat)(w:Wv)(v:V)(d:PyData),ag K m H w v->jm n w=some d->KA H n v d:=by
 intro n
 induction n with
 | zero=>
  intro w v d r e
  cases w with
  | non=>cases e;unfold ag at r;subst r;exact hZ
  | int i=>cases e;unfold ag at r;subst r;exact rfl
  | str x=>cases e;unfold ag at r;rw[r.1];exact rfl
  | _=>cases e
 | succ n ih=>
  intro w v d r e
  cases w with
  | non=>cases e;unfold ag at r;subst r;exact hZ
  | int i=>cases e;unfold ag at r;subst r;exact rfl
  | str x=>cases e;unfold ag at r;rw[r.1];exact rfl
  | tup ws=>
   unfold ag at r
   obtain⟨a,xs,rfl,ha,rs⟩:=r
   have e':(ws.mapM (jm n)).map ia=some d:=e
   cases q:ws.mapM (jm n) with
   | none=>rw[q] at e';cases e'
   | some ds=>
    rw[q] at e'
    cases e'
    refine⟨xs,ha,?_⟩
    have key:∀(ws:List Wv)(xs:List V)(ds:List PyData),ah K m H ws xs->ws.mapM (jm n)=some ds->Paired (KA H n) xs ds:=by
     intro ws
     induction ws with
     | nil=>intro xs ds r e;unfold ah at r;subst r;cases e;exact .nil
     | cons w ws ihw=>
      intro xs ds r e
      unfold ah at r
      obtain⟨y,t,rfl,r1,r2⟩:=r
      rw[AL] at e
      cases e1:jm n w with
      | none=>rw[e1] at e;cases e
      | some d1=>
       cases e2:ws.mapM (jm n) with
       | none=>rw[e1,e2] at e;cases e
       | some dr=>
        rw[e1,e2] at e
        cases e
        exact .cons (ih _ _ _ r1 e1) (ihw _ _ r2 e2)
    exact key ws xs ds rs q
  | _=>cases e
theorem FU{K:PySem.W.Frag}{m:Mp}{H:Hp}{w:Wv}{v:V}{k:NK.KD}(r:ag K m H w v)(e:qL w=some k):∃b,v= .ref b/\KA H 8 (.ref b) k.1:=by
 unfold qL at e
 cases q:jm 8 w with
 | none=>rw[q] at e;cases e
 | some d=>
  rw[q] at e
  dsimp only at e
  by_cases h:NK.kd 8 d=true/\NK.Hy d=true
  ·rw[dif_pos h] at e
   cases e
   have ka:=FT 8 w v d r q
   cases v with
   | ref b=>exact⟨b,rfl,ka⟩
   | _=>cases d<;>first | exact aa ka | exact(bh h.2).elim
  ·rw[dif_neg h] at e;cases e
def OJ(st:Hs):Wv->Bool
 | .ref l=>(match st[l]? with | some (.iU _)=>true | _=>false)
 | _=>false
def Sj(d k x:Wv)(st:Hs):Re Wv:=match d with
 | .ref l=>(match qL k,st[l]? with
  | some kk,some (.iU kvs)=>if kvs.length < lim then(match bJ kvs kk with | some w=> .ok w st | none=> .ok x (st.set l (.iU (fU kvs kk x)))) else .bad
  | _,_=> .bad)
 | _=> .bad
def wC:GE:=λ_ st=> .ok (.ref st.length) (st++[.iU []])
def oB(gd gk gx:GE):GE:=λρ st=>(gd ρ st).bind λd st1=>if OJ st1 d=true then(gk ρ st1).bind λk st2=>(gx ρ st2).bind λx st3=>Sj d k x st3 else .bad
def FV(d:Wv)(st:Hs):Re Wv:=match d with
 | .ref l=>(match st[l]? with | some (.iU kvs)=> .ok (.ref st.length) (st++[.lst (kvs.map (·.2))]) | _=> .bad)
 | _=> .bad
def uD(gd:GE):GE:=λρ st=>(gd ρ st).bind FV
section
variable {X:Cx} {o e f:Expr} {apos cpos:Pos}
theorem Ka{pos:Pos}:JE X (.Dict [] [] pos) wC:=JE.of FQ λρ st σ H m Q S R p=>λq hq=>
 p (.ref q) (m++[q]) _ (Ext.more.trans (Ext.iG (.inl hq))) (S.t8 hq ⟨[],aP,RelK.nil⟩) (S.newest q _)
theorem Kd{gd gk gx:GE}(hu:X.A.units+9 < cLine)(ho:JE X o gd)(he:JE X e gk)(hf:JE X f gx)(M:M2 X o "setdefault" apos e f cpos):JE X (.Call (.Attribute o "setdefault" apos) [e,f] [] cpos) (oB gd gk gx) :=
 JE.of (J_ hu aV aV aV M) λρ st σ H m Q S R p=>by
  refine ho.go S R (aw.bind p) λd st1 v m1 H1 p1 e1 S1 r1=>?_
  by_cases hd:OJ st1 d=true
  ·rw[if_pos hd] at p1
   cases d with
   | ref l=>
    unfold ag at r1
    obtain⟨a,rfl,ha⟩:=r1
    have h0:∃NH,H1 a=some (.dN NH):=by
     unfold OJ at hd
     dsimp only at hd
     cases e0:st1[l]? with
     | none=>rw[e0] at hd;cases hd
     | some ob=>
      cases ob with
      | iU kvs=>
       obtain⟨xs,y1,_⟩:=(show ∃ys,H1 a=some (.dN ys)/\RelK X.K m1 H1 kvs ys from S1.obj _ _ _ ha e0)
       exact⟨xs,y1⟩
      | _=>rw[e0] at hd;cases hd
    obtain⟨NH,h0⟩:=h0
    refine⟨a,NH,rfl,h0,?_⟩
    refine he.go S1 (R.mono e1) ((aw.bind p1).imp e1 λ_ _ q=>q) λk st2 y m2 H2 p2 e2 S2 r2=>?_
    refine hf.go S2 (R.mono (e1.trans e2)) ((aw.bind p2).imp (e1.trans e2) λ_ _ q=>q) λx st3 z m3 H3 p3 e3 S3 r3=>?_
    unfold Sj at p3
    dsimp only at p3
    cases q1:qL k with
    | none=>rw[q1] at p3;exact aa p3
    | some kk=>
     cases q2:st3[l]? with
     | none=>rw[q1,q2] at p3;exact aa p3
     | some ob=>
      rw[q1,q2] at p3
      cases ob with
      | iU kvs=>
       dsimp only at p3
       by_cases c:kvs.length < lim
       ·rw[if_pos c] at p3
        have YB:m3[l]? =some a:=(e2.trans e3).pre _ _ ha
        obtain⟨xs,y1,y2⟩:=(show ∃ys,H3 a=some (.dN ys)/\RelK X.K m3 H3 kvs ys from S3.obj _ _ _ YB q2)
        obtain⟨b,rfl,hb⟩:=FU (ag.mono e3 _ _ r2) q1
        obtain⟨i1,i2⟩:=y2.val kk
        refine⟨xs,kk,b,y1,rfl,hb,by rw[<-y2.length];exact p6 c,λu TN=>?_,λhn=>?_⟩
        ·cases q3:bJ kvs kk with
         | none=>rw[i1 q3] at TN;cases TN
         | some w=>
          rw[q3] at p3
          obtain⟨u',j1,j2⟩:=i2 w q3
          rw[TN] at j1
          cases j1
          exact p3 u m3 H3 (e1.trans (e2.trans e3)) S3 j2
        ·cases q3:bJ kvs kk with
         | none=>
          rw[q3] at p3
          have ex:Ext X.K m3 H3 m3 (upd H3 a (.dN (putK xs kk z))):=Ext.iG (.inr (.inr (.inr (.inr ⟨_,y1⟩))))
          exact p3 z m3 _ (e1.trans (e2.trans (e3.trans ex))) (S3.pX YB q2 rfl ⟨_,aP,(y2.put kk r3).mono ex⟩) (ag.mono ex _ _ r3)
         | some w=>
          obtain⟨u',j1,_⟩:=i2 w q3
          rw[hn] at j1
          cases j1
       ·rw[if_neg c] at p3;exact aa p3
      | _=>exact aa p3
   | _=>cases hd
  ·rw[if_neg hd] at p1;exact aa p1
theorem FW{gd:GE}{x:Str}{p pos:Pos}(hc:X.calm=true)(hg:Gl X x)(hm:X.mg x=none)(hv:adt x=some (.type "list"))(ho:JE X o gd)(M:M0 X o "values" apos cpos)
  (hn:x≠"__name__":=by decide)(hdb:(x == ("__debug__":Str))=false:=by decide):JE X (.Call (.Name x p) [.Call (.Attribute o "values" apos) [] [] cpos] [] pos) (uD gd) :=
 JE.of (sd (yB hc) hg hm hv (zy (Si aV M) DA) hn hdb) λρ st σ H m Q S R p=>by
  refine ho.go S R (aw.bind p) λd st1 v m1 H1 p1 e1 S1 r1=>?_
  unfold FV at p1
  cases d with
  | ref l=>
   dsimp only at p1
   unfold ag at r1
   obtain⟨a,rfl,ha⟩:=r1
   cases q2:st1[l]? with
   | none=>rw[q2] at p1;exact aa p1
   | some ob=>
    rw[q2] at p1
    cases ob with
    | iU kvs=>
     dsimp only at p1
     obtain⟨xs,y1,y2⟩:=(show ∃ys,H1 a=some (.dN ys)/\RelK X.K m1 H1 kvs ys from S1.obj _ _ _ ha q2)
     refine⟨a,xs,rfl,y1,λp hp=>⟨p,a,xs,rfl,aP,by rw[au (aT y1 hp)];exact y1,λk hk=>?_⟩⟩
     have ex:Ext X.K m1 H1 m1 (upd H1 p (.ext (FR p a))):=Ext.iG (.inl hp)
     have S2:=S1.fresh (o:=.ext (FR p a)) hp
     exact p1 (.ref k) (m1++[k]) _ (e1.trans (ex.trans (Ext.more.trans (Ext.iG (.inl hk))))) (S2.alloc hk (ah.mono ex _ _ y2.2)) (S2.newest k _)
    | _=>exact aa p1
  | _=>exact aa p1
end
def fN(o v:Wv)(st:Hs):Re Wv:=match aG st 20 o,aG st 20 v with
 | some (.list ds),some d=>(match ds.findIdx? (λz=>aC z d) with | some j=>if ds.length < lim then .ok (.int (j:Nat)) st else .bad | none=> .bad)
 | _,_=> .bad
section
variable {X:Cx}
theorem yC(hu:X.A.units+64 < cLine):TZ X "list.index" (λx xs H Q=>∃m st o w v ds d j,a_ X.K m st H/\ag X.K m H o x/\xs=[v]/\ag X.K m H w v/\aG st 20 o=some (.list ds)/\aG st 20 w=some d/\ds.findIdx? (λz=>aC z d)=some j/\ds.length < adA/\Q (.int (j:Nat)) H):=by
 intro pins s σ H x xs v us Q I rx rv h
 obtain⟨m,st,o,w,y,ds,d,j,S,ro,rfl,rw',e1,e2,ej,hl,q⟩:=h
 obtain⟨u,rfl,ru⟩:=vals1 rv
 obtain⟨as,q1,q2,q3⟩:=cP I S 20 w y u d rw' ru e2
 obtain⟨bs,p1,p2,p3⟩:=cP I S 20 o x v _ ro rx e1
 have hd:X.A.units+1+min (gj ds) d.depth < cLine:=by
  have:=tP (gj ds) d.depth
  omega
 have ca:mv ds=true:=p2
 have hs:adA=16777216:=sizeLine_eq
 cases p1 with
 | @list a ob its n _ bs h1 h2 h3 h4=>
  have hm:=SeqAt.readsAll_map ds _ _ ca h4
  have hz:its.size=ds.length:=by rw[<-hm];simp
  obtain⟨cls,dd,data,sl⟩:=ob
  simp only at h2 h3
  subst h2;subst h3
  rw[List.findIdx?_eq_some_iff_getElem] at ej
  obtain⟨hj1,hj2,hj3⟩:=ej
  have at':∀(k:Nat)(hk:k < ds.length)(h':k < its.size),aC (pE s.heap its[k]) d=aC ds[k] d:=by
   intro k hk h'
   have:ds[k]? =some (pE s.heap its[k]):=by rw[<-hm];simp[h']
   rw[cE hk] at this
   rw[<-Option.some.inj this]
  refine call_meets PySem.F.slot_list_index ⟨_,h1,rfl⟩ PySem.F.entry_list_index (PySem.F.args_list_index_2 _ _) (SeqAt.list_indexAt a its n dd sl u (λy=>aC (pE s.heap y) d) j (by omega) (by omega) ?_ ?_) ⟨h1,SeqAt.items_eqAt h4 q1 ca q2 hd,⟨.int _,H,I.tok _,⟨_,rfl⟩,q⟩⟩
  ·show aC (pE s.heap its[j]) d=true
   rw[at' j hj1 (by omega)];exact hj2
  ·intro m hm' hlt
   show aC (pE s.heap its[m]) d=false
   rw[at' m (by omega) hm']
   simpa using hj3 m hlt
theorem yD(hu:X.A.units+64 < cLine):T_ X "list.index" fN:=⟨_,yC hu,λo w x v st H m Q S ro rw' p=>by
 unfold fN at p
 split at p
 ·rename_i ds d e1 e2
  cases ej:ds.findIdx? (λz=>aC z d) with
  | none=>rw[ej] at p;exact aa p
  | some j=>
   rw[ej] at p
   dsimp only at p
   by_cases c:ds.length < lim
   ·rw[if_pos c] at p
    exact⟨m,st,o,w,v,ds,d,j,S,ro,rfl,rw',e1,e2,ej,p6 c,p _ m H Ext.refl S mkInt⟩
   ·rw[if_neg c] at p;exact aa p
 ·exact aa p⟩
end
structure Ct where
 N:List Str
 names:List (Str×adl)
 consts:List (Str×Wv)
 bl:List Str
 fns:List (Str×Nat×(List Wv->Hs->Re Wv))
 tb:Tab:=[]
 tt:ui:=[]
 clss:List Str:=[]
 AM:List Str:=[]
 tc:Tab:=[]
 AN:List (Str×Dc):=[]
 xu:List Str:=[]
 YC:List Str:=[]
 OK:List Str:=[]
 FX:List Str:=[]
 FY:List Str:=[]
 loop:Bool:=true
 free:Bool:=true
 top:Bool:=true
 lam:Option (Lm×LF):=none
 xv:List (Str×Qa):=[]
 Ke:List Str:=[]
 lj:Nat:=0
 sk:Nat:=0
 Qe:List Str:=[]
 self:Str:=""
def j4(x:Str):List Str->Option Nat
 | []=>none
 | y::r=>if x=y then some 0 else match j4 x r with
  | some i=>some (i+1)
  | none=>none
theorem fO{x:Str}:∀{N:List Str}{i:Nat},j4 x N=some i->N[i]? =some x
 | [],i,h=>by cases h
 | y::r,i,h=>by
  unfold j4 at h
  by_cases e:x=y
  ·rw[if_pos e] at h;cases h;subst e;rfl
  ·rw[if_neg e] at h
   cases q:j4 x r with
   | none=>rw[q] at h;cases h
   | some j=>rw[q] at h;cases h;simpa using fO q
def okN(x:Str):Bool:=!(x == ("__debug__":Str))&& !(x == ("__classdict__":Str))&& !(decide (x="__name__"))
theorem gU{x:Str}(h:okN x=true):(x == ("__debug__":Str))=false:=by unfold okN at h;revert h;cases (x == ("__debug__":Str))<;>simp
theorem AO{x:Str}(h:okN x=true):(x == ("__classdict__":Str))=false:=by unfold okN at h;revert h;cases (x == ("__classdict__":Str))<;>simp
theorem FZ{x:Str}(h:okN x=true):x≠"__name__":=by
 intro e
 subst e
 unfold okN at h
 simp at h
def wD:List Wv->List V->Prop
 | [],[]=>True
 | .int i::r,.int j::t=>i=j/\wD r t
 | .str x::r,.str y::t=>(x=y/\aO x=true)/\wD r t
 | _,_=>False
theorem wD.rel{K:PySem.W.Frag}{m:Mp}{H:Hp}:∀{ws:List Wv}{vs:List V},wD ws vs->ah K m H ws vs
 | [],[],_=>ah.nil
 | .int i::r,.int j::t,h=>by
  obtain⟨rfl,h⟩:=h
  exact ah.cons (by unfold ag;rfl) h.rel
 | .str x::r,.str y::t,h=>by
  obtain⟨⟨rfl,hx⟩,h⟩:=h
  exact ah.cons (by unfold ag;exact⟨rfl,hx⟩) h.rel
 | [],_::_,h=>aa h
 | .int i::r,[],h=>aa h
 | .str i::r,[],h=>aa h
 | .int i::r,.str _::_,h=>aa h
 | .str i::r,.int _::_,h=>aa h
def AQ(K:PySem.W.Frag)(mg:Str->Option ado)(x:Str):Wv->Prop
 | .int i=>∃t,mg x=some (.int i t)
 | .str y=>(∃t,mg x=some (.str y t))/\aO y=true
 | .og ws=>∃(a:adi)(vs:List V)(o:Obj)(its:Array ado)(n:Nat),mg x=some (.ref a)/\K.lookup a=some o/\o.cls= .type "tuple"/\o.data= .seq its n/\its.size<=adA/\Vals vs its.toList/\wD ws vs
 | _=>False
structure Sk(c:Ct)(k:Nat)(X:Cx):Prop where
 lam:∀p L,c.lam=some (p,L)->qC X.prog X.w X.K X.mg X.base k p 3 L
 xv:∀x F,c.xv.lookup x=some F->Ug X.prog X.w X.K X.mg k c.lj x F
 OL:∀x n F,c.fns.lookup x=some (n,F)->c.Ke.contains x=true->∀base,jk X.K X.mg base->oJ X.prog X.w X.K X.mg base c.lj x n F
 at':c.top=true->c.self∈br->∃P,Ay X c.self P
 sk:c.sk<=k
 Sl:∀x n F,c.fns.lookup x=some (n,F)->c.Qe.contains x=true->oJ X.prog X.w X.K X.mg X.base c.lj x n F
structure Good(c:Ct)(k:Nat)(X:Cx):Prop where
 N:X.N=c.N
 sc:X.env.scope.names=c.names
 nd:c.N.Nodup
 un:X.A.units+64 < cLine
 free:c.free=true->iF k X.A/\X.calm=true
 loop:c.loop=true->X.calm=true/\PassesOwn (model X.prog X.w) X.A X.env X.xe
 cst:∀x w,c.consts.lookup x=some w->AQ X.K X.mg x w
 bl:∀x,c.bl.contains x=true->X.mg x=none
 fns:∀x n F,c.fns.lookup x=some (n,F)->oJ X.prog X.w X.K X.mg X.base k x n F
 stk:c.top=true->Stk X
 fn:c.top=true->∀x,X.fn x=true
 kind:X.env.scope.kind= .function
 tab:TabOk X.K c.tb c.tt c.tc
 cls:∀x,c.clss.contains x=true->∃C,X.mg x=some (.ref C)/\Jg X.K x C
 AM:∀x,c.AM.contains x=true->∃C,X.mg x=some (.ref C)/\ClsAt X.K x C
 AN:∀x kvs,c.AN.lookup x=some kvs->yc X.K X.w X.mg x kvs
 rm:qA k X.A
 FY:∀x n F,c.FY.contains x=true->c.fns.lookup x=some (n,F)->Jz X.prog X.w X.K X.mg X.base k x n F
 x:Sk c k X
 fr:EE X
 hd:NJ X
theorem uE{k:Nat}{A:adj}(hr:iF k A):A.units+64 < cLine:=by have:=hr.un;omega
theorem F0:adt "ValueError"=some (.type "ValueError"):=by decide+kernel
theorem wF:adt "dict"=some (.type "dict"):=by decide+kernel
def Kf(x:Str):Option String :=
 if x="int" then some "int" else if x="str" then some "str" else if x="bool" then some "bool" else if x="tuple" then some "tuple" else if x="list" then some "list" else if x="ValueError" then some "ValueError" else if x="dict" then some "dict" else none
theorem Kh{x:Str}{T:String}(h:Kf x=some T):adt x=some (.type T):=by
 unfold Kf at h
 by_cases e:x="int"
 ·rw[if_pos e] at h;cases h;subst e;exact Ek
 rw[if_neg e] at h
 by_cases e:x="str"
 ·rw[if_pos e] at h;cases h;subst e;exact El
 rw[if_neg e] at h
 by_cases e:x="bool"
 ·rw[if_pos e] at h;cases h;subst e;exact Em
 rw[if_neg e] at h
 by_cases e:x="tuple"
 ·rw[if_pos e] at h;cases h;subst e;exact vI
 rw[if_neg e] at h
 by_cases e:x="list"
 ·rw[if_pos e] at h;cases h;subst e;exact En
 rw[if_neg e] at h
 by_cases e:x="ValueError"
 ·rw[if_pos e] at h;cases h;subst e;exact F0
 rw[if_neg e] at h
 by_cases e:x="dict"
 ·rw[if_pos e] at h;cases h;subst e;exact wF
 rw[if_neg e] at h
 cases h
section
variable {X:Cx}
def F2:fY:=λ_ _ _=> .bad
theorem F3{f:ado->ado->Sem ado}:kO X f F2:=⟨λ_ _ _ _=>False,λ_ _ _ _ _ _ _ _ _ _ _ _ h=>h.elim,λ_ _ _ _ _ _ _ _ _ _ _ p=>p⟩
def Sm:Operator->fY
 | .Add=>cq
 | .Sub=>ke
 | .Mult=>cR
 | .FloorDiv=>fZ
 | .Mod=>oMod
 | .Pow=>p9
 | _=>F2
theorem Ki(o:Operator):kO X (ads o) (Sm o):=by
 cases o<;>first | exact Nx | exact Nu | exact E4 | exact IL | exact Nv | exact Nw | exact F3
def yE:CmpOp->fY
 | .Eq=>oEq
 | .NotEq=>C8
 | .Lt=>oLt
 | .LtE=>oLe
 | .Gt=>F2
 | .GtE=>F2
 | .Is=>Rg
 | .IsNot=>wB
 | .In=>oK
 | .NotIn=>F2
theorem k7(hu:X.A.units+64 < cLine)(o:CmpOp):kO X (adw o) (yE o):=by
 cases o<;>first | exact Ll hu | exact Ln hu | exact OG hu | exact N8 hu | exact Ri | exact J9 | exact N2 | exact F3
def F4(c:Ct)(x:Str):GE:=if okN x=true then
  match c.names.lookup x with
  | some .local=>(match j4 x c.N with | some i=>af i | none=>bO)
  | some .cell=>(match j4 x c.N with | some i=>af i | none=>bO)
  | some .free=>(match j4 x c.N with | some i=>af i | none=>bO)
  | some .globalImplicit=>(match c.consts.lookup x with
   | some w=>gC w
   | none=>if c.clss.contains x=true then gC (.cls x) else if c.AM.contains x=true then gC (.cls x) else if c.bl.contains x=true then(match Kf x with | some T=>gC (.ty T) | none=>bO) else bO)
  | _=>bO
 else bO
theorem F5{c:Ct}{k:Nat}(G:Good c k X)(x:Str)(pos:Pos):JE X (.Name x pos) (F4 c x):=by
 unfold F4
 by_cases hx:okN x=true
 ·rw[if_pos hx]
  cases e:c.names.lookup x with
  | none=>exact aH
  | some kd=>
   have el:X.env.scope.names.lookup x=some kd:=by rw[G.sc];exact e
   cases kd with
   | «local»=>
    dsimp only
    cases e2:j4 x c.N with
    | none=>exact aH
    | some i=>exact xT i (by rw[G.N];exact fO e2) (Or.inl el) (gU hx) (AO hx)
   | cell=>
    dsimp only
    cases e2:j4 x c.N with
    | none=>exact aH
    | some i=>exact xT i (by rw[G.N];exact fO e2) (kN (Or.inl el)) (gU hx) (AO hx)
   | free=>
    dsimp only
    cases e2:j4 x c.N with
    | none=>exact aH
    | some i=>exact xT i (by rw[G.N];exact fO e2) (kN (kN el)) (gU hx) (AO hx)
   | globalImplicit=>
    dsimp only
    have hg:Gl X x:=el
    cases e2:c.consts.lookup x with
    | some w=>
     have q:=G.cst x w e2
     cases w with
     | int i=>obtain⟨t,q⟩:=q;exact DX hg q (gU hx)
     | str y=>obtain⟨⟨t,q⟩,z⟩:=q;exact DY hg q z (gU hx)
     | og ws=>
      obtain⟨a,vs,o,its,n,q1,q2,q3,q4,q5,q6,q7⟩:=q
      exact JE.of (kL (v:=.ref a) hg q1 rfl (gU hx)) λρ st σ H m Q S R p=>p (.ref a) m H Ext.refl S (by unfold ag;exact⟨a,vs,rfl,⟨o,its,n,q2,q3,q4,q5,q6⟩,q7.rel⟩)
     | _=>exact aa q
    | none=>
     dsimp only
     by_cases e5:c.clss.contains x=true
     ·rw[if_pos e5]
      obtain⟨C,q1,q2⟩:=G.cls x e5
      exact JE.of (kL (v:=.ref C) hg q1 rfl (gU hx)) λρ st σ H m Q S R p=>p (.ref C) m H Ext.refl S (by unfold ag;exact⟨C,rfl,q2.cls⟩)
     rw[if_neg e5]
     by_cases e6:c.AM.contains x=true
     ·rw[if_pos e6]
      obtain⟨C,q1,q2⟩:=G.AM x e6
      exact JE.of (kL (v:=.ref C) hg q1 rfl (gU hx)) λρ st σ H m Q S R p=>p (.ref C) m H Ext.refl S (by unfold ag;exact⟨C,rfl,q2⟩)
     rw[if_neg e6]
     by_cases e3:c.bl.contains x=true
     ·rw[if_pos e3]
      cases e4:Kf x with
      | none=>exact aH
      | some T=>exact Q7 hg (G.bl x e3) (Kh e4) (FZ hx) (gU hx)
     ·rw[if_neg e3];exact aH
   | _=>exact aH
 ·rw[if_neg hx];exact aH
def F6:Const->GE
 | .none=>gC .non
 | .bool b=>gC (.bl b)
 | .int i=>gC (.int i)
 | .str x=>if aO x=true then gC (.str x) else bO
 | _=>bO
theorem Cq(k:Const)(j:Nat)(pos:Pos):JE X (.Constant k j pos) (F6 k):=by
 cases k with
 | none=>exact Nh
 | bool b=>exact Q6
 | int i=>exact Ng
 | str x=>
  show JE X _ (if aO x=true then gC (.str x) else bO)
  by_cases h:aO x=true
  ·rw[if_pos h];exact Ni h
  ·rw[if_neg h];exact aH
 | _=>exact aH
def plain:Expr->Bool
 | .Starred .. =>false
 | _=>true
theorem aW{e:Expr}{es:List Expr}{env:Env}(h:plain e=true):adB (e::es) env=(false,eval e env)::adB es env:=by
 cases e<;>first | rfl | cases h
theorem fg{pos:Pos}{env:Env}:∀{es:List Expr},es.all plain=true->(backTo pos (adB es env)).any (·.1)=false
 | [],_=>rfl
 | e::es,h=>by
  rw[cV,cD] at h
  rw[aW h.1]
  have q:=fg (pos:=pos) (env:=env) h.2
  unfold backTo at q ⊢
  rw[aD,gQ,q]
  rfl
def lG(f:Expr->GE):List Expr->GA
 | []=>ao
 | e::es=>ae (f e) (lG f es)
theorem gy{f:Expr->GE}(h:∀e,JE X e (f e)):∀es:List Expr,es.all plain=true->JA X es (lG f es)
 | [],_=>xU
 | e::es,g=>by
  rw[cV,cD] at g
  exact ua (h e) (gy h es g.2) (aW g.1)
def Uk(c:Ct)(x:Str):Option (ado×(List Wv->Hs->Re Wv)) :=
 if x="len" then some (.builtin "len",mH) else if x="isinstance" then some (.builtin "isinstance",if c.bl.contains "dict"=true then oO c.tb c.tt else nD c.tb c.tt) else if x="tuple" then some (.type "tuple",f9) else if x="min"/\c.free=true then some (.builtin "min",sI) else if x="sum"/\c.free=true then some (.builtin "sum",EM) else if x="sorted"/\c.free=true then some (.builtin "sorted",lF) else if x="dict"/\c.free=true then some (.type "dict",qH) else none
theorem Cr:adt "min"=some (.builtin "min"):=by decide+kernel
theorem Cs:adt "sum"=some (.builtin "sum"):=by decide+kernel
theorem Cu:adt "sorted"=some (.builtin "sorted"):=by decide+kernel
theorem OM{c:Ct}(O:TabOk X.K c.tb c.tt c.tc):gR X (.builtin "isinstance") (if c.bl.contains "dict"=true then oO c.tb c.tt else nD c.tb c.tt):=by
 by_cases e2:c.bl.contains "dict"=true
 ·rw[if_pos e2];exact OE O
 ·rw[if_neg e2];exact Ey O
theorem ON{c:Ct}{x:Str}{v:ado}{op:List Wv->Hs->Re Wv}(O:TabOk X.K c.tb c.tt c.tc)(hc:c.free=true->X.calm=true)(h:Uk c x=some (v,op)):adt x=some v/\gR X v op/\((∃id,v= .builtin id)\/∃T,v= .type T):=by
 unfold Uk at h
 by_cases e:x="len"
 ·rw[if_pos e] at h;cases h;subst e;exact⟨BQ,NA,.inl ⟨_,rfl⟩⟩
 rw[if_neg e] at h
 by_cases e:x="isinstance"
 ·rw[if_pos e] at h;cases h;subst e;exact⟨Ej,OM O,.inl ⟨_,rfl⟩⟩
 rw[if_neg e] at h
 by_cases e:x="tuple"
 ·rw[if_pos e] at h;cases h;subst e;exact⟨vI,NX,.inr ⟨_,rfl⟩⟩
 rw[if_neg e] at h
 by_cases e:x="min"/\c.free=true
 ·rw[if_pos e] at h;cases h;obtain⟨rfl,e2⟩:=e;exact⟨Cr,Jp (hc e2),.inl ⟨_,rfl⟩⟩
 rw[if_neg e] at h
 by_cases e:x="sum"/\c.free=true
 ·rw[if_pos e] at h;cases h;obtain⟨rfl,e2⟩:=e;exact⟨Cs,NY (hc e2),.inl ⟨_,rfl⟩⟩
 rw[if_neg e] at h
 by_cases e:x="sorted"/\c.free=true
 ·rw[if_pos e] at h;cases h;obtain⟨rfl,e2⟩:=e;exact⟨Cu,J7 (hc e2),.inl ⟨_,rfl⟩⟩
 rw[if_neg e] at h
 by_cases e:x="dict"/\c.free=true
 ·rw[if_pos e] at h;cases h;obtain⟨rfl,e2⟩:=e;exact⟨wF,J3,.inr ⟨_,rfl⟩⟩
 rw[if_neg e] at h
 cases h
def yF(c:Ct)(fE:Expr->GE)(x:Str)(es:List Expr):GE:=match c.lam,j4 x c.N with
 | some (p,L),some i=>if okN x=true/\es.all plain=true/\(c.names.lookup x=some .local\/c.names.lookup x=some .cell\/c.names.lookup x=some .free)/\c.free=true then lY p 3 L i (lG fE es) else bO
 | _,_=>bO
theorem Cv{c:Ct}{k:Nat}(G:Good c k X){fE:Expr->GE}(h:∀e,JE X e (fE e))(x:Str)(e:Expr)(es:List Expr)(p pos:Pos):JE X (.Call (.Name x p) (e::es) [] pos) (yF c fE x (e::es)):=by
 unfold yF
 cases el:c.lam with
 | none=>exact aH
 | some pL=>
  obtain⟨pl,L⟩:=pL
  cases ei:j4 x c.N with
  | none=>exact aH
  | some i=>
   dsimp only
   by_cases g:okN x=true/\(e::es).all plain=true/\(c.names.lookup x=some .local\/c.names.lookup x=some .cell\/c.names.lookup x=some .free)/\c.free=true
   ·rw[if_pos g]
    obtain⟨g1,g2,g3,g4⟩:=g
    have gp:plain e=true/\es.all plain=true:=by rw[cV,cD] at g2;exact g2
    refine E6 (G.x.lam pl L el) (G.free g4).1 (by rw[G.N];exact fO ei) ?_ (gy h (e::es) g2) (gU g1) (AO g1) (aW gp.1) (fg gp.2)
    unfold PX
    rw[G.sc]
    exact g3
   ·rw[if_neg g];exact aH
def uF(c:Ct)(fE:Expr->GE)(x:Str)(es:List Expr):GE:=if okN x=true/\es.all plain=true/\c.names.lookup x=some .globalImplicit then
   (match c.fns.lookup x with
   | some (n,F)=>if c.free=true then az n F (lG fE es) else bO
   | none=>if c.bl.contains x=true then(match Uk c x with | some (_,op)=>aZ op (lG fE es) | none=>bO) else bO)
  else yF c fE x es
def uG:List Expr->Option (Str×Str×Pos×Pos×Pos)
 | [.Call (.Attribute (.Name y p) nm apos) [] [] cpos]=>some (y,nm,p,apos,cpos)
 | _=>none
theorem Cw{es:List Expr}{y nm:Str}{p apos cpos:Pos}(h:uG es=some (y,nm,p,apos,cpos)):es=[.Call (.Attribute (.Name y p) nm apos) [] [] cpos]:=by
 unfold uG at h
 split at h
 ·cases h;rfl
 ·cases h
def yG(c:Ct)(fE:Expr->GE)(x:Str)(es:List Expr):GE:=match uG es with
 | some (y,nm,p,apos,cpos)=>if x="list"/\nm="values"/\c.OK.contains y=true/\c.names.lookup x=some .globalImplicit/\c.bl.contains x=true/\c.free=true/\(apos.endLine == cpos.line)=true then uD (fE (.Name y p)) else uF c fE x es
 | none=>uF c fE x es
def F7(fE:Expr->GE)(o:Expr)(name:Str)(e:Expr)(apos cpos:Pos):GE:=if plain e=true/\(apos.endLine == cpos.line)=true then
   (if name="append" then eF iI (fE o) (fE e) else bO)
  else bO
def uH(fE:Expr->GE)(o:Expr)(name:Str)(es:List Expr)(apos cpos:Pos):GE:=bO
theorem all_plain{pos:Pos}{env:Env}:∀{es:List Expr},es.all plain=true->(backTo pos (adB es env)).all (λx=> !x.1)=true
 | [],_=>rfl
 | e::es,h=>by
  rw[cV,cD] at h
  rw[aW h.1]
  have q:=all_plain (pos:=pos) (env:=env) h.2
  unfold backTo at q ⊢
  rw[aD,cV,q]
  rfl
theorem nO{fE:Expr->GE}(h:∀e,JE X e (fE e))(o:Expr)(name:Str)(e:Expr)(es:List Expr)(apos cpos:Pos):JE X (.Call (.Attribute o name apos) (e::es) [] cpos) (uH fE o name (e::es) apos cpos):=by
 exact aH
def Kj(c:Ct)(x:Str):Option Dc:=if okN x=true/\c.names.lookup x=some .globalImplicit then c.AN.lookup x else none
theorem Kk{c:Ct}{k:Nat}(G:Good c k X){x:Str}{kvs:Dc}(h:Kj c x=some kvs):Gl X x/\(x == ("__debug__":Str))=false/\yc X.K X.w X.mg x kvs:=by
 unfold Kj at h
 by_cases g:okN x=true/\c.names.lookup x=some .globalImplicit
 ·rw[if_pos g] at h
  refine⟨?_,gU g.1,G.AN x kvs h⟩
  show X.env.scope.names.lookup x=_
  rw[G.sc];exact g.2
 ·rw[if_neg g] at h;cases h
def mX:Expr->Bool
 | .Subscript .. =>true
 | _=>false
theorem F8{o:Expr}{name:Str}{env:Env}(h:mX o=true):attributeBase o name env (eval o env)=eval o env:=by
 unfold mX at h
 split at h
 ·rfl
 ·cases h
theorem VN{o:Expr}{name:Str}{env:Env}(h:(FH o||mX o)=true):attributeBase o name env (eval o env)=eval o env:=by
 rw[xX] at h
 rcases h with h | h
 ·exact Cj h
 ·exact F8 h
def yH(c:Ct)(fE:Expr->GE)(x:Str)(p:Pos)(e f:Expr)(apos cpos:Pos):GE:=if c.OK.contains x=true/\plain e=true/\plain f=true/\(apos.endLine == cpos.line)=true then oB (fE (.Name x p)) (fE e) (fE f) else bO
theorem Cy{c:Ct}{k:Nat}(G:Good c k X){fE:Expr->GE}(h:∀e,JE X e (fE e))(x:Str)(p:Pos)(e f:Expr)(apos cpos:Pos):JE X (.Call (.Attribute (.Name x p) "setdefault" apos) [e,f] [] cpos) (yH c fE x p e f apos cpos):=by
 unfold yH
 by_cases g:c.OK.contains x=true/\plain e=true/\plain f=true/\(apos.endLine == cpos.line)=true
 ·rw[if_pos g]
  obtain⟨_,g1,g2,g3⟩:=g
  refine Kd (by have:=G.un;omega) (h _) (h e) (h f) ⟨rfl,?_,g3,?_⟩
  ·rw[all_plain (es:=[e,f]) (by simp[g1,g2])]
   rfl
  ·rw[aW g1,aW g2]
   rfl
 ·rw[if_neg g];exact aH
def F9(c:Ct)(fE:Expr->GE)(x:Str)(p:Pos)(e:Expr)(apos cpos:Pos):GE:=if c.xu.contains x=true/\plain e=true/\(apos.endLine == cpos.line)=true then qJ (fE (.Name x p)) (fE e) else bO
theorem F_{c:Ct}{k:Nat}(G:Good c k X){fE:Expr->GE}(h:∀e,JE X e (fE e))(x:Str)(p:Pos)(e:Expr)(apos cpos:Pos):JE X (.Call (.Attribute (.Name x p) "get" apos) [e] [] cpos) (F9 c fE x p e apos cpos):=by
 unfold F9
 by_cases g:c.xu.contains x=true/\plain e=true/\(apos.endLine == cpos.line)=true
 ·rw[if_pos g]
  obtain⟨_,g1,g3⟩:=g
  refine FF (by have:=G.un;omega) (h _) (h e) ⟨rfl,?_,g3,?_⟩
  ·rw[all_plain (es:=[e]) (by simp[g1])]
   rfl
  ·rw[aW g1]
   rfl
 ·rw[if_neg g];exact aH
def sV(c:Ct)(fE:Expr->GE)(cpos:Pos):Expr->List Expr->List Keyword->GE
 | .Name x _,e::es,[]=>yG c fE x (e::es)
 | .Attribute (.Name x p) name apos,[e],[]=>if name="get" then F9 c fE x p e apos cpos else if name="append"\/name="extend" then F7 fE (.Name x p) name e apos cpos else if name="index"/\c.FX.contains x=true/\plain e=true/\(apos.endLine == cpos.line)=true then eF fN (fE (.Name x p)) (fE e) else uH fE (.Name x p) name [e] apos cpos
 | .Attribute (.Name x p) name apos,[e,f],[]=>if name="setdefault" then yH c fE x p e f apos cpos else uH fE (.Name x p) name [e,f] apos cpos
 | .Attribute o name apos,[e],[]=>if name="append"/\(FH o||mX o)=true/\plain e=true/\(apos.endLine == cpos.line)=true then eF iI (fE o) (fE e) else bO
 | .Attribute o name apos,e::es,[]=>uH fE o name (e::es) apos cpos
 | _,_,_=>bO
theorem sW{c:Ct}{k:Nat}(G:Good c k X){fE:Expr->GE}(h:∀e,JE X e (fE e))(x:Str)(e:Expr)(es:List Expr)(p pos:Pos):JE X (.Call (.Name x p) (e::es) [] pos) (uF c fE x (e::es)):=by
 unfold uF
 by_cases g:okN x=true/\(e::es).all plain=true/\c.names.lookup x=some .globalImplicit
 ·rw[if_pos g]
  obtain⟨g1,g2,g3⟩:=g
  have hg:Gl X x:=by
   show X.env.scope.names.lookup x=_
   rw[G.sc];exact g3
  have gp:plain e=true/\es.all plain=true:=by rw[cV,cD] at g2;exact g2
  have ha:=gy h (e::es) g2
  cases e1:c.fns.lookup x with
  | some nF=>
   obtain⟨n,F⟩:=nF
   dsimp only
   by_cases cf:c.free=true
   ·rw[if_pos cf]
    obtain⟨a,fd,ps,G1,G2,G3,G4⟩:=G.fns x n F e1
    exact Ja G1 (G.free cf).1 G2 G3 G4 ha hg (gU g1) (aW gp.1) (fg gp.2)
   ·rw[if_neg cf]
    exact aH
  | none=>
   dsimp only
   by_cases e3:c.bl.contains x=true
   ·rw[if_pos e3]
    cases e4:Uk c x with
    | none=>exact aH
    | some io=>
     obtain⟨v,op⟩:=io
     obtain⟨b1,b2,b3⟩:=ON (X:=X) G.tab (λz=>(G.free z).2) e4
     rcases b3 with ⟨id,rfl⟩ | ⟨T,rfl⟩
     ·exact D7 b2 hg (G.bl x e3) b1 ha (FZ g1) (gU g1) (aW gp.1) (fg gp.2)
     ·exact BK b2 hg (G.bl x e3) b1 ha (FZ g1) (gU g1) (aW gp.1) (fg gp.2)
   ·rw[if_neg e3]
    exact aH
 ·rw[if_neg g];exact Cv G h x e es p pos
theorem Cz{c:Ct}{k:Nat}(G:Good c k X){fE:Expr->GE}(h:∀e,JE X e (fE e))(x:Str)(e:Expr)(es:List Expr)(p pos:Pos):JE X (.Call (.Name x p) (e::es) [] pos) (yG c fE x (e::es)):=by
 unfold yG
 cases q:uG (e::es) with
 | none=>exact sW G h _ _ _ _ _
 | some t=>
  obtain⟨y,nm,p1,apos,cpos⟩:=t
  dsimp only
  by_cases g:x="list"/\nm="values"/\c.OK.contains y=true/\c.names.lookup x=some .globalImplicit/\c.bl.contains x=true/\c.free=true/\(apos.endLine == cpos.line)=true
  ·rw[if_pos g]
   obtain⟨rfl,rfl,_,g4,g5,g6,g7⟩:=g
   rw[Cw q]
   exact FW (G.free g6).2 (by show X.env.scope.names.lookup _=_;rw[G.sc];exact g4) (G.bl _ g5) rfl (h _) ⟨rfl,g7⟩
  ·rw[if_neg g];exact sW G h _ _ _ _ _
theorem Ga{fE:Expr->GE}(h:∀e,JE X e (fE e))(x name:Str)(e:Expr)(p apos cpos:Pos):JE X (.Call (.Attribute (.Name x p) name apos) [e] [] cpos) (F7 fE (.Name x p) name e apos cpos):=by
 unfold F7
 by_cases g:plain e=true/\(apos.endLine == cpos.line)=true
 ·rw[if_pos g]
  by_cases n1:name="append"
  ·rw[if_pos n1]
   subst n1
   exact zY uj PySem.F.slot_list_append PySem.F.type_list_append (h _) (h e) (aW g.1) g.2
  rw[if_neg n1]
  exact aH
 ·rw[if_neg g];exact aH
theorem Gb{c:Ct}{k:Nat}(G:Good c k X){fE:Expr->GE}(h:∀e,JE X e (fE e))(f:Expr)(as:List Expr)(ks:List Keyword)(pos:Pos):JE X (.Call f as ks pos) (sV c fE pos f as ks):=by
 unfold sV
 split
 ·exact Cz G h _ _ _ _ _
 ·rename_i x p name apos e
  by_cases gg:name="get"
  ·rw[if_pos gg];subst gg;exact F_ G h _ _ _ _ _
  rw[if_neg gg]
  by_cases g:name="append"\/name="extend"
  ·rw[if_pos g];exact Ga h _ _ _ _ _ _
  ·rw[if_neg g]
   by_cases gi:name="index"/\c.FX.contains x=true/\plain e=true/\(apos.endLine == pos.line)=true
   ·rw[if_pos gi]
    obtain⟨rfl,_,g1,g3⟩:=gi
    exact zY (yD G.un) PySem.F.slot_list_index PySem.F.type_list_index (h _) (h e) (aW g1) g3
   rw[if_neg gi]
   exact nO h _ _ _ _ _ _
 ·rename_i x p name apos e f
  ·by_cases g4:name="setdefault"
   ·rw[if_pos g4];subst g4;exact Cy G h _ _ _ _ _ _
   ·rw[if_neg g4];exact nO h _ _ _ _ _ _
 ·rename_i o name apos e _
  by_cases ga:name="append"/\(FH o||mX o)=true/\plain e=true/\(apos.endLine == pos.line)=true
  ·rw[if_pos ga];obtain⟨rfl,g0,g1,g2⟩:=ga;exact E1 uj PySem.F.slot_list_append PySem.F.type_list_append (VN g0) (h _) (h e) (aW g1) g2
  rw[if_neg ga]
  exact aH
 ·exact nO h _ _ _ _ _ _
 ·exact aH
def CA:Expr->Bool
 | .Slice .. =>true
 | _=>false
def Gd(f:Expr->GE):Option Expr->GO
 | none=>kT
 | some e=>jN (f e)
theorem AR{f:Expr->GE}(h:∀e,JE X e (f e))(o:Option Expr):JO X o (Gd f o):=by
 cases o with
 | none=>exact IU
 | some e=>exact IV (h e)
def Kl(f:Expr->GE)(a:Expr):Expr->GE
 | .Slice lo hi none _=>fz (f a) (Gd f lo) (Gd f hi)
 | .Slice .. =>bO
 | b=>ai cg (f a) (f b)
theorem Ge{f:Expr->GE}(h:∀e,JE X e (f e))(a b:Expr)(pos:Pos):JE X (.Subscript a b pos) (Kl f a b):=by
 unfold Kl
 split
 ·exact BX (h a) (AR h _) (AR h _)
 ·exact aH
 ·rename_i n1 n2
  refine Rr (h a) (h b) ?_
  intro o i
  cases b<;>first | rfl | (rename_i lo hi st p;exact(n2 _ _ _ _ rfl).elim)
def Gf(f:Expr->GE)(a:Expr):List CmpOp->List Expr->GE
 | [o],[b]=>if adq o b=false then ai (yE o) (f a) (f b) else bO
 | [o,o'],[b,b']=>if lastMarks [o,o'] [b,b']=false then lT (yE o) (yE o') (f a) (f b) (f b') else bO
 | _,_=>bO
theorem yI(hu:X.A.units+64 < cLine){f:Expr->GE}(h:∀e,JE X e (f e))(a:Expr)(os:List CmpOp)(bs:List Expr)(pos:Pos):JE X (.Compare a os bs pos) (Gf f a os bs):=by
 unfold Gf
 split
 ·rename_i o b
  by_cases g:adq o b=false
  ·rw[if_pos g];exact p7 (k7 hu o) (h a) (h b) g
  ·rw[if_neg g];exact aH
 ·rename_i o o' b b'
  by_cases g:lastMarks [o,o'] [b,b']=false
  ·rw[if_pos g];exact DZ (k7 hu o) (k7 hu o') (h a) (h b) (h b') g
  ·rw[if_neg g];exact aH
 ·exact aH
def Gg(f:Expr->GE)(a:Expr):List CmpOp->List Expr->GT
 | [o],[b]=>if adq o b=false then cm (ai (yE o) (f a) (f b)) else i6
 | [o,o'],[b,b']=>if lastMarks [o,o'] [b,b']=false then cm (lT (yE o) (yE o') (f a) (f b) (f b')) else i6
 | _,_=>i6
theorem uI(hu:X.A.units+64 < cLine){f:Expr->GE}(h:∀e,JE X e (f e))(a:Expr)(os:List CmpOp)(bs:List Expr)(pos:Pos):JT X (.Compare a os bs pos) (Gg f a os bs):=by
 unfold Gg
 split
 ·rename_i o b
  by_cases g:adq o b=false
  ·rw[if_pos g];exact p8 (k7 hu o) (h a) (h b) g
  ·rw[if_neg g];exact iH
 ·rename_i o o' b b'
  by_cases g:lastMarks [o,o'] [b,b']=false
  ·rw[if_pos g];exact D0 (k7 hu o) (k7 hu o') (h a) (h b) (h b') g
  ·rw[if_neg g];exact iH
 ·exact iH
def Gh(c:Ct):Expr->Bool
 | .Name x _=>c.xu.contains x
 | _=>false
def Km(c:Ct)(f:Expr->GE)(a:Expr):List CmpOp->List Expr->GE
 | [.In],[.Name x p]=>if c.FX.contains x=true then(if adq .In (.Name x p)=false then ai (lC false) (f a) (f (.Name x p)) else bO) else Gf f a [.In] [.Name x p]
 | [.NotIn],[.Name x p]=>if c.FX.contains x=true then(if adq .NotIn (.Name x p)=false then ai (lC true) (f a) (f (.Name x p)) else bO) else Gf f a [.NotIn] [.Name x p]
 | os,bs=>Gf f a os bs
theorem AS{c:Ct}{k:Nat}(G:Good c k X){f:Expr->GE}(h:∀e,JE X e (f e))(a:Expr)(os:List CmpOp)(bs:List Expr)(pos:Pos):JE X (.Compare a os bs pos) (Km c f a os bs):=by
 unfold Km
 split
 ·rename_i x p
  ·by_cases gd:c.FX.contains x=true
   ·rw[if_pos gd]
    by_cases gm:adq .In (.Name x p)=false
    ·rw[if_pos gm];exact p7 (Fq G.un) (h a) (h _) gm
    ·rw[if_neg gm];exact aH
   ·rw[if_neg gd];exact yI G.un h a _ _ pos
 ·rename_i x p
  ·by_cases gd:c.FX.contains x=true
   ·rw[if_pos gd]
    by_cases gm:adq .NotIn (.Name x p)=false
    ·rw[if_pos gm];exact p7 (sQ G.un) (h a) (h _) gm
    ·rw[if_neg gm];exact aH
   ·rw[if_neg gd];exact yI G.un h a _ _ pos
 ·exact yI G.un h a _ _ pos
def AU(c:Ct)(f:Expr->GE)(a:Expr):List CmpOp->List Expr->GT
 | [.In],[.Name x p]=>if c.FX.contains x=true then(if adq .In (.Name x p)=false then cm (ai (lC false) (f a) (f (.Name x p))) else i6) else Gg f a [.In] [.Name x p]
 | [.NotIn],[.Name x p]=>if c.FX.contains x=true then(if adq .NotIn (.Name x p)=false then cm (ai (lC true) (f a) (f (.Name x p))) else i6) else Gg f a [.NotIn] [.Name x p]
 | os,bs=>Gg f a os bs
theorem wG{c:Ct}{k:Nat}(G:Good c k X){f:Expr->GE}(h:∀e,JE X e (f e))(a:Expr)(os:List CmpOp)(bs:List Expr)(pos:Pos):JT X (.Compare a os bs pos) (AU c f a os bs):=by
 unfold AU
 split
 ·rename_i x p
  ·by_cases gd:c.FX.contains x=true
   ·rw[if_pos gd]
    by_cases gm:adq .In (.Name x p)=false
    ·rw[if_pos gm];exact p8 (Fq G.un) (h a) (h _) gm
    ·rw[if_neg gm];exact iH
   ·rw[if_neg gd];exact uI G.un h a _ _ pos
 ·rename_i x p
  ·by_cases gd:c.FX.contains x=true
   ·rw[if_pos gd]
    by_cases gm:adq .NotIn (.Name x p)=false
    ·rw[if_pos gm];exact p8 (sQ G.un) (h a) (h _) gm
    ·rw[if_neg gm];exact iH
   ·rw[if_neg gd];exact uI G.un h a _ _ pos
 ·exact uI G.un h a _ _ pos
def Kn(c:Ct):Expr->Bool
 | .Subscript (.Name x _) (.Constant (.int 0) _ _) _=>c.xu.contains (x++"[]")
 | .Subscript (.Call (.Name x _) _ _ _) (.Constant (.int 0) _ _) _=>c.xu.contains (x++"()[]")
 | .Call (.Name x _) _ _ _=>c.xu.contains (x++"()")
 | e=>Gh c e
def fD(f:Expr->GE):Expr->GE
 | .Dict [] [] _=>vX
 | e=>f e
theorem AV{f:Expr->GE}(h:∀e,JE X e (f e))(b:Expr):JE X b (fD f b):=by
 unfold fD
 split
 ·exact Aq
 ·exact h _
def OO(c:Ct)(f:Expr->GE)(a:Expr)(os:List CmpOp)(bs:List Expr):GE:=if Kn c a=true then(match os,bs with
 | [.Eq],[b]=>if adq .Eq b=false then ai Cf (f a) (fD f b) else bO
 | [.NotEq],[b]=>if adq .NotEq b=false then ai wu (f a) (fD f b) else bO
 | os,bs=>Km c f a os bs) else Km c f a os bs
theorem Ko{c:Ct}{k:Nat}(G:Good c k X){f:Expr->GE}(h:∀e,JE X e (f e))(a:Expr)(os:List CmpOp)(bs:List Expr)(pos:Pos):JE X (.Compare a os bs pos) (OO c f a os bs):=by
 unfold OO
 by_cases g:Kn c a=true
 ·rw[if_pos g]
  split
  ·rename_i b
   by_cases gm:adq .Eq b=false
   ·rw[if_pos gm];exact p7 (FC G.un) (h a) (AV h b) gm
   ·rw[if_neg gm];exact aH
  ·rename_i b
   by_cases gm:adq .NotEq b=false
   ·rw[if_pos gm];exact p7 (FD G.un) (h a) (AV h b) gm
   ·rw[if_neg gm];exact aH
  ·exact AS G h a _ _ pos
 ·rw[if_neg g];exact AS G h a os bs pos
def Gi(c:Ct)(f:Expr->GE)(a:Expr)(os:List CmpOp)(bs:List Expr):GT:=if Kn c a=true then(match os,bs with
 | [.Eq],[b]=>if adq .Eq b=false then cm (ai Cf (f a) (fD f b)) else i6
 | [.NotEq],[b]=>if adq .NotEq b=false then cm (ai wu (f a) (fD f b)) else i6
 | os,bs=>AU c f a os bs) else AU c f a os bs
theorem Gj{c:Ct}{k:Nat}(G:Good c k X){f:Expr->GE}(h:∀e,JE X e (f e))(a:Expr)(os:List CmpOp)(bs:List Expr)(pos:Pos):JT X (.Compare a os bs pos) (Gi c f a os bs):=by
 unfold Gi
 by_cases g:Kn c a=true
 ·rw[if_pos g]
  split
  ·rename_i b
   by_cases gm:adq .Eq b=false
   ·rw[if_pos gm];exact p8 (FC G.un) (h a) (AV h b) gm
   ·rw[if_neg gm];exact iH
  ·rename_i b
   by_cases gm:adq .NotEq b=false
   ·rw[if_pos gm];exact p8 (FD G.un) (h a) (AV h b) gm
   ·rw[if_neg gm];exact iH
  ·exact wG G h a _ _ pos
 ·rw[if_neg g];exact wG G h a os bs pos
def Kp(c:Ct):Expr->Bool
 | .Name x _=>c.xu.contains x||c.YC.contains x
 | _=>false
def OP(c:Ct)(f:Expr->GE):Expr->Expr->GE
 | .Name x p,b=>(match Kj c x with | some kvs=>if CA b=false then Ak kvs (f b) else bO | none=>if Kp c (.Name x p)=true/\CA b=false then fM (f (.Name x p)) (f b) else Kl f (.Name x p) b)
 | a,b=>Kl f a b
theorem Kq{c:Ct}{k:Nat}(G:Good c k X){f:Expr->GE}(h:∀e,JE X e (f e))(a b:Expr)(pos:Pos):JE X (.Subscript a b pos) (OP c f a b):=by
 unfold OP
 split
 ·rename_i x p
  cases e:Kj c x with
  | none=>
   dsimp only
   by_cases g:Kp c (.Name x p)=true/\CA b=false
   ·rw[if_pos g]
    refine JU (by have:=G.un;omega) (h _) (h b) ?_
    intro o i
    cases b<;>first | rfl | cases g.2
   ·rw[if_neg g];exact Ge h _ b pos
  | some kvs=>
   dsimp only
   by_cases g:CA b=false
   ·rw[if_pos g]
    obtain⟨g1,g2,g3⟩:=Kk G e
    refine Js (h b) ?_ g1 g2 g3
    intro o i
    cases b<;>first | rfl | cases g
   ·rw[if_neg g];exact aH
 ·exact Ge h _ b pos
def OQ(f:Expr->GE):List Expr->GE
 | []=>bO
 | [a]=>f a
 | a::b::r=>vD (f a) (OQ f (b::r))
theorem AX{f:Expr->GE}(h:∀e,JE X e (f e))(pos:Pos):∀es,JE X (.BoolOp .And es pos) (OQ f es)
 | []=>aH
 | [a]=>Np (h a)
 | a::b::r=>Nq (h a) (AX h pos (b::r))
def OR(f:Expr->GT):List Expr->GT
 | []=>i6
 | [a]=>f a
 | a::b::r=>D3 (f a) (OR f (b::r))
def VO(f:Expr->GT):List Expr->GT
 | []=>i6
 | [a]=>f a
 | a::b::r=>IG (f a) (VO f (b::r))
theorem Gk{e:Expr}:JW X e i6:=λρ st σ H m Q S R p=>aa p
theorem AY{f:Expr->GT}(h:∀e,JT X e (f e))(pos:Pos):∀es,JW X (.BoolOp .And es pos) (OR f es)
 | []=>Gk
 | [a]=>IH (h a)
 | a::b::r=>Nm (h a) (AY h pos (b::r))
theorem Gm{f:Expr->GT}(h:∀e,JT X e (f e))(pos:Pos):∀es,JW X (.BoolOp .Or es pos) (VO f es)
 | []=>Gk
 | [a]=>Nl (h a)
 | a::b::r=>Q8 (h a) (Gm h pos (b::r))
def unG(f:Expr->GE):UnaryOp->Expr->GE
 | .USub,a=>BI iZ (f a)
 | _,_=>bO
def CB(f:Expr->GE)(g:GA->GE)(es:List Expr):GE:=if es.all plain=true then g (lG f es) else bO
def isSet:Expr->Bool
 | .Set .. =>true
 | _=>false
theorem jn{e:Expr}{env:Env}(h:isSet e=false)(x:ado):adx e env x=pure x:=by
 cases e<;>first | rfl | cases h
def ig(c:Ct)(x:Str):Bool:=decide (x="range")&&decide (c.names.lookup x=some .globalImplicit)&&c.bl.contains x&&(match c.fns.lookup x with | some _=>false | none=>true)
theorem wH{c:Ct}{k:Nat}(G:Good c k X)(y:Str)(hy:ig c y=true):y="range"/\Gl X y/\X.mg y=none:=by
 unfold ig at hy
 simp only[cD,decide_eq_true_eq] at hy
 refine⟨hy.1.1.1,?_,G.bl y hy.1.2⟩
 show X.env.scope.names.lookup y=_
 rw[G.sc];exact hy.1.1.2
def AZ(c:Ct)(f:Expr->GE):Expr->GI
 | .Call (.Name x p) [a] [] q=>if ig c x=true then(if plain a=true then Jm (lG f [a]) else EK) else iK (f (.Call (.Name x p) [a] [] q))
 | e=>if isSet e=false then iK (f e) else EK
theorem A0{c:Ct}{k:Nat}(G:Good c k X){f:Expr->GE}(h:∀e,JE X e (f e))(tg e:Expr):JI X tg e (AZ c f e):=by
 unfold AZ
 split
 ·rename_i y p a q
  by_cases g:ig c y=true
  ·rw[if_pos g]
   obtain⟨rfl,g2,g3⟩:=wH G y g
   by_cases ga:plain a=true
   ·rw[if_pos ga]
    exact RI g2 g3 (gy h [a] (by simp[ga])) (aW ga)
   ·rw[if_neg ga];exact EL
  ·rw[if_neg g];exact Ai (h _)
 ·by_cases g:isSet e=false
  ·rw[if_pos g];exact Ai (h _)
  ·rw[if_neg g];exact EL
def VP(gi:GI):JB:=λρ st=>(gi ρ st).bind λw st1=> .ok (w.1.map λl=>(l,w.2),w.2) st1
def Kr(c:Ct)(x:Str):Bool:=decide (x="zip")&&decide (c.names.lookup x=some .globalImplicit)&&c.bl.contains x
theorem Sn{c:Ct}{k:Nat}(G:Good c k X)(x:Str)(h:Kr c x=true):x="zip"/\Gl X "zip"/\X.mg "zip"=none:=by
 unfold Kr at h
 simp only[cD,decide_eq_true_eq] at h
 obtain⟨⟨rfl,h2⟩,h3⟩:=h
 exact⟨rfl,by show X.env.scope.names.lookup _=_;rw[G.sc];exact h2,G.bl _ h3⟩
def yJ(c:Ct)(f:Expr->GE):Expr->JB
 | .Call (.Name x p) [a,b,d] [] q=>if Kr c x=true/\[a,b,d].all plain=true then sO (lG f [a,b,d]) else EW
 | e=>VP (AZ c f e)
theorem wI{c:Ct}{k:Nat}(G:Good c k X){f:Expr->GE}(h:∀e,JE X e (f e))(es:List Expr)(kt:Nat)(pt:Pos)(e:Expr):N_ X (.Tuple es kt pt) e (yJ c f e):=by
 unfold yJ
 split
 ·rename_i y p a b d q
  by_cases g:Kr c y=true/\[a,b,d].all plain=true
  ·rw[if_pos g]
   obtain⟨g1,g2⟩:=g
   obtain⟨rfl,g3,g4⟩:=Sn G y g1
   have gp:plain a=true/\[b,d].all plain=true:=by rw[cV,cD] at g2;exact g2
   exact JQ g3 g4 (gy h [a,b,d] g2) (aW gp.1) (fg gp.2)
  ·rw[if_neg g];exact JC
 ·exact Oa (A0 G h _ _)
def nP:List Expr->Option (List Str)
 | []=>some []
 | .Name x _::r=>(nP r).map (x::·)
 | _=>none
theorem sX:∀{es:List Expr}{xs:List Str},nP es=some xs->eR es xs
 | [],xs,h=>by cases h;exact .nil
 | e::r,xs,h=>by
  cases e with
  | Name x p=>
   unfold nP at h
   cases e1:nP r with
   | none=>rw[e1] at h;cases h
   | some ys=>
    rw[e1] at h
    cases h
    exact .cons (sX e1)
  | _=>cases h
def lH(c:Ct):List (Str×adl)->Option dM
 | []=>some []
 | (n,.free)::r=>if c.names.lookup n=some .cell\/c.names.lookup n=some .free then(match j4 n c.N,lH c r with | some i,some l=>some ((n,i)::l) | _,_=>none) else none
 | _::r=>lH c r
theorem qM{c:Ct}:∀{ns:List (Str×adl)}{cs:dM},lH c ns=some cs->(∀y∈ns,y.2= .free->c.names.lookup y.1=some .cell\/c.names.lookup y.1=some .free)/\∀p∈cs,(p.1,dm)∈ns/\c.N[p.2]? =some p.1
 | [],cs,h=>by cases h;exact⟨(λ_ z=>by cases z),(λ_ z=>by cases z)⟩
 | (n,k)::r,cs,h=>by
  unfold lH at h
  split at h
  ·cases ‹_::_=[]›
  ·rename_i n' r' he
   cases he
   by_cases g:c.names.lookup n=some .cell\/c.names.lookup n=some .free
   ·rw[if_pos g] at h
    cases e1:j4 n c.N with
    | none=>rw[e1] at h;cases h
    | some i=>
     cases e2:lH c r with
     | none=>rw[e1,e2] at h;cases h
     | some l=>
      rw[e1,e2] at h
      cases h
      obtain⟨q1,q2⟩:=qM e2
      refine⟨λy hy e=>?_,λp hp=>?_⟩
      ·rcases List.mem_cons.mp hy with z | z
       ·subst z;exact g
       ·exact q1 y z e
      ·rcases List.mem_cons.mp hp with z | z
       ·subst z;exact⟨aK,fO e1⟩
       ·exact⟨aJ _ (q2 p z).1,(q2 p z).2⟩
   ·rw[if_neg g] at h;cases h
  ·rename_i kk r' hk he
   cases he
   obtain⟨q1,q2⟩:=qM h
   refine⟨λy hy e=>?_,λp hp=>⟨aJ _ (q2 p hp).1,(q2 p hp).2⟩⟩
   rcases List.mem_cons.mp hy with z | z
   ·subst z
    have e':k= .free:=e
    subst e'
    exact(hk n rfl).elim
   ·exact q1 y z e
def nQ(c:Ct)(ns:List (Str×adl)):List (Str×adl):=ns.map λ(n,k)=>if(k == .free&&c.names.lookup n == some .cell) then(n,.cell) else(n,k)
def A1:ScopeKind->Bool
 | .function=>true
 | _=>false
def dW(scope:Scope)(x:Str):Bool:=A1 scope.kind&&scope.names.all (λy=>decide (scope.names.lookup y.1=some y.2))&&scope.names.all (λy=>decide (y.2≠.cell))&&decide (scope.names.lookup x=some .local)
def Ct.block(c:Ct)(scope:Scope)(x:Str)(cs:dM):Ct:={ c with N:=x::cs.map (·.1),names:=nQ c scope.names,loop:=false,top:=false }
def Gn(c:Ct)(f:Expr->GE)(e:Expr):GI:=if Gh c e=true then nM (f e) else AZ c f e
theorem wJ{c:Ct}{k:Nat}(G:Good c k X){f:Expr->GE}(h:∀e,JE X e (f e))(tg e:Expr):JI X tg e (Gn c f e):=by
 unfold Gn
 by_cases g:Gh c e=true
 ·rw[if_pos g];exact J1 (h e)
 ·rw[if_neg g];exact A0 G h tg e
def LI(c:Ct):Expr->Option Nat
 | .Name x _=>j4 x c.N
 | _=>none
def A2(c:Ct)(e:Expr)(g:GE):GE:=if Gh c e=true then(match LI c e with | some j=>jl j g | none=>g) else g
def wK(c:Ct)(sub:Ct->(Expr->GE)×(Expr->GT))(f:Expr->GE)(elt:Expr)(x:Str)(iter:Expr)(yK:Ct->GT)(scope:Scope):GE :=
 if dW scope x=true/\c.free=true/\isSet iter=false then(match lH c scope.names with
  | some cs=>if(x::cs.map (·.1)).Nodup then A2 c iter (ib cs (Gn c f iter) (yK (c.block scope x cs)) ((sub (c.block scope x cs)).1 elt)) else bO
  | none=>bO) else bO
def Ct.qN(c:Ct)(scope:Scope)(xs:List Str)(cs:dM):Ct:={ c with N:=xs++cs.map (·.1),names:=nQ c scope.names,loop:=false,top:=false }
def qO(c:Ct)(sub:Ct->(Expr->GE)×(Expr->GT))(f:Expr->GE)(elt:Expr)(es:List Expr)(iter:Expr)(yK:Ct->GT)(scope:Scope):GE:=match nP es with
 | some (x::xr)=>if(x::xr).all (dW scope)=true/\c.free=true/\isSet iter=false then(match lH c scope.names with
  | some cs=>if((x::xr)++cs.map (·.1)).Nodup then lX (x::xr).length cs (yJ c f iter) (yK (c.qN scope (x::xr) cs)) ((sub (c.qN scope (x::xr) cs)).1 elt) else bO
  | none=>bO) else bO
 | _=>bO
def Ul(c:Ct)(sub:Ct->(Expr->GE)×(Expr->GT))(f:Expr->GE)(elt:Expr)(scope:Scope):List Comprehension->GE
 | [⟨.Name x _,iter,[],0⟩]=>wK c sub f elt x iter (λ_=>λ_ st=> .ok true st) scope
 | [⟨.Name x _,iter,[q],0⟩]=>wK c sub f elt x iter (λc'=>(sub c').2 q) scope
 | [⟨.Tuple es _ _,iter,[],0⟩]=>qO c sub f elt es iter (λ_=>λ_ st=> .ok true st) scope
 | [⟨.Tuple es _ _,iter,[q],0⟩]=>qO c sub f elt es iter (λc'=>(sub c').2 q) scope
 | _=>bO
theorem qP{c:Ct}{k:Nat}(G:Good c k X){scope:Scope}{x:Str}{cs:dM}(hs:dW scope x=true)(nd:(x::cs.map (·.1)).Nodup)(C:adi)(s0:adn)(H0:Hp)(fp:List adi)(pn:List (adi×Obj))(E:ado->adn->Prop)(hA:BS X.A H0) :
  Good (c.block scope x cs) k (fL X scope x cs C s0 H0 fp pn E):=by
 have hk:scope.kind= .function:=by
  have:A1 scope.kind=true:=by
   unfold dW at hs
   simp only[cD] at hs
   exact hs.1.1.1
  revert this
  cases scope.kind<;>intro z<;>first | rfl | cases z
 refine⟨rfl,?_,nd,G.un,G.free,(λz=>by cases z),G.cst,G.bl,G.fns,(λz=>by cases z),(λz=>by cases z),hk,G.tab,G.cls,G.AM,G.AN,⟨G.rm.d,G.rm.u⟩,G.FY,⟨G.x.lam,G.x.xv,G.x.OL,(λz=>by cases z),G.x.sk,G.x.Sl⟩,G.fr,hA⟩
 show(relabel scope X.env).names=nQ c scope.names
 unfold relabel nQ Env.kindOf
 rw[G.kind,G.sc]
 simp
theorem oC{c:Ct}{k:Nat}(G:Good c k X){scope:Scope}{x:Str}{xr:List Str}{cs:dM}(hs:dW scope x=true)(hf:c.free=true)(nd:((x::xr)++cs.map (·.1)).Nodup)(C:adi)(s0:adn)(H0:Hp)(fp:List adi)(pn:List (adi×Obj)) :
  Good (c.qN scope (x::xr) cs) k (eQ X scope (x::xr) cs C s0 H0 fp pn):=by
 unfold dW at hs
 simp only[cD,decide_eq_true_eq] at hs
 have hk:scope.kind= .function:=by
  have:=hs.1.1.1
  revert this
  cases scope.kind<;>intro z<;>first | rfl | cases z
 refine⟨rfl,?_,nd,G.un,G.free,(λz=>by cases z),G.cst,G.bl,G.fns,(λz=>by cases z),(λz=>by cases z),hk,G.tab,G.cls,G.AM,G.AN,⟨G.rm.d,G.rm.u⟩,G.FY,⟨G.x.lam,G.x.xv,G.x.OL,(λz=>by cases z),G.x.sk,G.x.Sl⟩,G.fr,.inl (G.free hf).1.hd⟩
 show(relabel scope X.env).names=nQ c scope.names
 unfold relabel nQ Env.kindOf
 rw[G.kind,G.sc]
 simp
theorem wL{c:Ct}{k:Nat}(G:Good c k X){scope:Scope}{x:Str}{cs:dM}(hs:dW scope x=true)(hcs:lH c scope.names=some cs)(nd:(x::cs.map (·.1)).Nodup):cI X scope x cs:=by
 have hs:(A1 scope.kind=true/\∀y∈scope.names,scope.names.lookup y.1=some y.2)/\((scope.names.filter λy=>y.2 == .cell)=[]\/(scope.names.filter λy=>y.2 == .cell)=[(x,.cell)])/\(scope.names.lookup x=some .local\/scope.names.lookup x=some .cell):=by
  unfold dW at hs
  simp only[cD,decide_eq_true_eq,qQ] at hs
  exact⟨hs.1.1,.inl (List.filter_eq_nil_iff.mpr λy hy=>by simpa using hs.1.2 y hy),.inl hs.2⟩
 obtain⟨⟨h1,h2⟩,h3,h4⟩:=hs
 have hk:scope.kind= .function:=by
  revert h1
  cases scope.kind<;>intro z<;>first | rfl | cases z
 obtain⟨q1,q2⟩:=qM hcs
 refine⟨hk,h2,h3,h4,λy hy e=>?_,λp hp=>⟨by rw[G.N];exact(q2 p hp).2,h2 _ (q2 p hp).1⟩,nd⟩
 show X.env.scope.names.lookup y.1=_\/X.env.scope.names.lookup y.1=_
 rw[G.sc];exact q1 y hy e
def HE(X:Cx)(e:Expr)(g:GE):Prop:=∀(i:Nat)(y:Str)(py spos:Pos),X.N.Nodup->X.N[i]? =some y->Loc X.env.scope y->(X.fn y=true\/X.env.scope.names.lookup y=some .local)->JS X (.Assign [.Name y py] e spos) (bt i g)
theorem CC{i:Nat}{s:Stmt}:JS X s (bt i bO):=λρ st σ H m D S R p=>aa p
theorem du{e:Expr}:HE X e bO:=λi y py spos _ _ _ _=>CC
theorem Gq{i j:Nat}{g:GE}:bt i (jl j g)=wj j (bt i g):=by
 funext ρ st
 show(jl j g ρ st).bA ρ (λw st'=> .nx (ρ.set i (some w)) st')=wj j (bt i g) ρ st
 unfold wj jl
 cases ou ρ[j]? st with
 | none=>rfl
 | some l=>
  show((match g ρ st with | .ok w st'=>Re.ok w (oq l st') | r=>r).bA ρ λw st'=> .nx (ρ.set i (some w)) st')=(match(g ρ st).bA ρ (λw st'=> .nx (ρ.set i (some w)) st') with | .nx ρ' st'=> .nx ρ' (oq l st') | r=>r)
  cases g ρ st<;>rfl
theorem Gs{c:Ct}{it e:Expr}{g:GE}(h:JE X e g/\HE X e g):JE X e (A2 c it g)/\HE X e (A2 c it g):=by
 unfold A2
 by_cases q:Gh c it=true
 ·rw[if_pos q]
  cases LI c it with
  | none=>exact h
  | some j=>exact⟨JY j h.1,λi y py spos hN hi hl hf=>by rw[Gq];exact JX j (h.2 i y py spos hN hi hl hf)⟩
 ·rw[if_neg q];exact h
theorem A3{c:Ct}{k:Nat}(G:Good c k X){sub:Ct->(Expr->GE)×(Expr->GT)}(hb:∀c X,Good c k X->(∀e,JE X e ((sub c).1 e))/\∀e,JT X e ((sub c).2 e)){f:Expr->GE}(h:∀e,JE X e (f e))(elt:Expr)(scope:Scope)(gens:List Comprehension)(pos:Pos) :
  JE X (.ListComp elt gens scope pos) (Ul c sub f elt scope gens)/\HE X (.ListComp elt gens scope pos) (Ul c sub f elt scope gens):=by
 have core:∀(x:Str)(px:Pos)(iter:Expr)(ifs:List Expr)(yK:Ct->GT),(∀c X,Good c k X->Ac X ifs (yK c))->
   JE X (.ListComp elt [⟨.Name x px,iter,ifs,0⟩] scope pos) (wK c sub f elt x iter yK scope)/\HE X (.ListComp elt [⟨.Name x px,iter,ifs,0⟩] scope pos) (wK c sub f elt x iter yK scope):=by
  intro x px iter ifs yK hg
  unfold wK
  by_cases g:dW scope x=true/\c.free=true/\isSet iter=false
  ·rw[if_pos g]
   obtain⟨g1,g2,g3⟩:=g
   cases ec:lH c scope.names with
   | none=>exact⟨aH,du⟩
   | some cs=>
    dsimp only
    by_cases nd:(x::cs.map (·.1)).Nodup
    ·rw[if_pos nd]
     have CS:=wL G g1 ec nd
     have hE:∀C s0 H0 fp pn E,BS X.A H0->JE (fL X scope x cs C s0 H0 fp pn E) elt ((sub (c.block scope x cs)).1 elt):=λC s0 H0 fp pn E z=>(hb _ _ (qP G g1 nd C s0 H0 fp pn E z)).1 elt
     have hT:∀C s0 H0 fp pn E,BS X.A H0->Ac (fL X scope x cs C s0 H0 fp pn E) ifs (yK (c.block scope x cs)):=λC s0 H0 fp pn E z=>hg _ _ (qP G g1 nd C s0 H0 fp pn E z)
     refine Gs ?_
     exact⟨Ag G.fr CS (vQ (G.free g2).2) G.hd (wJ G h _ iter).y hE hT (jn g3),λi y py spos hN hi hl hf=>Jn i hN G.fr CS (vQ (G.free g2).2) G.hd (wJ G h _ iter).y hE hT (jn g3) hi hl hf⟩
    ·rw[if_neg nd];exact⟨aH,du⟩
  ·rw[if_neg g];exact⟨aH,du⟩
 have LJ:∀(es:List Expr)(kt:Nat)(pt:Pos)(iter:Expr)(ifs:List Expr)(yK:Ct->GT),(∀c X,Good c k X->Ac X ifs (yK c))->
   JE X (.ListComp elt [⟨.Tuple es kt pt,iter,ifs,0⟩] scope pos) (qO c sub f elt es iter yK scope)/\HE X (.ListComp elt [⟨.Tuple es kt pt,iter,ifs,0⟩] scope pos) (qO c sub f elt es iter yK scope):=by
  intro es kt pt iter ifs yK hg
  unfold qO
  cases en:nP es with
  | none=>exact⟨aH,du⟩
  | some xs=>
   cases xs with
   | nil=>exact⟨aH,du⟩
   | cons x xr=>
    dsimp only
    by_cases g:(x::xr).all (dW scope)=true/\c.free=true/\isSet iter=false
    ·rw[if_pos g]
     obtain⟨g1,g2,g3⟩:=g
     have gx:∀y∈x::xr,dW scope y=true:=List.all_eq_true.mp g1
     cases ec:lH c scope.names with
     | none=>exact⟨aH,du⟩
     | some cs=>
      dsimp only
      by_cases nd:((x::xr)++cs.map (·.1)).Nodup
      ·rw[if_pos nd]
       have nd1:(x::cs.map (·.1)).Nodup:=nd.sublist (List.Sublist.cons₂ x (List.sublist_append_right xr _))
       have vr:∀y∈x::xr,scope.names.lookup y=some .local:=λy hy=>by
        have q:=gx y hy
        unfold dW at q
        simp only[cD,decide_eq_true_eq] at q
        exact q.2
       have CS:kX X scope x xr cs:=⟨wL G (gx x aK) ec nd1,vr,nd⟩
       have sl:=sX en
       have hE:∀C s0 H0 fp pn,JE (eQ X scope (x::xr) cs C s0 H0 fp pn) elt ((sub (c.qN scope (x::xr) cs)).1 elt):=λC s0 H0 fp pn=>(hb _ _ (oC G (gx x aK) g2 nd C s0 H0 fp pn)).1 elt
       have hT:∀C s0 H0 fp pn,Ac (eQ X scope (x::xr) cs C s0 H0 fp pn) ifs (yK (c.qN scope (x::xr) cs)):=λC s0 H0 fp pn=>hg _ _ (oC G (gx x aK) g2 nd C s0 H0 fp pn)
       exact⟨v_ CS sl (G.free g2).2 (wI G h es kt pt iter) hE hT (jn g3),λi y py spos hN hi hl hf=>E0 i hN CS sl (G.free g2).2 (wI G h es kt pt iter) hE hT (jn g3) hi hl hf⟩
      ·rw[if_neg nd];exact⟨aH,du⟩
    ·rw[if_neg g];exact⟨aH,du⟩
 unfold Ul
 split
 ·exact core _ _ _ _ _ λ_ _ _=>Ad
 ·exact core _ _ _ _ _ λc X G'=>Ae ((hb c X G').2 _)
 ·exact LJ _ _ _ _ _ _ λ_ _ _=>Ad
 ·exact LJ _ _ _ _ _ _ λc X G'=>Ae ((hb c X G').2 _)
 ·exact⟨aH,du⟩
def uJ(sc:Scope)(x1 x2 x3 y:Str):Bool:=A1 sc.kind&& !sc.isCoroutine&& !sc.isGenerator&&sc.names.all (λp=>decide (p.2≠.cell))&&decide (sc.names.lookup x1=some .local)&&decide (sc.names.lookup x2=some .local)&&decide (sc.names.lookup x3=some .local)&&decide (sc.names.lookup y=some .free)&&decide ([x1,x2,x3,y].Nodup)
theorem CD{sc:Scope}{x1 x2 x3 y:Str}(h:uJ sc x1 x2 x3 y=true)(hf:freeOf sc=[y]):Ax sc x1 x2 x3 y:=by
 unfold uJ at h
 simp only[cD,decide_eq_true_eq,qQ,Bool.not_eq_true'] at h
 obtain⟨⟨⟨⟨⟨⟨⟨⟨h1,h2⟩,h3⟩,h4⟩,h5⟩,h6⟩,h7⟩,h8⟩,h9⟩:=h
 have hk:sc.kind= .function:=by
  revert h1
  cases sc.kind<;>intro z<;>first | rfl | cases z
 exact⟨hk,h2,h3,h4,h5,h6,h7,hf,h8,h9⟩
def Ct.LK(c:Ct)(N:List Str)(ns:List (Str×adl)):Ct:={ c with N:=N,names:=ns,fns:=c.fns.filter (λp=>c.Ke.contains p.1),FY:=[],loop:=false,top:=false,free:=true,xv:=[],lam:=none,xu:=[],YC:=[],self:="",sk:=0,Qe:=[] }
theorem oD{α:Type}{l:List (Str×α)}{q:Str->Bool}{x:Str}{a:α}(h:(l.filter λp=>q p.1).lookup x=some a):l.lookup x=some a/\q x=true:=by
 induction l with
 | nil=>cases h
 | cons p l ih=>
  obtain⟨y,b⟩:=p
  rw[bL]
  by_cases hq:q y=true
  ·rw[qi (by simpa using hq),bL] at h
   cases e:x == y with
   | true=>
    rw[e] at h
    cases h
    exact⟨rfl,by rw[eq_of_beq e];exact hq⟩
   | false=>rw[e] at h;exact ih h
  ·rw[nE (by simpa using hq)] at h
   obtain⟨h1,h2⟩:=ih h
   cases e:x == y with
   | true=>rw[eq_of_beq e] at h2;exact absurd h2 hq
   | false=>exact⟨h1,h2⟩
def OS(c:Ct)(sub:Ct->(Expr->GE)×(Expr->GT))(f:Expr->GE)(x:Str)(e:Expr)(x1 x2 x3:Str)(body:Expr)(scope:Scope):GE:=match freeOf scope,c.xv.lookup x with
 | [y],some FL=>(match j4 y c.N with
  | some iy=>if okN x=true/\plain e=true/\c.names.lookup x=some .globalImplicit/\uJ scope x1 x2 x3 y=true/\c.names.lookup y=some .cell/\c.top=true/\c.free=true/\br.contains c.self=true then B4 FL iy (f e) ((sub (c.LK [x1,x2,x3,y] scope.names)).1 body) else bO
  | none=>bO)
 | _,_=>bO
theorem Kt{c:Ct}{k:Nat}(G:Good c k X){sub:Ct->(Expr->GE)×(Expr->GT)}(hb:∀k c X,Good c k X->(∀e,JE X e ((sub c).1 e))/\∀e,JT X e ((sub c).2 e)){f:Expr->GE}(h:∀e,JE X e (f e))(x:Str)(e:Expr)(x1 x2 x3:Str)(a1 a2 a3:Option Expr)(q1 q2 q3:Pos)(body:Expr)(scope:Scope)(p lB pos:Pos) :
  JE X (.Call (.Name x p) [e,.Lambda (ji x1 x2 x3 a1 a2 a3 q1 q2 q3) body scope lB] [] pos) (OS c sub f x e x1 x2 x3 body scope):=by
 unfold OS
 cases ef:freeOf scope with
 | nil=>exact aH
 | cons y r=>
  cases r with
  | cons z r=>exact aH
  | nil=>
   cases el:c.xv.lookup x with
   | none=>exact aH
   | some FL=>
    cases ei:j4 y c.N with
    | none=>dsimp only;rw[ei];exact aH
    | some iy=>
     dsimp only
     rw[ei]
     dsimp only
     by_cases g:okN x=true/\plain e=true/\c.names.lookup x=some .globalImplicit/\uJ scope x1 x2 x3 y=true/\c.names.lookup y=some .cell/\c.top=true/\c.free=true/\br.contains c.self=true
     ·rw[if_pos g]
      obtain⟨g1,g2,g3,g4,g5,g6,g7,g8⟩:=g
      have S:=CD g4 ef
      have hg:Gl X x:=by
       show X.env.scope.names.lookup x=_
       rw[G.sc];exact g3
      obtain⟨P,D⟩:=G.x.at' g6 (by simpa using g8)
      refine Og (j:=c.lj) (P:=P) (G.x.xv x FL el) (G.free g7).1 hg (gU g1) (h e) D S (by rw[G.N];exact fO ei) (.inl (by rw[G.sc];exact g5)) (G.fn g6 y) (λbase pl cy A outer s H E M hr=>?_) (λr=>aW g2)
      refine(hb c.lj (c.LK [x1,x2,x3,y] scope.names) (HD X.prog X.w X.K X.mg base [x1,x2,x3,y] pl scope [(y,cy)] A outer s H E) ⟨rfl,rfl,S.nd,uE hr,λ_=>⟨hr,rfl⟩,(λz=>by cases z),G.cst,G.bl,λx n F h=>?_,(λz=>by cases z),(λz=>by cases z),S.kind,G.tab,G.cls,G.AM,G.AN,qA.of hr,(λx n F h=>by cases h),⟨(λp L z=>by cases z),(λx F z=>by cases z),λx n F h hx=>?_,(λz=>by cases z),bb _,(λx n F _ z=>by cases z)⟩,⟨_,_,_,rfl,rfl,rfl⟩,.inl hr.hd⟩).1 body
      ·obtain⟨h1,h2⟩:=oD (q:=λn=>c.Ke.contains n) h
       exact G.x.OL x n F h1 h2 base M
      ·obtain⟨h1,h2⟩:=oD (q:=λn=>c.Ke.contains n) h
       exact G.x.OL x n F h1 h2
     ·rw[if_neg g];exact aH
def OT:Expr->Option (Str×Str×Str×Expr×Scope)
 | .Lambda a b s _=>if(a.posonlyargs.isEmpty&&a.vararg.isNone&&a.kwonlyargs.isEmpty&&a.kw_defaults.isEmpty&&a.kwarg.isNone&&a.defaults.isEmpty)=true then(match a.args with | [u,v,w]=>some (u.arg,v.arg,w.arg,b,s) | _=>none) else none
 | _=>none
theorem Ku{e:Expr}{x1 x2 x3:Str}{b:Expr}{s:Scope}(h:OT e=some (x1,x2,x3,b,s)):∃a1 a2 a3 q1 q2 q3 p,e= .Lambda (ji x1 x2 x3 a1 a2 a3 q1 q2 q3) b s p:=by
 cases e with
 | Lambda a b' s' p=>
  obtain⟨po,ar,va,ko,kd,kw,df⟩:=a
  cases po with
  | cons _ _=>cases h
  | nil=>cases va with
   | some _=>cases h
   | none=>cases ko with
    | cons _ _=>cases h
    | nil=>cases kd with
     | cons _ _=>cases h
     | nil=>cases kw with
      | some _=>cases h
      | none=>cases df with
       | cons _ _=>cases h
       | nil=>
        rcases ar with _ | ⟨⟨y1,a1,q1⟩,_ | ⟨⟨y2,a2,q2⟩,_ | ⟨⟨y3,a3,q3⟩,_ | ⟨_,_⟩⟩⟩⟩<;>cases h
        exact⟨a1,a2,a3,q1,q2,q3,p,rfl⟩
 | _=>cases h
def yL(c:Ct)(sub:Ct->(Expr->GE)×(Expr->GT))(fE:Expr->GE)(pos:Pos)(f:Expr)(as:List Expr)(ks:List Keyword):GE:=match as with
 | [e,l]=>(match OT l with
  | some (x1,x2,x3,body,scope)=>(match f with
   | .Name x _=>(match ks with
    | []=>OS c sub fE x e x1 x2 x3 body scope
    | _::_=>sV c fE pos f [e,l] ks)
   | _=>sV c fE pos f [e,l] ks)
  | none=>sV c fE pos f [e,l] ks)
 | _=>sV c fE pos f as ks
theorem CF{c:Ct}{k:Nat}(G:Good c k X){sub:Ct->(Expr->GE)×(Expr->GT)}(hb:∀k c X,Good c k X->(∀e,JE X e ((sub c).1 e))/\∀e,JT X e ((sub c).2 e)){fE:Expr->GE}(h:∀e,JE X e (fE e))(f:Expr)(as:List Expr)(ks:List Keyword)(pos:Pos):JE X (.Call f as ks pos) (yL c sub fE pos f as ks):=by
 have d:=Gb G h f as ks pos
 rcases as with _ | ⟨e,_ | ⟨l,_ | ⟨l2,r⟩⟩⟩
 ·exact d
 ·exact d
 ·unfold yL
  dsimp only
  cases hl:OT l with
  | none=>exact d
  | some q=>
   obtain⟨x1,x2,x3,b,s⟩:=q
   obtain⟨a1,a2,a3,q1,q2,q3,p,rfl⟩:=Ku hl
   dsimp only
   cases f with
   | Name x px=>
    cases ks with
    | nil=>exact Kt G hb h _ _ _ _ _ _ _ _ _ _ _ _ _ _ _ _
    | cons _ _=>exact d
   | _=>exact d
 ·exact d
def wM(c:Ct)(sub:Ct->(Expr->GE)×(Expr->GT))(f:Expr->GE)(t:Expr->GT):Expr->GE
 | .Name x _=>F4 c x
 | .Constant k _ _=>F6 k
 | .BinOp a o b _=>ai (Sm o) (f a) (f b)
 | .UnaryOp o a _=>unG f o a
 | .BoolOp .And es _=>OQ f es
 | .Compare a os bs _=>OO c f a os bs
 | .IfExp q a b _=>II (t q) (f a) (f b)
 | .Tuple es _ _=>CB f cH es
 | .List es _=>CB f fJ es
 | .Subscript a b _=>OP c f a b
 | .Call g as ks p=>yL c sub f p g as ks
 | .ListComp elt gens scope _=>Ul c sub f elt scope gens
 | _=>bO
def stepT(c:Ct)(f:Expr->GE)(t:Expr->GT):Expr->GT
 | .UnaryOp .Not a _=>t_ (t a)
 | .BoolOp .And es _=>OR t es
 | .BoolOp .Or es _=>VO t es
 | .Compare a os bs _=>Gi c f a os bs
 | .Name x p=>jX (f (.Name x p))
 | .Call g as ks p=>jX (f (.Call g as ks p))
 | .Subscript a b p=>jX (f (.Subscript a b p))
 | .Constant k j p=>jX (f (.Constant k j p))
 | .BinOp a o b p=>jX (f (.BinOp a o b p))
 | _=>i6
theorem wN{c:Ct}{k:Nat}(G:Good c k X){sub:Ct->(Expr->GE)×(Expr->GT)}(hb:∀k c X,Good c k X->(∀e,JE X e ((sub c).1 e))/\∀e,JT X e ((sub c).2 e)){f:Expr->GE}{t:Expr->GT}(h:∀e,JE X e (f e))(ht:∀e,JT X e (t e))(e:Expr):JE X e (wM c sub f t e):=by
 have hu:X.A.units+64 < cLine:=G.un
 cases e with
 | Name x p=>exact F5 G x p
 | Constant v j p=>exact Cq v j p
 | BinOp a o b p=>exact Nj (Ki o) (h a) (h b)
 | UnaryOp o a p=>
  cases o with
  | USub=>exact Nk (h a)
  | _=>exact aH
 | BoolOp o es p=>
  cases o with
  | And=>exact AX h p es
  | Or=>exact aH
 | Compare a os bs p=>exact Ko G h a os bs p
 | IfExp q a b p=>exact Q9 (ht q) (h a) (h b)
 | Tuple es j p=>
  show JE X _ (CB f cH es)
  unfold CB
  by_cases g:es.all plain=true
  ·rw[if_pos g];exact Nr (gy h es g)
  ·rw[if_neg g];exact aH
 | List es p=>
  show JE X _ (CB f fJ es)
  unfold CB
  by_cases g:es.all plain=true
  ·rw[if_pos g];exact Nt (gy h es g)
  ·rw[if_neg g];exact aH
 | Subscript a b p=>exact Kq G h a b p
 | Call g as ks p=>exact CF G hb h g as ks p
 | ListComp elt gens scope p=>exact(A3 G (hb k) h elt scope gens p).1
 | _=>exact aH
def Kv:Expr->Bool
 | .ListComp .. =>true
 | .SetComp .. =>true
 | .DictComp .. =>true
 | .Set .. =>true
 | _=>false
theorem A4{e:Expr}{t:Option Expr}{n:Nat}{env:Env}(h:Kv e=false):swapsWith e t n env=pure false:=by
 cases e<;>first | rfl | cases h
theorem wO{e o i:Expr}{p:Pos}{n:Nat}{env:Env}:swapsWith e (some (.Subscript o i p)) n env=pure false:=by
 cases e<;>rfl
theorem Gu{c:Ct}{k:Nat}(G:Good c k X){sub:Ct->(Expr->GE)×(Expr->GT)}(hb:∀k c X,Good c k X->(∀e,JE X e ((sub c).1 e))/\∀e,JT X e ((sub c).2 e)){f:Expr->GE}{t:Expr->GT}(h:∀e,JE X e (f e))(ht:∀e,JT X e (t e))(e:Expr):HE X e (wM c sub f t e):=by
 by_cases g:Kv e=false
 ·exact λi y py spos hN hi hl hf=>qa i hN (wN G hb h ht e) hi hl (A4 g) hf
 ·cases e with
  | ListComp elt gens scope p=>exact(A3 G (hb k) h elt scope gens p).2
  | SetComp=>exact du
  | DictComp=>exact du
  | Set=>exact du
  | _=>exact absurd rfl g
theorem Gv{c:Ct}{k:Nat}(G:Good c k X){f:Expr->GE}{t:Expr->GT}(h:∀e,JE X e (f e))(ht:∀e,JT X e (t e))(e:Expr):JT X e (stepT c f t e):=by
 have hu:X.A.units+64 < cLine:=G.un
 cases e with
 | UnaryOp o a p=>
  cases o with
  | Not=>exact Nn (ht a)
  | _=>exact iH
 | BoolOp o es p=>
  cases o with
  | And=>exact(AY ht p es).jt
  | Or=>exact(Gm ht p es).jt
 | Compare a os bs p=>exact Gj G h a os bs p
 | Name x p=>exact qc (h _) (λ_=>rfl)
 | Call g as ks p=>exact qc (h _) (λ_=>rfl)
 | Subscript a b p=>exact qc (h _) (λ_=>rfl)
 | Constant v j p=>exact qc (h _) (λ_=>rfl)
 | BinOp a o b p=>exact qc (h _) (λ_=>rfl)
 | _=>exact iH
end
def lI:Nat->Ct->(Expr->GE)×(Expr->GT)
 | 0,_=>(λ_=>bO,λ_=>i6)
 | n+1,c=>(wM c (lI n) (lI n c).1 (lI n c).2,stepT c (lI n c).1 (lI n c).2)
section
variable {X:Cx}
theorem dO:∀(n:Nat)(k:Nat)(c:Ct)(X:Cx),Good c k X->(∀e,JE X e ((lI n c).1 e))/\∀e,JT X e ((lI n c).2 e)
 | 0,_,_,_,_=>⟨λ_=>aH,λ_=>iH⟩
 | n+1,k,c,X,G=>⟨λe=>wN G (λk c X G=>dO n k c X G) (dO n k c X G).1 (dO n k c X G).2 e,λe=>Gv G (dO n k c X G).1 (dO n k c X G).2 e⟩
theorem Gw{k:Nat}:∀(n:Nat)(c:Ct)(X:Cx),Good c k X->∀e,HE X e ((lI n c).1 e)
 | 0,_,_,_,_=>du
 | n+1,c,X,G,e=>Gu G (λk c X G=>dO n k c X G) (dO n k c X G).1 (dO n k c X G).2 e
def slot(c:Ct)(x:Str):Option Nat:=if c.names.lookup x=some .local\/(c.names.lookup x=some .cell/\c.top=true) then j4 x c.N else none
theorem A5{c:Ct}{k:Nat}(G:Good c k X){x:Str}{i:Nat}(h:slot c x=some i):X.N[i]? =some x/\(Loc X.env.scope x/\(X.fn x=true\/X.env.scope.names.lookup x=some .local)):=by
 unfold slot at h
 by_cases e:c.names.lookup x=some .local\/(c.names.lookup x=some .cell/\c.top=true)
 ·rw[if_pos e] at h
  refine⟨by rw[G.N];exact fO h,?_⟩
  rcases e with e | ⟨e,e2⟩
  ·have q:X.env.scope.names.lookup x=some .local:=by rw[G.sc];exact e
   exact⟨.inl q,.inr q⟩
  ·have q:X.env.scope.names.lookup x=some .cell:=by rw[G.sc];exact e
   exact⟨.inr q,.inl (G.fn e2 x)⟩
 ·rw[if_neg e] at h;cases h
def slots(c:Ct):List Expr->Option (List Nat)
 | []=>some []
 | .Name x _::es=>(match slot c x,slots c es with | some i,some is=>some (i::is) | _,_=>none)
 | _=>none
def CG:Expr->Bool
 | .Dict [] [] _=>true
 | _=>false
def OU(c:Ct)(f:Expr->GE)(v:Expr):List Expr->GS
 | [.Name x _]=>(match slot c x with | some i=>if CG v=true/\c.xu.contains x=true then bt i vX else if CG v=true/\c.OK.contains x=true then bt i wC else bt i (f v) | none=>ff)
 | [.Subscript o i _]=>if CA i=false then(if Kp c o=true then sM (f v) (f o) (f i) else zV (f v) (f o) (f i)) else ff
 | _=>ff
theorem OV{c:Ct}{k:Nat}(G:Good c k X){f:Expr->GE}(h:∀e,JE X e (f e))(ha:∀e,HE X e (f e))(v:Expr)(ts:List Expr)(pos:Pos):JS X (.Assign ts v pos) (OU c f v ts):=by
 unfold OU
 split
 ·rename_i x p
  cases e:slot c x with
  | none=>exact dJ
  | some i=>
   obtain⟨e1,e2⟩:=A5 G e
   dsimp only
   by_cases g:CG v=true/\c.xu.contains x=true
   ·rw[if_pos g]
    have gv:=g.1
    unfold CG at gv
    split at gv
    ·exact qa i (by rw[G.N];exact G.nd) Aq e1 e2.1 rfl e2.2
    ·cases gv
   rw[if_neg g]
   by_cases g:CG v=true/\c.OK.contains x=true
   ·rw[if_pos g]
    have gv:=g.1
    unfold CG at gv
    split at gv
    ·exact qa i (by rw[G.N];exact G.nd) Ka e1 e2.1 rfl e2.2
    ·cases gv
   ·rw[if_neg g];exact ha v i x _ _ (by rw[G.N];exact G.nd) e1 e2.1 e2.2
 ·rename_i o i p
  by_cases g2:CA i=false
  ·rw[if_pos g2]
   by_cases gd:Kp c o=true
   ·rw[if_pos gd];exact Jx (by have:=G.un;omega) (h v) (h o) (h i) wO
   rw[if_neg gd]
   refine IZ (h v) (h o) (h i) (by unfold swapsWithSole;exact wO) ?_ rfl ?_
   ·cases v<;>rfl
   ·intro _
    cases i<;>first | rfl | cases g2
  ·rw[if_neg g2];exact dJ
 ·exact dJ
def OW(c:Ct)(f:Expr->GE)(i:Nat)(gb:GS):Expr->GS
 | .Call (.Name x p) [a] [] q=>if ig c x=true then(if plain a=true then lU i (lG f [a]) gb else ff) else qf i (f (.Call (.Name x p) [a] [] q)) gb
 | .Call (.Name x p) [a,b,d] [] q=>if ig c x=true then(if[a,b,d].all plain=true then qF i (lG f [a,b,d]) gb else ff) else qf i (f (.Call (.Name x p) [a,b,d] [] q)) gb
 | e=>if isSet e=false then qf i (f e) gb else ff
theorem OX{c:Ct}{k:Nat}(G:Good c k X)(hl:c.loop=true){f:Expr->GE}(h:∀e,JE X e (f e)){x:Str}{i:Nat}(hx:slot c x=some i){body:List Stmt}{gb:GS}(hb:p5 X body gb)(e:Expr)(pos pos':Pos):JS X (.For (.Name x pos') e body [] pos) (OW c f i gb e):=by
 have nd:X.N.Nodup:=by rw[G.N];exact G.nd
 obtain⟨e1,e2⟩:=A5 G hx
 have rg:=wH G
 unfold OW
 split
 ·rename_i y p a q
  by_cases g:ig c y=true
  ·rw[if_pos g]
   obtain⟨rfl,g2,g3⟩:=rg y g
   by_cases ga:plain a=true
   ·rw[if_pos ga]
    exact Er i nd (G.loop hl).2 (G.loop hl).1 g2 g3 (gy h [a] (by simp[ga])) hb e1 e2.1 e2.2 (aW ga)
   ·rw[if_neg ga];exact dJ
  ·rw[if_neg g];exact x8 i nd (G.loop hl).2 (G.loop hl).1 (h _) hb e1 e2.1 e2.2 (jn rfl)
 ·rename_i y p a b d q
  by_cases g:ig c y=true
  ·rw[if_pos g]
   obtain⟨rfl,g2,g3⟩:=rg y g
   by_cases ga:[a,b,d].all plain=true
   ·rw[if_pos ga]
    have gp:plain a=true/\[b,d].all plain=true:=by rw[cV,cD] at ga;exact ga
    exact Fn i nd (G.loop hl).2 (G.loop hl).1 g2 g3 (gy h [a,b,d] ga) hb e1 e2.1 e2.2 (aW gp.1) (fg gp.2)
   ·rw[if_neg ga];exact dJ
  ·rw[if_neg g];exact x8 i nd (G.loop hl).2 (G.loop hl).1 (h _) hb e1 e2.1 e2.2 (jn rfl)
 ·by_cases g:isSet e=false
  ·rw[if_pos g];exact x8 i nd (G.loop hl).2 (G.loop hl).1 (h _) hb e1 e2.1 e2.2 (jn g)
  ·rw[if_neg g];exact dJ
def Gx(c:Ct)(f:Expr->GE)(t:Expr->GT)(b:Ct->List Stmt->GS):Stmt->GS
 | .Return (some e) _=>bp (f e)
 | .Return none _=>bp (gC .non)
 | .Expr e _=>if Kv e=false then i5 (f e) else ff
 | .If q x y _=>je (t q) (b c x) (b c y)
 | .Assign ts v _=>OU c f v ts
 | .For (.Name x _) e body [] _=>if c.loop=true then(match slot c x with | some i=>OW c f i (b c body) e | none=>ff) else ff
 | _=>ff
theorem Gy{c:Ct}{k:Nat}(G:Good c k X){f:Expr->GE}{t:Expr->GT}{b:Ct->List Stmt->GS}(h:∀e,JE X e (f e))(ha:∀e,HE X e (f e))(ht:∀e,JT X e (t e))(hb:∀c X,Good c k X->∀s,p5 X s (b c s))(s:Stmt):JS X s (Gx c f t b s):=by
 unfold Gx
 split
 ·exact ND (h _)
 ·exact Je
 ·rename_i e p
  by_cases g:Kv e=false
  ·rw[if_pos g];exact IY (h _) (A4 g)
  ·rw[if_neg g];exact dJ
 ·exact Ru (ht _) (hb c X G _) (hb c X G _)
 ·exact OV G h ha _ _ _
 ·rename_i x p e body q
  by_cases g:c.loop=true
  ·rw[if_pos g]
   cases e1:slot c x with
   | none=>exact dJ
   | some i=>exact OX G g h e1 (hb c X G body) e _ _
  ·rw[if_neg g];exact dJ
 ·exact dJ
end
def yM(f:Stmt->GS):List Stmt->GS
 | []=>bD
 | [s]=>f s
 | s::s'::r=>aN (f s) (yM f (s'::r))
theorem wQ{X:Cx}{f:Stmt->GS}(h:∀s,JS X s (f s)):∀ss,p5 X ss (yM f ss)
 | []=>IW
 | [s]=>IX (h s)
 | s::s'::r=>Ea (h s) (wQ h (s'::r))
def bN:Nat->Ct->List Stmt->GS
 | 0,_=>λ_=>ff
 | n+1,c=>yM (Gx c (lI 40 c).1 (lI 40 c).2 (bN n))
theorem qR{k:Nat}:∀(n:Nat)(c:Ct)(X:Cx),Good c k X->∀ss:List Stmt,p5 X ss (bN n c ss)
 | 0,_,_,_,_=>BN
 | n+1,c,X,G,ss=>wQ (λs=>Gy G (dO 40 k c X G).1 (Gw 40 c X G) (dO 40 k c X G).2 (qR n) s) ss
structure yN(K:PySem.W.Frag)(mg:Str->Option ado)(q:Str)(P:adi):Prop where
 tab:bu K q=some P
 code:∃c o vs file tf flags tg Qf text tt,PySem.W.tabIn K q=some (c,P)/\K.lookup c=some o/\o.cls= .type "code"/\o.data= .fields vs/\vs[11]? =some (.ref P)/\vs.getD 11 .none= .ref P/\vs.getD 18 .none= .str file tf/\
  vs.getD 7 .none= .int flags tg/\vs.getD 9 .none= .bool Qf/\vs.getD 10 .none= .int text tt/\c≠P
 mem:q∈br
 uniq:∀q',q'∈br->bu K q'=some P->q'=q
theorem yN.at'{X:Cx}{q:Str}{P f:adi}{cdv:ado}(h:yN X.K X.mg q P)(M:jk X.K X.mg X.base)(hn:PySem.W.nsIn X.K adz q=some (some (.ref f)))(hc:Eh X.K f cdv)(e1:X.env.code=cdv)(e2:X.env.qual=q++".<locals>."):Ay X q P:=by
 obtain⟨c,o,vs,file,tf,flags,tg,Qf,text,tt,t,l,r⟩:=h.code
 refine⟨⟨c,?_,o,vs,file,tf,flags,tg,Qf,text,tt,M.1.PV _ _ l,r⟩,e2,h.tab,h.mem,h.uniq,M.2⟩
 ·obtain⟨of,lf,fd,d,cd⟩:=hc
  rw[e1,<-cd]
  unfold PySem.W.tabIn at t
  rw[hn] at t
  dsimp only at t
  rw[lf] at t
  obtain⟨oc,od,da,sl⟩:=of
  dsimp only at d
  subst d
  dsimp only at t
  cases q1:fd.code with
  | ref c2=>
   rw[q1] at t
   dsimp only at t
   split at t
   ·split at t
    ·cases t;rfl
    ·cases t
   ·cases t
  | _=>rw[q1] at t;cases t
structure uK(c:Ct)(k:Nat)(P:adm)(w:adp)(K:PySem.W.Frag)(mg:Str->Option ado)(base:Heap):Prop where
 lam:∀p L,c.lam=some (p,L)->qC P w K mg base k p 3 L
 xv:∀x F,c.xv.lookup x=some F->Ug P w K mg k c.lj x F
 OL:∀x n F,c.fns.lookup x=some (n,F)->c.Ke.contains x=true->∀base,jk K mg base->oJ P w K mg base c.lj x n F
 at':c.self∈br->∃P,yN K mg c.self P
 sk:c.sk<=k
 Sl:∀x n F,c.fns.lookup x=some (n,F)->c.Qe.contains x=true->oJ P w K mg base c.lj x n F
theorem uK.no{c:Ct}{k:Nat}{P:adm}{w:adp}{K:PySem.W.Frag}{mg:Str->Option ado}{base:Heap}(h1:c.lam=none)(h2:c.xv=[])(h3:c.Ke=[])(h4:c.self="")(h5:c.sk=0:=by rfl)(h6:c.Qe=[]:=by rfl):uK c k P w K mg base :=
 ⟨(λp L e=>by rw[h1] at e;cases e),(λx F e=>by rw[h2] at e;cases e),(λx n F _ e=>by rw[h3] at e;cases e),(λe=>by rw[h4] at e;exact absurd e (by decide)),by rw[h5];exact bb _,(λx n F _ e=>by rw[h6] at e;cases e)⟩
structure wR(c:Ct)(k:Nat)(P:adm)(w:adp)(K:PySem.W.Frag)(mg:Str->Option ado)(base:Heap):Prop where
 cst:∀x w,c.consts.lookup x=some w->AQ K mg x w
 bl:∀x,c.bl.contains x=true->mg x=none
 fns:∀x n F,c.fns.lookup x=some (n,F)->oJ P w K mg base k x n F
 tab:TabOk K c.tb c.tt c.tc
 cls:∀x,c.clss.contains x=true->∃C,mg x=some (.ref C)/\Jg K x C
 AM:∀x,c.AM.contains x=true->∃C,mg x=some (.ref C)/\ClsAt K x C
 AN:∀x kvs,c.AN.lookup x=some kvs->yc K w mg x kvs
 FY:∀x n F,c.FY.contains x=true->c.fns.lookup x=some (n,F)->Jz P w K mg base k x n F
 x:uK c k P w K mg base
theorem Kx{P:adm}{w:adp}{K:PySem.W.Frag}{mg:Str->Option ado}{base:Heap}{h:Heap}{k:Nat}{c:Ct}{x:Str}{st:Stmt}{ps:List Str}{g:GS}(KX:K.In h)(NS:h.Ns adz mg)(D:bT K x st)(T:wR c k P w K mg base)
  (S:FnScope c.N ps (defScope st))(hn:(defScope st).names=c.names)(hg:bN 30 c (defBody st)=g)
  (hb:∀(kV doc pm:ado)(an:Option adi)(cdv ct:ado)(us:List ado),us.length=ps.length->bindArgs (PySem.W.fnOf x x (defArgs st) (defBody st) (defScope st) .none kV doc pm an cdv ct) ⟨us,[]⟩=pure (ps.zip us))(hM:c.self∈br->jk K mg base/\c.self=x:=by exact λz=>absurd (show("":Str)∈br from z) (by decide)) :
  oJ P w K mg base (k+1) x ps.length (cQ c.N.length g):=by
 obtain⟨f,fd,a,F⟩:=D
 refine⟨f,fd,ps,?_,PySem.W.mg_of KX NS a,F.kp,F.binds hb⟩
 subst hg
 refine Lo F S λcdv VQ A outer s H E hr=>?_
 refine qR (k:=k) 30 c _ ⟨rfl,hn,S.nd,uE hr,λ_=>⟨hr,rfl⟩,λ_=>⟨rfl,Ky⟩,T.cst,T.bl,T.fns,λ_=>⟨rfl,rfl,rfl⟩,λ_ _=>rfl,S.kind,T.tab,T.cls,T.AM,T.AN,qA.of hr,T.FY,⟨T.x.lam,T.x.xv,T.x.OL,λ_ z=>?_,T.x.sk,T.x.Sl⟩,⟨_,_,_,rfl,rfl,rfl⟩,.inl hr.hd⟩ _
 obtain⟨P',L⟩:=T.x.at' z
 obtain⟨M,e⟩:=hM z
 exact⟨P',yN.at' L M (by rw[e];exact a) VQ rfl (by rw[e];rfl)⟩
theorem OY{P:adm}{w:adp}{K:PySem.W.Frag}{mg:Str->Option ado}{base:Heap}{k:Nat}{c:Ct}{x:Str}{st:Stmt}{ps:List Str}{g:GS}{f:adi}{fd:adk}(F:M7 K x x st f fd)(T:wR c k P w K mg base)
  (S:FnScope c.N ps (defScope st))(hn:(defScope st).names=c.names)(hg:bN 30 c (defBody st)=g)(hs:c.self∉br:=by exact(show("":Str)∉br by decide)):FnOk P w K mg base (CXJ P w) (k+1) f fd ps (spW K ps.length (cQ c.N.length g)):=by
 subst hg
 refine Lo F S λcdv _ A outer s H E hr=>?_
 exact qR (k:=k) 30 c _ ⟨rfl,hn,S.nd,uE hr,λ_=>⟨hr,rfl⟩,λ_=>⟨rfl,Ky⟩,T.cst,T.bl,T.fns,λ_=>⟨rfl,rfl,rfl⟩,λ_ _=>rfl,S.kind,T.tab,T.cls,T.AM,T.AN,qA.of hr,T.FY,⟨T.x.lam,T.x.xv,T.x.OL,λ_ z=>absurd z hs,T.x.sk,T.x.Sl⟩,⟨_,_,_,rfl,rfl,rfl⟩,.inl hr.hd⟩ _
def AllP{α:Type}(P:α->Prop):List α->Prop
 | []=>True
 | a::l=>P a/\AllP P l
theorem AllP.look{κ β:Type}[BEq κ][LawfulBEq κ]{P:κ×β->Prop}:∀{l:List (κ×β)}{x:κ}{b:β},AllP P l->l.lookup x=some b->P (x,b)
 | [],_,_,_,h=>by cases h
 | (y,c)::l,x,b,a,h=>by
  rw[bL] at h
  cases e:x == y with
  | true=>
   rw[e] at h
   cases h
   have e':=eq_of_beq e
   subst e'
   exact a.1
  | false=>rw[e] at h;exact AllP.look a.2 h
theorem AllP.mem{P:Str->Prop}:∀{l:List Str}{x:Str},AllP P l->l.contains x=true->P x
 | [],_,_,h=>by cases h
 | y::l,x,a,h=>by
  rw[Et,xX] at h
  rcases h with e | h
  ·have e':=eq_of_beq e
   subst e'
   exact a.1
  ·exact AllP.mem a.2 h
theorem mY{K:PySem.W.Frag}{c:PySem.Str}{C D:adi}(h:ClsAt K c C)(k:ClsAt K c D):C=D:=by
 unfold ClsAt at h k
 rw[h] at k
 cases k
 rfl
theorem OZ{K:PySem.W.Frag}{tb:Tab}{tt:ui}{tc:Tab}(h:AllP (λp=>∃C D,ClsAt K p.1.1 C/\ClsAt K p.1.2 D/\nA K C/\PySem.W.kitOne K (.ref C) (.ref D)=some p.2) tb)
  (g:AllP (λp=>∃C,ClsAt K p.1.1 C/\nA K C/\PySem.W.kitOne K (.ref C) (.type p.1.2)=some p.2) tt)
  (f:AllP (λp=>∃C D,ClsAt K p.1.1 C/\ClsAt K p.1.2 D/\PySem.W.excIn K C Lq Jf=true/\PySem.W.excIn K D Lq Jf=true/\PySem.W.mroIn K C (.ref D)=some p.2) tc):TabOk K tb tt tc :=
 ⟨λc d b C D e hC hD=>by
  obtain⟨C',D',q1,q2,r⟩:=AllP.look h e
  cases mY hC q1
  cases mY hD q2
  exact r,λc d b C D e hC hD=>by
  obtain⟨C',D',q1,q2,r⟩:=AllP.look f e
  cases mY hC q1
  cases mY hD q2
  exact r,λc T b C e hC=>by
  obtain⟨C',q1,r⟩:=AllP.look g e
  cases mY hC q1
  exact r⟩
theorem wU{c:Ct}{k:Nat}{P:adm}{w:adp}{K:PySem.W.Frag}{mg:Str->Option ado}{base:Heap}(hc:AllP (λp=>AQ K mg p.1 p.2) c.consts)(hb:AllP (λx=>mg x=none) c.bl)(hf:AllP (λp=>oJ P w K mg base k p.1 p.2.1 p.2.2) c.fns)
  (ht:TabOk K c.tb c.tt c.tc)(hk:AllP (λx=>∃C,mg x=some (.ref C)/\Jg K x C) c.clss)(hn:AllP (λx=>∃C,mg x=some (.ref C)/\ClsAt K x C) c.AM)(hd:AllP (λp=>yc K w mg p.1 p.2) c.AN)
  (hu:AllP (λx=>∀n F,c.fns.lookup x=some (n,F)->Jz P w K mg base k x n F) c.FY:=by exact trivial)(hx:uK c k P w K mg base:=by exact uK.no rfl rfl rfl rfl):wR c k P w K mg base :=
 ⟨λ_ _ h=>hc.look h,λ_ h=>hb.mem h,λx n F h=>hf.look (b:=(n,F)) h,ht,λ_ h=>hk.mem h,λ_ h=>hn.mem h,λx kvs h=>hd.look (b:=kvs) h,λx n F h k=>hu.mem h n F k,hx⟩
def fh(K:PySem.W.Frag):List adi:=br.filterMap (bu K)
def A6(K:PySem.W.Frag)(ts:List adi):Prop:=∀q P,q∈br->bu K q=some P->P∈ts/\∃c o vs,K.lookup c=some o/\o.cls= .type "code"/\o.data= .fields vs/\vs[11]? =some (.ref P)
theorem qS{K:PySem.W.Frag}{P:adi}(h:P∈fh K):∃q,q∈br/\bu K q=some P:=by
 unfold fh at h
 obtain⟨q,hq,e⟩:=List.mem_filterMap.mp h
 exact⟨q,hq,e⟩
theorem CI{K:PySem.W.Frag}{q:Str}{P:adi}(h:bu K q=some P):K.lookup P=none/\∃c,PySem.W.tabIn K q=some (c,P):=by
 unfold bu at h
 cases t:PySem.W.tabIn K q with
 | none=>rw[t] at h;cases h
 | some cp=>
  obtain⟨c,P'⟩:=cp
  rw[t] at h
  dsimp only at h
  split at h
  ·rename_i z;cases h;exact⟨by simpa using z,c,rfl⟩
  ·cases h
theorem A7{K:PySem.W.Frag}{q:Str}{c P:adi}(t:PySem.W.tabIn K q=some (c,P))(h:K.lookup P=none):bu K q=some P:=by
 unfold bu
 rw[t]
 dsimp only
 rw[h]
 rfl
theorem Kz{K:PySem.W.Frag}{mg:Str->Option ado}{q:Str}{c P:adi}{o:Obj}{vs:Array ado}{file:Str}{tf tg tt:Tok}{flags text:Int}{Qf:Bool}(hq:q∈br)(ht:PySem.W.tabIn K q=some (c,P))(hn:K.lookup P=none)(hc:K.lookup c=some o)(h1:o.cls= .type "code")(h2:o.data= .fields vs)
  (h3:vs[11]? =some (.ref P))(h4:vs.getD 11 .none= .ref P)(h5:vs.getD 18 .none= .str file tf)(h6:vs.getD 7 .none= .int flags tg)(h7:vs.getD 9 .none= .bool Qf)(h8:vs.getD 10 .none= .int text tt)(hne:c≠P)
  (hu:∀q',q'∈br->bu K q'=some P->q'=q):yN K mg q P :=
 ⟨A7 ht hn,⟨c,o,vs,file,tf,flags,tg,Qf,text,tt,ht,hc,h1,h2,h3,h4,h5,h6,h7,h8,hne⟩,hq,hu⟩
theorem Gz{P:adm}{w:adp}{K:PySem.W.Frag}{mg:Str->Option ado}{h:Heap}{k:Nat}{F:List Wv->Hs->Re Wv}{fa:adi}{st:Stmt}(KX:K.In h)(NS:h.Ns adz mg)(hmg:mg "law"=some (.ref fa))(D:bT K "law" st)
  (hp:∀(kV doc pm:ado)(an:Option adi)(cdv ct:ado)(s:adn)(u:ado),BindsTo s (PySem.W.fnOf "law" "law" (defArgs st) (defBody st) (defScope st) .none kV doc pm an cdv ct) ⟨[u],[]⟩ [("script",u)])
  (FN:∀(f:adi)(fd:adk),M7 K "law" "law" st f fd->∀base:Heap,jk K mg base->FnOk P w K mg base (CXJ P w) k f fd ["script"] (spW K 1 F)) :
  ∃fd:adk,(∀(s:adn)(u:ado),BindsTo s fd ⟨[u],[]⟩ [("script",u)])/\∀base:Heap,jk K mg base->FnOk P w K mg base (CXJ P w) k fa fd ["script"] (spW K 1 F):=by
 obtain⟨f,fd,a,Fu⟩:=D
 have e:=hmg.symm.trans (PySem.W.mg_of KX NS a)
 cases e
 refine⟨fd,λs u=>?_,FN fa fd Fu⟩
 obtain⟨oc,od,kV,doc,pm,an,cdv,ct,osl,rfl,lk,hcd⟩:=Fu.ex
 exact hp kV doc pm an cdv ct s u
theorem qC.mono{P:adm}{w:adp}{K:PySem.W.Frag}{mg:Str->Option ado}{base:Heap}{j k:Nat}{p:Lm}{n:Nat}{L:LF}(h:qC P w K mg base j p n L)(l:j<=k):qC P w K mg base k p n L:=by
 obtain⟨fd,ps,ob,G,r⟩:=h
 exact⟨fd,ps,ob,G.mono l,r⟩
theorem KC{c:Ct}{k:Nat}{P:adm}{w:adp}{K:PySem.W.Frag}{mg:Str->Option ado}{base:Heap}(hl:c.lam=none)(hf:AllP (λq=>Ug P w K mg k c.lj q.1 q.2) c.xv)
  (hj:AllP (λx=>∀n F,c.fns.lookup x=some (n,F)->∀base,jk K mg base->oJ P w K mg base c.lj x n F) c.Ke)(ha:c.self∈br->∃P,yN K mg c.self P)(hk:c.sk<=k:=by exact bb _)(hK:AllP (λx=>∀n F,c.fns.lookup x=some (n,F)->oJ P w K mg base c.lj x n F) c.Qe:=by exact trivial):uK c k P w K mg base :=
 ⟨(λp L e=>by rw[hl] at e;cases e),λx F e=>hf.look (b:=F) e,λx n F e h=>hj.mem h n F e,ha,hk,λx n F e h=>hK.mem h n F e⟩
theorem GB{c:Ct}{k:Nat}{P:adm}{w:adp}{K:PySem.W.Frag}{mg:Str->Option ado}{base:Heap}{p:Lm}{L:LF}(hl:c.lam=some (p,L))(H:qC P w K mg base k p 3 L)(h2:c.xv=[])(h3:c.Ke=[])(h4:c.self="")(h5:c.sk=0:=by rfl)(h6:c.Qe=[]:=by rfl):uK c k P w K mg base :=
 ⟨(λp' L' e=>by rw[hl] at e;cases e;exact H),(λx F e=>by rw[h2] at e;cases e),(λx n F _ e=>by rw[h3] at e;cases e),(λe=>by rw[h4] at e;exact absurd e (by decide)),by rw[h5];exact bb _,(λx n F _ e=>by rw[h6] at e;cases e)⟩
theorem CJ{P:adm}{w:adp}{K:PySem.W.Frag}{mg mb:Str->Option ado}{CX:C5}{k:Nat}{fa a:adi}{fd:adk}{x:Str}{sp:Sp}{s₁:adn}{vs:List ado}{ns:List Int}{ts:List adi}
  (KX:K.In s₁.heap)(T:A6 K ts)(TH:∀P∈ts,s₁.heap.get? P=some (PySem.W.tabObj #[]))(hbm:JJ mg s₁.heap)(hns:s₁.heap.Ns adz mg)(hb:s₁.heap.Ns builtinsNs mb)(hbb:∀x:Str,x≠"__name__"->mb x=adt x)(hlim:s₁.heap.NoLimit)(hg:s₁.gens=#[])
  (ha:s₁.heap.get? a=some { cls:=.type "list",data:=.seq vs.toArray })(hi:IntsAre vs ns)(hl:ns.length<=adA)(hr:iF k callerA)
  (F:∀base:Heap,jk K mg base->FnOk P w K mg base CX k fa fd [x] sp)(hbind:∀(s:adn)(u:ado),BindsTo s fd ⟨[u],[]⟩ [(x,u)])
  (K_:∀H:Hp,zX H->lO K H a (ns.map V.int)->lS K H->sp [.ref a] H (λv _=>v= .bl true) λ_ _ _=>False)
  (VR:∀H e s',CX [] H s₁ (λ_ _ _=>False) e s'->False) :
  adu (model P w) callerA (.call (.ref fa) ⟨[.ref a],[]⟩) (λr s'=>r= .ok (.ret (.bool true))/\OldK s₁.heap s'.heap/\s'.os=s₁.os/\AllBare s'.gens) s₁:=by
 have rv:=sf hi
 have VS:=hi.length
 have KG:∀b∈fh K,s₁.heap.get? b=some (PySem.W.tabObj #[]):=λb Qh=>by
  obtain⟨q,hq,t⟩:=qS Qh
  exact TH _ (T q b hq t).1
 have nta:a∉fh K:=λz=>by
  have e:=KG a z
  rw[ha] at e;cases e
 have core:∀S:Option HO,(S=none\/S=some (.gH { cls:=.type "list",data:=.seq vs.toArray } (.lst (ns.map V.int))))->(S=none->lO K (λb=>if b=a then S else if b∈fh K then some (.iW #[]) else none) a (ns.map V.int))->(S≠none->K.lookup a=none)->
   adu (model P w) callerA (.call (.ref fa) ⟨[.ref a],[]⟩) (λr s'=>r= .ok (.ret (.bool true))/\OldK s₁.heap s'.heap/\s'.os=s₁.os/\AllBare s'.gens) s₁:=by
  intro S hS hS0 hK
  let H:Hp:=λb=>if b=a then S else if b∈fh K then some (.iW #[]) else none
  have Ha:H a=S:=if_pos rfl
  have Ht:∀b∈fh K,H b=some (.iW #[]):=λb Qh=>by
   show(if b=a then S else _)=_
   rw[if_neg (λe=>nta (by rw[<-e];exact Qh)),if_pos Qh]
  have Hn:∀b,b≠a->b∉fh K->H b=none:=λb h1 h2=>by
   show(if b=a then S else _)=_
   rw[if_neg h1,if_neg h2]
  have hO:zX H:=λb=>by
   by_cases e:b=a
   ·subst e
    rw[Ha]
    rcases hS with z | z
    ·exact .inl z
    ·exact .inr (.inl ⟨_,_,z⟩)
   ·by_cases e2:b∈fh K
    ·exact .inr (.inr (Ht b e2))
    ·exact .inl (Hn b e e2)
  have hok:jb P w H s₁.heap:=λb u z=>by
   by_cases e:b=a
   ·subst e
    rw[Ha] at z
    rcases hS with q | q
    ·rw[q] at z;cases z
    ·rw[q] at z
     cases z
     exact⟨ha,by rw[bK];exact hl,vs,_,rv,ha⟩
   ·by_cases e2:b∈fh K
    ·rw[Ht b e2] at z
     cases z
     exact KG b e2
    ·rw[Hn b e e2] at z;cases z
  have hSq:lO K H a (ns.map V.int):=by
   rcases hS with z | z
   ·exact hS0 z
   ·exact .inl (.inr ⟨_,Ha.trans z⟩)
  have tb:lS K H:=λq P' hq e=>⟨#[],Ht _ (List.mem_filterMap.mpr ⟨q,hq,e⟩),trivial,λpos cv z=>by simp[codeAmong] at z⟩
  have So:∀{b:adi}{o:Obj}{es:Array DictEntry}{ep:Nat},s₁.heap.get? b=some o->o.data= .dict es ep->H b=none:=λ{b o es ep} e d=>by
   refine Hn b (λz=>?_) (λz=>?_)
   ·rw[z,ha] at e;cases e;cases d
   ·rw[KG b z] at e;cases e;cases d
  have VT:∀{b:adi}{m:Str->Option ado},s₁.heap.Ns b m->(rD s₁.heap H).Ns b m:=λ{b m} ⟨o,es,ep,e,d,r⟩=>⟨o,es,ep,mx e (So e d),d,r⟩
  have hKb:K.In (rD s₁.heap H):=λb o e1=>by
   have e2:b∉fh K:=λz=>by
    obtain⟨q,hq,t⟩:=qS z
    rw[(CI t).1] at e1;cases e1
   refine mx (KX b o e1) ?_
   by_cases z:b=a
   ·subst z
    rw[Ha]
    rcases hS with q | q
    ·exact q
    ·rw[hK (by rw[q];simp)] at e1;cases e1
   ·exact Hn b z e2
  have hM:Mod K mg (rD s₁.heap H):=⟨hKb,VT hns,⟨mb,VT hb,hbb⟩,let ⟨mc,h1,h2⟩:=hlim;⟨mc,VT h1,h2⟩⟩
  have e0:xI P w K mg (rD s₁.heap H) callerA [] s₁ H:=⟨rfl,hM,λb o e=>zt e,mJ (rY _ _),trivial,λb z=>absurd (show b∈([]:List adi) from z) (by simp),hok,.of_eq hg⟩
  have hB:JJ mg (rD s₁.heap H):=by
   obtain⟨bm,ob,b1,b2,b3,b4,b5,b6,b7⟩:=hbm
   refine⟨bm,ob,b1,b2,b3,mx b4 (Hn bm (λz=>?_) λz=>?_),b5,b6,b7⟩
   ·rw[z,ha] at b4;cases b4;cases b7
   ·rw[KG bm z] at b4;cases b4;cases b7
  refine codeAny_mono ((F _ ⟨hM,hB⟩).run callerA [] s₁ H ⟨[.ref a],[]⟩ [.ref a] [.ref a] _ _ hr e0 (hbind s₁ (.ref a)) (.cons rfl .nil) (K_ H hO hSq tb)) λr s' h=>?_
  cases r with
  | error e=>exact(VR H e s' h).elim
  | ok fl=>
   cases fl with
   | next=>exact aa h
   | brk=>exact aa h
   | cont=>exact aa h
   | ret u=>
    obtain⟨v,H',os,bare,un,JH,r',q⟩:=h
    have q':v= .bl true:=q
    subst q'
    obtain rfl:u=Value.bool true:=r'
    have old:∀b o,s₁.heap.get? b=some o->asItWas s₁.heap s'.heap b o:=λb o e=>by
     cases q:H b with
     | none=>exact .inl (un.keep b o e q (λz=>absurd (show b∈([]:List adi) from z) (by simp)) (by simp))
     | some u=>
      rcases hO b with z | ⟨ob,xs,z⟩ | z
      ·rw[q] at z;cases z
      ·obtain⟨e1,_⟩:=hok b _ z
       obtain⟨e2,_⟩:=JH b _ (un.mw b ob _ z)
       rw[e] at e1;cases e1
       exact .inl e2
      ·obtain⟨more,m1⟩:=un.oG b _ z
       have e1:s₁.heap.get? b=some (PySem.W.tabObj #[]):=hok b _ z
       have e2:s'.heap.get? b=some (PySem.W.tabObj (#[]++more)):=JH b _ m1
       rw[e] at e1
       cases e1
       have Qh:b∈fh K:=by
        by_cases e3:b∈fh K
        ·exact e3
        ·by_cases e4:b=a
         ·rw[e4,ha] at e;cases e
         ·rw[Hn b e4 e3] at z;cases z
       obtain⟨qq,hq,t⟩:=qS Qh
       obtain⟨_,c,o2,vs2,l1,l2,l3,l4⟩:=T qq b hq t
       exact .inr (.inl ⟨⟨c,o2,vs2,KX _ _ l1,l2,l3,l4⟩,rfl,#[],more,rfl,e2⟩)
    exact⟨rfl,⟨old,λb o e=>un.there b o e (by simp)⟩,os,bare⟩
 cases hk:K.lookup a with
 | some o=>
  have e:=KX a o hk
  rw[ha] at e
  cases e
  refine core none (.inl rfl) (λ_=> .inr ⟨_,vs.toArray,_,hk,rfl,rfl,rfl,by rw[bB,VS];exact hl,by simpa using rv⟩) (λz=>absurd rfl z)
 | none=>exact core _ (.inr rfl) (λz=>by cases z) λ_=>hk
theorem walk_ofT{l:PySem.W.OpenLaw}{n k:Nat}{q:adm}{loose:List Str}{XP:(Str->Option ado)->Heap->Prop}{YP:adp->Heap->Prop}{d:DefRec}{K:Params->PySem.W.Frag}{CX:adp->C5}{sp:adp->Sp}{x:Str}{ts:List adi}
  (hn:l.most=some n)(hn2:n<=adA)(hdf:d.params.defaults=[])(hr:iF k callerA)(hY:∀(w:adp)(h:Heap),YP w h->(K w.params).In h/\∀P∈ts,h.get? P=some (PySem.W.tabObj #[]))
  (F:∀(w:adp)(mg:Str->Option ado)(fa:adi)(h:Heap),(K w.params).In h->h.Ns adz mg->mg d.name=some (.ref fa)->A6 (K w.params) ts/\
   ∃fd:adk,(∀(s:adn)(u:ado),BindsTo s fd ⟨[u],[]⟩ [(x,u)])/\∀base:Heap,jk (K w.params) mg base->FnOk l.prog w (K w.params) mg base (CX w) k fa fd [x] (sp w))
  (K_:∀(w:adp)(H:Hp)(a:adi)(ns:List Int),ns.length<=n->zX H->lO (K w.params) H a (ns.map V.int)->lS (K w.params) H->sp w [.ref a] H (λv _=>v= .bl true) λ_ _ _=>False)
  (VR:∀(w:adp)(H:Hp)(s:adn)(e:ado)(s':adn),CX w [] H s (λ_ _ _=>False) e s'->False) :
  PySem.W.WalkO q loose XP YP l.row.toRowW d [] (λf vs=>PySem.call f vs):=by
 refine Att.vp hn hdf λw s₀ s₁ mg mb fa o pm cd doc a vs ns G Y ho hd hcd hmg hobj hints hlen hg=>?_
 obtain⟨KX,TH⟩:=hY w _ Y
 obtain⟨T,fd,hb,hF⟩:=F w mg fa _ KX G.T.g hmg
 have hbm:JJ mg s₁.heap:=by
  obtain⟨bm,ob,b1,b2,b3,b4,b5,b6⟩:=G.T.bmain
  refine⟨bm,ob,b1,b2,λq=>?_,b3,b4,b5,b6⟩
  obtain⟨o,es,ep,e,hd,_⟩:=G.T.g
  rw[q,e] at b3;cases b3;rw[hd] at b6;cases b6
 exact CJ KX T TH hbm G.T.g G.T.b G.T.builtins G.T.nolimit hg hobj hints (bf hlen hn2) hr hF hb (λH hO hS hT=>K_ w H a ns hlen hO hS hT) λH e s'=>VR w H s₁ e s'
def Rs.sq(r:Rs)(h:GS):Rs:=match r with
 | .nx ρ st=>h ρ st
 | r=>r
section
variable {α β:Type} {ρ ρ':bw} {st:Hs} {h g ga' gb':GS} {ga gb gc:GE} {gt gu:GT} {w:Wv} {c:PySem.Str} {f:α->Hs->Re β} {k:α->Hs->Rs} {a:α} {i:Nat}
@[simp] theorem YD:(Rs.nx ρ st).sq h=h ρ st:=rfl
@[simp] theorem YE:(Rs.rt w st).sq h= .rt w st:=rfl
@[simp] theorem YF:(Rs.bk ρ st).sq h= .bk ρ st:=rfl
@[simp] theorem YG:(Rs.ct ρ st).sq h= .ct ρ st:=rfl
@[simp] theorem VU:(Rs.err c ρ st).sq h= .err c ρ st:=rfl
@[simp] theorem VV:Rs.bad.sq h= .bad:=rfl
@[simp] theorem cJ:(Re.ok a st).bind f=f a st:=rfl
@[simp] theorem Sq:(Re.err c st).bind f= .err c st:=rfl
@[simp] theorem Sr:(Re.bad:Re α).bind f= .bad:=rfl
@[simp] theorem O0:(Re.ok a st).bA ρ k=k a st:=rfl
@[simp] theorem Um:(Re.err c st:Re α).bA ρ k= .err c ρ st:=rfl
@[simp] theorem O4:(Re.ok a st).mn= .ok a st:=rfl
@[simp] theorem Uo:(Re.bad:Re α).mn= .bad:=rfl
@[simp] theorem Uq:(Re.bad:Re α).bA ρ k= .bad:=rfl
@[simp] theorem GC:aN g h ρ st=(g ρ st).sq h:=by unfold aN Rs.sq;cases g ρ st<;>rfl
@[simp] theorem e_next:bD ρ st= .nx ρ st:=rfl
@[simp] theorem YH:bp ga ρ st=(ga ρ st).bA ρ λw st'=> .rt w st':=rfl
@[simp] theorem e_expr:i5 ga ρ st=(ga ρ st).bA ρ λ_ st'=> .nx ρ st':=rfl
@[simp] theorem Ss:bt i ga ρ st=(ga ρ st).bA ρ λw st'=> .nx (ρ.set i (some w)) st':=rfl
def VW(ga gb:GS)(ρ:bw):Bool->Hs->Rs:=λb st'=>if b=true then ga ρ st' else gb ρ st'
@[simp] theorem YI:VW g h ρ true st=g ρ st:=rfl
@[simp] theorem YJ:VW g h ρ false st=h ρ st:=rfl
@[simp] theorem abh:je gt g h ρ st=(gt ρ st).bA ρ (VW g h ρ):=rfl
def YK(o:Option (Option Wv))(st:Hs):Re Wv:=match o with
 | some (some w)=> .ok w st
 | _=> .bad
@[simp] theorem Su:YK (some (some w)) st= .ok w st:=rfl
@[simp] theorem Sv:af i ρ st=YK ρ[i]? st:=rfl
@[simp] theorem e_c:gC w ρ st= .ok w st:=rfl
def kB(op:fY)(gb:GE)(ρ:bw):Wv->Hs->Re Wv:=λx st1=>(gb ρ st1).bind λy st2=>(op x y st2).mn
@[simp] theorem VX{op:fY}{x:Wv}:kB op gb ρ x st=(gb ρ st).bind λy st2=>(op x y st2).mn:=rfl
@[simp] theorem Sw{op:fY}:ai op ga gb ρ st=(ga ρ st).bind (kB op gb ρ):=rfl
@[simp] theorem YL:cm ga ρ st=(ga ρ st).bind Lf:=rfl
@[simp] theorem YM{b:Bool}:Lf (.bl b) st= .ok b st:=rfl
@[simp] theorem YN:jX ga ρ st=(ga ρ st).bind NG:=rfl
@[simp] theorem VY{b:Bool}:NG (.bl b) st= .ok b st:=rfl
@[simp] theorem YO:t_ gt ρ st=(gt ρ st).bind λb st1=> .ok (!b) st1:=rfl
def O5(gb:GT)(ρ:bw):Bool->Hs->Re Bool:=λb st1=>if b=true then gb ρ st1 else .ok false st1
@[simp] theorem VZ:O5 gu ρ true st=gu ρ st:=rfl
@[simp] theorem V1:O5 gu ρ false st= .ok false st:=rfl
@[simp] theorem YQ:D3 gt gu ρ st=(gt ρ st).bind (O5 gu ρ):=rfl
def V2(gb:GT)(ρ:bw):Bool->Hs->Re Bool:=λb st1=>if b=true then .ok true st1 else gb ρ st1
@[simp] theorem YR:V2 gu ρ true st= .ok true st:=rfl
@[simp] theorem YS:V2 gu ρ false st=gu ρ st:=rfl
@[simp] theorem Sx:IG gt gu ρ st=(gt ρ st).bind (V2 gu ρ):=rfl
def GD(gb:GE)(ρ:bw):Wv->Hs->Re Wv:=λw st1=>match w with
 | .bl true=>gb ρ st1
 | .bl false=> .ok (.bl false) st1
 | _=> .bad
@[simp] theorem Ur:GD gb ρ (.bl true) st=gb ρ st:=rfl
@[simp] theorem Us:GD gb ρ (.bl false) st= .ok (.bl false) st:=rfl
@[simp] theorem V3:vD ga gb ρ st=(ga ρ st).bind (GD gb ρ):=rfl
def Sy:Wv->Hs->Re Wv:=λw st1=>match w with
 | .bl b=> .ok (.bl (!b)) st1
 | _=> .bad
@[simp] theorem Ut{b:Bool}:Sy (.bl b) st= .ok (.bl (!b)) st:=rfl
def O6(ga gb:GE)(ρ:bw):Bool->Hs->Re Wv:=λb st1=>if b=true then ga ρ st1 else gb ρ st1
@[simp] theorem V4:O6 ga gb ρ true st=ga ρ st:=rfl
@[simp] theorem V5:O6 ga gb ρ false st=gb ρ st:=rfl
@[simp] theorem YT:II gt ga gb ρ st=(gt ρ st).bind (O6 ga gb ρ):=rfl
@[simp] theorem YU:ao ρ st= .ok [] st:=rfl
def LL(gr:GA)(ρ:bw):Wv->Hs->Re (List Wv):=λx st1=>(gr ρ st1).bind λxs st2=> .ok (x::xs) st2
@[simp] theorem Uu{gr:GA}{x:Wv}:LL gr ρ x st=(gr ρ st).bind λxs st2=> .ok (x::xs) st2:=rfl
@[simp] theorem V6{gr:GA}:ae ga gr ρ st=(ga ρ st).bind (LL gr ρ):=rfl
def oP:List Wv->Hs->Re Wv:=λws st1=>if ws.length<=lim then .ok (.tup ws) st1 else .bad
theorem qT{ws:List Wv}(hl:ws.length<=lim):oP ws st= .ok (.tup ws) st:=if_pos hl
@[simp] theorem YV{gr:GA}:cH gr ρ st=(gr ρ st).bind oP:=rfl
def yO:List Wv->Hs->Re Wv:=λws st1=>if ws.length<=lim then .ok (.ref st1.length) (st1++[.lst ws]) else .bad
theorem qU{ws:List Wv}(hl:ws.length<=lim):yO ws st= .ok (.ref st.length) (st++[.lst ws]):=if_pos hl
@[simp] theorem YW{gr:GA}:fJ gr ρ st=(gr ρ st).bind yO:=rfl
section
variable {x x0 x1 x2 x3 x4 x5 x6 x7:Wv}
@[simp] theorem V7:oP [x0] st= .ok (.tup [x0]) st:=qT (by simp[lim])
@[simp] theorem jo:oP [x0,x1] st= .ok (.tup [x0,x1]) st:=qT (by simp[lim])
@[simp] theorem V8:oP [x0,x1,x2] st= .ok (.tup [x0,x1,x2]) st:=qT (by simp[lim])
@[simp] theorem V9:oP [x0,x1,x2,x3] st= .ok (.tup [x0,x1,x2,x3]) st:=qT (by simp[lim])
@[simp] theorem V_:yO [] st= .ok (.ref st.length) (st++[.lst []]):=qU (by simp[lim])
@[simp] theorem V':yO [x0] st= .ok (.ref st.length) (st++[.lst [x0]]):=qU (by simp[lim])
@[simp] theorem Wa:yO [x0,x1] st= .ok (.ref st.length) (st++[.lst [x0,x1]]):=qU (by simp[lim])
@[simp] theorem Wb:yO [x0,x1,x2,x3] st= .ok (.ref st.length) (st++[.lst [x0,x1,x2,x3]]):=qU (by simp[lim])
@[simp] theorem Wc:yO [x0,x1,x2,x3,x4,x5,x6] st= .ok (.ref st.length) (st++[.lst [x0,x1,x2,x3,x4,x5,x6]]):=qU (by simp[lim])
end
def sY(n:Nat)(F:List Wv->Hs->Re Wv):List Wv->Hs->Re Wv:=λws st1=>if ws.length=n then F ws st1 else .bad
section
variable {F:List Wv->Hs->Re Wv} {x0 x1 x2 x3:Wv} {gr:GA}
@[simp] theorem Uv:sY 1 F [x0] st=F [x0] st:=rfl
@[simp] theorem Uw:sY 2 F [x0,x1] st=F [x0,x1] st:=rfl
@[simp] theorem Ux:sY 3 F [x0,x1,x2] st=F [x0,x1,x2] st:=rfl
@[simp] theorem Uy:sY 4 F [x0,x1,x2,x3] st=F [x0,x1,x2,x3] st:=rfl
@[simp] theorem Wd{n:Nat}:az n F gr ρ st=(gr ρ st).bind (sY n F):=rfl
@[simp] theorem Uz{op:List Wv->Hs->Re Wv}:aZ op gr ρ st=(gr ρ st).bind λws st1=>(op ws st1).mn:=rfl
end
@[simp] theorem abi{op:Wv->Hs->Re Wv}:BI op ga ρ st=(ga ρ st).bind op:=rfl
@[simp] theorem YX{i:Int}:iZ (.int i) st= .ok (.int (-i)) st:=rfl
@[simp] theorem Sz{i j:Int}:cq (.int i) (.int j) st= .ok (.int (i+j)) st:=rfl
@[simp] theorem YY{i j:Int}:ke (.int i) (.int j) st= .ok (.int (i - j)) st:=rfl
@[simp] theorem We{x:Wv}:wB x .non st=ny x .non st:=OH
@[simp] theorem abj{i j:Int}:oLt (.int i) (.int j) st= .ok (.bl (decide (i < j))) st:=rfl
@[simp] theorem abk{i j:Int}:oLe (.int i) (.int j) st= .ok (.bl (decide (i<=j))) st:=rfl
@[simp] theorem abl{i j:Int}:oGt (.int i) (.int j) st= .ok (.bl (decide (j < i))) st:=rfl
@[simp] theorem abm{i j:Int}:oGe (.int i) (.int j) st= .ok (.bl (decide (j<=i))) st:=rfl
@[simp] theorem abn{i j:Int}:oEq (.int i) (.int j) st= .ok (.bl (i == j)) st:=rfl
@[simp] theorem abo{i j:Int}:C8 (.int i) (.int j) st= .ok (.bl (!(i == j))) st:=rfl
@[simp] theorem abp{i j:PySem.Str}:oEq (.str i) (.str j) st= .ok (.bl (i == j)) st:=rfl
@[simp] theorem abq{i j:PySem.Str}:C8 (.str i) (.str j) st= .ok (.bl (!(i == j))) st:=rfl
@[simp] theorem abr{i j:Bool}:oEq (.bl i) (.bl j) st= .ok (.bl (i == j)) st:=by cases i<;>cases j<;>rfl
@[simp] theorem abt{i j:Bool}:C8 (.bl i) (.bl j) st= .ok (.bl (!(i == j))) st:=by cases i<;>cases j<;>rfl
theorem nR{i j:Int}(h:j≠0/\j.natAbs.log2 < 9000):fZ (.int i) (.int j) st= .ok (.int (i.fdiv j)) st:=by show(if _ then _ else _)=_;rw[if_pos h]
theorem jP{i j:Int}(h:j≠0):oMod (.int i) (.int j) st= .ok (.int (i.fmod j)) st:=by show(if _ then _ else _)=_;rw[if_pos h]
theorem A8{i j:Int}(h:IntMulOk i j):cR (.int i) (.int j) st= .ok (.int (i * j)) st:=by show(if _ then _ else _)=_;rw[if_pos h]
theorem A9{i j:Int}(h1:-(2 ^ 64) < i)(h2:i < 2 ^ 64):cR (.int i) (.int j) st= .ok (.int (i * j)) st:=A8 (IntMulOk.of_left (intBits_le_64 h1 h2))
theorem mul_r{i j:Int}(h1:-(2 ^ 64) < j)(h2:j < 2 ^ 64):cR (.int i) (.int j) st= .ok (.int (i * j)) st:=A8 (IntMulOk.of_right (intBits_le_64 h1 h2))
theorem SD{i j:Int}(h:0<=j/\j<=1000000/\i.natAbs < 2 ^ 64):p9 (.int i) (.int j) st= .ok (.int (i ^ j.toNat)) st:=by show(if _ then _ else _)=_;rw[if_pos h]
theorem yP{l:Nat}{i:Int}{ws:List Wv}{v:Wv}(h:av st l=some ws)(h2:mD ws i=some v):cg (.ref l) (.int i) st= .ok v st:=by
 show(match av st l with | some ws=>(match mD ws i with | some w=>Re.ok w st | none=> .bad) | none=> .bad)=_
 rw[h]
 dsimp only
 rw[h2]
theorem jq{i:Int}{ws:List Wv}{v:Wv}(h2:mD ws i=some v):cg (.tup ws) (.int i) st= .ok v st:=by
 show(match mD ws i with | some w=>Re.ok w st | none=> .bad)=_
 rw[h2]
end
theorem A_{n:Nat}{g:GS}{ws:List Wv}{st st':Hs}{w:Wv}(h:g (ws.map some++aQ (n - ws.length) none) st= .rt w st'):cQ n g ws st= .ok w st':=by unfold cQ;rw[h]
section
variable {ρ:bw} {st:Hs} {ga gb gc:GE} {gl gh:GO}
def YZ(gl gh:GO)(ρ:bw):Wv->Hs->Re Wv:=λx st1=>(gl ρ st1).bind λlo st2=>(gh ρ st2).bind λhi st3=>vV x lo hi st3
@[simp] theorem UA:fz ga gl gh ρ st=(ga ρ st).bind (YZ gl gh ρ):=rfl
@[simp] theorem Y0{x:Wv}:YZ gl gh ρ x st=(gl ρ st).bind λlo st2=>(gh ρ st2).bind λhi st3=>vV x lo hi st3:=rfl
@[simp] theorem SF:kT ρ st= .ok none st:=rfl
def LM:Wv->Hs->Re (Option Int):=λw st1=>match w with
 | .int i=> .ok (some i) st1
 | _=> .bad
@[simp] theorem Wf:jN ga ρ st=(ga ρ st).bind LM:=rfl
@[simp] theorem UB{i:Int}:LM (.int i) st= .ok (some i) st:=rfl
theorem LN{l:Nat}{ws:List Wv}(h:av st l=some ws):mH [.ref l] st= .ok (.int ws.length) st:=by
 show(match av st l with | some ws=>Re.ok (Wv.int ws.length) st | none=> .bad)=_
 rw[h]
def GF(op':fY)(gc:GE)(y:Wv)(ρ:bw):Wv->Hs->Re Wv:=λz st3=>match z with
 | .bl true=>(gc ρ st3).bind λu zU=>(op' y u zU).mn
 | .bl false=> .ok (.bl false) st3
 | _=> .bad
@[simp] theorem Wg{op':fY}{y:Wv}:GF op' gc y ρ (.bl true) st=(gc ρ st).bind λu zU=>(op' y u zU).mn:=rfl
@[simp] theorem Wh{op':fY}{y:Wv}:GF op' gc y ρ (.bl false) st= .ok (.bl false) st:=rfl
@[simp] theorem UC{op op':fY}:lT op op' ga gb gc ρ st=(ga ρ st).bind λx st1=>(gb ρ st1).bind λy st2=>(op x y st2).mn.bind (GF op' gc y ρ):=rfl
def SG(op' CK:fY)(gc gd:GE)(y:Wv)(ρ:bw):Wv->Hs->Re Wv:=λz st3=>match z with
 | .bl true=>(gc ρ st3).bind λu zU=>(op' y u zU).mn.bind (GF CK gd u ρ)
 | .bl false=> .ok (.bl false) st3
 | _=> .bad
@[simp] theorem Wi{op' CK:fY}{gd:GE}{y:Wv}:SG op' CK gc gd y ρ (.bl true) st=(gc ρ st).bind λu zU=>(op' y u zU).mn.bind (GF CK gd u ρ):=rfl
@[simp] theorem Wj{op' CK:fY}{gd:GE}{y:Wv}:SG op' CK gc gd y ρ (.bl false) st= .ok (.bl false) st:=rfl
def LO(cat:PySem.Str->Option Bool)(gs:GS)(r:Rs):Rs:=match r with
 | .err c ρ' st'=>(match cat c with
  | some true=>(match gs ρ' st' with
   | .nx ρ2 st2=> .nx ρ2 st2
   | .rt w st2=> .rt w st2
   | _=> .bad)
  | _=> .bad)
 | r=>r
@[simp] theorem SH{cat:PySem.Str->Option Bool}{gs:GS}:LO cat gs (.nx ρ st)= .nx ρ st:=rfl
@[simp] theorem SI{cat:PySem.Str->Option Bool}{gs:GS}{w:Wv}:LO cat gs (.rt w st)= .rt w st:=rfl
end
theorem eG{st:Hs}{ws:List Wv}:av (st++[.lst ws]) st.length=some ws:=by unfold av;simp
theorem qV{st:Hs}{l:Nat}{ws:List Wv}(h:av st l=some ws):l < st.length:=by
 unfold av at h
 cases e:st[l]? with
 | none=>rw[e] at h;cases h
 | some o=>exact(List.getElem?_eq_some_iff.mp e).1
def iM(l:Nat)(st st':Hs):Prop:=st.length<=st'.length/\∀k,k < st.length->k≠l->st'[k]? =st[k]?
theorem iM.refl{l:Nat}{st:Hs}:iM l st st:=⟨aj _,λ_ _ _=>rfl⟩
theorem iM.trans{l:Nat}{a b c:Hs}(h:iM l a b)(k:iM l b c):iM l a c:=⟨bf h.1 k.1,λj h1 h2=>(k.2 j (bc h1 h.1) h2).trans (h.2 j h1 h2)⟩
theorem iM.push{l:Nat}{st:Hs}{o:Ob}:iM l st (st++[o]):=⟨by simp,λk h _=>d_ h⟩
theorem iM.set{l:Nat}{st:Hs}{o:Ob}:iM l st (st.set l o):=⟨by simp,λk _ h=>a9 (λz=>h z.symm)⟩
theorem iM.lst{l:Nat}{st st':Hs}(k:iM l st st'){j:Nat}{ws:List Wv}(h:av st j=some ws)(hj:j≠l):av st' j=some ws:=by
 unfold av at h ⊢
 rw[k.2 j (qV (st:=st) (ws:=ws) (by unfold av;exact h)) hj]
 exact h
@[simp] theorem UD{i:Nat}{ga:GA}{gb:GS}{ρ:bw}{st:Hs}:lU i ga gb ρ st=(ga ρ st).bA ρ λws st1=>match ws with
 | [.int j]=>if jY j then dh i gb (di 0 j.toNat) ρ st1 else .bad
 | _=> .bad:=rfl
def LP(mt:Wv->Wv->Hs->Re Wv)(ga:GE)(ρ:bw):Wv->Hs->Re Wv:=λo st1=>match o with
 | .ref l=>(match av st1 l with
  | some _=>(ga ρ st1).bind λv st2=>(mt o v st2).mn
  | none=> .bad)
 | _=> .bad
@[simp] theorem Wl{mt:Wv->Wv->Hs->Re Wv}{go ga:GE}{ρ:bw}{st:Hs}:eF mt go ga ρ st=(go ρ st).bind (LP mt ga ρ):=rfl
theorem KH{mt:Wv->Wv->Hs->Re Wv}{ga:GE}{ρ:bw}{st:Hs}{l:Nat}{ws:List Wv}(h:av st l=some ws):LP mt ga ρ (.ref l) st=(ga ρ st).bind λv st2=>(mt (.ref l) v st2).mn:=by
 show(match av st l with | some _=>(ga ρ st).bind λv st2=>(mt (.ref l) v st2).mn | none=> .bad)=_
 rw[h]
theorem GG{st:Hs}{l:Nat}{v:Wv}{ws:List Wv}(h:st[l]? =some (.lst ws))(hl:ws.length < lim):iI (.ref l) v st= .ok .non (st.set l (.lst (ws++[v]))):=by
 show(match st[l]? with | some (.lst ws)=>if ws.length < lim then Re.ok Wv.non (st.set l (.lst (ws++[v]))) else .bad | _=> .bad)=_
 rw[h]
 exact if_pos hl
def kFor(i:Nat)(gb:GS)(ρ:bw):Wv->Hs->Rs:=λw st1=>match w with
 | .ref l=>(match av st1 l with | some ws=>forL i gb l ws ws ρ st1 | none=> .bad)
 | .tup ws=>dh i gb ws ρ st1
 | .og ws=>dh i gb ws ρ st1
 | _=> .bad
@[simp] theorem Y1{i:Nat}{ga:GE}{gb:GS}{ρ:bw}{st:Hs}:qf i ga gb ρ st=(ga ρ st).bA ρ (kFor i gb ρ):=rfl
theorem uL{i:Nat}{gb:GS}{ρ:bw}{st:Hs}{l:Nat}{ws:List Wv}(h:av st l=some ws):kFor i gb ρ (.ref l) st=forL i gb l ws ws ρ st:=by
 show(match av st l with | some ws=>forL i gb l ws ws ρ st | none=> .bad)=_
 rw[h]
@[simp] theorem Wm{i:Nat}{gb:GS}{ρ:bw}{st:Hs}{ws:List Wv}:kFor i gb ρ (.tup ws) st=dh i gb ws ρ st:=rfl
theorem uM{i:Nat}{gb:GS}(P:Nat->bw->Hs->Prop):∀(ws:List Wv)(k:Nat)(ρ:bw)(st:Hs),P k ρ st->
  (∀(j:Nat)(w:Wv),ws[j]? =some w->∀ρ st,P (k+j) ρ st->∃ρ' st',gb (ρ.set i (some w)) st= .nx ρ' st'/\P (k+j+1) ρ' st')->∃ρ' st',dh i gb ws ρ st= .nx ρ' st'/\P (k+ws.length) ρ' st'
 | [],k,ρ,st,h,_=>⟨ρ,st,rfl,h⟩
 | w::r,k,ρ,st,h,step=>by
  obtain⟨ρ1,st1,e1,p1⟩:=step 0 w rfl ρ st h
  obtain⟨ρ2,st2,e2,p2⟩:=uM P r (k+1) ρ1 st1 p1 λj w hw ρ st hp=>by
   have e:k+(j+1)=k+1+j:=by omega
   have q:=step (j+1) w hw ρ st (by rw[e];exact hp)
   rw[e] at q
   exact q
  refine⟨ρ2,st2,?_,?_⟩
  ·unfold dh
   rw[e1]
   exact e2
  ·have e:k+(w::r).length=k+1+r.length:=by simp;omega
   rw[e]
   exact p2
theorem wV{i:Nat}{gb:GS}(P:bw->Hs->Prop):∀(ws:List Wv)(ρ:bw)(st:Hs),P ρ st->
  (∀w∈ws,∀ρ st,P ρ st->∃ρ' st',gb (ρ.set i (some w)) st= .nx ρ' st'/\P ρ' st')->∃ρ' st',dh i gb ws ρ st= .nx ρ' st'/\P ρ' st'
 | [],ρ,st,h,_=>⟨ρ,st,rfl,h⟩
 | w::r,ρ,st,h,step=>by
  obtain⟨ρ1,st1,e1,p1⟩:=step w aK ρ st h
  obtain⟨ρ2,st2,e2,p2⟩:=wV P r ρ1 st1 p1 λw hw=>step w (aJ _ hw)
  refine⟨ρ2,st2,?_,p2⟩
  unfold dh
  rw[e1]
  exact e2
@[simp] theorem Wn{i:Int}{st:Hs}:RC [.int i] st=RA [.int i] st:=rfl
@[simp] theorem Wo{cs:dM}{gi:GI}{gt:GT}{ge:GE}{ρ:bw}{st:Hs}:ib cs gi gt ge ρ st=(gi ρ st).bind (cX cs gt ge ρ):=rfl
@[simp] theorem UE{g:GE}{ρ:bw}{st:Hs}:iK g ρ st=(g ρ st).bind Ah:=rfl
@[simp] theorem Wq{g:GA}{ρ:bw}{st:Hs}:Jm g ρ st=(g ρ st).bind vR:=rfl
@[simp] theorem Ws{g:GA}{ρ:bw}{st:Hs}:Vx g ρ st=(g ρ st).bind Lu:=rfl
@[simp] theorem Wt{g:GA}{ρ:bw}{st:Hs}:VM g ρ st=(g ρ st).bind LH:=rfl
theorem O7{j:Int}{st:Hs}(h:jY j):vR [.int j] st= .ok (none,di 0 j.toNat) st:=if_pos h
@[simp] theorem Wu{st:Hs}{z:PySem.Str}:Ah (.str z) st= .ok (none,iJ z) st:=rfl
@[simp] theorem Ww{st:Hs}{ws:List Wv}:Ah (.tup ws) st= .ok (none,ws) st:=rfl
theorem uN{st:Hs}{acc:List Wv}{v:Wv}(h:acc.length < lim):iI (.ref st.length) v (st++[.lst acc])= .ok .non (st++[.lst (acc++[v])]):=by
 rw[GG (ws:=acc) (by simp) h]
 congr 1
 simp
theorem l7{w:Wk}{gt:Wv->Hs->Re Bool}{ge:Wv->Hs->Re Wv}{st:Hs}{t:Wv->Bool}{f:Wv->Wv}(ck:i9 w st):∀(ws acc:List Wv),(∀v∈ws,∀acc,gt v (st++[.lst acc])= .ok (t v) (st++[.lst acc]))->
  (∀v∈ws,t v=true->∀acc,ge v (st++[.lst acc])= .ok (f v) (st++[.lst acc]))->acc.length+ws.length < lim->i7 (i9 w) gt ge st.length ws (st++[.lst acc])=some (st++[.lst (acc++(ws.filter t).map f)])
 | [],acc,_,_,_=>by simp[i7]
 | v::r,acc,h1,h2,hl=>by
  have hl':acc.length+(r.length+1) < lim:=hl
  unfold i7
  rw[h1 v aK acc]
  cases e:t v with
  | false=>
   dsimp only
   rw[if_pos (qk ck),l7 ck r acc (λv hv=>h1 v (aJ _ hv)) (λv hv=>h2 v (aJ _ hv)) (by omega),nE (by simp[e])]
  | true=>
   dsimp only
   rw[h2 v aK e acc]
   dsimp only
   rw[uN (by omega)]
   dsimp only
   rw[if_pos (qk ck),l7 ck r (acc++[f v]) (λv hv=>h1 v (aJ _ hv)) (λv hv=>h2 v (aJ _ hv)) (by simp;omega),qi e]
   simp
theorem CL{cs:dM}{gt:GT}{ge:GE}{ρ:bw}{w:Wk}{st:Hs}{t:Wv->Bool}{f:Wv->Wv}(ck:i9 w st)(h1:∀v∈w.2,∀acc,gt (some v::eC cs ρ) (st++[.lst acc])= .ok (t v) (st++[.lst acc]))
  (h2:∀v∈w.2,t v=true->∀acc,ge (some v::eC cs ρ) (st++[.lst acc])= .ok (f v) (st++[.lst acc]))(hl:w.2.length < lim):cX cs gt ge ρ w st= .ok (.ref st.length) (st++[.lst ((w.2.filter t).map f)]):=by
 unfold cX
 rw[l7 ck w.2 [] h1 h2 (by simpa using hl)]
 simp
theorem wW{α:Type}{ws:List α}{d:Int}(h0:0<=d)(h1:d < ws.length):∃v,L2.mD ws d=some v/\v∈ws:=by
 have hk:d.toNat < ws.length:=by omega
 have ek:d=((d.toNat:Nat):Int):=by omega
 refine⟨ws[d.toNat],?_,List.getElem_mem hk⟩
 have q:=L2.gq (cE hk)
 rw[<-ek] at q
 exact q
theorem cK{st:Hs}{l:Nat}{o o':Ob}(h:st[l]? =some o):(st.set l o')[l]? =some o':=nk (List.getElem?_eq_some_iff.mp h).1
theorem fP{st:Hs}{l:Nat}{o o':Ob}(h:st[l]? =some o):(st++[o'])[l]? =some o:=by rw[d_ (List.getElem?_eq_some_iff.mp h).1];exact h
theorem eS{st:Hs}{l:Nat}{ws:List Wv}(h:st[l]? =some (.lst ws)):av st l=some ws:=by unfold av;rw[h]
theorem cL{st:Hs}{l:Nat}{o:Ob}(h:st[l]? =some o):l < st.length:=(List.getElem?_eq_some_iff.mp h).1
theorem bQ{st:Hs}{o:Ob}:(st++[o])[st.length]? =some o:=by simp
@[simp] theorem Y2{i:Int}{st:Hs}:Vf [.int i] st= .ok (.int (if i < 0 then -i else i)) st:=rfl
@[simp] theorem SJ{l:Nat}{st:Hs}{ns:List Int}(h:av st l=some (ns.map Wv.int)):EM [.ref l] st= .ok (.int ns.sum) st:=by
 show(match av st l with | some ws=>(match intsOf ws with | some ns=>Re.ok (Wv.int ns.sum) st | none=> .bad) | none=> .bad)=_
 rw[h]
 dsimp only
 rw[qm]
theorem KI{lo:Int}{n:Nat}{w:Wv}(h:w∈di lo n):∃k:Int,w= .int k/\lo<=k/\k < lo+n:=by
 unfold di at h
 obtain⟨k,hk,rfl⟩:=List.mem_map.mp h
 have:=List.mem_range.mp hk
 exact⟨lo+k,rfl,by omega,by omega⟩
theorem yQ{i:Int}(h1:-1000000<=i)(h2:i<=1000000):jY i:=⟨by omega,by omega⟩
@[simp] theorem UG{F:List Wv->Hs->Re Wv}{st:Hs}:sY 0 F [] st=F [] st:=rfl
theorem sZ{w:Wk}{gt:Wv->Hs->Re Bool}{ge:Wv->Hs->Re Wv}{rr:Nat}(P:Hs->Prop)(E:Wv->Prop)(hP:∀st acc,P st->P (st.set rr (.lst acc)))(hck:∀st,P st->i9 w st) :
  ∀(ws:List Wv),(∀v∈ws,∀st acc,P st->st[rr]? =some (.lst acc)->∃st1,gt v st= .ok true st1/\P st1/\st1[rr]? =some (.lst acc)/\∃u st2,ge v st1= .ok u st2/\E u/\P st2/\st2[rr]? =some (.lst acc))->
   ∀(acc:List Wv)(st:Hs),P st->st[rr]? =some (.lst acc)->acc.length+ws.length < lim->(∀a∈acc,E a)->∃st' acc',i7 (i9 w) gt ge rr ws st=some st'/\P st'/\st'[rr]? =some (.lst acc')/\(∀a∈acc',E a)/\acc'.length=acc.length+ws.length
 | [],_,acc,st,hp,hg,_,ha=>⟨st,acc,rfl,hp,hg,ha,rfl⟩
 | v::r,step,acc,st,hp,hg,hl,ha=>by
  obtain⟨st1,e1,p1,g1,u,st2,e2,hu,p2,g2⟩:=step v aK st acc hp hg
  have hl':acc.length+(r.length+1) < lim:=hl
  obtain⟨st3,Wx,f1,f2,f3,f4,f5⟩:=sZ P E hP hck r (λv hv=>step v (aJ _ hv)) (acc++[u]) (st2.set rr (.lst (acc++[u]))) (hP _ _ p2) (cK g2) (by simp;omega) (by
   intro a h
   rcases List.mem_append.mp h with z | z
   ·exact ha a z
   ·simp at z;rw[z];exact hu)
  refine⟨st3,Wx,?_,f2,f3,f4,?_⟩
  ·unfold i7
   rw[e1]
   dsimp only
   rw[e2]
   dsimp only
   rw[GG g2 (by omega)]
   dsimp only
   rw[if_pos (hck _ (hP _ _ p2)),f1]
  ·rw[f5];simp;omega
def Gr(st st':Hs):Prop:=st.length<=st'.length/\∀k,k < st.length->st'[k]? =st[k]?
theorem Gr.refl{st:Hs}:Gr st st:=⟨aj _,λ_ _=>rfl⟩
theorem Gr.trans{a b c:Hs}(h:Gr a b)(k:Gr b c):Gr a c:=⟨bf h.1 k.1,λj h1=>(k.2 j (bc h1 h.1)).trans (h.2 j h1)⟩
theorem Gr.push{st:Hs}{o:Ob}:Gr st (st++[o]):=⟨by simp,λk h=>d_ h⟩
theorem Gr.app{st xs:Hs}:Gr st (st++xs):=⟨by simp,λk h=>d_ h⟩
theorem Gr.lst{st st':Hs}(k:Gr st st'){j:Nat}{ws:List Wv}(h:av st j=some ws):av st' j=some ws:=by
 unfold av at h ⊢
 rw[k.2 j (qV (st:=st) (ws:=ws) (by unfold av;exact h))]
 exact h
theorem Gr.get{st st':Hs}(k:Gr st st'){j:Nat}{o:Ob}(h:st[j]? =some o):st'[j]? =some o:=by rw[k.2 j (cL h)];exact h
theorem Gr.O8{st s1 s2:Hs}{l:Nat}(h:st.length<=l)(g:Gr st s1)(k:iM l s1 s2):Gr st s2:=⟨bf g.1 k.1,λj h1=>(k.2 j (bc h1 g.1) (by omega)).trans (g.2 j h1)⟩
theorem mZ{α:Type}(f:α->Wv){i:Nat}{gb:GS}{l:Nat}{all:List Wv}(full:List α)(P:List α->bw->Hs->Prop)
  (step:∀a pre post ρ st,full=pre++a::post->P pre ρ st->av st l=some all->∃ρ' st',gb (ρ.set i (some (f a))) st= .nx ρ' st'/\av st' l=some all/\P (pre++[a]) ρ' st') :
  ∀(post pre:List α)(ρ:bw)(st:Hs),full=pre++post->P pre ρ st->av st l=some all->∃ρ' st',forL i gb l all (post.map f) ρ st= .nx ρ' st'/\P full ρ' st'/\av st' l=some all
 | [],pre,ρ,st,hf,h,hl=>⟨ρ,st,rfl,by rw[hf];simpa using h,hl⟩
 | a::r,pre,ρ,st,hf,h,hl=>by
  obtain⟨ρ1,st1,e1,l1,p1⟩:=step a pre r ρ st hf h hl
  obtain⟨ρ2,st2,e2,p2,l2⟩:=mZ f full P step r (pre++[a]) ρ1 st1 (by rw[hf];simp) p1 l1
  refine⟨ρ2,st2,?_,p2,l2⟩
  rw[aD]
  unfold forL
  rw[e1]
  simp only[if_pos l1]
  exact e2
theorem GH{i:Int}:aC (.int i) (.int i)=true:=by simp[aC]
theorem GJ{x:PySem.Str}:aC (.str x) (.str x)=true:=by simp[aC]
theorem O9{st:Hs}{x y:Wv}{d:PyData}(h1:aG st 20 x=some d)(h2:aG st 20 y=some d)(h:aC d d=true):C8 x y st= .ok (.bl false) st:=by
 unfold C8
 rw[h1,h2]
 show Re.ok (Wv.bl (!PyData.eqv d d)) st=_
 rw[h]
 rfl
theorem O_{st:Hs}{x y:Wv}{d:PyData}(h1:aG st 20 x=some d)(h2:aG st 20 y=some d)(h:aC d d=true):oEq x y st= .ok (.bl true) st:=by
 unfold oEq
 rw[h1,h2]
 show Re.ok (Wv.bl (aC d d)) st=_
 rw[h]
@[simp] theorem Y3{i j:Int}{st:Hs}:RJ [.int i,.int j] st= .ok (.int (if j > i then j else i)) st:=rfl
@[simp] theorem SK{i j:Int}{st:Hs}:sI [.int i,.int j] st= .ok (.int (if j < i then j else i)) st:=rfl
def LQ(kvs:Dc):Wv->Hs->Re Wv:=λa st1=>match a with
 | .str k=>(match kvs.lookup k with | some w=> .ok w st1 | none=> .bad)
 | _=> .bad
@[simp] theorem Wy{kvs:Dc}{ga:GE}{ρ:bw}{st:Hs}:Ak kvs ga ρ st=(ga ρ st).bind (LQ kvs):=rfl
theorem KJ{kvs:Dc}{k:PySem.Str}{w:Wv}{st:Hs}(h:kvs.lookup k=some w):LQ kvs (.str k) st= .ok w st:=by
 show(match kvs.lookup k with | some w=>Re.ok w st | none=> .bad)=_
 rw[h]
theorem SM{l:Nat}{st:Hs}{ps:List (Int×Int)}(h:av st l=some (ps.map pw))(hn:ps.length < 64):jO [.ref l] st= .ok (.ref st.length) (st++[.lst ((b9 ps).map pw)]):=by
 match ps,h,hn with
 | [],h,_=>
  unfold jO
  simp only[h]
  rfl
 | [p],h,_=>
  unfold jO
  simp only[h]
  rfl
 | p::q::r,h,hn=>
  have e:jg ((p::q::r).map pw)=some (p::q::r):=qv _
  unfold jO
  simp only[h]
  rw[if_neg (by simp),e]
  dsimp only
  rw[if_pos ⟨by simp,hn⟩]
open PySem L2
theorem ln1{fd:adk}{ps:List Str}(us:List ado)(hl:us.length=1)(h:∀a0:ado,bindArgs fd { pos:=[a0] }=pure (ps.zip [a0])):bindArgs fd { pos:=us }=pure (ps.zip us):=match us,hl with | [a0],_=>h a0
theorem ln2{fd:adk}{ps:List Str}(us:List ado)(hl:us.length=2)(h:∀a0 a1:ado,bindArgs fd { pos:=[a0,a1] }=pure (ps.zip [a0,a1])):bindArgs fd { pos:=us }=pure (ps.zip us):=match us,hl with | [a0,a1],_=>h a0 a1
theorem Wz{fd:adk}{ps:List Str}(us:List ado)(hl:us.length=3)(h:∀a0 a1 a2:ado,bindArgs fd { pos:=[a0,a1,a2] }=pure (ps.zip [a0,a1,a2])):bindArgs fd { pos:=us }=pure (ps.zip us):=match us,hl with | [a0,a1,a2],_=>h a0 a1 a2
theorem ln4{fd:adk}{ps:List Str}(us:List ado)(hl:us.length=4)(h:∀a0 a1 a2 a3:ado,bindArgs fd { pos:=[a0,a1,a2,a3] }=pure (ps.zip [a0,a1,a2,a3])):bindArgs fd { pos:=us }=pure (ps.zip us):=match us,hl with | [a0,a1,a2,a3],_=>h a0 a1 a2 a3
abbrev HB(P:adm)(w:adp)(K:PySem.W.Frag)(mg:Str->Option ado)(k:Nat)(x:Str)(n:Nat)(F:List Wv->Hs->Re Wv):Prop:=∀base:Heap,jk K mg base->oJ P w K mg base k x n F
theorem oJ.mo{P:adm}{w:adp}{K:PySem.W.Frag}{mg:Str->Option ado}{base:Heap}{j k:Nat}{x:Str}{n:Nat}{F:List Wv->Hs->Re Wv}(h:oJ P w K mg base j x n F)(l:j<=k:=by first | decide | omega):oJ P w K mg base k x n F:=h.mono l
theorem hdf{P:adm}{w:adp}{K:PySem.W.Frag}{mg:Str->Option ado}{base:Heap}{h:Heap}{k:Nat}{c:Ct}{x:Str}{st:Stmt}{ps:List Str}{g:GS}(KX:K.In h)(NS:h.Ns adz mg)(D:bT K x st)(T:wR c k P w K mg base)
  (S:FnScope c.N ps (defScope st))(hg:bN 30 c (defBody st)=g)(hM:c.self∈br->jk K mg base/\c.self=x:=by exact λz=>absurd (show("":Str)∈br from z) (by decide))(hn:(defScope st).names=c.names:=by exact rfl)
  (hb:∀(kV doc pm:ado)(an:Option adi)(cdv ct:ado)(us:List ado),us.length=ps.length->bindArgs (PySem.W.fnOf x x (defArgs st) (defBody st) (defScope st) .none kV doc pm an cdv ct) ⟨us,[]⟩=pure (ps.zip us):=by intro _ _ _ _ _ _ us hl;first | exact ln1 us hl λ_=>rfl | exact ln2 us hl λ_ _=>rfl | exact Wz us hl λ_ _ _=>rfl | exact ln4 us hl λ_ _ _ _=>rfl | exact ln5 us hl λ_ _ _ _ _=>rfl | exact ln6 us hl λ_ _ _ _ _ _=>rfl | exact ln7 us hl λ_ _ _ _ _ _ _=>rfl) :
  oJ P w K mg base (k+1) x ps.length (cQ c.N.length g):=Kx KX NS D T S hn hg hb hM
theorem tk{c:Ct}{k:Nat}{P:adm}{w:adp}{K:PySem.W.Frag}{mg:Str->Option ado}{base:Heap}(ht:TabOk K c.tb c.tt c.tc)(hf:AllP (λp=>oJ P w K mg base k p.1 p.2.1 p.2.2) c.fns:=by exact trivial)(hc:AllP (λp=>AQ K mg p.1 p.2) c.consts:=by exact trivial)(hb:AllP (λx=>mg x=none) c.bl:=by exact trivial)
  (hk:AllP (λx=>∃C,mg x=some (.ref C)/\Jg K x C) c.clss:=by exact trivial)(hn:AllP (λx=>∃C,mg x=some (.ref C)/\ClsAt K x C) c.AM:=by exact trivial)(hd:AllP (λp=>yc K w mg p.1 p.2) c.AN:=by exact trivial)
  (hu:AllP (λx=>∀n F,c.fns.lookup x=some (n,F)->Jz P w K mg base k x n F) c.FY:=by exact trivial)(hx:uK c k P w K mg base:=by exact uK.no rfl rfl rfl rfl):wR c k P w K mg base:=wU hc hb hf ht hk hn hd hu hx
end J
namespace K61
open PySem J
open L2 (defScope defBody defArgs FnScope CX0 FnOk XK Hp)
def top (i:Nat):Stmt:=PySem.Challenge.pw_onelook_k61_heaps_of_sheets.main.body.getD i (.Pass ⟨0,0,0,0⟩)
def iW:Tab:=[]
def ja:ui:=[]
def bE:Dc:=[("num",.int 0),("text",.int 0),("lost",.int 0),("at",.int 0),("minus",.int 1),("not",.int 1),("+",.int 2),("-",.int 2),("*",.int 2),("/",.int 2),("&",.int 2),("<",.int 2),("=",.int 2),("rest",.int 2),("if",.int 3),("else",.int 2),("sum",.int 0),("count",.int 0),("least",.int 0),("greatest",.int 0),("find",.int 1)]
def CM:Tab:=[]
def cB(s:Stmt)(n b:List Str)(f:List (Str×Nat×(List Wv->Hs->Re Wv))):Ct:={ N:=n,names:=(defScope s).names,consts:=[],bl:=b,fns:=f,tb:=iW,tt:=ja,tc:=CM }
theorem m8{N P:List Str}{sc:Scope}(h:sc.kind= .function/\sc.isCoroutine=false/\sc.isGenerator=false/\N.take P.length=P)(k:N.Nodup/\(∀x∈P,sc.names.lookup x=some .local\/sc.names.lookup x=some .cell)/\∀y∈sc.names,y.2≠.free):FnScope N P sc:=⟨h.1,h.2.1,h.2.2.1,k.1,h.2.2.2,k.2.1,k.2.2⟩
abbrev eT:Stmt:=top 16
def gW:GS:=(aN (je (cm (ai oLt (af 1) (aZ mH (ae (af 0) ao)))) (bp (ai cg (af 0) (af 1))) bD)
  (bp (gC (.int 0))))
def b_:List Wv->Hs->Re Wv:=cQ 2 gW
def gX:Ct:=cB eT ["script","k"] ["len"] []
theorem qW:bN 30 (gX) (defBody eT)=gW:=by kernel_rfl
theorem oQ:FnScope (gX).N ["script","k"] (defScope eT):=m8 ⟨rfl,rfl,rfl,rfl⟩ (by decide+kernel)
abbrev ij:Stmt:=top 27
def kl:GS:=(aN (bt 1 (ai fZ (az 2 b_ (ae (af 0) (ae (gC (.int 0)) ao))) (gC (.int 2))))
  (bp (cH (ae (ai cg (fJ (ae (gC (.int 0)) (ae (ai oMod (ai fZ (af 1) (gC (.int 4))) (gC (.int 97))) ao))) (ai oMod (af 1) (gC (.int 2)))) (ae (ai cg (fJ (ae (gC (.int 0)) (ae (ai oMod (ai fZ (af 1) (gC (.int 400))) (gC (.int 23))) ao))) (ai oMod (ai fZ (af 1) (gC (.int 2))) (gC (.int 2)))) ao)))))
def eI:List Wv->Hs->Re Wv:=cQ 2 kl
def km:Ct:=cB ij ["script","first"] [] [("_law_cell_at",2,b_)]
theorem wX:bN 30 (km) (defBody ij)=kl:=by kernel_rfl
theorem uO:FnScope (km).N ["script"] (defScope ij):=m8 ⟨rfl,rfl,rfl,rfl⟩ (by decide+kernel)
abbrev gA:Stmt:=top 19
def jr:GS:=(aN (bt 2 (ai oMod (ai cg (af 0) (gC (.int 0))) (af 1)))
  (aN (zV (ai fZ (ai cg (af 0) (gC (.int 0))) (af 1)) (af 0) (gC (.int 0)))
  (bp (af 2))))
def aq:List Wv->Hs->Re Wv:=cQ 3 jr
def ju:Ct:=cB gA ["row","many","digit"] [] []
theorem uP:bN 30 (ju) (defBody gA)=jr:=by kernel_rfl
theorem rN:FnScope (ju).N ["row","many"] (defScope gA):=m8 ⟨rfl,rfl,rfl,rfl⟩ (by decide+kernel)
abbrev ik:Stmt:=top 21
def kq:GS:=(aN (bt 2 (az 2 aq (ae (af 0) (ae (gC (.int 3)) ao))))
  (aN (bt 3 (az 2 aq (ae (af 0) (ae (gC (.int 4)) ao))))
  (aN (bt 4 (ai cq (af 2) (az 2 aq (ae (af 0) (ae (ai ke (gC (.int 3)) (af 2)) ao)))))
  (aN (bt 5 (ai cq (af 3) (az 2 aq (ae (af 0) (ae (ai ke (gC (.int 4)) (af 3)) ao)))))
  (bp (cH (ae (ai cq (ai cg (af 1) (gC (.int 0))) (af 2)) (ae (ai cq (ai cg (af 1) (gC (.int 1))) (af 3)) (ae (ai cq (ai cg (af 1) (gC (.int 0))) (af 4)) (ae (ai cq (ai cg (af 1) (gC (.int 1))) (af 5)) ao))))))))))
def cG:List Wv->Hs->Re Wv:=cQ 6 kq
def kr:Ct:=cB ik ["row","spot","top","left","bottom","right"] [] [("_law_digit",2,aq)]
theorem wY:bN 30 (kr) (defBody ik)=kq:=by kernel_rfl
theorem uQ:FnScope (kr).N ["row","spot"] (defScope ik):=m8 ⟨rfl,rfl,rfl,rfl⟩ (by decide+kernel)
abbrev il:Stmt:=top 22
def fX:GT:=(λ_ st=> .ok true st)
def dX:GE:=(az 2 aq (ae (af 1) (ae (gC (.int 2)) ao)))
def ku:GS:=(bp (aZ f9 (ae (ib [("row",0)] (Jm (ae (af 1) ao)) fX dX) ao)))
def bF:List Wv->Hs->Re Wv:=cQ 2 ku
def kx:Ct:=cB il ["row","many"] ["tuple","range"] [("_law_digit",2,aq)]
theorem wZ:bN 30 (kx) (defBody il)=ku:=by kernel_rfl
theorem uR:FnScope (kx).N ["row","many"] (defScope il):=m8 ⟨rfl,rfl,rfl,rfl⟩ (by decide+kernel)
abbrev fA:Stmt:=top 23
def iN:GS:=(aN (je (cm (ai oEq (az 2 aq (ae (af 0) (ae (gC (.int 5)) ao))) (gC (.int 0)))) (bp (ai ke (ai p9 (gC (.int 10)) (gC (.int 60))) (az 2 aq (ae (af 0) (ae (gC (.int 3)) ao))))) bD)
  (bp (az 2 aq (ae (af 0) (ae (gC (.int 6)) ao)))))
def dQ:List Wv->Hs->Re Wv:=cQ 1 iN
def iO:Ct:=cB fA ["row"] [] [("_law_digit",2,aq)]
theorem rO:bN 30 (iO) (defBody fA)=iN:=by kernel_rfl
theorem qX:FnScope (iO).N ["row"] (defScope fA):=m8 ⟨rfl,rfl,rfl,rfl⟩ (by decide+kernel)
abbrev gB:Stmt:=top 20
def jv:GS:=(bp (cH (ae (ai cq (ai cg (af 1) (gC (.int 0))) (az 2 aq (ae (af 0) (ae (gC (.int 3)) ao)))) (ae (ai cq (ai cg (af 1) (gC (.int 1))) (az 2 aq (ae (af 0) (ae (gC (.int 4)) ao)))) ao))))
def cM:List Wv->Hs->Re Wv:=cQ 2 jv
def jw:Ct:=cB gB ["row","spot"] [] [("_law_digit",2,aq)]
theorem uS:bN 30 (jw) (defBody gB)=jv:=by kernel_rfl
theorem rP:FnScope (jw).N ["row","spot"] (defScope gB):=m8 ⟨rfl,rfl,rfl,rfl⟩ (by decide+kernel)
abbrev ip:Stmt:=top 24
def kz:GS:=(aN (bt 2 (az 2 aq (ae (af 0) (ae (gC (.int 8)) ao))))
  (aN (je (cm (ai oEq (af 2) (gC (.int 0)))) (bp (cH (ae (gC (.str "num")) (ae (az 1 dQ (ae (af 0) ao)) ao)))) bD)
  (aN (je (cm (ai oEq (af 2) (gC (.int 1)))) (bp (cH (ae (gC (.str "text")) (ae (ai cg (fJ (ae (gC (.str "")) (ae (gC (.str "a")) (ae (gC (.str "b7")) (ae (gC (.str "no")) ao))))) (az 2 aq (ae (af 0) (ae (gC (.int 4)) ao)))) ao)))) bD)
  (aN (je (D3 (cm (ai oEq (af 2) (gC (.int 2)))) (cm (ai oEq (az 2 aq (ae (af 0) (ae (gC (.int 3)) ao))) (gC (.int 0))))) (bp (cH (ae (gC (.str "lost")) ao))) bD)
  (aN (je (cm (ai oLt (af 2) (gC (.int 6)))) (bp (cH (ae (gC (.str "at")) (ae (az 2 cM (ae (af 0) (ae (af 1) ao))) (ae (az 2 bF (ae (af 0) (ae (gC (.int 2)) ao))) ao))))) bD)
  (bp (cH (ae (ai cg (fJ (ae (gC (.str "sum")) (ae (gC (.str "count")) (ae (gC (.str "least")) (ae (gC (.str "greatest")) ao))))) (az 2 aq (ae (af 0) (ae (gC (.int 4)) ao)))) (ae (az 2 cG (ae (af 0) (ae (af 1) ao))) (ae (az 2 bF (ae (af 0) (ae (gC (.int 4)) ao))) ao))))))))))
def eJ:List Wv->Hs->Re Wv:=cQ 3 kz
def kA:Ct:=cB ip ["row","spot","way"] [] [("_law_digit",2,aq),("_law_area",2,cG),("_law_pins",2,bF),("_law_number",1,dQ),("_law_place",2,cM)]
theorem w4:bN 30 (kA) (defBody ip)=kz:=by kernel_rfl
theorem uT:FnScope (kA).N ["row","spot"] (defScope ip):=m8 ⟨rfl,rfl,rfl,rfl⟩ (by decide+kernel)
abbrev eV:Stmt:=top 25
def eW(aM:List Wv->Hs->Re Wv):GS:=(aN (je (cm (ai oEq (af 2) (gC (.int 0)))) (bp (az 2 eJ (ae (af 0) (ae (af 1) ao)))) bD)
  (aN (bt 3 (az 2 aq (ae (af 0) (ae (gC (.int 16)) ao))))
  (aN (je (cm (ai oLt (af 3) (gC (.int 3)))) (bp (az 2 eJ (ae (af 0) (ae (af 1) ao)))) bD)
  (aN (bt 4 (az 3 aM (ae (af 0) (ae (af 1) (ae (ai ke (af 2) (gC (.int 1))) ao)))))
  (aN (je (cm (ai oLt (af 3) (gC (.int 5)))) (bp (cH (ae (ai cg (fJ (ae (gC (.str "minus")) (ae (gC (.str "not")) ao))) (ai ke (af 3) (gC (.int 3)))) (ae (af 4) ao)))) bD)
  (aN (je (cm (ai oEq (af 3) (gC (.int 5)))) (bp (cH (ae (gC (.str "find")) (ae (af 4) (ae (az 2 cG (ae (af 0) (ae (af 1) ao))) (ae (az 2 bF (ae (af 0) (ae (gC (.int 4)) ao))) ao)))))) bD)
  (aN (bt 5 (az 3 aM (ae (af 0) (ae (af 1) (ae (ai ke (af 2) (gC (.int 1))) ao)))))
  (aN (je (cm (ai oLt (af 3) (gC (.int 8)))) (bp (cH (ae (gC (.str "if")) (ae (af 4) (ae (af 5) (ae (az 3 aM (ae (af 0) (ae (af 1) (ae (ai ke (af 2) (gC (.int 1))) ao)))) ao)))))) bD)
  (aN (je (cm (ai oEq (af 3) (gC (.int 15)))) (bp (cH (ae (ai cg (fJ (ae (gC (.str "=")) (ae (gC (.str "&")) ao))) (az 2 aq (ae (af 0) (ae (gC (.int 2)) ao)))) (ae (af 4) (ae (af 5) ao))))) bD)
  (bp (cH (ae (ai cg (fJ (ae (gC (.str "else")) (ae (gC (.str "rest")) (ae (gC (.str "+")) (ae (gC (.str "-")) (ae (gC (.str "*")) (ae (gC (.str "/")) (ae (gC (.str "<")) ao)))))))) (ai ke (af 3) (gC (.int 8)))) (ae (af 4) (ae (af 5) ao))))))))))))))
def kC(aM:List Wv->Hs->Re Wv):Ct where
  N:=["row","spot","deep","way","one","other"]
  names:=(defScope eV).names
  consts:=[]
  bl:=[]
  fns:=[("_law_digit",2,aq),("_law_formula",3,aM),("_law_leaf",2,eJ),("_law_area",2,cG),("_law_pins",2,bF)]
  tb:=iW
  tt:=ja
  tc:=CM
theorem qY(aM:List Wv->Hs->Re Wv):bN 30 (kC aM) (defBody eV)=eW aM:=by kernel_rfl
theorem oR(aM:List Wv->Hs->Re Wv):FnScope ["row","spot","deep","way","one","other"] ["row","spot","deep"] (defScope eV):=m8 ⟨rfl,rfl,rfl,rfl⟩ (by decide+kernel)
def jQ:Nat->(List Wv->Hs->Re Wv)
  | 0=>E2
  | n+1=>cQ 6 (eW ((jQ n)))
def bG(n:Nat):List Wv->Hs->Re Wv:=(jQ n)
theorem lD(n:Nat):bG (n+1)=cQ 6 (eW (bG n)):=rfl
def aM:List Wv->Hs->Re Wv:=bG 6
abbrev eX:Stmt:=top 26
def gY:GS:=(aN (bt 3 (az 2 aq (ae (af 0) (ae (gC (.int 8)) ao))))
  (aN (je (cm (ai oEq (af 3) (gC (.int 0)))) (bp (gC .non)) bD)
  (aN (je (cm (ai oEq (af 3) (gC (.int 1)))) (bp (ai ke (az 2 aq (ae (af 0) (ae (ai cq (ai cR (gC (.int 2)) (ai p9 (gC (.int 10)) (gC (.int 60)))) (gC (.int 1))) ao))) (ai p9 (gC (.int 10)) (gC (.int 60))))) bD)
  (aN (je (cm (ai oEq (af 3) (gC (.int 2)))) (bp (ai ke (az 2 aq (ae (af 0) (ae (gC (.int 5)) ao))) (gC (.int 1)))) bD)
  (aN (je (cm (ai oEq (af 3) (gC (.int 3)))) (bp (ai cg (fJ (ae (gC (.str "")) (ae (gC (.str "a")) (ae (gC (.str "b7")) (ae (gC (.str "no")) ao))))) (az 2 aq (ae (af 0) (ae (gC (.int 4)) ao))))) bD)
  (bp (az 3 aM (ae (af 0) (ae (af 1) (ae (af 2) ao))))))))))
def cF:List Wv->Hs->Re Wv:=cQ 4 gY
def gZ:Ct:=cB eX ["row","spot","deep","way"] [] [("_law_digit",2,aq),("_law_formula",3,aM)]
theorem qZ:bN 30 (gZ) (defBody eX)=gY:=by kernel_rfl
theorem oS:FnScope (gZ).N ["row","spot","deep"] (defScope eX):=m8 ⟨rfl,rfl,rfl,rfl⟩ (by decide+kernel)
abbrev gD:Stmt:=top 17
def jy:GS:=(aN (bt 2 (ai oMod (ai cR (ai cq (ai cq (ai oMod (af 0) (gC (.int 1000000007))) (ai cR (gC (.int 7919)) (af 1))) (gC (.int 1))) (gC (.int 48271))) (gC (.int 2147483647))))
  (bp (ai oMod (ai cR (ai oMod (ai cR (af 2) (af 2)) (gC (.int 2147483629))) (gC (.int 69621))) (gC (.int 2147483647)))))
def eZ:List Wv->Hs->Re Wv:=cQ 3 jy
def jz:Ct:=cB gD ["cell","k","stir"] [] []
theorem uU:bN 30 (jz) (defBody gD)=jy:=by kernel_rfl
theorem rQ:FnScope (jz).N ["cell","k"] (defScope gD):=m8 ⟨rfl,rfl,rfl,rfl⟩ (by decide+kernel)
abbrev fB:Stmt:=top 18
def dv:GS:=(bt 4 (ai cq (ai cR (af 4) (gC (.int 2147483647))) (az 2 eZ (ae (ai cq (af 2) (aZ EM (ae (af 0) ao))) (ae (ai cq (ai cR (gC (.int 8)) (af 1)) (af 3)) ao)))))
def bX:GS:=(bt 2 (ai cq (ai cR (af 2) (ai p9 (gC (.int 10)) (gC (.int 60)))) (ai oMod (ai cg (af 0) (af 3)) (ai p9 (gC (.int 10)) (gC (.int 60))))))
def iP:GS:=(aN (bt 2 (gC (.int 0)))
  (aN (qF 3 (ae (ai cq (af 1) (gC (.int 1))) (ae (aZ mH (ae (af 0) ao)) (ae (gC (.int 13)) ao))) bX)
  (aN (je (cm (ai oEq (ai oMod (az 2 b_ (ae (af 0) (ae (gC (.int 0)) ao))) (gC (.int 2))) (gC (.int 1)))) (bp (fJ (ae (af 2) ao))) bD)
  (aN (bt 4 (gC (.int 0)))
  (aN (lU 3 (ae (gC (.int 8)) ao) dv)
  (bp (fJ (ae (ai fZ (af 4) (gC (.int 8))) ao))))))))
def bU:List Wv->Hs->Re Wv:=cQ 5 iP
def iQ:Ct:=cB fB ["script","k","cell","j","found"] ["range","len","sum"] [("_law_cell_at",2,b_),("_law_mixed",2,eZ)]
theorem rR:bN 30 (iQ) (defBody fB)=iP:=by kernel_rfl
theorem q8:FnScope (iQ).N ["script","k"] (defScope fB):=m8 ⟨rfl,rfl,rfl,rfl⟩ (by decide+kernel)
abbrev gE:Stmt:=top 28
def dY:GS:=(aN (bt 5 (az 3 cF (ae (az 2 bU (ae (af 0) (ae (af 4) ao))) (ae (af 2) (ae (af 1) ao)))))
  (je (cm (ai wB (af 5) (gC .non))) (sM (af 5) (af 3) (cH (ae (ai cq (ai cg (af 2) (gC (.int 0))) (ai fZ (af 4) (gC (.int 4)))) (ae (ai cq (ai cg (af 2) (gC (.int 1))) (ai oMod (af 4) (gC (.int 4)))) ao)))) bD))
def gF:GS:=(aN (bt 2 (az 1 eI (ae (af 0) ao)))
  (aN (bt 3 vX)
  (aN (lU 4 (ae (gC (.int 12)) ao) dY)
  (bp (af 3)))))
def dz:List Wv->Hs->Re Wv:=cQ 6 gF
def jA:Ct:={ cB gE ["script","deep","spot","cells","k","content"] ["range"] [("_law_spot",1,eI),("_law_content",3,cF),("_law_stream",2,bU)] with xu:=["cells"] }
theorem uV:bN 30 (jA) (defBody gE)=gF:=by kernel_rfl
theorem rS:FnScope (jA).N ["script","deep"] (defScope gE):=m8 ⟨rfl,rfl,rfl,rfl⟩ (by decide+kernel)
abbrev jB:Stmt:=top 30
def dR:GS:=(i5 (eF iI (af 4) (ai cq (ai cg (af 0) (af 5)) (ai cR (ai ke (gC (.int 1)) (ai cg (af 1) (af 5))) (ai ke (ai cg (af 3) (ai oMod (af 5) (gC (.int 2)))) (ai cg (af 2) (ai oMod (af 5) (gC (.int 2)))))))))
def jC:GS:=(aN (bt 4 (fJ ao))
  (aN (lU 5 (ae (aZ mH (ae (af 0) ao)) ao) dR)
  (bp (aZ f9 (ae (af 4) ao)))))
def cZ:List Wv->Hs->Re Wv:=cQ 6 jC
def l8:Ct:=cB jB ["lines","pins","here","there","found","k"] ["range","tuple","len"] []
theorem yR:bN 30 (l8) (defBody jB)=jC:=by kernel_rfl
theorem w5:FnScope (l8).N ["lines","pins","here","there"] (defScope jB):=m8 ⟨rfl,rfl,rfl,rfl⟩ (by decide+kernel)
abbrev iq:Stmt:=top 32
def jR(aI:List Wv->Hs->Re Wv):GT:=(λ_ st=> .ok true st)
def jS(aI:List Wv->Hs->Re Wv):GE:=(az 2 aI (ae (af 0) (ae (af 1) ao)))
def jT(aI:List Wv->Hs->Re Wv):GT:=(λ_ st=> .ok true st)
def jU(aI:List Wv->Hs->Re Wv):GE:=(az 2 aI (ae (af 0) (ae (af 1) ao)))
def eK(aI:List Wv->Hs->Re Wv):GS:=(aN (bt 2 (ai cg (af 0) (gC (.int 0))))
  (aN (je (cm (ai oK (af 2) (cH (ae (gC (.str "num")) (ae (gC (.str "text")) (ae (gC (.str "lost")) ao)))))) (bp (af 0)) bD)
  (aN (je (cm (ai oK (af 2) (cH (ae (gC (.str "at")) (ae (gC (.str "sum")) (ae (gC (.str "count")) (ae (gC (.str "least")) (ae (gC (.str "greatest")) (ae (gC (.str "find")) ao))))))))) (aN (bt 3 (aZ f9 (ae (ib [("place",1)] (iK (fz (af 0) (jN (gC (.int 1))) (jN (BI iZ (gC (.int 2)))))) (jT aI) (jU aI)) ao)))
    (aN (bt 4 (az 4 cZ (ae (ai cg (af 0) (BI iZ (gC (.int 2)))) (ae (ai cg (af 0) (BI iZ (gC (.int 1)))) (ae (af 1) (ae (cH (ae (gC (.int 0)) (ae (gC (.int 0)) ao))) ao))))))
    (bp (ai cq (ai cq (cH (ae (af 2) ao)) (af 3)) (cH (ae (af 4) (ae (ai cg (af 0) (BI iZ (gC (.int 1)))) ao))))))) bD)
  (bp (ai cq (cH (ae (af 2) ao)) (aZ f9 (ae (ib [("place",1)] (iK (fz (af 0) (jN (gC (.int 1))) kT)) (jR aI) (jS aI)) ao)))))))
def oE(aI:List Wv->Hs->Re Wv):Ct where
  N:=["formula","place","word","inner","lines"]
  names:=(defScope iq).names
  consts:=[]
  bl:=["tuple"]
  fns:=[("_law_led",4,cZ),("_law_form",2,aI)]
  tb:=iW
  tt:=ja
  tc:=CM
theorem w6(aI:List Wv->Hs->Re Wv):bN 30 (oE aI) (defBody iq)=eK aI:=by kernel_rfl
theorem uW(aI:List Wv->Hs->Re Wv):FnScope ["formula","place","word","inner","lines"] ["formula","place"] (defScope iq):=m8 ⟨rfl,rfl,rfl,rfl⟩ (by decide+kernel)
def m_:Nat->(List Wv->Hs->Re Wv)
  | 0=>E2
  | n+1=>cQ 5 (eK ((m_ n)))
def aR(n:Nat):List Wv->Hs->Re Wv:=(m_ n)
theorem fi(n:Nat):aR (n+1)=cQ 5 (eK (aR n)):=rfl
def aI:List Wv->Hs->Re Wv:=aR 8
abbrev jD:Stmt:=top 33
def cS:GS:=(je (jX (aZ (nD iW ja) (ae (fM (af 0) (af 3)) (ae (gC (.ty "tuple")) ao)))) (aN (bt 4 (az 2 aI (ae (fM (af 0) (af 3)) (ae (af 3) ao))))
    (je (cm (ai (lC false) (af 4) (af 1))) (i5 (eF iI (ai cg (af 2) (eF fN (af 1) (af 4))) (af 3))) (aN (i5 (eF iI (af 1) (af 4)))
      (i5 (eF iI (af 2) (fJ (ae (af 3) ao))))))) bD)
def jE:GS:=(aN (bt 1 (fJ ao))
  (aN (bt 2 (fJ ao))
  (aN (qf 3 (aZ lF (ae (af 0) ao)) cS)
  (bp (af 2)))))
def g_:List Wv->Hs->Re Wv:=cQ 5 jE
def l9:Ct:={ cB jD ["sheet","forms","heaps","place","form"] ["sorted","isinstance","tuple"] [("_law_form",2,aI)] with xu:=["sheet"],FX:=["forms"] }
theorem yS:bN 30 (l9) (defBody jD)=jE:=by kernel_rfl
theorem w8:FnScope (l9).N ["sheet"] (defScope jD):=m8 ⟨rfl,rfl,rfl,rfl⟩ (by decide+kernel)
abbrev fF:Stmt:=top 9
def iR:GS:=(bp (aZ (nD iW ja) (ae (qJ (af 0) (af 1)) (ae (gC (.ty "tuple")) ao))))
def cT:List Wv->Hs->Re Wv:=cQ 2 iR
def iS:Ct:={ cB fF ["sheet","place"] ["isinstance","tuple"] [] with xu:=["sheet"] }
theorem rT:bN 30 (iS) (defBody fF)=iR:=by kernel_rfl
theorem q9:FnScope (iS).N ["sheet","place"] (defScope fF):=m8 ⟨rfl,rfl,rfl,rfl⟩ (by decide+kernel)
abbrev dA:Stmt:=top 10
def bH:GT:=(jX (az 2 cT (ae (af 1) (ae (af 0) ao))))
def cA:GE:=(af 0)
def fj:GS:=(bp (aZ lF (ae (jl 0 (ib [("sheet",0)] (nM (af 0)) bH cA)) ao)))
def bY:List Wv->Hs->Re Wv:=cQ 1 fj
def fm:Ct:={ cB dA ["sheet"] ["sorted"] [("has_formula",2,cT)] with xu:=["sheet"] }
theorem nT:bN 30 (fm) (defBody dA)=fj:=by kernel_rfl
theorem ng:FnScope (fm).N ["sheet"] (defScope dA):=m8 ⟨rfl,rfl,rfl,rfl⟩ (by decide+kernel)
abbrev ir:Stmt:=top 3
def kD:GS:=(bp (Ak bE (af 0)))
def c7:List Wv->Hs->Re Wv:=cQ 1 kD
def kE:Ct:={ cB ir ["word"] [] [] with AN:=[("PART_COUNTS",bE)] }
theorem w9:bN 30 (kE) (defBody ir)=kD:=by kernel_rfl
theorem uX:FnScope (kE).N ["word"] (defScope ir):=m8 ⟨rfl,rfl,rfl,rfl⟩ (by decide+kernel)
abbrev k_:Stmt:=top 6
def nU:GS:=(bp (fz (af 0) (jN (ai cq (gC (.int 1)) (az 1 c7 (ae (ai cg (af 0) (gC (.int 0))) ao)))) kT))
def eL:List Wv->Hs->Re Wv:=cQ 1 nU
def nV:Ct:=cB k_ ["formula"] [] [("part_many",1,c7)]
theorem CN:bN 30 (nV) (defBody k_)=nU:=by kernel_rfl
theorem yT:FnScope (nV).N ["formula"] (defScope k_):=m8 ⟨rfl,rfl,rfl,rfl⟩ (by decide+kernel)
abbrev jF:Stmt:=top 4
def l_:GS:=(bp (ai oK (af 0) (gC (.og [.str "sum",.str "count",.str "least",.str "greatest",.str "find"]))))
def fq:List Wv->Hs->Re Wv:=cQ 1 l_
def ma:Ct:={ cB jF ["word"] [] [] with consts:=[("AREA_WORDS",(.og [.str "sum",.str "count",.str "least",.str "greatest",.str "find"]))] }
theorem yU:bN 30 (ma) (defBody jF)=l_:=by kernel_rfl
theorem w_:FnScope (ma).N ["word"] (defScope jF):=m8 ⟨rfl,rfl,rfl,rfl⟩ (by decide+kernel)
abbrev jG:Stmt:=top 5
def md:GS:=(bp (fz (af 0) (jN (gC (.int 1))) (jN (ai cq (gC (.int 1)) (az 1 c7 (ae (ai cg (af 0) (gC (.int 0))) ao))))))
def c9:List Wv->Hs->Re Wv:=cQ 1 md
def me:Ct:=cB jG ["formula"] [] [("part_many",1,c7)]
theorem yV:bN 30 (me) (defBody jG)=md:=by kernel_rfl
theorem xa:FnScope (me).N ["formula"] (defScope jG):=m8 ⟨rfl,rfl,rfl,rfl⟩ (by decide+kernel)
abbrev gI:Stmt:=top 7
def iT(p:Lm)(L:LF)(bC:List Wv->Hs->Re Wv):GT:=(λ_ st=> .ok true st)
def fG(p:Lm)(L:LF)(bC:List Wv->Hs->Re Wv):GE:=(az 2 bC (ae (af 0) (ae (af 1) ao)))
def gJ(p:Lm)(L:LF)(bC:List Wv->Hs->Re Wv):GS:=(aN (bt 2 (ai cg (af 0) (gC (.int 0))))
  (aN (bt 3 (az 1 eL (ae (af 0) ao)))
  (aN (je (IG (cm (ai oEq (af 2) (gC (.str "at")))) (jX (az 1 fq (ae (af 2) ao)))) (aN (bt 4 (lY p 3 L 1 (ae (af 2) (ae (ai cg (af 3) (gC (.int 0))) (ae (ai cg (af 3) (gC (.int 1))) ao)))))
    (aN (je (cm (ai Rg (af 4) (gC .non))) (bp (cH (ae (gC (.str "lost")) ao))) bD)
    (bt 3 (cH (ae (af 4) (ae (ai cg (af 3) (gC (.int 1))) ao)))))) bD)
  (bp (ai cq (ai cq (cH (ae (af 2) ao)) (aZ f9 (ae (ib [("goes",1)] (iK (az 1 c9 (ae (af 0) ao))) (iT p L bC) (fG p L bC)) ao))) (af 3))))))
def s_(p:Lm)(L:LF)(bC:List Wv->Hs->Re Wv):Ct where
  N:=["formula","goes","word","tail","spot"]
  names:=(defScope gI).names
  consts:=[]
  bl:=["tuple"]
  fns:=[("tail_of",1,eL),("has_area",1,fq),("rebuilt",2,bC),("parts_of",1,c9)]
  tb:=iW
  tt:=ja
  tc:=CM
  lam:=some (p,L)
theorem CO(p:Lm)(L:LF)(bC:List Wv->Hs->Re Wv):bN 30 (s_ p L bC) (defBody gI)=gJ p L bC:=by kernel_rfl
theorem yW(p:Lm)(L:LF)(bC:List Wv->Hs->Re Wv):FnScope ["formula","goes","word","tail","spot"] ["formula","goes"] (defScope gI):=m8 ⟨rfl,rfl,rfl,rfl⟩ (by decide+kernel)
def q_(p:Lm)(L:LF):Nat->(List Wv->Hs->Re Wv)
  | 0=>E2
  | n+1=>cQ 5 (gJ p L ((q_ p L n)))
def bz(p:Lm)(L:LF)(n:Nat):List Wv->Hs->Re Wv:=(q_ p L n)
theorem hG(p:Lm)(L:LF)(n:Nat):bz p L (n+1)=cQ 5 (gJ p L (bz p L n)):=rfl
def bC:Qa:=λp L=>bz p L 8
abbrev ll:Stmt:=top 13
def cU:GT:=(λ_ st=> .ok true st)
def bV:GE:=(II (cm (ai oEq (af 1) (gC (.int 1)))) (af 0) (ai cq (af 0) (af 2)))
def nW:GS:=(bp (aZ f9 (ae (lX 3 [] (sO (ae (af 0) (ae (af 1) (ae (ai cq (af 2) (af 2)) ao)))) cU bV) ao)))
def gK:List Wv->Hs->Re Wv:=cQ 3 nW
def nX:Ct:=cB ll ["spot","pins","steps"] ["tuple","zip"] []
theorem CP:bN 30 (nX) (defBody ll)=nW:=by kernel_rfl
theorem yX:FnScope (nX).N ["spot","pins","steps"] (defScope ll):=m8 ⟨rfl,rfl,rfl,rfl⟩ (by decide+kernel)
abbrev gM:Stmt:=top 12
def gG:GE:=(az 3 gK (ae (af 1) (ae (af 2) (ae (af 3) ao))))
def nY:GS:=(aN (bt 2 (cH (ae (BI iZ (ai cg (af 1) (gC (.int 0)))) (ae (BI iZ (ai cg (af 1) (gC (.int 1)))) ao))))
  (bp (B4 bC 2 (af 0) gG)))
def eM:List Wv->Hs->Re Wv:=cQ 3 nY
def nZ:Ct:={ cB gM ["formula","place","back"] [] [("stepped",3,gK)] with xv:=[("rebuilt",bC)],Ke:=["stepped"],lj:=1,self:="form_of" }
theorem CQ:bN 30 (nZ) (defBody gM)=nY:=by kernel_rfl
theorem yY:FnScope (nZ).N ["formula","place"] (defScope gM):=m8 ⟨rfl,rfl,rfl,rfl⟩ (by decide+kernel)
abbrev jH:Stmt:=top 14
def dS:GS:=(i5 (eF iI (oB (af 1) (az 2 eM (ae (fM (af 0) (af 2)) (ae (af 2) ao))) (fJ ao)) (af 2)))
def jI:GS:=(aN (bt 1 wC)
  (aN (qf 2 (az 1 bY (ae (af 0) ao)) dS)
  (bp (uD (af 1)))))
def eD:List Wv->Hs->Re Wv:=cQ 3 jI
def mf:Ct:={ cB jH ["sheet","heaps","place"] ["list"] [("formula_places",1,bY),("form_of",2,eM)] with xu:=["sheet"],OK:=["heaps"] }
theorem yZ:bN 30 (mf) (defBody jH)=jI:=by kernel_rfl
theorem xb:FnScope (mf).N ["sheet"] (defScope jH):=m8 ⟨rfl,rfl,rfl,rfl⟩ (by decide+kernel)
abbrev iu:Stmt:=top 29
def bI:GS:=(je (t_ (cm (lT oLe oLe (gC (.int 0)) (ai cg (af 0) (af 1)) (ai cg (fJ (ae (gC (.int 98)) (ae (gC (.int 25)) ao))) (ai oMod (af 1) (gC (.int 2))))))) (bp (gC (.bl false))) bD)
def c_:GS:=(aN (lU 1 (ae (aZ mH (ae (af 0) ao)) ao) bI)
  (aN (je (cm (ai oEq (aZ mH (ae (af 0) ao)) (gC (.int 2)))) (bp (gC (.bl true))) bD)
  (aN (bt 2 (ai cq (ai ke (ai cg (af 0) (gC (.int 2))) (ai cg (af 0) (gC (.int 0)))) (gC (.int 1))))
  (bp (vD (ai oLe (ai cg (af 0) (gC (.int 0))) (ai cg (af 0) (gC (.int 2)))) (vD (ai oLe (ai cg (af 0) (gC (.int 1))) (ai cg (af 0) (gC (.int 3)))) (ai oLe (ai cR (af 2) (ai cq (ai ke (ai cg (af 0) (gC (.int 3))) (ai cg (af 0) (gC (.int 1)))) (gC (.int 1)))) (gC (.int 300)))))))))
def bW:List Wv->Hs->Re Wv:=cQ 3 c_
def kF:Ct:=cB iu ["lines","k","high"] ["range","len"] []
theorem xc:bN 30 (kF) (defBody iu)=c_:=by kernel_rfl
theorem uY:FnScope (kF).N ["lines"] (defScope iu):=m8 ⟨rfl,rfl,rfl,rfl⟩ (by decide+kernel)
abbrev fH:Stmt:=top 31
def iw(ax:List Wv->Hs->Re Wv):GT:=(λ_ st=> .ok true st)
def iz(ax:List Wv->Hs->Re Wv):GE:=(az 3 ax (ae (af 0) (ae (af 1) (ae (af 2) ao))))
def iA(ax:List Wv->Hs->Re Wv):GT:=(λ_ st=> .ok true st)
def iB(ax:List Wv->Hs->Re Wv):GE:=(az 3 ax (ae (af 0) (ae (af 1) (ae (af 2) ao))))
def cC(ax:List Wv->Hs->Re Wv):GS:=(aN (bt 3 (ai cg (af 0) (gC (.int 0))))
  (aN (je (cm (ai oK (af 3) (cH (ae (gC (.str "num")) (ae (gC (.str "text")) (ae (gC (.str "lost")) ao)))))) (bp (af 0)) bD)
  (aN (je (cm (ai oK (af 3) (cH (ae (gC (.str "at")) (ae (gC (.str "sum")) (ae (gC (.str "count")) (ae (gC (.str "least")) (ae (gC (.str "greatest")) (ae (gC (.str "find")) ao))))))))) (aN (bt 4 (az 4 cZ (ae (ai cg (af 0) (BI iZ (gC (.int 2)))) (ae (ai cg (af 0) (BI iZ (gC (.int 1)))) (ae (af 1) (ae (af 2) ao))))))
    (aN (je (t_ (jX (az 1 bW (ae (af 4) ao)))) (bp (cH (ae (gC (.str "lost")) ao))) bD)
    (aN (bt 5 (aZ f9 (ae (ib [("here",1),("there",2)] (iK (fz (af 0) (jN (gC (.int 1))) (jN (BI iZ (gC (.int 2)))))) (iA ax) (iB ax)) ao)))
    (bp (ai cq (ai cq (cH (ae (af 3) ao)) (af 5)) (cH (ae (af 4) (ae (ai cg (af 0) (BI iZ (gC (.int 1)))) ao)))))))) bD)
  (bp (ai cq (cH (ae (af 3) ao)) (aZ f9 (ae (ib [("here",1),("there",2)] (iK (fz (af 0) (jN (gC (.int 1))) kT)) (iw ax) (iz ax)) ao)))))))
def lJ(ax:List Wv->Hs->Re Wv):Ct where
  N:=["formula","here","there","word","lines","inner"]
  names:=(defScope fH).names
  consts:=[]
  bl:=["tuple"]
  fns:=[("_law_led",4,cZ),("_law_fits",1,bW),("_law_copied",3,ax)]
  tb:=iW
  tt:=ja
  tc:=CM
theorem rV(ax:List Wv->Hs->Re Wv):bN 30 (lJ ax) (defBody fH)=cC ax:=by kernel_rfl
theorem rf(ax:List Wv->Hs->Re Wv):FnScope ["formula","here","there","word","lines","inner"] ["formula","here","there"] (defScope fH):=m8 ⟨rfl,rfl,rfl,rfl⟩ (by decide+kernel)
def kG:Nat->(List Wv->Hs->Re Wv)
  | 0=>E2
  | n+1=>cQ 6 (cC ((kG n)))
def aE(n:Nat):List Wv->Hs->Re Wv:=(kG n)
theorem cN(n:Nat):aE (n+1)=cQ 6 (cC (aE n)):=rfl
def ax:List Wv->Hs->Re Wv:=aE 8
abbrev Ba:Stmt:=top 34
def kI:GS:=(aN (je (t_ (jX (aZ (oO iW ja) (ae (af 9) (ae (gC (.ty "list")) ao))))) (bp (gC (.bl false))) bD)
  (i5 (eF iI (af 9) (cH (ae (gC (.int 0)) (ae (gC (.int 0)) ao))))))
def hJ:GS:=(je (D3 (jX (aZ (oO iW ja) (ae (fM (af 1) (af 3)) (ae (gC (.ty "tuple")) ao)))) (cm (ai oEq (az 2 aq (ae (af 2) (ae (gC (.int 2)) ao))) (gC (.int 1))))) (aN (bt 4 (aZ sI (ae (gC (.int 98)) (ae (ai cq (ai cg (af 3) (gC (.int 0))) (az 2 aq (ae (af 2) (ae (gC (.int 5)) ao)))) ao))))
    (aN (bt 5 (cH (ae (af 4) (ae (aZ sI (ae (gC (.int 25)) (ae (ai cq (ai cg (af 3) (gC (.int 1))) (az 2 aq (ae (af 2) (ae (gC (.int 5)) ao)))) ao))) ao))))
    (sM (az 3 ax (ae (fM (af 1) (af 3)) (ae (af 3) (ae (af 5) ao)))) (af 1) (af 5)))) bD)
def Bb:GS:=(aN (bt 1 (az 2 dz (ae (af 0) (ae (gC (.int 2)) ao))))
  (aN (bt 2 (az 2 bU (ae (af 0) (ae (gC (.int 12)) ao))))
  (aN (qf 3 (aZ lF (ae (af 1) ao)) hJ)
  (aN (bt 6 (aZ qH (ae (af 1) ao)))
  (aN (bt 7 (az 1 g_ (ae (af 1) ao)))
  (aN (bt 8 (az 1 eD (ae (af 1) ao)))
  (aN (je (IG (t_ (jX (aZ (oO iW ja) (ae (af 8) (ae (gC (.ty "list")) ao))))) (IG (cm (ai C8 (af 8) (af 7))) (cm (ai wu (af 1) (af 6))))) (bp (gC (.bl false))) bD)
  (aN (qf 9 (af 8) kI)
  (aN (i5 (eF iI (af 8) (fJ ao)))
  (bp (ai oEq (az 1 eD (ae (af 1) ao)) (af 7))))))))))))
def F_law:List Wv->Hs->Re Wv:=cQ 10 Bb
def GK:Ct:={ cB Ba ["script","sheet","row","here","down","there","kept","due","found","heap"] ["sorted","dict","isinstance","tuple","min","list"] [("_law_cells",2,dz),("_law_stream",2,bU),("_law_due",1,g_),("heaps_of",1,eD),("_law_copied",3,ax),("_law_digit",2,aq)] with xu:=["sheet","kept"] }
theorem SN:bN 30 (GK) (defBody Ba)=Bb:=by kernel_rfl
theorem O':FnScope (GK).N ["script"] (defScope Ba):=m8 ⟨rfl,rfl,rfl,rfl⟩ (by decide+kernel)
abbrev S:=PySem.Str
def Ro(r:Nat)(st:Hs):Prop:=∃v:Int,st[r]? =some (.lst [.int v])
def Dw(r:Nat)(st st':Hs):Prop:=iM r st st'/\Ro r st'
theorem Dw.trans{r:Nat}{a b c:Hs}(h:Dw r a b)(k:Dw r b c):Dw r a c:=⟨h.1.trans k.1,k.2⟩
theorem Ro.push{r:Nat}{st:Hs}{o:Ob}(h:Ro r st):Ro r (st++[o]):=let ⟨v,e⟩:=h;⟨v,fP e⟩
theorem Ro.gr{r:Nat}{st st':Hs}(h:Ro r st)(g:Gr st st'):Ro r st':=let ⟨v,e⟩:=h;⟨v,g.get e⟩
theorem Dw.of{r:Nat}{st:Hs}(h:Ro r st):Dw r st st:=⟨iM.refl,h⟩
theorem digit{st:Hs}{l:Nat}{n many:Int}(h:st[l]? =some (.lst [.int n]))(hm:many≠0/\many.natAbs.log2 < 9000) :
  aq [.ref l,.int many] st= .ok (.int (n.fmod many)) (st.set l (.lst [.int (n.fdiv many)])):=by
 have hl:av st l=some [.int n]:=by unfold av;rw[h]
 have h0:L2.mD [Wv.int n] 0=some (.int n):=rfl
 unfold aq cQ jr
 simp[yP hl h0,jP hm.1,nR hm,zV,Rv,h,L2.C6]
theorem dig{r:Nat}{st:Hs}{m:Int}(h:Ro r st)(h0:0 < m)(h1:m < 1000000):∃d st',aq [.ref r,.int m] st= .ok (.int d) st'/\0<=d/\d < m/\Dw r st st':=by
 obtain⟨v,e⟩:=h
 have hl:m.natAbs.log2 < 9000:=Nat.lt_trans ((Nat.log2_lt (k:=20) (by omega)).mpr (by omega)) (by decide)
 exact⟨_,_,digit e ⟨by omega,hl⟩,mh _ h0,n5 _ h0,iM.set,_,cK e⟩
def tI(l:List Int):Wv:=.tup (l.map Wv.int)
def nh(a b c d:Int):Prop:=0<=a/\a<=c/\c<=98/\0<=b/\b<=d/\d<=25/\(c - a+1) * (d - b+1)<=300
theorem SQ{x y p q:Int}(h0:0<=x)(h1:x<=p)(k0:0<=y)(k1:y<=q):x * y<=p * q:=Int.mul_le_mul h1 k1 k0 (by omega)
theorem WA{st:Hs}{a b:Wv}:cg (.tup [a,b]) (.int 0) st= .ok a st:=rfl
theorem WB{st:Hs}{a b:Wv}:cg (.tup [a,b]) (.int 1) st= .ok b st:=rfl
theorem place{r:Nat}{st:Hs}{a b:Int}(h:Ro r st):∃c d st',cM [.ref r,tI [a,b]] st= .ok (tI [a+c,b+d]) st'/\(0<=c/\c < 3/\0<=d/\d < 4)/\Dw r st st':=by
 obtain⟨c,s1,e1,c0,c1,d1⟩:=dig (m:=3) h (by decide) (by decide)
 obtain⟨d,s2,e2,a0,a1,d2⟩:=dig (m:=4) d1.2 (by decide) (by decide)
 unfold cM cQ jv
 exact⟨c,d,s2,by simp[e1,e2,tI,WA,WB],⟨c0,c1,a0,a1⟩,d1.trans d2⟩
theorem WC{r:Nat}{st:Hs}{a b:Int}(h:Ro r st):∃t l p q st',cG [.ref r,tI [a,b]] st= .ok (tI [a+t,b+l,a+p,b+q]) st'/\(0<=t/\t<=p/\p < 3/\0<=l/\l<=q/\q < 4)/\Dw r st st':=by
 obtain⟨t,s1,e1,t0,t1,d1⟩:=dig (m:=3) h (by decide) (by decide)
 obtain⟨l,s2,e2,l0,l1,d2⟩:=dig (m:=4) d1.2 (by decide) (by decide)
 obtain⟨p,s3,e3,p0,p1,d3⟩:=dig (m:=3 - t) d2.2 (by omega) (by omega)
 obtain⟨q,s4,e4,q0,q1,d4⟩:=dig (m:=4 - l) d3.2 (by omega) (by omega)
 unfold cG cQ kq
 exact⟨t,l,t+p,l+q,s4,by simp[e1,e2,e3,e4,tI,WA,WB],by omega,((d1.trans d2).trans d3).trans d4⟩
theorem pins{r:Nat}{st:Hs}(h:Ro r st){n:Nat}(hn:n<=4):∃p st',bF [.ref r,.int n] st= .ok (tI p) st'/\p.length=n/\(∀q∈p,q=0\/q=1)/\Dw r st st':=by
 have hr:r < st.length:=let ⟨v,e⟩:=h;cL e
 have cn:jY (n:Int):=yQ (by omega) (by omega)
 obtain⟨st',acc,e,⟨p1,p2⟩,hg,ha,hl⟩:=sZ (w:=(none,di 0 n)) (gt:=λv=>fX (some v::eC [("row",0)] [some (.ref r),some (.int (n:Int))])) (ge:=λv=>dX (some v::eC [("row",0)] [some (.ref r),some (.int (n:Int))])) (rr:=st.length)
  (λs=>iM r st s/\Ro r s) (λu=>∃q:Int,u= .int q/\(q=0\/q=1))
  (λs acc ⟨k,v,e⟩=>⟨⟨by simpa using k.1,λj hj hne=>by rw[a9 (by omega)];exact k.2 j hj hne⟩,v,by rw[a9 (by omega)];exact e⟩) (λ_ _=>trivial) (di 0 n)
  (λv hv s acc ⟨k,ro⟩ hg=>by
   obtain⟨q,s2,e2,q0,q1,k2,WD⟩:=dig (m:=2) ro (by decide) (by decide)
   refine⟨s,rfl,⟨k,ro⟩,hg,.int q,s2,?_,⟨q,rfl,by omega⟩,⟨k.trans k2,WD⟩,?_⟩
   ·unfold dX
    simp[eC,e2]
   ·rw[k2.2 _ (cL hg) (by omega)];exact hg)
  [] (st++[.lst []]) ⟨iM.push,h.push⟩ bQ (by rw[fK];simp[lim];omega) (by simp)
 obtain⟨p,hp⟩:∃p:List Int,acc=p.map Wv.int/\∀q∈p,q=0\/q=1:=by
  clear e hg hl
  induction acc with
  | nil=>exact⟨[],rfl,by simp⟩
  | cons a t ih=>
   obtain⟨p,e1,e2⟩:=ih λu hu=>ha u (aJ _ hu)
   obtain⟨q,e3,e4⟩:=ha a aK
   exact⟨q::p,by rw[e1,e3];rfl,by simpa using ⟨e4,e2⟩⟩
 obtain⟨rfl,hp⟩:=hp
 refine⟨p,st',?_,by simpa [fK] using hl,hp,p1,p2⟩
 have run:cX [("row",0)] fX dX [some (.ref r),some (.int (n:Int))] (none,di 0 n) st= .ok (.ref st.length) st':=by
  unfold cX
  rw[e]
 have tc:f9 [.ref st.length] st'= .ok (.tup (p.map Wv.int)) st':=by
  show(match av st' st.length with | some ws=>Re.ok (Wv.tup ws) st' | none=> .bad)=_
  rw[eS hg]
 unfold bF cQ ku
 have r1:vR [.int (n:Int)] st= .ok (none,di 0 n) st:=by rw[O7 cn];simp
 simp[r1,run,tc,tI]
theorem mixed{st:Hs}{c k:Int}(h0:0<=k)(h1:k < 1000000):∃v:Int,0<=v/\eZ [.int c,.int k] st= .ok (.int v) st:=by
 have z1:cR (.int 7919) (.int k) st= .ok (.int (7919 * k)) st:=A9 (by decide) (by decide)
 have z2:∀i:Int,cR (.int i) (.int 48271) st= .ok (.int (i * 48271)) st:=λi=>mul_r (by decide) (by decide)
 have z3:∀i:Int,cR (.int i) (.int 69621) st= .ok (.int (i * 69621)) st:=λi=>mul_r (by decide) (by decide)
 generalize hs:((c.fmod 1000000007+7919 * k+1) * 48271).fmod 2147483647=s
 have s0:0<=s:=by rw[<-hs];exact mh _ (by decide)
 have s1:s < 2147483647:=by rw[<-hs];exact n5 _ (by decide)
 have z4:cR (.int s) (.int s) st= .ok (.int (s * s)) st:=A9 (by omega) (by omega)
 refine⟨((s * s).fmod 2147483629 * 69621).fmod 2147483647,mh _ (by decide),?_⟩
 unfold eZ cQ jy
 simp[z1,z2,z3,z4,hs,jP]
theorem GL{ns:List Int}{k:Int}(h0:0<=k)(c:k < ns.length):L2.mD (ns.map Wv.int) k=some (.int (ns.getD k.toNat 0)):=by
 have hk:k.toNat < ns.length:=by omega
 have ek:k=((k.toNat:Nat):Int):=by omega
 have q:=L2.gq (xs:=ns.map Wv.int) (j:=k.toNat) (v:=.int (ns.getD k.toNat 0)) (by simp[hk])
 rw[<-ek] at q
 exact q
theorem Bc{st:Hs}{l:Nat}{ns:List Int}(h:av st l=some (ns.map Wv.int)){k:Int}(h0:0<=k):∃v:Int,b_ [.ref l,.int k] st= .ok (.int v) st:=by
 have ln:=LN h
 rw[bK] at ln
 unfold b_ cQ gW
 by_cases c:k < ns.length
 ·exact⟨_,by simp[ln,c,yP h (GL h0 c)];rfl⟩
 ·exact⟨0,by simp[ln,c]⟩
theorem LR{st:Hs}:p9 (.int 10) (.int 60) st= .ok (.int (10 ^ 60)) st:=SD (by decide)
theorem GN{lo c:Int}{n:Nat}{j:Nat}{w:Wv}(h:(oM lo c n)[j]? =some w):w= .int (lo+j * c)/\j < n:=by
 have hj:j < n:=by
  have:=(List.getElem?_eq_some_iff.mp h).1
  rw[mW] at this
  exact this
 rw[sP hj] at h
 exact⟨(Option.some.inj h).symm,hj⟩
theorem Pa{c:Int}{k:Nat}(h0:0<=c)(h1:c < (10 ^ 60) ^ k)(hk:k<=5):IntMulOk c (10 ^ 60):=by
 have b:c.natAbs < 2 ^ 1000:=by
  have e:(10 ^ 60:Int) ^ k < 2 ^ 1000:=by
   have hk':k=0\/k=1\/k=2\/k=3\/k=4\/k=5:=by omega
   rcases hk' with rfl | rfl | rfl | rfl | rfl | rfl<;>decide+kernel
  have e2:((2 ^ 1000:Nat):Int)=2 ^ 1000:=by norm_cast
  omega
 exact IntMulOk.of_bits (bf (KL b) (by decide)) (bf (KL (k:=200) (by decide+kernel)) (by decide))
theorem stream{st:Hs}{l:Nat}{ns:List Int}(h:av st l=some (ns.map Wv.int))(hn:ns.length<=63){k:Int}(h0:0<=k)(h1:k<=12):∃n:Int,bU [.ref l,.int k] st= .ok (.ref st.length) (st++[.lst [.int n]]):=by
 obtain⟨v0,Y4⟩:=Bc h (k:=0) (Int.le_refl _)
 have ln:=LN h
 rw[bK] at ln
 have sm:=SJ h
 have cr:Dd (k+1) ns.length 13:=⟨by omega,by omega,by omega,by omega,by decide,by decide⟩
 have sn:gT (k+1) ns.length 13<=5:=by
  unfold gT
  split<;>omega
 have l1:∃(o3:Option Wv)(c:Int),dh 3 bX (oM (k+1) 13 (gT (k+1) ns.length 13)) [some (.ref l),some (.int k),some (.int 0),none,none] st= .nx [some (.ref l),some (.int k),some (.int c),o3,none] st:=by
  obtain⟨ρ,st',e,o3,c,rfl,rfl,_,_⟩:=uM (i:=3) (gb:=bX) (λi ρ st'=>∃(o3:Option Wv)(c:Int),ρ=[some (.ref l),some (.int k),some (.int c),o3,none]/\st'=st/\0<=c/\c < (10 ^ 60) ^ i) (oM (k+1) 13 (gT (k+1) ns.length 13)) 0 [some (.ref l),some (.int k),some (.int 0),none,none] st ⟨none,0,rfl,rfl,by decide,by decide⟩ (by
   rintro j w hw _ s ⟨o3,c,rfl,rfl,c0,c1⟩
   obtain⟨rfl,hj⟩:=GN hw
   have hj5:0+j<=5:=by omega
   have jx:k+1+(j:Int) * 13 < ns.length:=by
    unfold gT at hj
    split at hj<;>omega
   have m1:cR (.int c) (.int (10 ^ 60)) s= .ok (.int (c * 10 ^ 60)) s:=A8 (Pa c0 c1 hj5)
   have m2:oMod (.int (ns.getD (k+1+(j:Int) * 13).toNat 0)) (.int (10 ^ 60)) s= .ok (.int ((ns.getD (k+1+(j:Int) * 13).toNat 0).fmod (10 ^ 60))) s:=jP (by decide)
   have x1:=yP h (GL (k:=k+1+(j:Int) * 13) (by omega) jx)
   have q0:=mh (ns.getD (k+1+(j:Int) * 13).toNat 0) (b:=10 ^ 60) (by decide)
   have q1:=n5 (ns.getD (k+1+(j:Int) * 13).toNat 0) (b:=10 ^ 60) (by decide)
   generalize (ns.getD (k+1+(j:Int) * 13).toNat 0).fmod (10 ^ 60)=q at m2 q0 q1
   refine⟨_,_,?_,⟨some (.int (k+1+(j:Int) * 13)),c * 10 ^ 60+q,rfl,rfl,?_,?_⟩⟩
   ·unfold bX
    simp only[Ss,Sw,Sv,e_c,List.getElem?_cons_zero,List.getElem?_cons_succ,List.set_cons_zero,List.set_cons_succ,Su,cJ,VX,LR,O4,m1,x1,m2,Sz,O0]
   ·have:=Int.mul_nonneg c0 (show(0:Int)<=10 ^ 60 by decide)
    omega
   ·have e:(10 ^ 60:Int) ^ (0+j+1)=(10 ^ 60) ^ (0+j) * 10 ^ 60:=Int.pow_succ ..
    rw[e]
    have:(c+1) * 10 ^ 60<=(10 ^ 60) ^ (0+j) * 10 ^ 60:=Int.mul_le_mul_of_nonneg_right (by omega) (by decide)
    rw[Int.add_mul] at this
    omega)
  exact⟨o3,c,e⟩
 obtain⟨o3,c,e1⟩:=l1
 have l2:∃(UH:Option Wv)(g':Int),dh 3 dv (di 0 8) [some (.ref l),some (.int k),some (.int c),o3,some (.int 0)] st= .nx [some (.ref l),some (.int k),some (.int c),UH,some (.int g')] st:=by
  obtain⟨ρ,st',e,UH,g',rfl,rfl⟩:=wV (i:=3) (gb:=dv) (λρ st'=>∃(o3:Option Wv)(g:Int),ρ=[some (.ref l),some (.int k),some (.int c),o3,some (.int g)]/\st'=st) (di 0 8) [some (.ref l),some (.int k),some (.int c),o3,some (.int 0)] st ⟨o3,0,rfl,rfl⟩ (by
   rintro w hw _ s ⟨o3,g,rfl,rfl⟩
   obtain⟨j,rfl,j0,j1⟩:=KI hw
   obtain⟨u,_,eu⟩:=mixed (st:=s) (c:=c+ns.sum) (k:=8 * k+j) (by omega) (by omega)
   have z1:cR (.int 8) (.int k) s= .ok (.int (8 * k)) s:=A9 (by decide) (by decide)
   have z3:cR (.int g) (.int 2147483647) s= .ok (.int (g * 2147483647)) s:=mul_r (by decide) (by decide)
   refine⟨_,_,?_,⟨some (.int j),g * 2147483647+u,rfl,rfl⟩⟩
   unfold dv
   simp[sm,z1,z3,eu])
  exact⟨UH,g',e⟩
 obtain⟨UH,g',e2⟩:=l2
 have f8:∀i:Int,fZ (.int i) (.int 8) st= .ok (.int (i.fdiv 8)) st:=λi=>nR (by decide)
 have c8:jY 8:=yQ (by decide) (by decide)
 have er3:∀(ga:GA)(ρ:bw)(s s1:Hs)(a b c:Int),ga ρ s= .ok [.int a,.int b,.int c] s1->Dd a b c->qF 3 ga bX ρ s=dh 3 bX (oM a c (gT a b c)) ρ s1:=λga ρ s s1 a b c h1 h2=>by
  unfold qF
  rw[h1]
  show(if Dd a b c then _ else _)=_
  rw[if_pos h2]
 have e3:=er3 (ae (ai cq (af 1) (gC (.int 1))) (ae (aZ mH (ae (af 0) ao)) (ae (gC (.int 13)) ao))) [some (.ref l),some (.int k),some (.int 0),none,none] st st (k+1) ns.length 13 (by simp[ln]) cr
 rw[e1] at e3
 unfold bU cQ iP
 by_cases b:v0.fmod 2=1
 ·exact⟨c,by simp[e3,Y4,jP,b]⟩
 ·have b':(v0.fmod 2 == 1)=false:=beq_false_of_ne b
  exact⟨g'.fdiv 8,by simp[e3,Y4,jP,b',c8,e2,f8]⟩
inductive Fm
 | lit (x:S) (ws:List Wv)
 | pt (x:S) (l p:List Int)
 | fd (a:Fm) (l p:List Int)
 | o1 (x:S) (a:Fm)
 | o2 (x:S) (a b:Fm)
 | o3 (a b c:Fm)
def Fm.v:Fm->S×List Wv
 | .lit x ws=>(x,ws)
 | .pt x l p=>(x,[tI l,tI p])
 | .fd a l p=>("find",[.tup (.str a.v.1::a.v.2),tI l,tI p])
 | .o1 x a=>(x,[.tup (.str a.v.1::a.v.2)])
 | .o2 x a b=>(x,[.tup (.str a.v.1::a.v.2),.tup (.str b.v.1::b.v.2)])
 | .o3 a b c=>("if",[.tup (.str a.v.1::a.v.2),.tup (.str b.v.1::b.v.2),.tup (.str c.v.1::c.v.2)])
def Fm.w(f:Fm):Wv:=.tup (.str f.v.1::f.v.2)
def Fm.dp:Fm->Nat
 | .lit _ _=>1
 | .pt _ _ _=>1
 | .fd a _ _=>a.dp+1
 | .o1 _ a=>a.dp+1
 | .o2 _ a b=>max a.dp b.dp+1
 | .o3 a b c=>max a.dp (max b.dp c.dp)+1
def SR(x:S)(ws:List Wv):Prop:=(x="num"/\∃i,ws=[.int i])\/(x="text"/\∃s,ws=[.str s]/\aO s=true)\/(x="lost"/\ws=[])
def xw(q:Int):Prop:=q=0\/q=1
def xf(l p:List Int):Prop:=∃a b q r,l=[a,b]/\p=[q,r]/\xw q/\xw r
def vf(l p:List Int):Prop:=∃a b c d q r s t,l=[a,b,c,d]/\p=[q,r,s,t]/\xw q/\xw r/\xw s/\xw t
def AW:List S:=["sum","count","least","greatest"]
def W1:List S:=["minus","not"]
def W2:List S:=["else","rest","+","-","*","/","&","<","="]
def Fm.sh:Fm->Prop
 | .lit x ws=>SR x ws
 | .pt x l p=>(x="at"/\xf l p)\/(x∈AW/\vf l p)
 | .fd a l p=>a.sh/\vf l p
 | .o1 x a=>x∈W1/\a.sh
 | .o2 x a b=>x∈W2/\a.sh/\b.sh
 | .o3 a b c=>a.sh/\b.sh/\c.sh
def hR(a b:Int):Prop:=0<=a/\a<=98/\0<=b/\b<=25
def Fits:List Int->Prop
 | [a,b]=>hR a b
 | [a,b,c,d]=>nh a b c d
 | _=>False
def Fm.fit:Fm->Prop
 | .lit _ _=>True
 | .pt _ l _=>Fits l
 | .fd a l _=>a.fit/\Fits l
 | .o1 _ a=>a.fit
 | .o2 _ a b=>a.fit/\b.fit
 | .o3 a b c=>a.fit/\b.fit/\c.fit
def HG:Int:=10 ^ 60
theorem GP{st:Hs}:p9 (.int 10) (.int 60) st= .ok (.int HG) st:=LR
theorem pick{r:Nat}{st:Hs}{ws:List Wv}{m:Int}(h:Ro r st)(hw:(ws.length:Int)=m)(h0:0 < m)(h1:m < 1000000) :
  ∃d v st',aq [.ref r,.int m] (st++[.lst ws])= .ok (.int d) st'/\cg (.ref st.length) (.int d) st'= .ok v st'/\v∈ws/\Dw r st st':=by
 have hr:r < st.length:=let ⟨v,e⟩:=h;cL e
 obtain⟨d,s2,e2,d0,d1,k2,WD⟩:=dig (m:=m) (h.push (o:=.lst ws)) h0 h1
 obtain⟨v,e3,e4⟩:=wW (ws:=ws) (d:=d) d0 (by omega)
 exact⟨d,v,s2,e2,yP (k2.lst eG (by omega)) e3,e4,iM.push.trans k2,WD⟩
theorem SU{r:Nat}{st:Hs}(h:Ro r st):∃q s st',bF [.ref r,.int 2] st= .ok (tI [q,s]) st'/\xw q/\xw s/\Dw r st st':=by
 obtain⟨p,st',e,hl,hp,d⟩:=pins h (n:=2) (by decide)
 match p,hl with
 | [q,s],_=>exact⟨q,s,st',e,hp q (by simp),hp s (by simp),d⟩
theorem LS{r:Nat}{st:Hs}(h:Ro r st):∃q s t u st',bF [.ref r,.int 4] st= .ok (tI [q,s,t,u]) st'/\xw q/\xw s/\xw t/\xw u/\Dw r st st':=by
 obtain⟨p,st',e,hl,hp,d⟩:=pins h (n:=4) (by decide)
 match p,hl with
 | [q,s,t,u],_=>exact⟨q,s,t,u,st',e,hp q (by simp),hp s (by simp),hp t (by simp),hp u (by simp),d⟩
theorem number{r:Nat}{st:Hs}(h:Ro r st):∃n st',dQ [.ref r] st= .ok (.int n) st'/\Dw r st st':=by
 obtain⟨w,s1,e1,w0,w1,d1⟩:=dig (m:=5) h (by decide) (by decide)
 unfold dQ cQ iN
 by_cases c0:w=0
 ·obtain⟨d,s2,e2,a0,a1,d2⟩:=dig (m:=3) d1.2 (by decide) (by decide)
  subst c0
  exact⟨HG - d,s2,by simp[e1,e2,GP],d1.trans d2⟩
 have b0:(w == 0)=false:=beq_false_of_ne c0
 obtain⟨d,s2,e2,a0,a1,d2⟩:=dig (m:=6) d1.2 (by decide) (by decide)
 exact⟨d,s2,by simp[e1,e2,b0],d1.trans d2⟩
def rh(a b:Int):Prop:=0<=a/\a<=96/\0<=b/\b<=22
theorem Pb{r:Nat}{st:Hs}{a b:Int}(h:Ro r st)(k:rh a b):∃c d st',cM [.ref r,tI [a,b]] st= .ok (tI [c,d]) st'/\Fits [c,d]/\Dw r st st':=by
 obtain⟨c,d,s1,e,hc,d1⟩:=place (a:=a) (b:=b) h
 exact⟨_,_,s1,e,by unfold rh at k;show hR _ _;unfold hR;omega,d1⟩
theorem LU{r:Nat}{st:Hs}{a b:Int}(h:Ro r st)(k:rh a b):∃c d e f st',cG [.ref r,tI [a,b]] st= .ok (tI [c,d,e,f]) st'/\Fits [c,d,e,f]/\Dw r st st':=by
 obtain⟨t,l,p,q,s1,e,hc,d1⟩:=WC (a:=a) (b:=b) h
 refine⟨_,_,_,_,s1,e,?_,d1⟩
 unfold rh at k
 show nh _ _ _ _
 unfold nh
 have:=SQ (x:=a+p - (a+t)+1) (y:=b+q - (b+l)+1) (p:=3) (q:=4) (by omega) (by omega) (by omega) (by omega)
 omega
theorem leaf{r:Nat}{st:Hs}{a b:Int}(h:Ro r st)(hs:rh a b):∃f st',eJ [.ref r,tI [a,b]] st= .ok (Fm.w f) st'/\f.sh/\f.fit/\f.dp=1/\Dw r st st':=by
 obtain⟨w,s1,e1,w0,w1,d1⟩:=dig (m:=8) h (by decide) (by decide)
 unfold eJ cQ kz
 by_cases c0:w=0
 ·subst c0
  obtain⟨i,s2,e2,d2⟩:=number d1.2
  exact⟨.lit "num" [.int i],s2,by simp[e1,e2,Fm.w,Fm.v],.inl ⟨rfl,i,rfl⟩,trivial,rfl,d1.trans d2⟩
 have b0:(w == 0)=false:=beq_false_of_ne c0
 by_cases c1:w=1
 ·subst c1
  obtain⟨d,v,s4,e4,e5,hv,d4⟩:=pick (m:=4) (ws:=[.str "",.str "a",.str "b7",.str "no"]) d1.2 rfl (by decide) (by decide)
  obtain⟨i,rfl,ht⟩:∃i:S,v= .str i/\aO i=true:=by simp at hv;rcases hv with rfl | rfl | rfl | rfl<;>exact⟨_,rfl,by decide+kernel⟩
  exact⟨.lit "text" [.str i],s4,by simp[e1,e4,e5,Fm.w,Fm.v],.inr (.inl ⟨rfl,i,rfl,ht⟩),trivial,rfl,d1.trans d4⟩
 have b1:(w == 1)=false:=beq_false_of_ne c1
 have at':∀s2,Dw r s1 s2->∃(c d q s:Int)(s4 s5:Hs),cM [.ref r,tI [a,b]] s2= .ok (tI [c,d]) s4/\bF [.ref r,.int 2] s4= .ok (tI [q,s]) s5/\Fits [c,d]/\xw q/\xw s/\Dw r st s5:=λs2 d2=>by
  obtain⟨c,d,s4,e4,hf,d4⟩:=Pb d2.2 hs
  obtain⟨q,s,s5,e5,q1,q2,d5⟩:=SU d4.2
  exact⟨c,d,q,s,s4,s5,e4,e5,hf,q1,q2,((d1.trans d2).trans d4).trans d5⟩
 by_cases c2:w=2
 ·subst c2
  obtain⟨x,s2,e2,x0,x1,d2⟩:=dig (m:=3) d1.2 (by decide) (by decide)
  by_cases cx:x=0
  ·subst cx
   exact⟨.lit "lost" [],s2,by simp[e1,e2,Fm.w,Fm.v],.inr (.inr ⟨rfl,rfl⟩),trivial,rfl,d1.trans d2⟩
  ·have bx:(x == 0)=false:=beq_false_of_ne cx
   obtain⟨c,d,q,s,s4,s5,e4,e5,hf,q1,q2,d5⟩:=at' s2 d2
   exact⟨.pt "at" [c,d] [q,s],s5,by simp[e1,e2,bx,e4,e5,Fm.w,Fm.v],.inl ⟨rfl,c,d,q,s,rfl,rfl,q1,q2⟩,hf,rfl,d5⟩
 have b2:(w == 2)=false:=beq_false_of_ne c2
 by_cases c3:w < 6
 ·obtain⟨c,d,q,s,s4,s5,e4,e5,hf,q1,q2,d5⟩:=at' s1 (Dw.of d1.2)
  exact⟨.pt "at" [c,d] [q,s],s5,by simp[e1,b0,b1,b2,c3,e4,e5,Fm.w,Fm.v],.inl ⟨rfl,c,d,q,s,rfl,rfl,q1,q2⟩,hf,rfl,d5⟩
 ·obtain⟨d,v,s2,e2,e3,hv,d2⟩:=pick (m:=4) (ws:=[.str "sum",.str "count",.str "least",.str "greatest"]) d1.2 rfl (by decide) (by decide)
  obtain⟨x,rfl,hx⟩:∃x:S,v= .str x/\x∈AW:=by simp at hv;rcases hv with rfl | rfl | rfl | rfl<;>exact⟨_,rfl,by decide+kernel⟩
  obtain⟨a',b',c',d',s3,e4,har,d3⟩:=LU d2.2 hs
  obtain⟨q,s,t,u,s4,e5,q1,q2,q3,q4,d4⟩:=LS d3.2
  exact⟨.pt x [a',b',c',d'] [q,s,t,u],s4,by simp[e1,b0,b1,b2,c3,e2,e3,e4,e5,Fm.w,Fm.v],.inr ⟨hx,a',b',c',d',q,s,t,u,rfl,rfl,q1,q2,q3,q4⟩,har,rfl,((d1.trans d2).trans d3).trans d4⟩
theorem Bd{st:Hs}{ws:List Wv}{d:Int}(h0:0<=d)(h1:d < ws.length):∃v,cg (.ref st.length) (.int d) (st++[.lst ws])= .ok v (st++[.lst ws])/\v∈ws:=by
 obtain⟨v,e3,e4⟩:=wW (ws:=ws) (d:=d) h0 h1
 exact⟨v,yP eG e3,e4⟩
theorem Dw.push{r:Nat}{st:Hs}{o:Ob}(h:Ro r st):Dw r st (st++[o]):=⟨iM.push,h.push⟩
theorem pF{r:Nat}{a b:Int}(hs:rh a b):∀(n:Nat){st:Hs}{k:Nat},Ro r st->k<=n->∃f st',bG (n+1) [.ref r,tI [a,b],.int k] st= .ok (Fm.w f) st'/\f.sh/\f.fit/\f.dp<=k+1/\Dw r st st'
 | n,st,k,h,hk=>by
  rw[lD]
  unfold cQ eW
  by_cases c0:k=0
  ·obtain⟨f,s2,e2,h1,h2,h3,d2⟩:=leaf h hs
   subst c0
   exact⟨f,s2,by simp[e2],h1,h2,by omega,d2⟩
  obtain⟨w,s1,e1,w0,w1,d1⟩:=dig (m:=16) h (by decide) (by decide)
  have bk:((k:Int) == 0)=false:=beq_false_of_ne (by omega)
  by_cases cw:w < 3
  ·obtain⟨f,s2,e2,h1,h2,h3,d2⟩:=leaf d1.2 hs
   exact⟨f,s2,by simp[e1,e2,bk,cw],h1,h2,by omega,d1.trans d2⟩
  obtain⟨n',rfl⟩:∃n',n=n'+1:=⟨n - 1,by omega⟩
  have ek:((k:Int) - 1)=((k - 1:Nat):Int):=by omega
  obtain⟨x,s2,e2,a1,a2,a3,d2⟩:=pF hs n' (k:=k - 1) d1.2 (by omega)
  by_cases c5:w < 5
  ·obtain⟨v,e3,hv⟩:=Bd (st:=s2) (ws:=[.str "minus",.str "not"]) (d:=w - 3) (by omega) (by simp;omega)
   obtain⟨y,rfl,hy⟩:∃y:S,v= .str y/\y∈W1:=by simp at hv;rcases hv with rfl | rfl<;>exact⟨_,rfl,by decide+kernel⟩
   refine⟨.o1 y x,s2++[.lst [.str "minus",.str "not"]],?_,⟨hy,a1⟩,a2,by simp only[Fm.dp];omega,(d1.trans d2).trans (Dw.push d2.2)⟩
   simp[e1,bk,cw,ek,e2,c5,e3]
   rfl
  by_cases c6:w=5
  ·subst c6
   obtain⟨a',b',c',d',s3,e3,har,d3⟩:=LU d2.2 hs
   obtain⟨q,s,t,u,s4,e4,q1,q2,q3,q4,d4⟩:=LS d3.2
   refine⟨.fd x [a',b',c',d'] [q,s,t,u],s4,?_,⟨a1,a',b',c',d',q,s,t,u,rfl,rfl,q1,q2,q3,q4⟩,⟨a2,har⟩,by simp only[Fm.dp];omega,((d1.trans d2).trans d3).trans d4⟩
   simp[e1,bk,ek,e2,e3,e4]
   rfl
  have b6:(w == 5)=false:=beq_false_of_ne c6
  obtain⟨y,s3,e3,b1,b2,b3,d3⟩:=pF hs n' (k:=k - 1) d2.2 (by omega)
  by_cases c8:w < 8
  ·obtain⟨z,s4,e4,z1,z2,z3,d4⟩:=pF hs n' (k:=k - 1) d3.2 (by omega)
   refine⟨.o3 x y z,s4,?_,⟨a1,b1,z1⟩,⟨a2,b2,z2⟩,by simp only[Fm.dp];omega,((d1.trans d2).trans d3).trans d4⟩
   simp[e1,bk,cw,c5,b6,ek,e2,e3,c8,e4]
   rfl
  by_cases Y5:w=15
  ·subst Y5
   obtain⟨d,v,s4,e4,e5,hv,d4⟩:=pick (m:=2) (ws:=[.str "=",.str "&"]) d3.2 rfl (by decide) (by decide)
   obtain⟨o,rfl,ho⟩:∃y:S,v= .str y/\y∈W2:=by simp at hv;rcases hv with rfl | rfl<;>exact⟨_,rfl,by decide+kernel⟩
   refine⟨.o2 o x y,s4,?_,⟨ho,a1,b1⟩,⟨a2,b2⟩,by simp only[Fm.dp];omega,((d1.trans d2).trans d3).trans d4⟩
   simp[e1,bk,ek,e2,e3,e4,e5]
   rfl
  have b15:(w == 15)=false:=beq_false_of_ne Y5
  obtain⟨v,e4,hv⟩:=Bd (st:=s3) (ws:=[.str "else",.str "rest",.str "+",.str "-",.str "*",.str "/",.str "<"]) (d:=w - 8) (by omega) (by simp;omega)
  obtain⟨o,rfl,ho⟩:∃y:S,v= .str y/\y∈W2:=by simp at hv;rcases hv with rfl | rfl | rfl | rfl | rfl | rfl | rfl<;>exact⟨_,rfl,by decide+kernel⟩
  refine⟨.o2 o x y,s3++[.lst [.str "else",.str "rest",.str "+",.str "-",.str "*",.str "/",.str "<"]],?_,⟨ho,a1,b1⟩,⟨a2,b2⟩,by simp only[Fm.dp];omega,((d1.trans d2).trans d3).trans (Dw.push d3.2)⟩
  simp[e1,bk,cw,c5,b6,ek,e2,e3,c8,b15,e4]
  rfl
def Cn(v:Wv):Prop:=(∃i:Int,v= .int i)\/(∃x:S,v= .str x)\/∃f:Fm,v=f.w/\f.sh/\f.fit/\f.dp<=3
theorem SV:IntMulOk 2 HG:=by unfold HG;decide+kernel
theorem content{r:Nat}{st:Hs}{a b:Int}{k:Nat}(h:Ro r st)(hs:rh a b)(hk:k<=2):∃v st',cF [.ref r,tI [a,b],.int k] st= .ok v st'/\(v= .non\/Cn v)/\Dw r st st':=by
 obtain⟨w,s1,e1,w0,w1,d1⟩:=dig (m:=8) h (by decide) (by decide)
 unfold cF cQ gY
 by_cases c0:w=0
 ·subst c0
  exact⟨.non,s1,by simp[e1],.inl rfl,d1⟩
 have b0:(w == 0)=false:=beq_false_of_ne c0
 by_cases c1:w=1
 ·subst c1
  obtain⟨v,e⟩:=id d1.2
  have e2:=digit (many:=2 * HG+1) e ⟨by unfold HG;decide+kernel,by unfold HG;decide+kernel⟩
  refine⟨.int (v.fmod (2 * HG+1) - HG),s1.set r (.lst [.int (v.fdiv (2 * HG+1))]),?_,.inr (.inl ⟨_,rfl⟩),d1.trans ⟨iM.set,_,cK e⟩⟩
  simp[e1,GP,A8 SV,e2]
 have b1:(w == 1)=false:=beq_false_of_ne c1
 by_cases c2:w=2
 ·subst c2
  obtain⟨d,s2,e2,_,_,d2⟩:=dig (m:=5) d1.2 (by decide) (by decide)
  exact⟨.int (d - 1),s2,by simp[e1,e2],.inr (.inl ⟨_,rfl⟩),d1.trans d2⟩
 have b2:(w == 2)=false:=beq_false_of_ne c2
 by_cases c3:w=3
 ·subst c3
  obtain⟨d,v,s4,e4,e5,hv,d4⟩:=pick (m:=4) (ws:=[.str "",.str "a",.str "b7",.str "no"]) d1.2 rfl (by decide) (by decide)
  obtain⟨i,rfl⟩:∃i:S,v= .str i:=by simp at hv;rcases hv with rfl | rfl | rfl | rfl<;>exact⟨_,rfl⟩
  exact⟨.str i,s4,by simp[e1,e4,e5],.inr (.inr (.inl ⟨i,rfl⟩)),d1.trans d4⟩
 have b3:(w == 3)=false:=beq_false_of_ne c3
 obtain⟨f,s2,e2,h1,h2,h3,d2⟩:=pF hs 5 (k:=k) d1.2 (by omega)
 have Ab:aM [.ref r,tI [a,b],.int k] s1= .ok f.w s2:=e2
 exact⟨f.w,s2,by simp[e1,b0,b1,b2,b3,Ab],.inr (.inr (.inr ⟨f,rfl,h1,h2,by omega⟩)),d1.trans d2⟩
theorem spot{st:Hs}{l:Nat}{ns:List Int}(h:av st l=some (ns.map Wv.int)):∃a b st',eI [.ref l] st= .ok (tI [a,b]) st'/\rh a b/\∃more,st'=st++more:=by
 obtain⟨v,e⟩:=Bc h (k:=0) (by decide)
 have lg:∀j:Int,(j=2\/j=4\/j=400)->j≠0/\j.natAbs.log2 < 9000:=by rintro j (rfl | rfl | rfl)<;>decide+kernel
 let f:=v.fdiv 2
 let x:=(f.fdiv 4).fmod 97
 let y:=(f.fdiv 400).fmod 23
 have x0:0<=x:=mh _ (by decide)
 have x1:x < 97:=n5 _ (by decide)
 have y0:0<=y:=mh _ (by decide)
 have y1:y < 23:=n5 _ (by decide)
 let s1:=st++[.lst [.int 0,.int x]]
 let s2:=s1++[.lst [.int 0,.int y]]
 obtain⟨p,e2,hp⟩:=Bd (st:=st) (ws:=[.int 0,.int x]) (d:=f.fmod 2) (mh _ (by decide)) (by simpa using n5 f (by decide))
 obtain⟨q,e3,hq⟩:=Bd (st:=s1) (ws:=[.int 0,.int y]) (d:=(f.fdiv 2).fmod 2) (mh _ (by decide)) (by simpa using n5 (f.fdiv 2) (by decide))
 obtain⟨a,rfl,ha⟩:∃a:Int,p= .int a/\0<=a/\a<=96:=by
  simp at hp
  rcases hp with rfl | rfl
  ·exact⟨0,rfl,by omega⟩
  ·exact⟨x,rfl,by omega⟩
 obtain⟨b,rfl,hb⟩:∃b:Int,q= .int b/\0<=b/\b<=22:=by
  simp at hq
  rcases hq with rfl | rfl
  ·exact⟨0,rfl,by omega⟩
  ·exact⟨y,rfl,by omega⟩
 refine⟨a,b,s2,?_,⟨ha.1,ha.2,hb.1,hb.2⟩,[.lst [.int 0,.int x],.lst [.int 0,.int y]],by simp[s2,s1]⟩
 have m1:∀{i:Int}{s:Hs},oMod (.int i) (.int 97) s= .ok (.int (i.fmod 97)) s:=jP (by decide)
 have m2:∀{i:Int}{s:Hs},oMod (.int i) (.int 23) s= .ok (.int (i.fmod 23)) s:=jP (by decide)
 have m3:∀{i:Int}{s:Hs},oMod (.int i) (.int 2) s= .ok (.int (i.fmod 2)) s:=jP (by decide)
 have f2:∀{i:Int}{s:Hs},fZ (.int i) (.int 2) s= .ok (.int (i.fdiv 2)) s:=nR (lg 2 (by simp))
 have f4:∀{i:Int}{s:Hs},fZ (.int i) (.int 4) s= .ok (.int (i.fdiv 4)) s:=nR (lg 4 (by simp))
 have WE:∀{i:Int}{s:Hs},fZ (.int i) (.int 400) s= .ok (.int (i.fdiv 400)) s:=nR (lg 400 (by simp))
 unfold eI cQ kl
 dsimp only[s1,x,y,f] at e2 e3 ⊢
 simp[e,m1,m2,m3,f2,f4,WE,e2]
 simp at e3
 simp[e3,tI,s2,s1,x,y,f]
theorem Pc{x:S}{ys:List S}{st:Hs}:oK (.str x) (.tup (ys.map Wv.str)) st= .ok (.bl (decide (x∈ys))) st:=by
 have e1:(ys.map Wv.str).all jM=true:=by
  rw[qQ]
  intro w hw
  obtain⟨y,_,rfl⟩:=List.mem_map.mp hw
  rfl
 have e2:((ys.map Wv.str).any λz=>Rm z (.str x))=decide (x∈ys):=by
  rw[List.any_map]
  induction ys with
  | nil=>rfl
  | cons y r ih=>
   rw[gQ,ih (by rw[qQ];intro w hw;obtain⟨y,_,rfl⟩:=List.mem_map.mp hw;rfl)]
   show((y == x)||decide (x∈r))=_
   by_cases c:y=x
   ·subst c;simp
   ·have:(y == x)=false:=beq_false_of_ne c
    rw[this]
    simp[ay c]
 show(if jM (.str x)=true/\(ys.map Wv.str).all jM=true then Re.ok (Wv.bl ((ys.map Wv.str).any λz=>Rm z (.str x))) st else .bad)=_
 rw[if_pos ⟨rfl,e1⟩,e2]
def AF:List S:=["sum","count","least","greatest","find"]
theorem xg{x:S}{st:Hs}:fq [.str x] st= .ok (.bl (decide (x∈AF))) st:=by
 have e:oK (.str x) (.og [.str "sum",.str "count",.str "least",.str "greatest",.str "find"]) st= .ok (.bl (decide (x∈AF))) st:=Pc (ys:=AF)
 unfold fq cQ l_
 simp[e]
theorem CT{x:Wv}{ws:List Wv}{st:Hs}:cg (.tup (x::ws)) (.int 0) st= .ok x st:=jq (L2.gq (j:=0) rfl)
theorem WG{x y:Wv}{ws:List Wv}{st:Hs}:cg (.tup (x::y::ws)) (.int 1) st= .ok y st:=jq (L2.gq (j:=1) rfl)
theorem oT{ws us:List Wv}{lo hi:Option Int}{st:Hs}(h:¬cW ws.length lo hi)(h2:rK ws lo hi=us):vV (.tup ws) lo hi st= .ok (.tup us) st:=by
 show(if cW ws.length lo hi then Re.ok (Wv.tup ws) st else P5 (.tup ws) lo hi st)=_
 rw[if_neg h]
 show(if cW ws.length lo hi then Re.bad else Re.ok (Wv.tup (rK ws lo hi)) st)=_
 rw[if_neg h,h2]
theorem tm{x:S}{k:Int}{st:Hs}(h:bE.lookup x=some (.int k)):c7 [.str x] st= .ok (.int k) st:=by
 unfold c7 cQ kD
 simp[KJ h]
theorem fQ{x:S}{k:Int}{ws us:List Wv}(h:bE.lookup x=some (.int k))(n1:¬cW (ws.length+1) (some 1) (some (1+k)))(hc:rK (.str x::ws) (some 1) (some (1+k))=us)(st:Hs):c9 [.tup (.str x::ws)] st= .ok (.tup us) st:=by
 unfold c9 cQ md
 have s:=oT (ws:=.str x::ws) (us:=us) (lo:=some 1) (hi:=some (1+k)) (st:=st) n1 hc
 simp[CT,tm h,s]
theorem iC{x:S}{k:Int}{ws us:List Wv}(h:bE.lookup x=some (.int k))(n1:¬cW (ws.length+1) (some (1+k)) none)(hc:rK (.str x::ws) (some (1+k)) none=us)(st:Hs):eL [.tup (.str x::ws)] st= .ok (.tup us) st:=by
 unfold eL cQ nU
 have s:=oT (ws:=.str x::ws) (us:=us) (lo:=some (1+k)) (hi:=none) (st:=st) n1 hc
 simp[CT,tm h,s]
def Fm.kids:Fm->List Fm
 | .lit _ _=>[]
 | .pt _ _ _=>[]
 | .fd a _ _=>[a]
 | .o1 _ a=>[a]
 | .o2 _ a b=>[a,b]
 | .o3 a b c=>[a,b,c]
def Fm.tl:Fm->List Wv
 | .lit _ ws=>ws
 | .pt _ l p=>[tI l,tI p]
 | .fd _ l p=>[tI l,tI p]
 | _=>[]
theorem Y6{x:S}(h:x∈W1):bE.lookup x=some (.int 1):=by
 simp only[W1,bM,bP,or_false] at h
 rcases h with rfl | rfl<;>rfl
theorem Y7{x:S}(h:x∈W2):bE.lookup x=some (.int 2):=by
 simp only[W2,bM,bP,or_false] at h
 rcases h with rfl | rfl | rfl | rfl | rfl | rfl | rfl | rfl | rfl<;>rfl
theorem lk0{x:S}(h:x∈AW):bE.lookup x=some (.int 0):=by
 simp only[AW,bM,bP,or_false] at h
 rcases h with rfl | rfl | rfl | rfl<;>rfl
theorem node{f:Fm}(h:f.sh):(∀st,c9 [f.w] st= .ok (.tup (f.kids.map Fm.w)) st)/\∀st,eL [f.w] st= .ok (.tup f.tl) st:=by
 cases f with
 | lit x ws=>
  rcases h with ⟨rfl,i,rfl⟩ | ⟨rfl,s,rfl,_⟩ | ⟨rfl,rfl⟩
  ·exact⟨fQ (k:=0) rfl (by show ¬cW 2 (some 1) (some (1+0));decide+kernel) rfl,iC (k:=0) rfl (by show ¬cW 2 (some (1+0)) none;decide+kernel) rfl⟩
  ·exact⟨fQ (k:=0) rfl (by show ¬cW 2 (some 1) (some (1+0));decide+kernel) rfl,iC (k:=0) rfl (by show ¬cW 2 (some (1+0)) none;decide+kernel) rfl⟩
  ·exact⟨fQ (k:=0) rfl (by show ¬cW 1 (some 1) (some (1+0));decide+kernel) rfl,iC (k:=0) rfl (by show ¬cW 1 (some (1+0)) none;decide+kernel) rfl⟩
 | pt x l p=>
  have lk:bE.lookup x=some (.int 0):=by
   rcases h with ⟨rfl,_⟩ | ⟨hx,_⟩
   ·rfl
   ·exact lk0 hx
  exact⟨fQ (k:=0) lk (by show ¬cW 3 (some 1) (some (1+0));decide+kernel) rfl,iC (k:=0) lk (by show ¬cW 3 (some (1+0)) none;decide+kernel) rfl⟩
 | fd a l p=>exact⟨fQ (k:=1) rfl (by show ¬cW 4 (some 1) (some (1+1));decide+kernel) rfl,iC (k:=1) rfl (by show ¬cW 4 (some (1+1)) none;decide+kernel) rfl⟩
 | o1 x a=>exact⟨fQ (k:=1) (Y6 h.1) (by show ¬cW 2 (some 1) (some (1+1));decide+kernel) rfl,iC (k:=1) (Y6 h.1) (by show ¬cW 2 (some (1+1)) none;decide+kernel) rfl⟩
 | o2 x a b=>exact⟨fQ (k:=2) (Y7 h.1) (by show ¬cW 3 (some 1) (some (1+2));decide+kernel) rfl,iC (k:=2) (Y7 h.1) (by show ¬cW 3 (some (1+2)) none;decide+kernel) rfl⟩
 | o3 a b c=>exact⟨fQ (k:=3) rfl (by show ¬cW 4 (some 1) (some (1+3));decide+kernel) rfl,iC (k:=3) rfl (by show ¬cW 4 (some (1+3)) none;decide+kernel) rfl⟩
theorem Gr.GQ{base st:Hs}{rr:Nat}{o:Ob}(h:base.length<=rr)(g:Gr base st):Gr base (st.set rr o):=⟨by simpa using g.1,λj hj=>by rw[a9 (by omega)];exact g.2 j hj⟩
theorem lr{α ι:Type}{ck:Hs->Prop}{gt:ι->Wv->Hs->Re Bool}{ge:ι->Wv->Hs->Re Wv}{rr:Nat}(f g:α->Wv)(hck:∀st,ck st)(ht:∀i v st,gt i v st= .ok true st) :
  ∀(ws:List α),(∀a∈ws,∀st,∃st',Gr st st'/\∀i,ge i (f a) st= .ok (g a) st')->∀(acc:List Wv)(st:Hs),st[rr]? =some (.lst acc)->acc.length+ws.length < lim->
   ∃st',st'[rr]? =some (.lst (acc++ws.map g))/\(∀base:Hs,base.length<=rr->Gr base st->Gr base st')/\∀i,i7 ck (gt i) (ge i) rr (ws.map f) st=some st'
 | [],_,acc,st,hg,_=>⟨st,by simpa using hg,λ_ _ h=>h,λ_=>rfl⟩
 | a::r,h,acc,st,hg,hl=>by
  have hl':acc.length+(r.length+1) < lim:=hl
  obtain⟨s1,g1,e1⟩:=h a aK st
  have Y8:=g1.get hg
  obtain⟨s2,g2,k2,e2⟩:=lr (ck:=ck) (gt:=gt) (ge:=ge) f g hck ht r (λb hb=>h b (aJ _ hb)) (acc++[g a]) (s1.set rr (.lst (acc++[g a]))) (cK Y8) (by simp;omega)
  refine⟨s2,by simpa using g2,λbase hb k=>k2 base hb (Gr.GQ hb (k.trans g1)),λi=>?_⟩
  rw[aD]
  unfold i7
  rw[ht]
  dsimp only
  rw[e1 i]
  dsimp only
  rw[GG Y8 (by omega)]
  dsimp only
  rw[if_pos (hck _)]
  exact e2 i
theorem uZ{l:Nat}{st:Hs}{ws:List Wv}(h:st[l]? =some (.lst ws)):f9 [.ref l] st= .ok (.tup ws) st:=by
 show(match av st l with | some ws=>Re.ok (Wv.tup ws) st | none=> .bad)=_
 rw[eS h]
theorem cat{x:Wv}{xs ys:List Wv}{st:Hs}(h:xs.length+ys.length<=100):cq (.tup (x::xs)) (.tup ys) st= .ok (.tup (x::(xs++ys))) st:=by
 show(if(x::xs).length+ys.length<=lim then Re.ok (Wv.tup (x::xs++ys)) st else .bad)=_
 rw[if_pos (by simp[lim];omega)]
 rfl
section
variable {L:LF} {wy:Wv}
def Rb(L:LF)(wy:Wv)(n:Nat)(f f':Fm):Prop:=∀st:Hs,∃st',Gr st st'/\∀p:Lm,bz p L n [f.w,.fn p [wy]] st= .ok f'.w st'
theorem LV{n:Nat}{ks:List (Fm×Fm)}(h:∀q∈ks,Rb L wy n q.1 q.2)(hl:ks.length<=3)(st:Hs):∃st',Gr st st'/\st'[st.length]? =some (.lst (ks.map λq=>q.2.w))/\
  ∀(p:Lm)(ρ:bw),ρ[1]? =some (some (.fn p [wy]))->cX [("goes",1)] (iT p L (bz p L n)) (fG p L (bz p L n)) ρ (none,ks.map λq=>q.1.w) st= .ok (.ref st.length) st':=by
 obtain⟨st',g1,g2,e⟩:=lr (ι:=Lm) (ck:=i9 (none,ks.map λq=>q.1.w)) (gt:=λp v=>iT p L (bz p L n) (some v::[some (.fn p [wy])])) (ge:=λp v=>fG p L (bz p L n) (some v::[some (.fn p [wy])])) (rr:=st.length) (λq:Fm×Fm=>q.1.w) (λq=>q.2.w) (λ_=>trivial) (λ_ _ _=>rfl) ks
  (λq hq s=>by
   obtain⟨s',k,e⟩:=h q hq s
   refine⟨s',k,λp=>?_⟩
   unfold fG
   simp[e p]) [] (st++[.lst []]) bQ (by simp[lim];omega)
 refine⟨st',g2 st (aj _) Gr.push,by simpa using g1,λp ρ hρ=>?_⟩
 have ec:eC [("goes",1)] ρ=[some (.fn p [wy])]:=by
  unfold eC
  simp[hρ]
 unfold cX
 rw[ec]
 have:=e p
 simp only[this]
theorem Be{n:Nat}{x:S}{ks:List (Fm×Fm)}{ws tl:List Wv}(hp:∀st,c9 [.tup (.str x::ws)] st= .ok (.tup (ks.map λq=>q.1.w)) st)(ht:∀st,eL [.tup (.str x::ws)] st= .ok (.tup tl) st)(hx:x≠"at")(ha:x∉AF)
  (h:∀q∈ks,Rb L wy n q.1 q.2)(hl:ks.length<=3)(hl2:tl.length<=3)(st:Hs):∃st',Gr st st'/\∀p:Lm,bz p L (n+1) [.tup (.str x::ws),.fn p [wy]] st= .ok (.tup (.str x::((ks.map λq=>q.2.w)++tl))) st':=by
 obtain⟨s1,g1,l1,e1⟩:=LV h hl st
 refine⟨s1,g1,λp=>?_⟩
 have bx:(x == ("at":S))=false:=beq_false_of_ne hx
 have c1:=cat (x:=.str x) (xs:=[]) (ys:=ks.map λq=>q.2.w) (st:=s1) (by simp;omega)
 have c2:=cat (x:=.str x) (xs:=ks.map λq=>q.2.w) (ys:=tl) (st:=s1) (by simp;omega)
 have e2:=e1 p [some (.tup (.str x::ws)),some (.fn p [wy]),some (.str x),some (.tup tl),none] rfl
 rw[hG]
 unfold cQ gJ
 simp[CT,ht,bx,xg,ha,hp,e2,uZ l1,c1,c2]
def oW:Option (List Int)->Wv
 | none=> .non
 | some l=>tI l
theorem SX{p:Lm}{n i:Nat}{g:GA}{ρ:bw}{st st1:Hs}{caps ws:List Wv}(h:ρ[i]? =some (some (.fn p caps)))(h1:g ρ st= .ok ws st1)(hn:ws.length=n):lY p n L i g ρ st=L caps ws st1:=by
 unfold lY
 rw[h]
 dsimp only
 rw[if_pos rfl,h1]
 show(if ws.length=n then L caps ws st1 else .bad)=_
 rw[if_pos hn]
def CU(x:S)(us:List Wv)(p':List Int):Option (List Int)->Wv
 | none=> .tup [.str "lost"]
 | some l'=> .tup (.str x::(us++[tI l',tI p']))
theorem LX{n:Nat}{x:S}{ks:List (Fm×Fm)}{ws:List Wv}{l p':List Int}{o:Option (List Int)}(hp:∀st,c9 [.tup (.str x::ws)] st= .ok (.tup (ks.map λq=>q.1.w)) st)(ht:∀st,eL [.tup (.str x::ws)] st= .ok (.tup [tI l,tI p']) st)(hx:x="at"\/x∈AF)
  (hL:∀st,∃st',Gr st st'/\L [wy] [.str x,tI l,tI p'] st= .ok (oW o) st')(h:∀q∈ks,Rb L wy n q.1 q.2)(hl:ks.length<=3)(st:Hs) :
  ∃st',Gr st st'/\∀p:Lm,bz p L (n+1) [.tup (.str x::ws),.fn p [wy]] st= .ok (CU x (ks.map λq=>q.2.w) p' o) st':=by
 obtain⟨s0,g0,e0⟩:=hL st
 have cond:∀(p:Lm)(st:Hs),IG (cm (ai oEq (af 2) (gC (Wv.str "at")))) (jX (az 1 fq (ae (af 2) ao))) [some (.tup (.str x::ws)),some (.fn p [wy]),some (.str x),some (.tup [tI l,tI p']),none] st= .ok true st:=λp st=>by
  by_cases c:x="at"
  ·subst c;simp
  ·have b:(x == ("at":S))=false:=beq_false_of_ne c
   have ha:x∈AF:=hx.resolve_left c
   simp[b,xg,ha]
 have cf:∀p:Lm,lY p 3 L 1 (ae (af 2) (ae (ai cg (af 3) (gC (.int 0))) (ae (ai cg (af 3) (gC (.int 1))) ao))) [some (.tup (.str x::ws)),some (.fn p [wy]),some (.str x),some (.tup [tI l,tI p']),none] st= .ok (oW o) s0:=λp=>by
  rw[SX (n:=3) (caps:=[wy]) (ws:=[.str x,tI l,tI p']) (st1:=st) rfl (by simp[CT,WG]) rfl]
  exact e0
 cases o with
 | none=>
  refine⟨s0,g0,λp=>?_⟩
  have UI:=cf p
  have is:Rg (oW none) .non s0= .ok (.bl true) s0:=rfl
  rw[hG]
  unfold cQ gJ
  simp[CT,ht,-Sx,cond,UI,is,CU]
 | some l'=>
  obtain⟨s1,g1,l1,e1⟩:=LV h hl s0
  refine⟨s1,g0.trans g1,λp=>?_⟩
  have UI:=cf p
  have is:Rg (oW (some l')) .non s0= .ok (.bl false) s0:=rfl
  have c1:=cat (x:=.str x) (xs:=[]) (ys:=ks.map λq=>q.2.w) (st:=s1) (by simp;omega)
  have c2:=cat (x:=.str x) (xs:=ks.map λq=>q.2.w) (ys:=[tI l',tI p']) (st:=s1) (by simp;omega)
  have e2:=e1 p [some (.tup (.str x::ws)),some (.fn p [wy]),some (.str x),some (.tup [tI l',tI p']),some (tI l')] rfl
  have oWs:oW (some l')=tI l':=rfl
  rw[oWs] at UI is
  rw[hG]
  unfold cQ gJ
  simp[CT,WG,ht,-Sx,cond,UI,is,hp,e2,uZ l1,c1,c2,CU]
def Fm.e_(g:S->List Int->List Int->Option (List Int)):Fm->Fm
 | .lit x ws=> .lit x ws
 | .pt x l p=>match g x l p with | none=> .lit "lost" [] | some l'=> .pt x l' p
 | .fd a l p=>match g "find" l p with | none=> .lit "lost" [] | some l'=> .fd (a.e_ g) l' p
 | .o1 x a=> .o1 x (a.e_ g)
 | .o2 x a b=> .o2 x (a.e_ g) (b.e_ g)
 | .o3 a b c=> .o3 (a.e_ g) (b.e_ g) (c.e_ g)
theorem LY{x:S}(h:x∈W1):x≠"at"/\x∉AF:=by
 have:∀x∈W1,x≠"at"/\x∉AF:=by decide+kernel
 exact this x h
theorem LZ{x:S}(h:x∈W2):x≠"at"/\x∉AF:=by
 have:∀x∈W2,x≠"at"/\x∉AF:=by decide+kernel
 exact this x h
theorem SY{x:S}(h:x∈AW):x∈AF:=by
 have:∀x∈AW,x∈AF:=by decide+kernel
 exact this x h
theorem iD{g:S->List Int->List Int->Option (List Int)}(hL:∀x l p,(xf l p\/vf l p)->∀st,∃st',Gr st st'/\L [wy] [.str x,tI l,tI p] st= .ok (oW (g x l p)) st') :
  ∀(f:Fm)(n:Nat),f.sh->f.dp<=n->Rb L wy n f (f.e_ g)
 | f,0,_,hd=>by cases f<;>simp[Fm.dp] at hd
 | .lit x ws,n+1,h,_=>λst=>by
  obtain⟨n1,n2⟩:=node (f:=.lit x ws) h
  have hx:x≠"at"/\x∉AF:=by
   rcases h with ⟨rfl,_⟩ | ⟨rfl,_⟩ | ⟨rfl,_⟩<;>decide+kernel
  have hl:ws.length<=3:=by
   rcases h with ⟨_,i,rfl⟩ | ⟨_,i,rfl,_⟩ | ⟨_,rfl⟩<;>simp
  exact Be (ks:=[]) n1 n2 hx.1 hx.2 (λ_ z=>by cases z) (bb _) hl st
 | .pt x l p,n+1,h,_=>λst=>by
  obtain⟨n1,n2⟩:=node (f:=.pt x l p) h
  have hx:x="at"\/x∈AF:=h.imp (λz=>z.1) λz=>SY z.1
  have hs:xf l p\/vf l p:=h.imp (λz=>z.2) λz=>z.2
  obtain⟨s1,g1,e1⟩:=LX (n:=n) (x:=x) (ws:=[tI l,tI p]) (ks:=[]) (o:=g x l p) n1 n2 hx (hL x l p hs) (λ_ z=>by cases z) (bb _) st
  refine⟨s1,g1,λq=>?_⟩
  show bz q L (n+1) [.tup (.str x::[tI l,tI p]),.fn q [wy]] st=_
  rw[e1 q]
  simp only[Fm.e_]
  cases g x l p<;>rfl
 | .fd a l p,n+1,h,hd=>λst=>by
  obtain⟨n1,n2⟩:=node (f:=.fd a l p) h
  have ih:=iD hL a n h.1 (by simp[Fm.dp] at hd;omega)
  obtain⟨s1,g1,e1⟩:=LX (n:=n) (x:="find") (ws:=[a.w,tI l,tI p]) (ks:=[(a,a.e_ g)]) (o:=g "find" l p) n1 n2 (.inr (by decide+kernel)) (hL "find" l p (.inr h.2)) (λq z=>by rw[List.mem_singleton.mp z];exact ih) (by simp) st
  refine⟨s1,g1,λq=>?_⟩
  show bz q L (n+1) [.tup (.str "find"::[a.w,tI l,tI p]),.fn q [wy]] st=_
  rw[e1 q]
  simp only[Fm.e_]
  cases g "find" l p<;>rfl
 | .o1 x a,n+1,h,hd=>λst=>by
  obtain⟨n1,n2⟩:=node (f:=.o1 x a) h
  have ih:=iD hL a n h.2 (by simp[Fm.dp] at hd;omega)
  exact Be (ks:=[(a,a.e_ g)]) n1 n2 (LY h.1).1 (LY h.1).2 (λq z=>by rw[List.mem_singleton.mp z];exact ih) (by simp) (by simp[Fm.tl]) st
 | .o2 x a b,n+1,h,hd=>λst=>by
  obtain⟨n1,n2⟩:=node (f:=.o2 x a b) h
  have i1:=iD hL a n h.2.1 (by simp[Fm.dp] at hd;omega)
  have i2:=iD hL b n h.2.2 (by simp[Fm.dp] at hd;omega)
  exact Be (ks:=[(a,a.e_ g),(b,b.e_ g)]) n1 n2 (LZ h.1).1 (LZ h.1).2 (List.forall_mem_cons.mpr ⟨i1,List.forall_mem_cons.mpr ⟨i2,λ_ z=>by cases z⟩⟩) (by simp) (by simp[Fm.tl]) st
 | .o3 a b c,n+1,h,hd=>λst=>by
  obtain⟨n1,n2⟩:=node (f:=.o3 a b c) h
  have i1:=iD hL a n h.1 (by simp[Fm.dp] at hd;omega)
  have i2:=iD hL b n h.2.1 (by simp[Fm.dp] at hd;omega)
  have i3:=iD hL c n h.2.2 (by simp[Fm.dp] at hd;omega)
  exact Be (x:="if") (ks:=[(a,a.e_ g),(b,b.e_ g),(c,c.e_ g)]) n1 n2 (by decide+kernel) (by decide+kernel) (List.forall_mem_cons.mpr ⟨i1,List.forall_mem_cons.mpr ⟨i2,List.forall_mem_cons.mpr ⟨i3,λ_ z=>by cases z⟩⟩⟩) (by simp) (by simp[Fm.tl]) st
end
def nx(n q s:Int):Int:=if q=1 then n else n+s
def y6(t:Int×Int×Int):Wv:=.tup [.int t.1,.int t.2.1,.int t.2.2]
theorem wM{n q s:Int}{st:Hs}:bV [some (.int n),some (.int q),some (.int s)] st= .ok (.int (nx n q s)) st:=by
 unfold bV nx
 by_cases c:q=1
 ·subst c;simp
 ·have b:(q == 1)=false:=beq_false_of_ne c
  simp[b,c]
theorem L0:∀(ts:List (Int×Int×Int))(acc:List Wv)(st:Hs),acc.length+ts.length < lim->fW (Av none) 3 (λv=>cU (v.map some++[])) (λv=>bV (v.map some++[])) st.length (ts.map y6) (st++[.lst acc])=some (st++[.lst (acc++ts.map λt=> .int (nx t.1 t.2.1 t.2.2))])
 | [],acc,st,_=>by simp[fW]
 | t::r,acc,st,hl=>by
  have hl':acc.length+(r.length+1) < lim:=hl
  rw[aD]
  unfold fW
  have e1:EY 3 (y6 t)=some [.int t.1,.int t.2.1,.int t.2.2]:=rfl
  rw[e1]
  dsimp only
  have e2:cU (jJ some [Wv.int t.1,.int t.2.1,.int t.2.2]++[]) (st++[.lst acc])= .ok true (st++[.lst acc]):=rfl
  rw[e2]
  dsimp only
  have e3:bV (jJ some [Wv.int t.1,.int t.2.1,.int t.2.2]++[]) (st++[.lst acc])= .ok (.int (nx t.1 t.2.1 t.2.2)) (st++[.lst acc]):=wM
  rw[e3]
  dsimp only
  rw[uN (by omega)]
  dsimp only
  rw[if_pos (show Av none _ from trivial),L0 r (acc++[Wv.int (nx t.1 t.2.1 t.2.2)]) st (by simp;omega)]
  simp
theorem stepped{l p s:List Int}{ts:List (Int×Int×Int)}{a b:Int}(h1:l.length<=p.length/\l.length<=4)(hz:qD (l.map Wv.int) (p.map Wv.int) ([a,b,a,b].map Wv.int)=ts.map y6)(hl:ts.length<=4)(st:Hs) :
  gK [tI l,tI p,tI [a,b]] st= .ok (tI (ts.map λt=>nx t.1 t.2.1 t.2.2)) (st++[.lst (ts.map λt=> .int (nx t.1 t.2.1 t.2.2))]):=by
 have c1:cq (tI [a,b]) (tI [a,b]) st= .ok (.tup [.int a,.int b,.int a,.int b]) st:=cat (x:=.int a) (xs:=[.int b]) (ys:=[.int a,.int b]) (by simp)
 have z:Om [tI l,tI p,.tup [.int a,.int b,.int a,.int b]] st= .ok (none,ts.map y6) st:=by
  show(if(l.map Wv.int).length<=(p.map Wv.int).length/\(l.map Wv.int).length<=([a,b,a,b].map Wv.int).length then Re.ok (none,qD (l.map Wv.int) (p.map Wv.int) ([a,b,a,b].map Wv.int)) st else .bad)=_
  rw[if_pos (by simpa using h1),hz]
 have r:kg 3 [] cU bV [some (tI l),some (tI p),some (tI [a,b])] (none,ts.map y6) st= .ok (.ref st.length) (st++[.lst (ts.map λt=> .int (nx t.1 t.2.1 t.2.2))]):=by
  unfold kg
  have:=L0 ts [] st (by simp[lim];omega)
  show(match fW (Av none) 3 (λv=>cU (v.map some++[])) (λv=>bV (v.map some++[])) st.length (ts.map y6) (st++[.lst []]) with | some mq=>Re.ok (Wv.ref st.length) mq | none=> .bad)=_
  rw[this]
  simp
 have gz:sO (ae (af 0) (ae (af 1) (ae (ai cq (af 2) (af 2)) ao))) [some (tI l),some (tI p),some (tI [a,b])] st= .ok (none,ts.map y6) st:=by
  unfold sO
  simp[c1,z]
 have gc:lX 3 [] (sO (ae (af 0) (ae (af 1) (ae (ai cq (af 2) (af 2)) ao)))) cU bV [some (tI l),some (tI p),some (tI [a,b])] st= .ok (.ref st.length) (st++[.lst (ts.map λt=> .int (nx t.1 t.2.1 t.2.2))]):=by
  unfold lX
  rw[gz]
  exact r
 have tc:f9 [.ref st.length] (st++[.lst (ts.map λt=> .int (nx t.1 t.2.1 t.2.2))])= .ok (tI (ts.map λt=>nx t.1 t.2.1 t.2.2)) (st++[.lst (ts.map λt=> .int (nx t.1 t.2.1 t.2.2))]):=by
  rw[uZ bQ]
  unfold tI
  simp
 unfold gK cQ nW
 simp[gc,tc]
def stp:List Int->List Int->Int->Int->List Int
 | x::l,q::p,a,b=>nx x q a::stp l p b a
 | _,_,_,_=>[]
theorem y9{l p:List Int}{a b:Int}(h:xf l p\/vf l p)(st:Hs):∃st',Gr st st'/\gK [tI l,tI p,tI [a,b]] st= .ok (tI (stp l p a b)) st':=by
 rcases h with ⟨x,y,q,r,rfl,rfl,_⟩ | ⟨x,y,z,w,q,r,s,t,rfl,rfl,_⟩
 ·exact⟨_,Gr.push,stepped (s:=[]) (ts:=[(x,q,a),(y,r,b)]) ⟨by simp,by simp⟩ rfl (by simp) st⟩
 ·exact⟨_,Gr.push,stepped (s:=[]) (ts:=[(x,q,a),(y,r,b),(z,s,a),(w,t,b)]) ⟨by simp,by simp⟩ rfl (by simp) st⟩
theorem Pd{l p:List Int}{a b:Int}(h:xf l p):xf (stp l p a b) p:=by
 obtain⟨x,y,q,r,rfl,rfl,h⟩:=h
 exact⟨_,_,q,r,rfl,rfl,h⟩
theorem Bf{l p:List Int}{a b:Int}(h:vf l p):vf (stp l p a b) p:=by
 obtain⟨x,y,z,w,q,r,s,t,rfl,rfl,h⟩:=h
 exact⟨_,_,_,_,q,r,s,t,rfl,rfl,h⟩
instance {a b:Int}:Decidable (hR a b):=by unfold hR;infer_instance
instance {a b c d:Int}:Decidable (nh a b c d):=by unfold nh;infer_instance
instance:∀l:List Int,Decidable (Fits l)
 | []=>isFalse (λh=>h)
 | [_]=>isFalse (λh=>h)
 | [a,b]=>inferInstanceAs (Decidable (hR a b))
 | [_,_,_]=>isFalse (λh=>h)
 | [a,b,c,d]=>inferInstanceAs (Decidable (nh a b c d))
 | _::_::_::_::_::_=>isFalse (λh=>h)
theorem S6{i j:Int}{st:Hs}(h:(-1000000<=i/\i<=1000000)\/(-1000000<=j/\j<=1000000)):cR (.int i) (.int j) st= .ok (.int (i * j)) st:=by
 rcases h with h | h
 ·exact A9 (by omega) (by omega)
 ·exact mul_r (by omega) (by omega)
theorem ix4{a b c d:Wv}{st:Hs}:cg (.tup [a,b,c,d]) (.int 0) st= .ok a st/\cg (.tup [a,b,c,d]) (.int 1) st= .ok b st/\cg (.tup [a,b,c,d]) (.int 2) st= .ok c st/\cg (.tup [a,b,c,d]) (.int 3) st= .ok d st :=
 ⟨jq (L2.gq (j:=0) rfl),jq (L2.gq (j:=1) rfl),jq (L2.gq (j:=2) rfl),jq (L2.gq (j:=3) rfl)⟩
def n6(l:List Int):Option (List Int):=if Fits l then some l else none
def g1(a b:Int):S->List Int->List Int->Option (List Int):=λ_ l p=>some (stp l p (-a) (-b))
theorem jK(g:S->List Int->List Int->Option (List Int)):∀f:Fm,(f.e_ g).dp<=f.dp
 | .lit _ _=>aj _
 | .pt x l p=>by simp only[Fm.e_];cases g x l p<;>simp[Fm.dp]
 | .fd a l p=>by
  have:=jK g a
  simp only[Fm.e_]
  cases g "find" l p<;>simp only[Fm.dp]<;>omega
 | .o1 x a=>by have:=jK g a;simp only[Fm.e_,Fm.dp];omega
 | .o2 x a b=>by have:=jK g a;have:=jK g b;simp only[Fm.e_,Fm.dp];omega
 | .o3 a b c=>by have:=jK g a;have:=jK g b;have:=jK g c;simp only[Fm.e_,Fm.dp];omega
theorem kJ(a b:Int):∀f:Fm,f.sh->(f.e_ (g1 a b)).sh
 | .lit _ _,h=>h
 | .pt x l p,h=>h.imp (λz=>⟨z.1,Pd z.2⟩) λz=>⟨z.1,Bf z.2⟩
 | .fd f l p,h=>⟨kJ a b f h.1,Bf h.2⟩
 | .o1 x f,h=>⟨h.1,kJ a b f h.2⟩
 | .o2 x f g,h=>⟨h.1,kJ a b f h.2.1,kJ a b g h.2.2⟩
 | .o3 f g k,h=>⟨kJ a b f h.1,kJ a b g h.2.1,kJ a b k h.2.2⟩
theorem WH{FL:Qa}{i:Nat}{g gb:GE}{ρ:bw}{st st1:Hs}{w wy:Wv}{r:Re Wv}(h1:g ρ st= .ok w st1)(h2:ρ[i]? =some (some wy))(h3:∀p,FL p (mU gb) [w,.fn p [wy]] st1=r):B4 FL i g gb ρ st=r:=by
 unfold B4
 rw[h1]
 show(match ρ[i]? with | some (some wy)=>sN λp=>FL p (mU gb) [w,.fn p [wy]] st1 | _=> .bad)=r
 rw[h2]
 exact Fc h3
theorem KO{f:Fm}{a b:Int}(h:f.sh)(hd:f.dp<=8)(st:Hs):∃st',Gr st st'/\eM [f.w,tI [a,b]] st= .ok (f.e_ (g1 a b)).w st':=by
 have hL:∀x l p,(xf l p\/vf l p)->∀st,∃st',Gr st st'/\mU gG [tI [-a,-b]] [.str x,tI l,tI p] st= .ok (oW (g1 a b x l p)) st':=λx l p hs st=>by
  obtain⟨s1,k1,e1⟩:=y9 (a:=-a) (b:=-b) hs st
  refine⟨s1,k1,?_⟩
  unfold mU gG
  simp[e1,g1,oW]
 obtain⟨s1,k1,e1⟩:=iD hL f 8 h hd st
 refine⟨s1,k1,?_⟩
 have gl:=WH (FL:=bC) (i:=2) (g:=af 0) (gb:=gG) (ρ:=[some f.w,some (tI [a,b]),some (tI [-a,-b])]) (st:=st) rfl rfl e1
 have i0:cg (tI [a,b]) (.int 0) st= .ok (.int a) st:=CT
 have i1:cg (tI [a,b]) (.int 1) st= .ok (.int b) st:=WG
 have t2:oP [.int (-a),.int (-b)] st= .ok (tI [-a,-b]) st:=jo
 unfold eM cQ nY
 simp[i0,i1,-jo,t2,gl]
theorem bR{i:Nat}{gb:GS}{w:Wv}{r:List Wv}{ρ ρ':bw}{st st':Hs}(h:gb (ρ.set i (some w)) st= .nx ρ' st'):dh i gb (w::r) ρ st=dh i gb r ρ' st':=by
 rw[dh,h]
theorem lu{i:Nat}{gb:GS}{w v:Wv}{r:List Wv}{ρ:bw}{st st':Hs}(h:gb (ρ.set i (some w)) st= .rt v st'):dh i gb (w::r) ρ st= .rt v st':=by
 rw[dh,h]
def lx(n q u v:Int):Int:=n+(1 - q) * (v - u)
theorem CV{l p h t:List Int}{k:Int}{x q u v:Int}(hx:L2.mD (l.map Wv.int) k=some (.int x))(hq:L2.mD (p.map Wv.int) k=some (.int q))(hu:L2.mD (h.map Wv.int) (k.fmod 2)=some (.int u))(hv:L2.mD (t.map Wv.int) (k.fmod 2)=some (.int v))(q01:xw q){acc:List Wv}(ha:acc.length<=10){st:Hs}{o:Option Wv} :
  dR ([some (tI l),some (tI p),some (tI h),some (tI t),some (.ref st.length),o].set 5 (some (.int k))) (st++[.lst acc])= .nx [some (tI l),some (tI p),some (tI h),some (tI t),some (.ref st.length),some (.int k)] (st++[.lst (acc++[.int (lx x q u v)])]):=by
 have x1:∀s:Hs,cg (tI l) (.int k) s= .ok (.int x) s:=λs=>jq hx
 have x2:∀s:Hs,cg (tI p) (.int k) s= .ok (.int q) s:=λs=>jq hq
 have x3:∀s:Hs,cg (tI h) (.int (k.fmod 2)) s= .ok (.int u) s:=λs=>jq hu
 have x4:∀s:Hs,cg (tI t) (.int (k.fmod 2)) s= .ok (.int v) s:=λs=>jq hv
 have m1:∀s:Hs,cR (.int (1 - q)) (.int (v - u)) s= .ok (.int ((1 - q) * (v - u))) s:=λs=>S6 (.inl (by rcases q01 with rfl | rfl<;>decide))
 have ap:=uN (st:=st) (acc:=acc) (v:=.int (x+(1 - q) * (v - u))) (by unfold lim;omega)
 unfold dR lx
 simp[KH (mt:=iI) eG,x1,x2,x3,x4,m1,jP,ap]
def u0:List Int->List Int->Int->Int->Int->Int->List Int
 | x::l,q::p,a,b,c,d=>lx x q a c::u0 l p b a d c
 | _,_,_,_,_,_=>[]
theorem led{l p:List Int}{a b c d:Int}(h:xf l p\/vf l p)(st:Hs):∃st',Gr st st'/\cZ [tI l,tI p,tI [a,b],tI [c,d]] st= .ok (tI (u0 l p a b c d)) st':=by
 rcases h with ⟨x,y,q,r,rfl,rfl,h1,h2⟩ | ⟨x,y,z,w,q,r,s,t,rfl,rfl,h1,h2,h3,h4⟩
 ·refine⟨st++[.lst ([lx x q a c,lx y r b d].map Wv.int)],Gr.push,?_⟩
  have ln:mH [tI [x,y]] (st++[.lst []])= .ok (.int 2) (st++[.lst []]):=rfl
  have Ji:di 0 2=[.int 0,.int 1]:=rfl
  have loop:dh 5 dR [.int 0,.int 1] [some (tI [x,y]),some (tI [q,r]),some (tI [a,b]),some (tI [c,d]),some (.ref st.length),none] (st++[.lst []])= .nx [some (tI [x,y]),some (tI [q,r]),some (tI [a,b]),some (tI [c,d]),some (.ref st.length),some (.int 1)] (st++[.lst ([lx x q a c,lx y r b d].map Wv.int)]):=by
   rw[bR (CV (l:=[x,y]) (p:=[q,r]) (h:=[a,b]) (t:=[c,d]) (k:=0) rfl rfl rfl rfl h1 (by simp)),bR (CV (l:=[x,y]) (p:=[q,r]) (h:=[a,b]) (t:=[c,d]) (k:=1) rfl rfl rfl rfl h2 (by simp))]
   rfl
  have c2:jY 2:=yQ (by decide) (by decide)
  unfold cZ cQ jC
  have tc:f9 [.ref st.length] (st++[.lst ([lx x q a c,lx y r b d].map Wv.int)])= .ok (tI (u0 [x,y] [q,r] a b c d)) (st++[.lst ([lx x q a c,lx y r b d].map Wv.int)]):=uZ bQ
  simp only[aD,o_] at loop tc
  simp[ln,c2,Ji,loop,tc]
 ·refine⟨st++[.lst ([lx x q a c,lx y r b d,lx z s a c,lx w t b d].map Wv.int)],Gr.push,?_⟩
  have ln:mH [tI [x,y,z,w]] (st++[.lst []])= .ok (.int 4) (st++[.lst []]):=rfl
  have Qi:di 0 4=[.int 0,.int 1,.int 2,.int 3]:=rfl
  have loop:dh 5 dR [.int 0,.int 1,.int 2,.int 3] [some (tI [x,y,z,w]),some (tI [q,r,s,t]),some (tI [a,b]),some (tI [c,d]),some (.ref st.length),none] (st++[.lst []])= .nx [some (tI [x,y,z,w]),some (tI [q,r,s,t]),some (tI [a,b]),some (tI [c,d]),some (.ref st.length),some (.int 3)] (st++[.lst ([lx x q a c,lx y r b d,lx z s a c,lx w t b d].map Wv.int)]):=by
   rw[bR (CV (l:=[x,y,z,w]) (p:=[q,r,s,t]) (h:=[a,b]) (t:=[c,d]) (k:=0) rfl rfl rfl rfl h1 (by simp)),bR (CV (l:=[x,y,z,w]) (p:=[q,r,s,t]) (h:=[a,b]) (t:=[c,d]) (k:=1) rfl rfl rfl rfl h2 (by simp)),
    bR (CV (l:=[x,y,z,w]) (p:=[q,r,s,t]) (h:=[a,b]) (t:=[c,d]) (k:=2) rfl rfl rfl rfl h3 (by simp)),bR (CV (l:=[x,y,z,w]) (p:=[q,r,s,t]) (h:=[a,b]) (t:=[c,d]) (k:=3) rfl rfl rfl rfl h4 (by simp))]
   rfl
  have c4:jY 4:=yQ (by decide) (by decide)
  unfold cZ cQ jC
  have tc:f9 [.ref st.length] (st++[.lst ([lx x q a c,lx y r b d,lx z s a c,lx w t b d].map Wv.int)])= .ok (tI (u0 [x,y,z,w] [q,r,s,t] a b c d)) (st++[.lst ([lx x q a c,lx y r b d,lx z s a c,lx w t b d].map Wv.int)]):=uZ bQ
  simp only[aD,o_] at loop tc
  simp[ln,c4,Qi,loop,tc]
theorem Pe{l p:List Int}{a b c d:Int}(h:xf l p\/vf l p):xf (u0 l p a b c d) p\/vf (u0 l p a b c d) p:=by
 rcases h with ⟨x,y,q,r,rfl,rfl,h⟩ | ⟨x,y,z,w,q,r,s,t,rfl,rfl,h⟩
 ·exact .inl ⟨_,_,q,r,rfl,rfl,h⟩
 ·exact .inr ⟨_,_,_,_,q,r,s,t,rfl,rfl,h⟩
theorem CW{l:List Int}{k x m:Int}(hx:L2.mD (l.map Wv.int) k=some (.int x))(hm:L2.mD ([98,25].map Wv.int) (k.fmod 2)=some (.int m)){o:Option Wv}(st:Hs) :
  ∃st',Gr st st'/\bI ([some (tI l),o,none].set 1 (some (.int k))) st=if 0<=x/\x<=m then .nx [some (tI l),some (.int k),none] st' else .rt (.bl false) st':=by
 have x1:cg (tI l) (.int k) st= .ok (.int x) st:=jq hx
 have x2:cg (.ref st.length) (.int (k.fmod 2)) (st++[.lst [.int 98,.int 25]])= .ok (.int m) (st++[.lst [.int 98,.int 25]]):=yP eG hm
 unfold bI
 by_cases c1:0<=x
 ·by_cases c2:x<=m
  ·exact⟨_,Gr.push,by simp[x1,x2,c1,c2,jP];rfl⟩
  ·exact⟨_,Gr.push,by simp[x1,x2,c1,c2,jP];rfl⟩
 ·exact⟨st,Gr.refl,by simp[x1,c1]⟩
theorem GR{l p:List Int}(h:xf l p\/vf l p)(st:Hs):∃st',Gr st st'/\bW [tI l] st= .ok (.bl (decide (Fits l))) st':=by
 rcases h with ⟨x,y,q,r,rfl,rfl,_⟩ | ⟨x,y,z,w,q,r,s,t,rfl,rfl,_⟩
 ·have ln:∀s:Hs,mH [tI [x,y]] s= .ok (.int 2) s:=λ_=>rfl
  have Ji:di 0 2=[.int 0,.int 1]:=rfl
  have c2:jY 2:=yQ (by decide) (by decide)
  obtain⟨s1,k1,e1⟩:=CW (l:=[x,y]) (k:=0) (x:=x) (m:=98) rfl rfl (o:=none) st
  obtain⟨s2,k2,e2⟩:=CW (l:=[x,y]) (k:=1) (x:=y) (m:=25) rfl rfl (o:=some (.int 0)) s1
  by_cases a1:0<=x/\x<=98
  ·rw[if_pos a1] at e1
   by_cases a2:0<=y/\y<=25
   ·rw[if_pos a2] at e2
    have f:decide (Fits [x,y])=true:=decide_eq_true (show hR x y from⟨a1.1,a1.2,a2.1,a2.2⟩)
    have loop:dh 1 bI [.int 0,.int 1] [some (tI [x,y]),none,none] st= .nx [some (tI [x,y]),some (.int 1),none] s2:=by rw[bR e1,bR e2];rfl
    refine⟨s2,k1.trans k2,?_⟩
    unfold bW cQ c_
    simp[ln,c2,Ji,loop,f]
   ·rw[if_neg a2] at e2
    have f:decide (Fits [x,y])=false:=decide_eq_false λ(z:hR x y)=>a2 ⟨z.2.2.1,z.2.2.2⟩
    have loop:dh 1 bI [.int 0,.int 1] [some (tI [x,y]),none,none] st= .rt (.bl false) s2:=by rw[bR e1,lu e2]
    refine⟨s2,k1.trans k2,?_⟩
    unfold bW cQ c_
    simp[ln,c2,Ji,loop,f]
  ·rw[if_neg a1] at e1
   have f:decide (Fits [x,y])=false:=decide_eq_false λ(z:hR x y)=>a1 ⟨z.1,z.2.1⟩
   have loop:dh 1 bI [.int 0,.int 1] [some (tI [x,y]),none,none] st= .rt (.bl false) s1:=by rw[lu e1]
   refine⟨s1,k1,?_⟩
   unfold bW cQ c_
   simp[ln,c2,Ji,loop,f]
 ·have ln:∀s:Hs,mH [tI [x,y,z,w]] s= .ok (.int 4) s:=λ_=>rfl
  have Qi:di 0 4=[.int 0,.int 1,.int 2,.int 3]:=rfl
  have c4:jY 4:=yQ (by decide) (by decide)
  obtain⟨s1,k1,e1⟩:=CW (l:=[x,y,z,w]) (k:=0) (x:=x) (m:=98) rfl rfl (o:=none) st
  obtain⟨s2,k2,e2⟩:=CW (l:=[x,y,z,w]) (k:=1) (x:=y) (m:=25) rfl rfl (o:=some (.int 0)) s1
  obtain⟨s3,k3,e3⟩:=CW (l:=[x,y,z,w]) (k:=2) (x:=z) (m:=98) rfl rfl (o:=some (.int 1)) s2
  obtain⟨s4,k4,e4⟩:=CW (l:=[x,y,z,w]) (k:=3) (x:=w) (m:=25) rfl rfl (o:=some (.int 2)) s3
  have fin:∀s':Hs,dh 1 bI [.int 0,.int 1,.int 2,.int 3] [some (tI [x,y,z,w]),none,none] st= .rt (.bl false) s'->¬Fits [x,y,z,w]->bW [tI [x,y,z,w]] st= .ok (.bl (decide (Fits [x,y,z,w]))) s':=λs' loop f=>by
   rw[decide_eq_false f]
   unfold bW cQ c_
   simp[ln,c4,Qi,loop]
  by_cases a1:0<=x/\x<=98
  ·rw[if_pos a1] at e1
   by_cases a2:0<=y/\y<=25
   ·rw[if_pos a2] at e2
    by_cases a3:0<=z/\z<=98
    ·rw[if_pos a3] at e3
     by_cases a4:0<=w/\w<=25
     ·rw[if_pos a4] at e4
      have loop:dh 1 bI [.int 0,.int 1,.int 2,.int 3] [some (tI [x,y,z,w]),none,none] st= .nx [some (tI [x,y,z,w]),some (.int 3),none] s4:=by rw[bR e1,bR e2,bR e3,bR e4];rfl
      refine⟨s4,((k1.trans k2).trans k3).trans k4,?_⟩
      obtain⟨i0,i1,i2,i3⟩:=ix4 (a:=.int x) (b:=.int y) (c:=.int z) (d:=.int w) (st:=s4)
      have m1:cR (.int (z - x+1)) (.int (w - y+1)) s4= .ok (.int ((z - x+1) * (w - y+1))) s4:=S6 (.inl ⟨by omega,by omega⟩)
      have WI:cg (tI [x,y,z,w]) (.int 0) s4= .ok (.int x) s4:=i0
      have WJ:cg (tI [x,y,z,w]) (.int 1) s4= .ok (.int y) s4:=i1
      have WK:cg (tI [x,y,z,w]) (.int 2) s4= .ok (.int z) s4:=i2
      have WL:cg (tI [x,y,z,w]) (.int 3) s4= .ok (.int w) s4:=i3
      unfold bW cQ c_
      by_cases b1:x<=z
      ·by_cases b2:y<=w
       ·have f:decide (Fits [x,y,z,w])=decide ((z - x+1) * (w - y+1)<=300):=by
         congr 1
         apply propext
         exact⟨λ(q:nh x y z w)=>q.2.2.2.2.2.2,λq=>(show nh x y z w from⟨a1.1,b1,a3.2,a2.1,b2,a4.2,q⟩)⟩
        simp[ln,c4,Qi,loop,WI,WJ,WK,WL,b1,b2,m1,f]
       ·have f:decide (Fits [x,y,z,w])=false:=decide_eq_false λ(q:nh x y z w)=>b2 q.2.2.2.2.1
        simp[ln,c4,Qi,loop,WI,WJ,WK,WL,b1,b2,f]
      ·have f:decide (Fits [x,y,z,w])=false:=decide_eq_false λ(q:nh x y z w)=>b1 q.2.1
       simp[ln,c4,Qi,loop,WI,WJ,WK,WL,b1,f]
     ·rw[if_neg a4] at e4
      exact⟨s4,((k1.trans k2).trans k3).trans k4,fin s4 (by rw[bR e1,bR e2,bR e3,lu e4]) λ(q:nh x y z w)=>a4 ⟨uf q.2.2.2.1 q.2.2.2.2.1,q.2.2.2.2.2.1⟩⟩
    ·rw[if_neg a3] at e3
     exact⟨s3,(k1.trans k2).trans k3,fin s3 (by rw[bR e1,bR e2,lu e3]) λ(q:nh x y z w)=>a3 ⟨uf q.1 q.2.1,q.2.2.1⟩⟩
   ·rw[if_neg a2] at e2
    exact⟨s2,k1.trans k2,fin s2 (by rw[bR e1,lu e2]) λ(q:nh x y z w)=>a2 ⟨q.2.2.2.1,uf q.2.2.2.2.1 q.2.2.2.2.2.1⟩⟩
  ·rw[if_neg a1] at e1
   exact⟨s1,k1,fin s1 (by rw[lu e1]) λ(q:nh x y z w)=>a1 ⟨q.1,uf q.2.1 q.2.2.1⟩⟩
def LW:List S:=["num","text","lost"]
def RW:List S:=["at","sum","count","least","greatest","find"]
def Cp(n:Nat)(a b c d:Int)(f f':Fm):Prop:=∀st:Hs,∃st',Gr st st'/\aE n [f.w,tI [a,b],tI [c,d]] st= .ok f'.w st'
theorem L4{n:Nat}{a b c d:Int}{gt ge:GE->GE}{ks:List (Fm×Fm)}(h:∀q∈ks,Cp n a b c d q.1 q.2)(hl:ks.length<=3)(st:Hs){ct:GT}{ce:GE}(ht:∀ρ s,ct ρ s= .ok true s)(he:ce=az 3 (aE n) (ae (af 0) (ae (af 1) (ae (af 2) ao)))){ρ:bw}(h1:ρ[1]? =some (some (tI [a,b])))(h2:ρ[2]? =some (some (tI [c,d]))) :
  ∃st',Gr st st'/\st'[st.length]? =some (.lst (ks.map λq=>q.2.w))/\cX [("here",1),("there",2)] ct ce ρ (none,ks.map λq=>q.1.w) st= .ok (.ref st.length) st':=by
 subst he
 have ec:eC [("here",1),("there",2)] ρ=[some (tI [a,b]),some (tI [c,d])]:=by
  unfold eC
  simp[h1,h2]
 obtain⟨st',g1,g2,e⟩:=lr (ι:=Unit) (ck:=i9 (none,ks.map λq=>q.1.w)) (gt:=λ_ v=>ct (some v::[some (tI [a,b]),some (tI [c,d])])) (ge:=λ_ v=>az 3 (aE n) (ae (af 0) (ae (af 1) (ae (af 2) ao))) (some v::[some (tI [a,b]),some (tI [c,d])])) (rr:=st.length) (λq:Fm×Fm=>q.1.w) (λq=>q.2.w) (λ_=>trivial) (λ_ _ _=>ht _ _) ks
  (λq hq s=>by
   obtain⟨s',k,e⟩:=h q hq s
   refine⟨s',k,λ_=>?_⟩
   simp[e]) [] (st++[.lst []]) bQ (by simp[lim];omega)
 refine⟨st',g2 st (aj _) Gr.push,by simpa using g1,?_⟩
 unfold cX
 rw[ec]
 have:=e ()
 simp only[this]
section
variable {n:Nat} {a b c d:Int}
theorem Pf{x:S}{st:Hs}:oK (.str x) (.tup [.str "num",.str "text",.str "lost"]) st= .ok (.bl (decide (x∈LW))) st:=Pc (ys:=LW)
theorem inR{x:S}{st:Hs}:oK (.str x) (.tup [.str "at",.str "sum",.str "count",.str "least",.str "greatest",.str "find"]) st= .ok (.bl (decide (x∈RW))) st:=Pc (ys:=RW)
theorem S8{x0 x1 x2 x3 x4 x5:Wv}{st:Hs}:oP [x0,x1,x2,x3,x4,x5] st= .ok (.tup [x0,x1,x2,x3,x4,x5]) st:=qT (by simp[lim])
theorem cpL{x:S}{ws:List Wv}(hx:x∈LW)(st:Hs):aE (n+1) [.tup (.str x::ws),tI [a,b],tI [c,d]] st= .ok (.tup (.str x::ws)) st:=by
 rw[cN]
 unfold cQ cC
 simp[CT,Pf,hx]
theorem WM{x:S}{ks:List (Fm×Fm)}(hx:x∉LW)(hr:x∉RW)(h:∀q∈ks,Cp n a b c d q.1 q.2)(hl:ks.length<=3)(hs:∀st,vV (.tup (.str x::ks.map λq=>q.1.w)) (some 1) none st= .ok (.tup (ks.map λq=>q.1.w)) st)(st:Hs) :
  ∃st',Gr st st'/\aE (n+1) [.tup (.str x::ks.map λq=>q.1.w),tI [a,b],tI [c,d]] st= .ok (.tup (.str x::ks.map λq=>q.2.w)) st':=by
 obtain⟨s1,k1,l1,e1⟩:=L4 (gt:=id) (ge:=id) h hl st (ct:=iw (aE n)) (ce:=iz (aE n)) (λ_ _=>rfl) rfl (ρ:=[some (.tup (.str x::ks.map λq=>q.1.w)),some (tI [a,b]),some (tI [c,d]),some (.str x),none,none]) rfl rfl
 have c1:=cat (x:=.str x) (xs:=[]) (ys:=ks.map λq=>q.2.w) (st:=s1) (by simp;omega)
 refine⟨s1,k1,?_⟩
 rw[cN]
 unfold cQ cC
 simp[CT,Pf,inR,S8,hx,hr,hs,e1,uZ l1,c1]
theorem Y9{x:S}{ks:List (Fm×Fm)}{l p:List Int}(hx:x∉LW)(hr:x∈RW)(hsh:xf l p\/vf l p)(h:∀q∈ks,Cp n a b c d q.1 q.2)(hl:ks.length<=3)
  (i2:∀st,cg (.tup (.str x::((ks.map λq=>q.1.w)++[tI l,tI p]))) (.int (-2)) st= .ok (tI l) st)(i1:∀st,cg (.tup (.str x::((ks.map λq=>q.1.w)++[tI l,tI p]))) (.int (-1)) st= .ok (tI p) st)
  (hs:∀st,vV (.tup (.str x::((ks.map λq=>q.1.w)++[tI l,tI p]))) (some 1) (some (-2)) st= .ok (.tup (ks.map λq=>q.1.w)) st)(st:Hs) :
  ∃st',Gr st st'/\aE (n+1) [.tup (.str x::((ks.map λq=>q.1.w)++[tI l,tI p])),tI [a,b],tI [c,d]] st= .ok (CU x (ks.map λq=>q.2.w) p (n6 (u0 l p a b c d))) st':=by
 obtain⟨s1,k1,e1⟩:=led (a:=a) (b:=b) (c:=c) (d:=d) hsh st
 obtain⟨s2,k2,e2⟩:=GR (Pe (a:=a) (b:=b) (c:=c) (d:=d) hsh) s1
 generalize u0 l p a b c d=l' at e1 e2
 generalize hf:(.tup (.str x::((ks.map λq=>q.1.w)++[tI l,tI p])):Wv)=fw at i2 i1 hs
 have i0:∀st,cg fw (.int 0) st= .ok (.str x) st:=λst=>by rw[<-hf];exact CT
 by_cases cf:Fits l'
 ·rw[decide_eq_true cf] at e2
  obtain⟨s3,k3,l3,e3⟩:=L4 (gt:=id) (ge:=id) h hl s2 (ct:=iA (aE n)) (ce:=iB (aE n)) (λ_ _=>rfl) rfl (ρ:=[some fw,some (tI [a,b]),some (tI [c,d]),some (.str x),some (tI l'),none]) rfl rfl
  have c1:=cat (x:=.str x) (xs:=[]) (ys:=ks.map λq=>q.2.w) (st:=s3) (by simp;omega)
  have c2:=cat (x:=.str x) (xs:=ks.map λq=>q.2.w) (ys:=[tI l',tI p]) (st:=s3) (by simp;omega)
  refine⟨s3,(k1.trans k2).trans k3,?_⟩
  have fo:n6 l'=some l':=by unfold n6;rw[if_pos cf]
  rw[fo,cN]
  unfold cQ cC
  simp[i0,Pf,inR,S8,hx,hr,i1,i2,e1,e2,hs,e3,uZ l3,c1,c2,CU]
 ·rw[decide_eq_false cf] at e2
  refine⟨s2,k1.trans k2,?_⟩
  have fo:n6 l'=none:=by unfold n6;rw[if_neg cf]
  rw[fo,cN]
  unfold cQ cC
  simp[i0,Pf,inR,S8,hx,hr,i1,i2,e1,e2,CU]
def g3(a b c d:Int):S->List Int->List Int->Option (List Int):=λ_ l p=>n6 (u0 l p a b c d)
theorem u5{x:S}(h:x∈W1):x∉LW/\x∉RW:=by
 have:∀x∈W1,x∉LW/\x∉RW:=by decide+kernel
 exact this x h
theorem u6{x:S}(h:x∈W2):x∉LW/\x∉RW:=by
 have:∀x∈W2,x∉LW/\x∉RW:=by decide+kernel
 exact this x h
theorem L5{x:S}(h:x∈AW):x∉LW/\x∈RW:=by
 have:∀x∈AW,x∉LW/\x∈RW:=by decide+kernel
 exact this x h
theorem dc:∀(f:Fm)(n:Nat),f.sh->f.dp<=n->Cp n a b c d f (f.e_ (g3 a b c d))
 | f,0,_,hd=>by cases f<;>simp[Fm.dp] at hd
 | .lit x ws,n+1,h,_=>λst=>by
  have hx:x∈LW:=by rcases h with ⟨rfl,_⟩ | ⟨rfl,_⟩ | ⟨rfl,_⟩<;>decide+kernel
  exact⟨st,Gr.refl,cpL hx st⟩
 | .pt x l p,n+1,h,_=>λst=>by
  have hx:x∉LW/\x∈RW:=by
   rcases h with ⟨rfl,_⟩ | ⟨hx,_⟩
   ·decide+kernel
   ·exact L5 hx
  have hs:xf l p\/vf l p:=h.imp (λz=>z.2) λz=>z.2
  obtain⟨s1,g1,e1⟩:=Y9 (n:=n) (a:=a) (b:=b) (c:=c) (d:=d) (x:=x) (ks:=[]) (l:=l) (p:=p) hx.1 hx.2 hs (λ_ z=>by cases z) (bb _) (λ_=>jq rfl) (λ_=>jq rfl) (λ_=>oT (by show ¬cW 3 (some 1) (some (-2));decide+kernel) rfl) st
  refine⟨s1,g1,?_⟩
  show aE (n+1) [.tup (.str x::[tI l,tI p]),tI [a,b],tI [c,d]] st=_
  refine e1.trans ?_
  simp only[Fm.e_,g3]
  cases n6 (u0 l p a b c d)<;>rfl
 | .fd f l p,n+1,h,hd=>λst=>by
  have ih:=dc f n h.1 (by simp[Fm.dp] at hd;omega)
  obtain⟨s1,g1,e1⟩:=Y9 (n:=n) (a:=a) (b:=b) (c:=c) (d:=d) (x:="find") (ks:=[(f,f.e_ (g3 a b c d))]) (l:=l) (p:=p) (by decide+kernel) (by decide+kernel) (.inr h.2) (λq z=>by rw[List.mem_singleton.mp z];exact ih) (by simp) (λ_=>jq rfl) (λ_=>jq rfl) (λ_=>oT (by show ¬cW 4 (some 1) (some (-2));decide+kernel) rfl) st
  refine⟨s1,g1,?_⟩
  show aE (n+1) [.tup (.str "find"::[f.w,tI l,tI p]),tI [a,b],tI [c,d]] st=_
  refine e1.trans ?_
  simp only[Fm.e_,g3]
  cases n6 (u0 l p a b c d)<;>rfl
 | .o1 x f,n+1,h,hd=>λst=>by
  have i1:=dc f n h.2 (by simp[Fm.dp] at hd;omega)
  exact WM (ks:=[(f,f.e_ (g3 a b c d))]) (u5 h.1).1 (u5 h.1).2 (λq z=>by rw[List.mem_singleton.mp z];exact i1) (by simp) (λ_=>oT (by show ¬cW 2 (some 1) none;decide+kernel) rfl) st
 | .o2 x f g,n+1,h,hd=>λst=>by
  have i1:=dc f n h.2.1 (by simp[Fm.dp] at hd;omega)
  have i2:=dc g n h.2.2 (by simp[Fm.dp] at hd;omega)
  exact WM (ks:=[(f,f.e_ (g3 a b c d)),(g,g.e_ (g3 a b c d))]) (u6 h.1).1 (u6 h.1).2 (List.forall_mem_cons.mpr ⟨i1,List.forall_mem_cons.mpr ⟨i2,λ_ z=>by cases z⟩⟩) (by simp) (λ_=>oT (by show ¬cW 3 (some 1) none;decide+kernel) rfl) st
 | .o3 f g k,n+1,h,hd=>λst=>by
  have i1:=dc f n h.1 (by simp[Fm.dp] at hd;omega)
  have i2:=dc g n h.2.1 (by simp[Fm.dp] at hd;omega)
  have i3:=dc k n h.2.2 (by simp[Fm.dp] at hd;omega)
  exact WM (x:="if") (ks:=[(f,f.e_ (g3 a b c d)),(g,g.e_ (g3 a b c d)),(k,k.e_ (g3 a b c d))]) (by decide+kernel) (by decide+kernel) (List.forall_mem_cons.mpr ⟨i1,List.forall_mem_cons.mpr ⟨i2,List.forall_mem_cons.mpr ⟨i3,λ_ z=>by cases z⟩⟩⟩) (by simp) (λ_=>oT (by show ¬cW 4 (some 1) none;decide+kernel) rfl) st
end
def ky(p q:Int):List L2.Key:=[.inl p,.inl q]
theorem WN{p q:Int}:nJ (tI [p,q])=some (ky p q):=rfl
theorem WO{st:Hs}{l:Nat}{kvs:List (List L2.Key×Wv)}{p q:Int}{i j:Nat}{ρ:bw}(hi:ρ[i]? =some (some (.ref l)))(hj:ρ[j]? =some (some (tI [p,q])))(h:dq st[l]? =some kvs) :
  qJ (af i) (af j) ρ st= .ok ((bJ kvs (ky p q)).getD .non) st:=by
 have e1:af i ρ st= .ok (.ref l) st:=by unfold af;rw[hi]
 have e2:af j ρ st= .ok (tI [p,q]) st:=by unfold af;rw[hj]
 unfold qJ
 rw[e1]
 show(if _ then _ else _)=_
 rw[h,if_pos (show(some kvs).isSome=true from rfl),e2]
 show(match nJ (tI [p,q]),dq st[l]? with | some kk,some kvs=>Re.ok ((bJ kvs kk).getD .non) st | _,_=> .bad)=_
 rw[WN,h]
def HH:Wv->Bool
 | .tup _=>true
 | _=>false
theorem Hy{v:Wv}{st:Hs}(h:v= .non\/Cn v):nD iW ja [v,.ty "tuple"] st= .ok (.bl (HH v)) st:=by
 rcases h with rfl | ⟨i,rfl⟩ | ⟨x,rfl⟩ | ⟨f,rfl,_⟩<;>rfl
theorem xh{st:Hs}{l:Nat}{kvs:List (List L2.Key×Wv)}{p q:Int}(h:dq st[l]? =some kvs)(hk:∀v,bJ kvs (ky p q)=some v->Cn v) :
  cT [.ref l,tI [p,q]] st= .ok (.bl (HH ((bJ kvs (ky p q)).getD .non))) st:=by
 have e:=WO (i:=0) (j:=1) (ρ:=[some (.ref l),some (tI [p,q])]) rfl rfl h
 have t:=Hy (st:=st) (v:=(bJ kvs (ky p q)).getD .non) (by
  cases c:bJ kvs (ky p q) with
  | none=>exact .inl rfl
  | some v=>exact .inr (hk v c))
 unfold cT cQ iR
 simp[e,t]
theorem GU{x:S}{n:Nat}{st:Hs}:aG st n (.str x)=some (.str x):=by cases n<;>rfl
theorem GV{i:Int}{n:Nat}{st:Hs}:aG st n (.int i)=some (.int i):=by cases n<;>rfl
theorem GW:∀(l:List Int)(n:Nat),∃ds:List PyData,(∀st:Hs,dF (aG st n) (l.map Wv.int)=some ds)/\cu ds ds=true
 | [],n=>⟨[],λ_=>rfl,by simp[cu]⟩
 | i::r,n=>by
  obtain⟨ds,e1,e2⟩:=GW r n
  refine⟨.int i::ds,λst=>?_,by simp[cu,GH,e2]⟩
  rw[aD]
  unfold dF
  rw[GV,e1]
theorem u7(l:List Int)(n:Nat):∃d:PyData,(∀st:Hs,aG st (n+1) (tI l)=some d)/\aC d d=true:=by
 obtain⟨ds,e1,e2⟩:=GW l n
 refine⟨.tuple ds,λst=>?_,by simpa [aC] using e2⟩
 show(dF (aG st n) (l.map Wv.int)).map ia=_
 rw[e1]
 rfl
theorem tq{x:S}{n:Nat}{ws:List Wv}(h:∀w∈ws,∃d:PyData,(∀st:Hs,aG st n w=some d)/\aC d d=true):∃d:PyData,(∀st:Hs,aG st (n+1) (.tup (.str x::ws))=some d)/\aC d d=true:=by
 have key:∀ws:List Wv,(∀w∈ws,∃d:PyData,(∀st:Hs,aG st n w=some d)/\aC d d=true)->∃ds:List PyData,(∀st:Hs,dF (aG st n) ws=some ds)/\cu ds ds=true:=by
  intro ws
  induction ws with
  | nil=>exact λ_=>⟨[],λ_=>rfl,by simp[cu]⟩
  | cons w r ih=>
   intro h
   obtain⟨d,d1,d2⟩:=h w aK
   obtain⟨ds,e1,e2⟩:=ih λv hv=>h v (aJ _ hv)
   refine⟨d::ds,λst=>?_,by simp[cu,d2,e2]⟩
   unfold dF
   rw[d1,e1]
 obtain⟨ds,e1,e2⟩:=key ws h
 refine⟨.tuple (.str x::ds),λst=>?_,by simp[aC,cu,GJ,e2]⟩
 show(dF (aG st n) (.str x::ws)).map ia=_
 unfold dF
 rw[GU,e1]
 rfl
theorem all1{P:Wv->Prop}{a:Wv}(h:P a):∀w∈[a],P w:=List.forall_mem_cons.mpr ⟨h,λ_ z=>by cases z⟩
theorem all2{P:Wv->Prop}{a b:Wv}(h:P a)(k:P b):∀w∈[a,b],P w:=List.forall_mem_cons.mpr ⟨h,all1 k⟩
theorem KP{P:Wv->Prop}{a b c:Wv}(h:P a)(k:P b)(j:P c):∀w∈[a,b,c],P w:=List.forall_mem_cons.mpr ⟨h,all2 k j⟩
theorem dat:∀(f:Fm)(n:Nat),f.sh->f.dp<=n->∃d:PyData,(∀st:Hs,aG st (n+1) f.w=some d)/\aC d d=true
 | f,0,_,hd=>by cases f<;>simp[Fm.dp] at hd
 | .lit x ws,n+1,h,_=>by
  refine tq (ws:=ws) λw hw=>?_
  rcases h with ⟨_,i,rfl⟩ | ⟨_,s,rfl,_⟩ | ⟨_,rfl⟩
  ·rw[List.mem_singleton.mp hw];exact⟨.int i,λ_=>GV,GH⟩
  ·rw[List.mem_singleton.mp hw];exact⟨.str s,λ_=>GU,GJ⟩
  ·cases hw
 | .pt x l p,n+1,_,_=>tq (ws:=[tI l,tI p]) (all2 (u7 l n) (u7 p n))
 | .fd f l p,n+1,h,hd=>tq (ws:=[f.w,tI l,tI p]) (KP (dat f n h.1 (by simp[Fm.dp] at hd;omega)) (u7 l n) (u7 p n))
 | .o1 x f,n+1,h,hd=>tq (ws:=[f.w]) (all1 (dat f n h.2 (by simp[Fm.dp] at hd;omega)))
 | .o2 x f g,n+1,h,hd=>tq (ws:=[f.w,g.w]) (all2 (dat f n h.2.1 (by simp[Fm.dp] at hd;omega)) (dat g n h.2.2 (by simp[Fm.dp] at hd;omega)))
 | .o3 f g k,n+1,h,hd=>tq (ws:=[f.w,g.w,k.w]) (KP (dat f n h.1 (by simp[Fm.dp] at hd;omega)) (dat g n h.2.1 (by simp[Fm.dp] at hd;omega)) (dat k n h.2.2 (by simp[Fm.dp] at hd;omega)))
abbrev Ks:=List (List L2.Key×Wv)
abbrev Pt:=Int×Int
def oF(p:Pt):List L2.Key:=ky p.1 p.2
def S_:List Pt:=(hU 2574).map λk=>(((k / 26:Nat):Int),((k % 26:Nat):Int))
def uq{α:Type}(f:α->Nat):List α->Nat->Bool
 | [],_=>true
 | x::r,acc=> !(acc.testBit (f x))&&uq f r (acc||| 2 ^ f x)
theorem L8{α:Type}{f:α->Nat}:∀{l:List α}{acc:Nat},uq f l acc=true->(∀x∈l,∀y∈l,f x=f y->x=y)/\∀x∈l,acc.testBit (f x)=false
 | [],_,_=>⟨λx hx=>(by cases hx),λx hx=>by cases hx⟩
 | x::r,acc,h=>by
  unfold uq at h
  rw[cD] at h
  obtain⟨h1,h2⟩:=L8 h.2
  have no:∀y∈r,acc.testBit (f y)=false/\f x≠f y:=λy hy=>by
   have q:=h2 y hy
   rw[Nat.testBit_or,Nat.testBit_two_pow,Bool.or_eq_false_iff] at q
   exact⟨q.1,of_decide_eq_false q.2⟩
  refine⟨λa ha b hb e=>?_,λy hy=>?_⟩
  ·rcases List.mem_cons.mp ha with ea | ha'
   ·rcases List.mem_cons.mp hb with eb | hb'
    ·rw[ea,eb]
    ·rw[ea] at e
     exact absurd e (no b hb').2
   ·rcases List.mem_cons.mp hb with eb | hb'
    ·rw[eb] at e
     exact absurd e.symm (no a ha').2
    ·exact h1 a ha' b hb' e
  ·rcases List.mem_cons.mp hy with rfl | hy
   ·simpa using h.1
   ·exact(no y hy).1
def hs(p:Pt):Int:=AH [p.1,p.2]
def hm(p:Pt):Nat:=(hs p % 19291).toNat
theorem Pg:uq hm S_ 0=true:=by decide+kernel
theorem xi{p:Pt}(h:hR p.1 p.2):p∈S_:=by
 obtain⟨a,b⟩:=p
 obtain⟨h1,h2,h3,h4⟩:=h
 dsimp only at h1 h2 h3 h4
 refine List.mem_map.mpr ⟨a.toNat * 26+b.toNat,List.mem_range.mpr (by omega),?_⟩
 refine Prod.ext ?_ ?_
 ·show(((a.toNat * 26+b.toNat) / 26:Nat):Int)=a
  omega
 ·show(((a.toNat * 26+b.toNat) % 26:Nat):Int)=b
  omega
theorem Ph{p q:Pt}(hp:hR p.1 p.2)(hq:hR q.1 q.2)(h:hs p=hs q):p=q :=
 (L8 Pg).1 p (xi hp) q (xi hq) (by unfold hm;rw[h])
theorem Bg:∀l:List Pt,oz (l.map oF)=some (l.map λp=>[p.1,p.2])
 | []=>rfl
 | p::r=>by
  rw[aD,aD]
  unfold oz
  rw[Bg r]
  rfl
theorem xj:∀{l:List Pt},l.Nodup->(∀p∈l,hR p.1 p.2)->(l.map hs).Nodup
 | [],_,_=>eP
 | p::r,h,k=>by
  rw[jj] at h
  rw[aD,jj]
  refine⟨λz=>?_,xj h.2 λq hq=>k q (aJ _ hq)⟩
  obtain⟨q,hq,e⟩:=List.mem_map.mp z
  exact h.1 (Ph (k q (aJ _ hq)) (k p aK) e ▸ hq)
theorem Pj{kvs:Ks}{ps:List Pt}(h:kvs.map (·.1)=ps.map oF)(hn:ps.Nodup)(hp:∀p∈ps,hR p.1 p.2):l6 (kvs.map (·.1))=true:=by
 unfold l6
 rw[h,Bg]
 refine decide_eq_true ?_
 rw[kZ]
 exact xj hn hp
theorem Pk{a b c d:Int}(h:ky a b=ky c d):a=c/\b=d:=by
 unfold ky at h
 injection h with h1 h2
 injection h2 with h2
 injection h1 with h1
 injection h2 with h2
 exact⟨h1,h2⟩
theorem KQ{kvs:Ks}{k:List L2.Key}{v:Wv}(h:k∉kvs.map (·.1)):fU kvs k v=kvs++[(k,v)]:=by
 unfold fU
 rw[if_neg]
 intro q
 obtain⟨p,hp,e⟩:=List.any_eq_true.mp q
 exact h (List.mem_map.mpr ⟨p,hp,of_decide_eq_true e⟩)
theorem GX{d:Nat}{kvs:Ks}{a b:Int}{v:Wv}{st:Hs}(h:st[d]? =some (.gw kvs))(hl:kvs.length < 1000):putD (.ref d) (.tup [.int a,.int b]) v st=some (st.set d (.gw (fU kvs (ky a b) v))):=by
 have hk:nJ (.tup [.int a,.int b])=some (ky a b):=rfl
 unfold putD
 dsimp only
 rw[h]
 dsimp only
 rw[hk]
 dsimp only
 rw[if_pos (by unfold lim;omega)]
def gp(a b:Int)(k:Nat):Pt:=(a+((k / 4:Nat):Int),b+((k % 4:Nat):Int))
def Bh(a b:Int)(n:Nat)(kvs:Ks):Prop:=∃js:List Nat,kvs.map (·.1)=js.map (λj=>oF (gp a b j))/\js.Nodup/\(∀j∈js,j < n)/\js.length<=n/\∀kv∈kvs,Cn kv.2
theorem GY{a b:Int}{i j:Nat}(h:oF (gp a b i)=oF (gp a b j)):i=j:=by
 obtain⟨h1,h2⟩:=Pk h
 have h1:a+((i / 4:Nat):Int)=a+((j / 4:Nat):Int):=h1
 have h2:b+((i % 4:Nat):Int)=b+((j % 4:Nat):Int):=h2
 omega
theorem Ta{a b:Int}{k:Nat}(h:rh a b)(hk:k < 12):hR (gp a b k).1 (gp a b k).2:=by
 obtain⟨h1,h2,h3,h4⟩:=h
 show hR (a+((k / 4:Nat):Int)) (b+((k % 4:Nat):Int))
 unfold hR
 omega
theorem Bh.put{a b:Int}{n:Nat}{kvs:Ks}{v:Wv}(h:Bh a b n kvs)(hv:Cn v):Bh a b (n+1) (fU kvs (oF (gp a b n)) v):=by
 obtain⟨js,h1,h2,h3,hl,h4⟩:=h
 have no:oF (gp a b n)∉kvs.map (·.1):=λz=>by
  rw[h1] at z
  obtain⟨j,hj,e⟩:=List.mem_map.mp z
  have:=GY e
  have:=h3 j hj
  omega
 rw[KQ no]
 refine⟨js++[n],by rw[k6,h1,k6];rfl,?_,?_,by rw[eh];exact oV hl,?_⟩
 ·rw[pD]
  refine⟨h2,by simp,λx hx y hy=>?_⟩
  have:=h3 x hx
  rw[List.mem_singleton.mp hy]
  omega
 ·intro j hj
  rcases List.mem_append.mp hj with z | z
  ·have:=h3 j z;omega
  ·rw[List.mem_singleton.mp z];omega
 ·intro kv hkv
  rcases List.mem_append.mp hkv with z | z
  ·exact h4 kv z
  ·rw[List.mem_singleton.mp z];exact hv
theorem Bh.le{a b:Int}{n m:Nat}{kvs:Ks}(h:Bh a b n kvs)(k:n<=m):Bh a b m kvs:=by
 obtain⟨js,h1,h2,h3,hl,h4⟩:=h
 exact⟨js,h1,h2,λj hj=>bc (h3 j hj) k,bf hl k,h4⟩
theorem Bh.len{a b:Int}{n:Nat}{kvs:Ks}(h:Bh a b n kvs):kvs.length<=n:=by
 obtain⟨js,h1,h2,h3,hl,h4⟩:=h
 have:=congrArg dZ h1
 rw[bK,bK] at this
 omega
theorem Bh.nil{a b:Int}:Bh a b 0 []:=⟨[],rfl,eP,λj hj=>(by cases hj),aj _,λkv h=>by cases h⟩
theorem Tb{v:Wv}(h:v= .non\/Cn v):∃d:PyData,(∀st:Hs,aG st 20 v=some d)/\aC d d=true:=by
 rcases h with rfl | ⟨i,rfl⟩ | ⟨x,rfl⟩ | ⟨f,rfl,h1,_,h2⟩
 ·exact⟨.none,λ_=>rfl,by simp[aC]⟩
 ·exact⟨.int i,λ_=>GV,GH⟩
 ·exact⟨.str x,λ_=>GU,GJ⟩
 ·exact dat f 19 h1 (by omega)
theorem lA{k:List L2.Key}:∀{kvs:Ks},k∈kvs.map (·.1)->∃v,bJ kvs k=some v
 | [],h=>by cases h
 | p::r,h=>by
  unfold bJ
  by_cases e:p.1=k
  ·exact⟨p.2,if_pos e⟩
  ·rw[if_neg e]
   rw[aD,bM] at h
   exact lA (h.resolve_left λz=>e z.symm)
theorem same_self{kvs:Ks}{st:Hs}(h:∀kv∈kvs,∃d:PyData,(∀st:Hs,aG st 20 kv.2=some d)/\aC d d=true):nN st kvs=true/\oA st kvs kvs=true:=by
 refine⟨?_,?_⟩
 ·unfold nN
  rw[qQ]
  intro kv hk
  obtain⟨d,h1,_⟩:=h kv hk
  rw[h1]
  rfl
 ·unfold oA
  rw[decide_eq_true rfl,Fy,qQ]
  intro k hk
  obtain⟨v,e⟩:=lA hk
  obtain⟨d,h1,h2⟩:=h _ (i_ e)
  unfold LG
  rw[e]
  dsimp only
  rw[h1]
  simpa using h2
theorem eq_self{kvs:Ks}{l k:Nat}{st:Hs}(h1:dq st[l]? =some kvs)(h2:dq st[k]? =some kvs)(h:∀kv∈kvs,∃d:PyData,(∀st:Hs,aG st 20 kv.2=some d)/\aC d d=true):Cf (.ref l) (.ref k) st= .ok (.bl true) st/\wu (.ref l) (.ref k) st= .ok (.bl false) st:=by
 obtain⟨a,b⟩:=same_self (st:=st) h
 have d1:qI st (.ref l)=some kvs:=h1
 have d2:qI st (.ref k)=some kvs:=h2
 unfold Cf wu
 rw[d1,d2]
 dsimp only
 rw[if_pos ⟨a,a⟩,if_pos ⟨a,a⟩,b]
 exact⟨rfl,rfl⟩
theorem KR{d:Nat}{kvs:Ks}{st:Hs}(hd:dq st[d]? =some kvs)(hk:l6 (kvs.map (·.1))=true):qH [.ref d] st= .ok (.ref st.length) (st++[.gw kvs]):=by
 unfold qH
 dsimp only
 rw[hd]
 dsimp only
 rw[if_pos hk]
theorem Pl{v:Wv}{st:Hs}(h:Cn v):ny v .non st= .ok (.bl true) st:=by
 rcases h with ⟨i,rfl⟩ | ⟨x,rfl⟩ | ⟨f,rfl,_⟩<;>rfl
theorem cells{st:Hs}{l:Nat}{ns:List Int}{dp:Nat}(h:av st l=some (ns.map Wv.int))(hn:ns.length<=63)(hd:dp<=2):∃(a b:Int)(kvs:Ks)(d:Nat)(st':Hs),dz [.ref l,.int dp] st= .ok (.ref d) st'/\st'[d]? =some (.gw kvs)/\rh a b/\Bh a b 12 kvs/\Gr st st'/\(∃s,eI [.ref l] st= .ok (tI [a,b]) s):=by
 obtain⟨a,b,s0,e0,hs,more,rfl⟩:=spot h
 have g0:Gr st (st++more):=Gr.app
 generalize hs0:st++more=s0 at e0 g0
 have g1:Gr st (s0++[.gw []]):=g0.trans Gr.push
 have f4:∀(k:Nat)(s:Hs),fZ (.int k) (.int 4) s= .ok (.int ((k / 4:Nat):Int)) s:=λk s=>by
  rw[nR (by decide+kernel),Int.fdiv_eq_ediv_of_nonneg _ (by decide)]
  rfl
 have m4:∀(k:Nat)(s:Hs),oMod (.int k) (.int 4) s= .ok (.int ((k % 4:Nat):Int)) s:=λk s=>by
  rw[jP (by decide),Int.fmod_eq_emod_of_nonneg _ (by decide)]
  rfl
 obtain⟨ρ1,s1,e1,o4,o5,kvs,rfl,hk,hg,hsh⟩:=uM (i:=4) (gb:=dY) (λk ρ s=>∃(o4 o5:Option Wv)(kvs:Ks),ρ=[some (.ref l),some (.int dp),some (tI [a,b]),some (.ref s0.length),o4,o5]/\s[s0.length]? =some (.gw kvs)/\Gr st s/\Bh a b k kvs)
  (di 0 12) 0 [some (.ref l),some (.int dp),some (tI [a,b]),some (.ref s0.length),none,none] (s0++[.gw []]) ⟨none,none,[],rfl,bQ,g1,Bh.nil⟩ (λk w hw ρ s hP=>by
   obtain⟨o4,o5,kvs,rfl,hk,hg,hsh⟩:=hP
   have hj:k < 12:=by
    have q:=(List.getElem?_eq_some_iff.mp hw).1
    rw[fK] at q
    exact q
   rw[sA hj] at hw
   cases hw
   rw[Bi] at hsh
   obtain⟨n,es⟩:=stream (hg.lst h) hn (k:=k) (by omega) (by omega)
   have ro:Ro s.length (s++[.lst [.int n]]):=⟨n,bQ⟩
   obtain⟨v,s2,e2,hv,dw⟩:=content ro hs hd
   have g2:Gr s s2:=Gr.push.O8 (aj _) dw.1
   have hk2:=g2.get hk
   have lt:st.length<=s0.length:=g0.1
   rw[show((0:Int)+(k:Nat))=(k:Int) from Int.zero_add _]
   rcases hv with rfl | hv
   ·refine⟨_,_,?_,some (.int k),some .non,kvs,rfl,hk2,hg.trans g2,hsh.le (by omega)⟩
    unfold dY
    simp[es,e2,ny]
   ·have pd:=GX (a:=a+((k / 4:Nat):Int)) (b:=b+((k % 4:Nat):Int)) (v:=v) hk2 (by have:=hsh.len;omega)
    refine⟨_,_,?_,some (.int k),some v,fU kvs (oF (gp a b k)) v,rfl,cK hk2,Gr.GQ lt (hg.trans g2),?_⟩
    rotate_left
    ·rw[Bi]
     exact hsh.put hv
    show _=Rs.nx _ (s2.set s0.length (.gw (fU kvs (ky (a+((k / 4:Nat):Int)) (b+((k % 4:Nat):Int))) v)))
    have Y_:=f4 k s2
    have Y':=m4 k s2
    generalize ((k / 4:Nat):Int)=x at Y_ pd ⊢
    generalize ((k % 4:Nat):Int)=y at Y' pd ⊢
    have Ab:cF [.ref s.length,.tup [.int a,.int b],.int dp] (s++[.lst [.int n]])= .ok v s2:=e2
    unfold dY
    simp[es,Ab,Pl hv,sM,tI,WA,WB,Y_,Y',pd])
 refine⟨a,b,kvs,s0.length,s1,A_ (n:=6) (g:=gF) ?_,hk,hs,by simpa [fK] using hsh,hg,s0,e0⟩
 have c12:jY 12:=yQ (by decide) (by decide)
 unfold gF
 simp[e0,vX,c12,e1]
theorem iE(a b c d:Int):∀f:Fm,f.sh->(f.e_ (g3 a b c d)).sh
 | .lit _ _,h=>h
 | .pt x l p,h=>by
  have hs:xf l p\/vf l p:=h.imp (λz=>z.2) λz=>z.2
  simp only[Fm.e_,g3,n6]
  by_cases cf:Fits (u0 l p a b c d)
  ·rw[if_pos cf]
   rcases h with ⟨hx,x1,y1,q,r,rfl,rfl,h1⟩ | ⟨hx,x1,y1,z1,w1,q,r,s,t,rfl,rfl,h1⟩
   ·exact .inl ⟨hx,_,_,q,r,rfl,rfl,h1⟩
   ·exact .inr ⟨hx,_,_,_,_,q,r,s,t,rfl,rfl,h1⟩
  ·rw[if_neg cf];exact .inr (.inr ⟨rfl,rfl⟩)
 | .fd f l p,h=>by
  have ih:=iE a b c d f h.1
  simp only[Fm.e_]
  have e:g3 a b c d "find" l p=n6 (u0 l p a b c d):=rfl
  rw[e]
  unfold n6
  by_cases cf:Fits (u0 l p a b c d)
  ·rw[if_pos cf]
   obtain⟨_,x1,y1,z1,w1,q,r,s,t,rfl,rfl,h1⟩:=h
   exact⟨ih,_,_,_,_,q,r,s,t,rfl,rfl,h1⟩
  ·rw[if_neg cf];exact .inr (.inr ⟨rfl,rfl⟩)
 | .o1 x f,h=>⟨h.1,iE a b c d f h.2⟩
 | .o2 x f g,h=>⟨h.1,iE a b c d f h.2.1,iE a b c d g h.2.2⟩
 | .o3 f g k,h=>⟨iE a b c d f h.1,iE a b c d g h.2.1,iE a b c d k h.2.2⟩
theorem KS{f:Fm}{a b c d:Int}(h:f.sh)(hd:f.dp<=8)(st:Hs):∃st',Gr st st'/\ax [f.w,tI [a,b],tI [c,d]] st= .ok (f.e_ (g3 a b c d)).w st':=dc f 8 h hd st
def Fo(n:Nat)(a b:Int)(f f':Fm):Prop:=∀st:Hs,∃st',Gr st st'/\aR n [f.w,tI [a,b]] st= .ok f'.w st'
theorem L9{n:Nat}{a b:Int}{ks:List (Fm×Fm)}(h:∀q∈ks,Fo n a b q.1 q.2)(hl:ks.length<=3)(st:Hs){ct:GT}{ce:GE}(ht:∀ρ s,ct ρ s= .ok true s)(he:ce=az 2 (aR n) (ae (af 0) (ae (af 1) ao))){ρ:bw}(h1:ρ[1]? =some (some (tI [a,b]))) :
  ∃st',Gr st st'/\st'[st.length]? =some (.lst (ks.map λq=>q.2.w))/\cX [("place",1)] ct ce ρ (none,ks.map λq=>q.1.w) st= .ok (.ref st.length) st':=by
 subst he
 have ec:eC [("place",1)] ρ=[some (tI [a,b])]:=by
  unfold eC
  simp[h1]
 obtain⟨st',g1,g2,e⟩:=lr (ι:=Unit) (ck:=i9 (none,ks.map λq=>q.1.w)) (gt:=λ_ v=>ct (some v::[some (tI [a,b])])) (ge:=λ_ v=>az 2 (aR n) (ae (af 0) (ae (af 1) ao)) (some v::[some (tI [a,b])])) (rr:=st.length) (λq:Fm×Fm=>q.1.w) (λq=>q.2.w) (λ_=>trivial) (λ_ _ _=>ht _ _) ks
  (λq hq s=>by
   obtain⟨s',k,e⟩:=h q hq s
   refine⟨s',k,λ_=>?_⟩
   simp[e]) [] (st++[.lst []]) bQ (by simp[lim];omega)
 refine⟨st',g2 st (aj _) Gr.push,by simpa using g1,?_⟩
 unfold cX
 rw[ec]
 have:=e ()
 simp only[this]
section
variable {n:Nat} {a b:Int}
theorem foL{x:S}{ws:List Wv}(hx:x∈LW)(st:Hs):aR (n+1) [.tup (.str x::ws),tI [a,b]] st= .ok (.tup (.str x::ws)) st:=by
 rw[fi]
 unfold cQ eK
 simp[CT,Pf,hx]
theorem WQ{x:S}{ks:List (Fm×Fm)}(hx:x∉LW)(hr:x∉RW)(h:∀q∈ks,Fo n a b q.1 q.2)(hl:ks.length<=3)(hs:∀st,vV (.tup (.str x::ks.map λq=>q.1.w)) (some 1) none st= .ok (.tup (ks.map λq=>q.1.w)) st)(st:Hs) :
  ∃st',Gr st st'/\aR (n+1) [.tup (.str x::ks.map λq=>q.1.w),tI [a,b]] st= .ok (.tup (.str x::ks.map λq=>q.2.w)) st':=by
 obtain⟨s1,k1,l1,e1⟩:=L9 h hl st (ct:=jR (aR n)) (ce:=jS (aR n)) (λ_ _=>rfl) rfl (ρ:=[some (.tup (.str x::ks.map λq=>q.1.w)),some (tI [a,b]),some (.str x),none,none]) rfl
 have c1:=cat (x:=.str x) (xs:=[]) (ys:=ks.map λq=>q.2.w) (st:=s1) (by simp;omega)
 refine⟨s1,k1,?_⟩
 rw[fi]
 unfold cQ eK
 simp[CT,Pf,inR,S8,hx,hr,hs,e1,uZ l1,c1]
theorem Za{x:S}{ks:List (Fm×Fm)}{l p:List Int}(hx:x∉LW)(hr:x∈RW)(hsh:xf l p\/vf l p)(h:∀q∈ks,Fo n a b q.1 q.2)(hl:ks.length<=3)
  (i2:∀st,cg (.tup (.str x::((ks.map λq=>q.1.w)++[tI l,tI p]))) (.int (-2)) st= .ok (tI l) st)(i1:∀st,cg (.tup (.str x::((ks.map λq=>q.1.w)++[tI l,tI p]))) (.int (-1)) st= .ok (tI p) st)
  (hs:∀st,vV (.tup (.str x::((ks.map λq=>q.1.w)++[tI l,tI p]))) (some 1) (some (-2)) st= .ok (.tup (ks.map λq=>q.1.w)) st)(st:Hs) :
  ∃st',Gr st st'/\aR (n+1) [.tup (.str x::((ks.map λq=>q.1.w)++[tI l,tI p])),tI [a,b]] st= .ok (.tup (.str x::((ks.map λq=>q.2.w)++[tI (u0 l p a b 0 0),tI p]))) st':=by
 generalize hf:(.tup (.str x::((ks.map λq=>q.1.w)++[tI l,tI p])):Wv)=fw at i2 i1 hs
 have i0:∀st,cg fw (.int 0) st= .ok (.str x) st:=λst=>by rw[<-hf];exact CT
 obtain⟨s1,k1,l1,e1⟩:=L9 h hl st (ct:=jT (aR n)) (ce:=jU (aR n)) (λ_ _=>rfl) rfl (ρ:=[some fw,some (tI [a,b]),some (.str x),none,none]) rfl
 obtain⟨s2,k2,e2⟩:=led (a:=a) (b:=b) (c:=0) (d:=0) hsh s1
 generalize u0 l p a b 0 0=l' at e2
 have c1:=cat (x:=.str x) (xs:=[]) (ys:=ks.map λq=>q.2.w) (st:=s2) (by simp;omega)
 have c2:=cat (x:=.str x) (xs:=ks.map λq=>q.2.w) (ys:=[tI l',tI p]) (st:=s2) (by simp;omega)
 have t0:∀s:Hs,oP [.int 0,.int 0] s= .ok (tI [0,0]) s:=λ_=>jo
 have t2:∀s:Hs,oP [tI l',tI p] s= .ok (.tup [tI l',tI p]) s:=λ_=>jo
 refine⟨s2,k1.trans k2,?_⟩
 rw[fi]
 unfold cQ eK
 simp[i0,Pf,inR,S8,hx,hr,i1,i2,hs,e1,uZ l1,c1,-jo,t0,e2,t2,c2]
theorem tw{m q u:Int}(h:xw q):lx m q u 0=nx m q (-u):=by
 rcases h with rfl | rfl
 ·simp[nx,lx]
 ·simp[nx,lx]
theorem Bj{l p:List Int}(h:xf l p\/vf l p):u0 l p a b 0 0=stp l p (-a) (-b):=by
 rcases h with ⟨x,y,q,r,rfl,rfl,h1,h2⟩ | ⟨x,y,z,w,q,r,s,t,rfl,rfl,h1,h2,h3,h4⟩
 ·simp[stp,u0,tw h1,tw h2]
 ·simp[stp,u0,tw h1,tw h2,tw h3,tw h4]
theorem fR:∀(f:Fm)(n:Nat),f.sh->f.dp<=n->Fo n a b f (f.e_ (g1 a b))
 | f,0,_,hd=>by cases f<;>simp[Fm.dp] at hd
 | .lit x ws,n+1,h,_=>λst=>by
  have hx:x∈LW:=by rcases h with ⟨rfl,_⟩ | ⟨rfl,_⟩ | ⟨rfl,_⟩<;>decide+kernel
  exact⟨st,Gr.refl,foL hx st⟩
 | .pt x l p,n+1,h,_=>λst=>by
  have hx:x∉LW/\x∈RW:=by
   rcases h with ⟨rfl,_⟩ | ⟨hx,_⟩
   ·decide+kernel
   ·exact L5 hx
  have hs:xf l p\/vf l p:=h.imp (λz=>z.2) λz=>z.2
  have r:=Za (n:=n) (a:=a) (b:=b) (x:=x) (ks:=[]) (l:=l) (p:=p) hx.1 hx.2 hs (λ_ z=>by cases z) (bb _) (λ_=>jq rfl) (λ_=>jq rfl) (λ_=>oT (by show ¬cW 3 (some 1) (some (-2));decide+kernel) rfl) st
  rw[Bj hs] at r
  exact r
 | .fd f l p,n+1,h,hd=>λst=>by
  have ih:=fR f n h.1 (by simp[Fm.dp] at hd;omega)
  have r:=Za (n:=n) (a:=a) (b:=b) (x:="find") (ks:=[(f,f.e_ (g1 a b))]) (l:=l) (p:=p) (by decide+kernel) (by decide+kernel) (.inr h.2) (λq z=>by rw[List.mem_singleton.mp z];exact ih) (by simp) (λ_=>jq rfl) (λ_=>jq rfl) (λ_=>oT (by show ¬cW 4 (some 1) (some (-2));decide+kernel) rfl) st
  rw[Bj (.inr h.2)] at r
  exact r
 | .o1 x f,n+1,h,hd=>λst=>by
  have i1:=fR f n h.2 (by simp[Fm.dp] at hd;omega)
  exact WQ (ks:=[(f,f.e_ (g1 a b))]) (u5 h.1).1 (u5 h.1).2 (λq z=>by rw[List.mem_singleton.mp z];exact i1) (by simp) (λ_=>oT (by show ¬cW 2 (some 1) none;decide+kernel) rfl) st
 | .o2 x f g,n+1,h,hd=>λst=>by
  have i1:=fR f n h.2.1 (by simp[Fm.dp] at hd;omega)
  have i2:=fR g n h.2.2 (by simp[Fm.dp] at hd;omega)
  exact WQ (ks:=[(f,f.e_ (g1 a b)),(g,g.e_ (g1 a b))]) (u6 h.1).1 (u6 h.1).2 (List.forall_mem_cons.mpr ⟨i1,List.forall_mem_cons.mpr ⟨i2,λ_ z=>by cases z⟩⟩) (by simp) (λ_=>oT (by show ¬cW 3 (some 1) none;decide+kernel) rfl) st
 | .o3 f g k,n+1,h,hd=>λst=>by
  have i1:=fR f n h.1 (by simp[Fm.dp] at hd;omega)
  have i2:=fR g n h.2.1 (by simp[Fm.dp] at hd;omega)
  have i3:=fR k n h.2.2 (by simp[Fm.dp] at hd;omega)
  exact WQ (x:="if") (ks:=[(f,f.e_ (g1 a b)),(g,g.e_ (g1 a b)),(k,k.e_ (g1 a b))]) (by decide+kernel) (by decide+kernel) (List.forall_mem_cons.mpr ⟨i1,List.forall_mem_cons.mpr ⟨i2,List.forall_mem_cons.mpr ⟨i3,λ_ z=>by cases z⟩⟩⟩) (by simp) (λ_=>oT (by show ¬cW 4 (some 1) none;decide+kernel) rfl) st
end
theorem set_same{st:Hs}{l:Nat}{o:Ob}(h:st[l]? =some o):st.set l o=st:=FG λj=>by
 by_cases e:l=j
 ·subst e;rw[cK h,h]
 ·rw[a9 e]
def De(kvs:Ks)(ps:List Pt):Prop:=kvs.map (·.1)=ps.map oF/\ps.Nodup/\(∀p∈ps,hR p.1 p.2)/\∀kv∈kvs,kv.2= .non\/Cn kv.2
open Classical in
theorem rj{kvs:Ks}{k:List L2.Key}{v:Wv}:(fU kvs k v).map (·.1)=if k∈kvs.map (·.1) then kvs.map (·.1) else kvs.map (·.1)++[k]:=by
 unfold fU
 by_cases h:(kvs.any λkv=>decide (kv.1=k))=true
 ·rw[if_pos h]
  obtain⟨p,hp,e⟩:=List.any_eq_true.mp h
  rw[if_pos (List.mem_map.mpr ⟨p,hp,of_decide_eq_true e⟩),kZ]
  refine List.map_congr_left λq _=>?_
  show(if q.1=k then(q.1,v) else q).1=q.1
  split<;>rfl
 ·rw[if_neg h,if_neg,k6]
  ·rfl
  ·intro z
   obtain⟨p,hp,e⟩:=List.mem_map.mp z
   exact h (List.any_eq_true.mpr ⟨p,hp,decide_eq_true e⟩)
theorem xk{kvs:Ks}{k:List L2.Key}{v:Wv}{kv:List L2.Key×Wv}(h:kv∈fU kvs k v):kv.2=v\/kv∈kvs:=by
 unfold fU at h
 split at h
 ·obtain⟨q,hq,rfl⟩:=List.mem_map.mp h
  by_cases c:q.1=k
  ·rw[if_pos c];exact .inl rfl
  ·rw[if_neg c];exact .inr hq
 ·rcases List.mem_append.mp h with z | z
  ·exact .inr z
  ·rw[List.mem_singleton.mp z];exact .inl rfl
theorem De.put{kvs:Ks}{ps:List Pt}{p:Pt}{v:Wv}(h:De kvs ps)(hp:hR p.1 p.2)(hv:v= .non\/Cn v):∃qs,De (fU kvs (oF p) v) qs/\qs.length<=ps.length+1:=by
 obtain⟨h1,h2,h3,h4⟩:=h
 have hv':∀kv∈fU kvs (oF p) v,kv.2= .non\/Cn kv.2:=λkv hk=>by
  rcases xk hk with z | z
  ·rw[z];exact hv
  ·exact h4 kv z
 by_cases c:oF p∈kvs.map (·.1)
 ·exact⟨ps,⟨by rw[rj,if_pos c];exact h1,h2,h3,hv'⟩,by omega⟩
 ·refine⟨ps++[p],⟨by rw[rj,if_neg c,h1,k6];rfl,?_,?_,hv'⟩,by simp⟩
  ·rw[pD]
   refine⟨h2,by simp,λx hx y hy=>?_⟩
   rw[List.mem_singleton.mp hy]
   intro z
   exact c (by rw[h1];exact List.mem_map.mpr ⟨x,hx,by rw[z]⟩)
  ·intro q hq
   rcases List.mem_append.mp hq with z | z
   ·exact h3 q z
   ·rw[List.mem_singleton.mp z];exact hp
theorem De.hash{kvs:Ks}{ps:List Pt}(h:De kvs ps):l6 (kvs.map (·.1))=true:=Pj h.1 h.2.1 h.2.2.1
theorem De.dat{kvs:Ks}{ps:List Pt}(h:De kvs ps):∀kv∈kvs,∃d:PyData,(∀st:Hs,aG st 20 kv.2=some d)/\aC d d=true:=λkv hk=>Tb (h.2.2.2 kv hk)
theorem Bk{l:Nat}{kvs:Ks}{a b:Int}{v:Wv}{st:Hs}(h:dq st[l]? =some kvs)(e:bJ kvs (ky a b)=some v):LD (.ref l) (tI [a,b]) st= .ok v st:=by
 have hk:nJ (tI [a,b])=some (ky a b):=rfl
 unfold LD getD
 unfold dq at h
 split at h
 ·rename_i k' q
  cases h
  dsimp only
  rw[q,hk]
  dsimp only
  rw[e]
 ·rename_i k' q
  cases h
  dsimp only
  rw[q,hk]
  dsimp only
  rw[e]
 ·cases h
def tp(kvs:Ks)(p:Pt):Bool:=HH ((bJ kvs (oF p)).getD .non)
theorem Bl:∀ps:List Pt,ic (ps.map oF)=some (ps.map pw)
 | []=>rfl
 | p::r=>by
  rw[aD,aD]
  unfold ic
  rw[Bl r]
  rfl
theorem u9:∀ps:List Pt,kj (ps.map oF)=some ps
 | []=>rfl
 | p::r=>by
  rw[aD]
  show(match kj (r.map oF) with | some l=>some ((p.1,p.2)::l) | none=>none)=_
  rw[u9 r]
theorem CY{d:Nat}{kvs:Ks}{o:Ob}{st:Hs}(h:st[d]? =some (.gw kvs)):oq d (st.set d (.lR kvs)++[o])=st++[o]:=by
 have lt:=cL h
 have e:(st.set d (.lR kvs)++[o])[d]? =some (.lR kvs):=fP (cK h)
 unfold oq
 rw[e]
 dsimp only
 rw[List.set_append_left _ _ (by simpa using lt),List.set_set,set_same h]
def tW(kvs:Ks):Wv->Bool
 | .tup [.int a,.int b]=>tp kvs (a,b)
 | _=>false
theorem KU{kvs:Ks}{ps:List Pt}:((ps.map pw).filter (tW kvs)).map id=(ps.filter (tp kvs)).map pw:=by
 rw[List.map_id,List.filter_map]
 rfl
theorem rl{d:Nat}{kvs:Ks}{ps:List Pt}{st:Hs}(h:st[d]? =some (.gw kvs))(hk:De kvs ps)(hC:∀k v,bJ kvs k=some v->Cn v)(hl:ps.length < 64) :
  ∃(l:Nat)(st':Hs),bY [.ref d] st= .ok (.ref l) st'/\Gr st st'/\av st' l=some ((b9 (ps.filter (tp kvs))).map pw)/\st'[l]? =some (.lst ((b9 (ps.filter (tp kvs))).map pw))/\st.length<=l:=by
 have kw:Fs (.ref d) st= .ok (none,ps.map pw) (st.set d (.lR kvs)):=by
  show(match st[d]? with
   | some (.gw kvs)=>(match ic (jJ (λx:List L2.Key×Wv=>x.1) kvs) with | some ws=>Re.ok ((none,ws):Wk) (st.set d (.lR kvs)) | none=> .bad)
   | some (.lR kvs)=>(match ic (jJ (λx:List L2.Key×Wv=>x.1) kvs) with | some ws=> .ok (none,ws) st | none=> .bad)
   | _=> .bad)=_
  rw[h]
  dsimp only
  rw[hk.1,Bl]
 have o1:ou ([some (Wv.ref d)]:bw)[0]? st=some d:=by
  show(match st[d]? with | some (.gw _)=>some d | _=>none)=_
  rw[h]
 have hf:∀(acc:List Wv),dq (st.set d (.lR kvs)++[.lst acc])[d]? =some kvs:=λacc=>by rw[fP (cK h)];rfl
 have cp:=CL (cs:=[("sheet",0)]) (gt:=bH) (ge:=cA) (ρ:=[some (.ref d)]) (w:=(none,ps.map pw)) (st:=st.set d (.lR kvs)) (t:=tW kvs) (f:=id) trivial
  (λv hv acc=>by
   obtain⟨p,_,rfl⟩:=List.mem_map.mp hv
   have e:=xh (p:=p.1) (q:=p.2) (hf acc) (hC _)
   have e':cT [.ref d,pw p] (st.set d (.lR kvs)++[.lst acc])= .ok (.bl (tW kvs (pw p))) (st.set d (.lR kvs)++[.lst acc]):=e
   generalize tW kvs (pw p)=b at e' ⊢
   unfold bH
   simp[eC,e'])
  (λv hv _ acc=>rfl) (by rw[bK];unfold lim;omega)
 rw[show((none,ps.map pw):Wk).2=ps.map pw from rfl,KU] at cp
 have te:jl 0 (ib [("sheet",0)] (nM (af 0)) bH cA) [some (.ref d)] st= .ok (.ref st.length) (st++[.lst ((ps.filter (tp kvs)).map pw)]):=by
  have gk:ib [("sheet",0)] (nM (af 0)) bH cA [some (.ref d)] st= .ok (.ref st.length) (st.set d (.lR kvs)++[.lst ((ps.filter (tp kvs)).map pw)]):=by
   rw[List.length_set] at cp
   simp[nM,kw,cp]
  unfold jl
  rw[o1]
  dsimp only
  rw[gk]
  dsimp only
  rw[CY h]
 have l1:av (st++[.lst ((ps.filter (tp kvs)).map pw)]) st.length=some ((ps.filter (tp kvs)).map pw):=eG
 have g1:Gr st (st++[.lst ((ps.filter (tp kvs)).map pw)]):=Gr.push
 have n1:dq (st++[.lst ((ps.filter (tp kvs)).map pw)])[st.length]? =none:=by rw[bQ];rfl
 have z1:st.length < (st++[Ob.lst ((ps.filter (tp kvs)).map pw)]).length:=by simp
 generalize st++[.lst ((ps.filter (tp kvs)).map pw)]=s1 at te l1 g1 n1 z1
 have sr:lF [.ref st.length] s1= .ok (.ref s1.length) (s1++[.lst ((b9 (ps.filter (tp kvs))).map pw)]):=by
  show(match dq s1[st.length]? with
   | some kvs=>(match kj (jJ (λx:List L2.Key×Wv=>x.1) kvs) with | some ps=>if ps.length < 64 then Re.ok (Wv.ref s1.length) (s1++[Ob.lst ((b9 ps).map pw)]) else .bad | none=> .bad)
   | none=>jO [.ref st.length] s1)=_
  rw[n1]
  exact SM l1 (Nat.lt_of_le_of_lt (u_ _ _) hl)
 refine⟨s1.length,_,?_,g1.trans Gr.push,eG,bQ,by omega⟩
 unfold bY cQ fj
 simp[te,sr]
theorem GZ{α β:Type}{f:α->Option β}{a:α}{b:β}{r:List α}{t:List β}(h:f a=some b)(k:r.mapM f=some t):(a::r).mapM f=some (b::t):=by
 rw[AL,h,k];rfl
theorem G0{α β:Type}{f:α->Option β}{a:α}{r:List α}{us:List β}(h:(a::r).mapM f=some us):∃b t,us=b::t/\f a=some b/\r.mapM f=some t:=by
 rw[AL] at h
 cases h1:f a with
 | none=>rw[h1] at h;cases h
 | some b=>
  cases h2:r.mapM f with
  | none=>rw[h1,h2] at h;cases h
  | some t=>rw[h1,h2] at h;cases h;exact⟨b,t,rfl,rfl,rfl⟩
theorem G5:∀(n:Nat)(w:Wv)(d:PyData),jm n w=some d->∀(m:Nat)(st:Hs),n<=m->aG st m w=some d:=by
 intro n
 induction n with
 | zero=>
  intro w d h m st _
  cases w<;>first | (cases h;done) | (cases h;cases m<;>rfl)
 | succ n ih=>
  intro w d h m st hm
  obtain⟨m,rfl⟩:∃k,m=k+1:=⟨m - 1,by omega⟩
  cases w with
  | tup ws=>
   have h':(ws.mapM (jm n)).map ia=some d:=h
   cases e:ws.mapM (jm n) with
   | none=>rw[e] at h';cases h'
   | some ds=>
    rw[e] at h'
    cases h'
    have key:∀(ws:List Wv)(ds:List PyData),ws.mapM (jm n)=some ds->dF (aG st m) ws=some ds:=by
     intro ws
     induction ws with
     | nil=>intro ds e;cases e;rfl
     | cons w r ihr=>
      intro ds e
      obtain⟨b,t,rfl,e1,e2⟩:=G0 e
      unfold dF
      rw[ih w b e1 m st (by omega),ihr t e2]
    show(dF (aG st m) ws).map ia=_
    rw[key ws ds e]
    rfl
  | non=>cases h;rfl
  | int i=>cases h;rfl
  | str x=>cases h;rfl
  | _=>cases h
def Dk(n:Nat)(w:Wv):Prop:=∃d,jm n w=some d/\NK.kd n d=true
theorem Tc{n:Nat}:∀{ws:List Wv},(∀w∈ws,Dk n w)->∃ds,ws.mapM (jm n)=some ds/\ds.all (NK.kd n)=true
 | [],_=>⟨[],rfl,rfl⟩
 | w::r,h=>by
  obtain⟨d,e1,k1⟩:=h w aK
  obtain⟨ds,e2,k2⟩:=Tc (ws:=r) λx hx=>h x (aJ _ hx)
  exact⟨d::ds,GZ e1 e2,by rw[cV,k1,k2];rfl⟩
theorem Td{x:S}{n:Nat}(h:aO x=true):Dk n (.str x):=⟨.str x,by cases n<;>rfl,by cases n<;>exact h⟩
theorem Te{i:Int}{n:Nat}:Dk n (.int i):=⟨.int i,by cases n<;>rfl,by cases n<;>rfl⟩
theorem Tf{n:Nat}{ws:List Wv}(h:∀w∈ws,Dk n w):∃d,jm (n+1) (.tup ws)=some d/\NK.kd (n+1) d=true/\NK.Hy d=true:=by
 obtain⟨ds,e,k⟩:=Tc h
 refine⟨.tuple ds,?_,k,rfl⟩
 show(ws.mapM (jm n)).map ia=_
 rw[e]
 rfl
theorem Bm(l:List Int)(n:Nat):Dk (n+1) (tI l):=by
 obtain⟨d,e,k,_⟩:=Tf (n:=n) (ws:=l.map Wv.int) λw hw=>by
  obtain⟨i,_,rfl⟩:=List.mem_map.mp hw
  exact Te
 exact⟨d,e,k⟩
theorem xl{x:S}{n:Nat}{ws:List Wv}(hx:aO x=true)(h:∀w∈ws,Dk n w):∃d,jm (n+1) (.tup (.str x::ws))=some d/\NK.kd (n+1) d=true/\NK.Hy d=true :=
 Tf (List.forall_mem_cons.mpr ⟨Td hx,h⟩)
theorem WR{x:S}(h:x∈W1):aO x=true:=by
 simp[W1] at h
 rcases h with rfl | rfl<;>decide+kernel
theorem WS{x:S}(h:x∈W2):aO x=true:=by
 simp[W2] at h
 rcases h with rfl | rfl | rfl | rfl | rfl | rfl | rfl | rfl | rfl<;>decide+kernel
theorem WT{x:S}(h:x∈AW):aO x=true:=by
 simp[AW] at h
 rcases h with rfl | rfl | rfl | rfl<;>decide+kernel
theorem xm:∀(f:Fm)(n:Nat),f.sh->f.dp<=n->∃d,jm (n+1) f.w=some d/\NK.kd (n+1) d=true/\NK.Hy d=true
 | f,0,_,hd=>by cases f<;>simp[Fm.dp] at hd
 | .lit x ws,n+1,h,_=>by
  rcases h with ⟨rfl,i,rfl⟩ | ⟨rfl,s,rfl,hs⟩ | ⟨rfl,rfl⟩
  ·exact xl (x:="num") (by decide+kernel) (all1 Te)
  ·exact xl (x:="text") (by decide+kernel) (all1 (Td hs))
  ·exact xl (x:="lost") (by decide+kernel) λ_ z=>by cases z
 | .pt x l p,n+1,h,_=>xl (x:=x) (ws:=[tI l,tI p]) (by
   rcases h with ⟨rfl,_⟩ | ⟨hx,_⟩
   ·decide+kernel
   ·exact WT hx) (all2 (Bm l n) (Bm p n))
 | .fd f l p,n+1,h,hd=>by
  obtain⟨d,e1,e2,_⟩:=xm f n h.1 (by simp[Fm.dp] at hd;omega)
  exact xl (x:="find") (ws:=[f.w,tI l,tI p]) (by decide+kernel) (KP ⟨d,e1,e2⟩ (Bm l n) (Bm p n))
 | .o1 x f,n+1,h,hd=>by
  obtain⟨d,e1,e2,_⟩:=xm f n h.2 (by simp[Fm.dp] at hd;omega)
  exact xl (ws:=[f.w]) (WR h.1) (all1 ⟨d,e1,e2⟩)
 | .o2 x f g,n+1,h,hd=>by
  obtain⟨d,e1,e2,_⟩:=xm f n h.2.1 (by simp[Fm.dp] at hd;omega)
  obtain⟨d',xt,Ab,_⟩:=xm g n h.2.2 (by simp[Fm.dp] at hd;omega)
  exact xl (ws:=[f.w,g.w]) (WS h.1) (all2 ⟨d,e1,e2⟩ ⟨d',xt,Ab⟩)
 | .o3 f g k,n+1,h,hd=>by
  obtain⟨d,e1,e2,_⟩:=xm f n h.1 (by simp[Fm.dp] at hd;omega)
  obtain⟨d',xt,Ab,_⟩:=xm g n h.2.1 (by simp[Fm.dp] at hd;omega)
  obtain⟨d'',WU,WV,_⟩:=xm k n h.2.2 (by simp[Fm.dp] at hd;omega)
  exact xl (x:="if") (ws:=[f.w,g.w,k.w]) (by decide+kernel) (KP ⟨d,e1,e2⟩ ⟨d',xt,Ab⟩ ⟨d'',WU,WV⟩)
def FK(w:Wv)(k:NK.KD):Prop:=qL w=some k/\∀(m:Nat)(st:Hs),8<=m->aG st m w=some k.1
theorem WW{f:Fm}(h:f.sh)(hd:f.dp<=7):∃k,FK f.w k:=by
 obtain⟨d,e1,e2,e3⟩:=xm f 7 h hd
 refine⟨⟨d,e2,e3⟩,?_,λm st hm=>G5 8 _ _ e1 m st hm⟩
 unfold qL
 rw[e1]
 exact dif_pos ⟨e2,e3⟩
def L_(kvs:Ks)(p:Pt):Wv:=open Classical in if h:∃f:Fm,bJ kvs (oF p)=some f.w/\f.sh/\f.dp<=3 then(h.choose.e_ (g1 p.1 p.2)).w else .non
def G6(kvs:Ks)(p:Pt):NK.KD:=(qL (L_ kvs p)).getD ⟨.tuple [],rfl,rfl⟩
theorem G7{kvs:Ks}{p:Pt}(hC:∀k v,bJ kvs k=some v->Cn v)(ht:tp kvs p=true):∃v,bJ kvs (oF p)=some v/\HH v=true/\(∀st:Hs,∃st',Gr st st'/\eM [v,pw p] st= .ok (L_ kvs p) st')/\(∀st:Hs,∃st',Gr st st'/\aI [v,pw p] st= .ok (L_ kvs p) st')/\FK (L_ kvs p) (G6 kvs p):=by
 unfold tp at ht
 cases ev:bJ kvs (oF p) with
 | none=>rw[ev] at ht;cases ht
 | some v=>
  rw[ev] at ht
  have hc:=hC _ v ev
  rcases hc with ⟨i,rfl⟩ | ⟨x,rfl⟩ | ⟨f0,rfl,h1,_,h2⟩
  ·cases ht
  ·cases ht
  ·have ex:∃f:Fm,bJ kvs (oF p)=some f.w/\f.sh/\f.dp<=3:=⟨f0,ev,h1,h2⟩
   have ef:L_ kvs p=(ex.choose.e_ (g1 p.1 p.2)).w:=by unfold L_;exact dif_pos ex
   obtain⟨c1,c2,c3⟩:=ex.choose_spec
   generalize ex.choose=f at ef c1 c2 c3
   rw[ev] at c1
   have c1:=Option.some.inj c1
   refine⟨f0.w,rfl,rfl,λst=>?_,λst=>?_,?_⟩
   ·rw[c1,ef];exact KO (a:=p.1) (b:=p.2) c2 (by omega) st
   ·rw[c1,ef];exact fR (a:=p.1) (b:=p.2) f 8 c2 (by omega) st
   ·obtain⟨k,hk⟩:=WW (kJ p.1 p.2 f c2) (bf (jK _ f) (by omega))
    rw[<-ef] at hk
    have:G6 kvs p=k:=by unfold G6;rw[hk.1];rfl
    rw[this];exact hk
abbrev Qg:=NK.KD×Nat×List Pt
abbrev Gp:=NK.KD×List Pt
def qK(qs:List Qg):List (NK.KD×Wv):=qs.map λq=>(q.1,Wv.ref q.2.1)
def rn:List Qg->NK.KD->Pt->Nat->List Qg
 | [],a,i,l=>[(a,l,[i])]
 | q::r,a,i,l=>if q.1=a then(q.1,q.2.1,q.2.2++[i])::r else q::rn r a i l
def mj:List Gp->NK.KD->Pt->List Gp
 | [],a,i=>[(a,[i])]
 | q::r,a,i=>if q.1=a then(q.1,q.2++[i])::r else q::mj r a i
def vb(q:Qg):Gp:=(q.1,q.2.2)
theorem rp(a:NK.KD)(i:Pt)(l:Nat):∀qs:List Qg,(rn qs a i l).map vb=mj (qs.map vb) a i
 | []=>rfl
 | q::r=>by
  unfold rn
  rw[aD]
  unfold mj
  by_cases h:q.1=a
  ·rw[if_pos h,if_pos (by exact h)];rfl
  ·rw[if_neg h,if_neg (by exact h),aD,rp a i l r]
theorem ml(a:NK.KD)(i:Pt)(l:Nat):∀qs:List Qg,(∃pre q post,qs=pre++q::post/\q.1=a/\(∀p∈pre,p.1≠a)/\rn qs a i l=pre++(q.1,q.2.1,q.2.2++[i])::post)\/
  ((∀p∈qs,p.1≠a)/\rn qs a i l=qs++[(a,l,[i])])
 | []=> .inr ⟨λ_ h=>by simp at h,rfl⟩
 | q::r=>by
  by_cases h:q.1=a
  ·refine .inl ⟨[],q,r,rfl,h,λ_ h=>by simp at h,?_⟩
   show(if q.1=a then _ else _)=_
   rw[if_pos h]
   rfl
  ·have hp:rn (q::r) a i l=q::rn r a i l:=by
    show(if q.1=a then _ else _)=_
    rw[if_neg h]
   rcases ml a i l r with ⟨pre,p,post,e1,e2,e3,e5⟩ | ⟨e1,e3⟩
   ·refine .inl ⟨q::pre,p,post,by rw[e1];rfl,e2,λx hx=>?_,by rw[hp,e5];rfl⟩
    rcases List.mem_cons.mp hx with z | z
    ·rw[z];exact h
    ·exact e3 x z
   ·refine .inr ⟨λx hx=>?_,by rw[hp,e3];rfl⟩
    rcases List.mem_cons.mp hx with z | z
    ·rw[z];exact h
    ·exact e1 x z
theorem Bn{a:NK.KD}{q:Qg}{post:List Qg}(h:q.1=a):∀{pre:List Qg},(∀p∈pre,p.1≠a)->bJ (qK (pre++q::post)) a=some (.ref q.2.1)
 | [],_=>by
  show(if q.1=a then _ else _)=_
  rw[if_pos h]
 | x::r,hp=>by
  show(if x.1=a then _ else _)=_
  rw[if_neg (hp x aK)]
  exact Bn h λp x_=>hp p (aJ _ x_)
theorem Bo{a:NK.KD}:∀{qs:List Qg},(∀p∈qs,p.1≠a)->bJ (qK qs) a=none/\((qK qs).any λkv=>decide (kv.1=a))=false
 | [],_=>⟨rfl,rfl⟩
 | x::r,hp=>by
  obtain⟨h1,h2⟩:=Bo (qs:=r) λp x_=>hp p (aJ _ x_)
  refine⟨?_,?_⟩
  ·show(if x.1=a then _ else _)=_
   rw[if_neg (hp x aK)]
   exact h1
  ·unfold qK at h2 ⊢
   rw[aD,gQ,h2]
   simp[hp x aK]
structure Lay(b:Nat)(qs:List Qg)(st:Hs):Prop where
 ls:∀q∈qs,st[q.2.1]? =some (.lst (q.2.2.map pw))
 lt:∀q∈qs,b<=q.2.1
 nd:(qs.map λq=>q.2.1).Nodup
theorem Lay.gr{b:Nat}{qs:List Qg}{st st':Hs}(h:Lay b qs st)(g:Gr st st'):Lay b qs st':=⟨λq hq=>g.get (h.ls q hq),h.lt,h.nd⟩
theorem Lay.low{b d:Nat}{qs:List Qg}{st:Hs}{o:Ob}(h:Lay b qs st)(hd:d < b):Lay b qs (st.set d o):=⟨λq hq=>by
 have:=h.lt q hq
 rw[a9 (by omega)];exact h.ls q hq,h.lt,h.nd⟩
theorem Lay.old{b:Nat}{pre post:List Qg}{q:Qg}{p:Pt}{st:Hs}(h:Lay b (pre++q::post) st):Lay b (pre++(q.1,q.2.1,q.2.2++[p])::post) (st.set q.2.1 (.lst ((q.2.2++[p]).map pw))):=by
 have hm:q∈pre++q::post:=by simp
 have lq:=h.ls q hm
 have nd:=h.nd
 rw[k6,aD,pD] at nd
 obtain⟨n1,n2,n3⟩:=nd
 have n2':=List.nodup_cons.mp n2
 refine⟨λx hx=>?_,λx hx=>?_,?_⟩
 ·rcases List.mem_append.mp hx with z | z
  ·have ne:q.2.1≠x.2.1:=λy=>n3 x.2.1 (List.mem_map.mpr ⟨x,z,rfl⟩) q.2.1 aK y.symm
   rw[a9 ne]
   exact h.ls x (by simp[z])
  ·rcases List.mem_cons.mp z with y | y
   ·rw[y]
    exact cK lq
   ·have ne:q.2.1≠x.2.1:=λw=>n2'.1 (List.mem_map.mpr ⟨x,y,w.symm⟩)
    rw[a9 ne]
    exact h.ls x (by simp[y])
 ·rcases List.mem_append.mp hx with z | z
  ·exact h.lt x (by simp[z])
  ·rcases List.mem_cons.mp z with y | y
   ·rw[y];exact h.lt q hm
   ·exact h.lt x (by simp[y])
 ·have:=h.nd
  simpa using this
theorem Lay.new{b n:Nat}{qs:List Qg}{a:NK.KD}{p:Pt}{st:Hs}(h:Lay b qs st)(hn:st[n]? =some (.lst [pw p]))(hb:b<=n)(nn:∀q∈qs,q.2.1 < n):Lay b (qs++[(a,n,[p])]) st:=by
 refine⟨λx hx=>?_,λx hx=>?_,?_⟩
 ·rcases List.mem_append.mp hx with z | z
  ·exact h.ls x z
  ·rw[List.mem_singleton.mp z];exact hn
 ·rcases List.mem_append.mp hx with z | z
  ·exact h.lt x z
  ·rw[List.mem_singleton.mp z];exact hb
 ·rw[k6,pD]
  refine⟨h.nd,by simp,λx hx y hy=>?_⟩
  obtain⟨q,hq,rfl⟩:=List.mem_map.mp hx
  have:=nn q hq
  simp at hy
  omega
def HI(κ:Pt->NK.KD)(L:List Pt):List Gp:=L.foldl (λgs p=>mj gs (κ p) p) []
theorem xn{κ:Pt->NK.KD}{L:List Pt}{p:Pt}:HI κ (L++[p])=mj (HI κ L) (κ p) p:=by unfold HI;rw[List.foldl_append];rfl
theorem xo(a:NK.KD)(p:Pt):∀gs:List Gp,(mj gs a p).length<=gs.length+1/\∀n,(∀g∈gs,g.2.length<=n)->∀g∈mj gs a p,g.2.length<=n+1
 | []=>⟨by simp[mj],λn _ g hg=>by
   unfold mj at hg
   rw[List.mem_singleton.mp hg]
   simp⟩
 | q::r=>by
  obtain⟨i1,i2⟩:=xo a p r
  unfold mj
  by_cases h:q.1=a
  ·rw[if_pos h]
   refine⟨by simp,λn hn g hg=>?_⟩
   rcases List.mem_cons.mp hg with z | z
   ·rw[z]
    have:=hn q aK
    simp
    omega
   ·have:=hn g (aJ _ z)
    omega
  ·rw[if_neg h]
   refine⟨by simp;omega,λn hn g hg=>?_⟩
   rcases List.mem_cons.mp hg with z | z
   ·rw[z]
    have:=hn q aK
    omega
   ·exact i2 n (λx hx=>hn x (aJ _ hx)) g z
theorem tD(κ:Pt->NK.KD):∀(L:List Pt)(gs:List Gp)(n:Nat),gs.length<=n->(∀g∈gs,g.2.length<=n)->(L.foldl (λgs p=>mj gs (κ p) p) gs).length<=n+L.length/\∀g∈L.foldl (λgs p=>mj gs (κ p) p) gs,g.2.length<=n+L.length
 | [],gs,n,h1,h2=>⟨h1,h2⟩
 | p::r,gs,n,h1,h2=>by
  obtain⟨i1,i2⟩:=xo (κ p) p gs
  have:=tD κ r (mj gs (κ p) p) (n+1) (by omega) (i2 n h2)
  rw[xQ,kM]
  rw[show n+(r.length+1)=n+1+r.length from by omega]
  exact this
theorem KW(κ:Pt->NK.KD)(L:List Pt):(HI κ L).length<=L.length/\∀g∈HI κ L,g.2.length<=L.length:=by
 have:=tD κ L [] 0 (aj _) (λ_ z=>by cases z)
 rw[Bi] at this
 exact this
theorem y_{κ:Pt->NK.KD}{L:List Pt}{qs:List Qg}(h:qs.map vb=HI κ L):qs.length<=L.length/\∀q∈qs,q.2.2.length<=L.length:=by
 obtain⟨i1,i2⟩:=KW κ L
 rw[<-h] at i1 i2
 rw[bK] at i1
 exact⟨i1,λq hq=>i2 (vb q) (List.mem_map.mpr ⟨q,hq,rfl⟩)⟩
section
variable {st:Hs}
theorem ft{go ga:GE}{ρ:bw}{l:Nat}{ws:List Wv}{v:Wv}{s1 s2:Hs}(h1:go ρ st= .ok (.ref l) s1)(h2:s1[l]? =some (.lst ws))(h3:ga ρ s1= .ok v s2)(h4:s2[l]? =some (.lst ws))(hl:ws.length < lim):eF iI go ga ρ st= .ok .non (s2.set l (.lst (ws++[v]))):=by
 unfold eF
 rw[h1]
 simp only[cJ]
 rw[eS h2]
 dsimp only
 rw[h3]
 simp only[cJ]
 show((match s2[l]? with | some (.lst ws)=>(if ws.length < lim then Re.ok Wv.non (s2.set l (.lst (ws++[v]))) else .bad) | _=> .bad):Re Wv).mn=_
 rw[h4]
 dsimp only
 rw[if_pos hl]
 rfl
theorem vc{ρ:bw}:fJ ao ρ st= .ok (.ref st.length) (st++[.lst []]):=by simp
theorem G8{d l:Nat}{ρ:bw}{gd gk gx:GE}{kvs Qd:List (NK.KD×Wv)}{w x:Wv}{a:NK.KD}{st1 st2:Hs}(h1:gd ρ st= .ok (.ref d) st)(h2:st[d]? =some (.iU Qd))(h3:gk ρ st= .ok w st1)(hk:qL w=some a)(h4:gx ρ st1= .ok x st2)(h5:st2[d]? =some (.iU kvs))(hl:kvs.length < lim)(hv:bJ kvs a=some (.ref l)) :
  oB gd gk gx ρ st= .ok (.ref l) st2:=by
 unfold oB
 rw[h1]
 simp only[cJ]
 rw[if_pos (by show(match st[d]? with | some (.iU _)=>true | _=>false)=true;rw[h2]),h3]
 simp only[cJ]
 rw[h4]
 simp only[cJ]
 show(match qL w,st2[d]? with | some kk,some (.iU kvs)=>(if kvs.length < lim then(match bJ kvs kk with | some w=>Re.ok w st2 | none=> .ok x (st2.set d (.iU (fU kvs kk x)))) else .bad) | _,_=> .bad)=_
 rw[hk,h5]
 dsimp only
 rw[if_pos hl,hv]
theorem G_{d:Nat}{ρ:bw}{gd gk gx:GE}{kvs Qd:List (NK.KD×Wv)}{w x:Wv}{a:NK.KD}{st1 st2:Hs}(h1:gd ρ st= .ok (.ref d) st)(h2:st[d]? =some (.iU Qd))(h3:gk ρ st= .ok w st1)(hk:qL w=some a)(h4:gx ρ st1= .ok x st2)(h5:st2[d]? =some (.iU kvs))(hl:kvs.length < lim)(hv:bJ kvs a=none) :
  oB gd gk gx ρ st= .ok x (st2.set d (.iU (fU kvs a x))):=by
 unfold oB
 rw[h1]
 simp only[cJ]
 rw[if_pos (by show(match st[d]? with | some (.iU _)=>true | _=>false)=true;rw[h2]),h3]
 simp only[cJ]
 rw[h4]
 simp only[cJ]
 show(match qL w,st2[d]? with | some kk,some (.iU kvs)=>(if kvs.length < lim then(match bJ kvs kk with | some w=>Re.ok w st2 | none=> .ok x (st2.set d (.iU (fU kvs kk x)))) else .bad) | _,_=> .bad)=_
 rw[hk,h5]
 dsimp only
 rw[if_pos hl,hv]
def Kb(d b:Nat)(st st':Hs):Prop:=st.length<=st'.length/\∀k,k < b->k≠d->st'[k]? =st[k]?
theorem Kb.trans{d b:Nat}{x y z:Hs}(h:Kb d b x y)(k:Kb d b y z):Kb d b x z:=⟨bf h.1 k.1,λj a c=>(k.2 j a c).trans (h.2 j a c)⟩
theorem Kb.refl{d b:Nat}{x:Hs}:Kb d b x x:=⟨aj _,λ_ _ _=>rfl⟩
theorem CZ{d b e:Nat}{kvs:Ks}{qs:List Qg}{p:Pt}(he:dq st[e]? =some kvs)(hC:∀k v,bJ kvs k=some v->Cn v)(ht:tp kvs p=true)(hd:st[d]? =some (.iU (qK qs)))(L:Lay b qs st)(hb:d < b)(hs:b<=st.length)(hq:qs.length<=100)(hn:∀q∈qs,q.2.2.length<=100) :
  ∃(Df:List Qg)(st':Hs),dS [some (.ref e),some (.ref d),some (pw p)] st= .nx [some (.ref e),some (.ref d),some (pw p)] st'/\Df.map vb=mj (qs.map vb) (G6 kvs p) p/\st'[d]? =some (.iU (qK Df))/\Lay b Df st'/\Kb d b st st':=by
 obtain⟨v,ev,_,ef,_,fk⟩:=G7 hC ht
 obtain⟨s1,G1,e1⟩:=ef st
 generalize L_ kvs p=w at e1 fk
 generalize G6 kvs p=a at fk ⊢
 obtain⟨ρ,hρ⟩:∃ρ:bw,[some (.ref e),some (.ref d),some (pw p)]=ρ:=⟨_,rfl⟩
 have ix:LD (.ref e) (pw p) st= .ok v st:=Bk (a:=p.1) (b:=p.2) he ev
 have gd:af 1 ρ st= .ok (.ref d) st:=by rw[<-hρ];simp
 have gp:∀s:Hs,af 2 ρ s= .ok (pw p) s:=λs=>by rw[<-hρ];simp
 have gk:az 2 eM (ae (fM (af 0) (af 2)) (ae (af 2) ao)) ρ st= .ok w s1:=by
  rw[<-hρ]
  simp[fM,ix,e1]
 rw[hρ]
 have run:∀{w:Wv}{s:Hs},eF iI (oB (af 1) (az 2 eM (ae (fM (af 0) (af 2)) (ae (af 2) ao))) (fJ ao)) (af 2) ρ st= .ok w s->dS ρ st= .nx ρ s:=λ{w s} h=>by
  unfold dS i5
  rw[h]
  rfl
 have G2:Gr st (s1++[Ob.lst []]):=G1.trans Gr.push
 have d2:(s1++[Ob.lst []])[d]? =some (.iU (qK qs)):=G2.get hd
 have l1:=G1.1
 have hl:(qK qs).length < lim:=by unfold qK lim;rw[bK];omega
 rcases ml a p s1.length qs with ⟨pre,q,post,e1,e2,e3,e5⟩ | ⟨e1,e3⟩
 ·refine⟨rn qs a p s1.length,?_⟩
  rw[rp,e5]
  subst e1
  have hm:q∈pre++q::post:=by simp
  have L2:=L.gr G2
  have r1:=G8 (gx:=fJ ao) gd hd gk fk.1 vc d2 hl (Bn e2 e3)
  have r2:=ft r1 (L2.ls q hm) (gp _) (L2.ls q hm) (by rw[bK];have:=hn q hm;unfold lim;omega)
  have en:q.2.2.map pw++[pw p]=(q.2.2++[p]).map pw:=by simp
  rw[en] at r2
  have bq:=L.lt q hm
  refine⟨_,run r2,rfl,?_,L2.old,by simp;omega,λk h1 h2=>?_⟩
  ·rw[a9 (by omega),d2]
   unfold qK
   simp
  ·rw[a9 (by omega)]
   exact G2.2 k (by omega)
 ·refine⟨rn qs a p s1.length,?_⟩
  rw[rp,e3]
  obtain⟨v1,v2⟩:=Bo e1
  have r1:=G_ (gx:=fJ ao) gd hd gk fk.1 vc d2 hl v1
  have ep:fU (qK qs) a (.ref s1.length)=qK (qs++[(a,s1.length,[p])]):=by
   unfold fU
   rw[v2]
   unfold qK
   simp
  rw[ep] at r1
  have l2:((s1++[Ob.lst []]).set d (.iU (qK (qs++[(a,s1.length,[p])]))))[s1.length]? =some (.lst []):=by
   rw[a9 (by omega)]
   exact bQ
  have r2:=ft r1 l2 (gp _) l2 (by unfold lim;simp)
  have L3:Lay b qs (((s1++[Ob.lst []]).set d (.iU (qK (qs++[(a,s1.length,[p])])))).set s1.length (.lst [pw p])):=by
   have L2:=(L.gr G2).low (o:=.iU (qK (qs++[(a,s1.length,[p])]))) hb
   refine⟨λq hq=>?_,L2.lt,L2.nd⟩
   have lt:=cL (L.ls q hq)
   rw[a9 (by omega)]
   exact L2.ls q hq
  refine⟨_,run r2,rfl,?_,L3.new (cK l2) (by omega) (λq hq=>by have:=cL (L.ls q hq);omega),by simp;omega,λk h1 h2=>?_⟩
  ·rw[a9 (by omega)]
   exact cK d2
  ·rw[a9 (by omega),a9 (by omega)]
   exact G2.2 k (by omega)
theorem xp{e:Nat}{kvs:Ks}{ps:List Pt}(h:st[e]? =some (.gw kvs))(hk:De kvs ps)(hC:∀k v,bJ kvs k=some v->Cn v)(hl:ps.length < 64) :
  ∃(l:Nat)(qs:List Qg)(st':Hs),eD [.ref e] st= .ok (.ref l) st'/\Gr st st'/\st'[l]? =some (.lst (qs.map λq=>Wv.ref q.2.1))/\Lay st.length qs st'/\st.length<=l/\(∀q∈qs,q.2.1≠l)/\qs.map vb=HI (G6 kvs) (b9 (ps.filter (tp kvs))):=by
 have g0:Gr st (st++[Ob.iU []]):=Gr.push
 have d0:(st++[Ob.iU []])[st.length]? =some (.iU (qK [])):=bQ
 have n0:(st++[Ob.iU []]).length=st.length+1:=by simp
 generalize hs0:st++[Ob.iU []]=s0 at g0 d0 n0
 obtain⟨lp,s1,e1,g1,l1,_,b1⟩:=rl (st:=s0) (g0.get h) hk hC hl
 have hlp:lp < s1.length:=qV l1
 have pm:=dn (ps.filter (tp kvs))
 have len:(b9 (ps.filter (tp kvs))).length < 64:=by rw[pm.length_eq];exact Nat.lt_of_le_of_lt (u_ _ _) hl
 have mem:∀p∈b9 (ps.filter (tp kvs)),tp kvs p=true:=λp hp=>(List.mem_filter.mp (pm.mem_iff.mp hp)).2
 generalize hL:b9 (ps.filter (tp kvs))=Ls at l1 len mem
 have l01:=g1.1
 have hes:=cL h
 obtain⟨ρ2,s2,e2,⟨o2,qs,rfl,q1,q2,q3,q4⟩,_⟩:=mZ pw (i:=2) (gb:=dS) (l:=lp) (all:=Ls.map pw) Ls
  (λpre ρ s=>∃(o2:Option Wv)(qs:List Qg),ρ=[some (.ref e),some (.ref st.length),o2]/\qs.map vb=HI (G6 kvs) pre/\s[st.length]? =some (.iU (qK qs))/\Lay s1.length qs s/\Kb st.length s1.length s1 s)
  (λp pre post ρ s hf hP hl1=>by
   obtain⟨o2,qs,rfl,q1,q2,q3,q4⟩:=hP
   have hm:p∈Ls:=by rw[hf];simp
   have hpl:pre.length<=64:=by have:=congrArg dZ hf;simp at this;omega
   obtain⟨z1,z2⟩:=y_ q1
   have he:dq s[e]? =some kvs:=by
    rw[q4.2 e (by omega) (by omega),(g0.trans g1).get h]
    rfl
   obtain⟨Df,s',t1,t2,t3,t4,t5⟩:=CZ (p:=p) he hC (mem p hm) q2 q3 (by omega) q4.1 (by omega) (λq hq=>by have:=z2 q hq;omega)
   refine⟨_,s',t1,?_,some (pw p),Df,rfl,by rw[t2,q1,xn],t3,t4,q4.trans t5⟩
   have:=t5.2 lp hlp (by omega)
   unfold av at hl1 ⊢
   rw[this]
   exact hl1)
  Ls [] [some (.ref e),some (.ref st.length),none] s1 rfl ⟨none,[],rfl,rfl,g1.get d0,⟨λ_ z=>(by cases z),λ_ z=>(by cases z),eP⟩,Kb.refl⟩ l1
 have lv:FV (.ref st.length) s2= .ok (.ref s2.length) (s2++[.lst ((qK qs).map (·.2))]):=by
  show(match s2[st.length]? with | some (.iU kvs)=>Re.ok (Wv.ref s2.length) (s2++[Ob.lst (jJ (λx:NK.KD×Wv=>x.2) kvs)]) | _=> .bad)=_
  rw[q2]
 have ek:(qK qs).map (·.2)=qs.map λq=>Wv.ref q.2.1:=by unfold qK;rw[kZ];rfl
 rw[ek] at lv
 have G2:Gr st s2:=⟨by have:=q4.1;omega,λk hk'=>by rw[q4.2 k (by omega) (by omega)];exact(g0.trans g1).2 k hk'⟩
 refine⟨s2.length,qs,_,A_ (n:=3) (g:=jI) ?_,G2.trans Gr.push,bQ,⟨(q3.gr Gr.push).ls,λq hq=>by have:=q3.lt q hq;omega,q3.nd⟩,G2.1,λq hq=>aX (cL (q3.ls q hq)),q1⟩
 unfold jI
 have nn:wC [some (.ref e),none,none] st= .ok (.ref st.length) s0:=by unfold wC;rw[hs0]
 have xt:bY [.ref e] s0= .ok (.ref lp) s1:=e1
 simp[nn,xt,uL l1,e2,uD,lv]
end
def rW:List Wv->List Qg->Prop
 | [],[]=>True
 | w::fs,q::qs=>FK w q.1/\rW fs qs
 | _,_=>False
theorem rW.len:∀{fs:List Wv}{qs:List Qg},rW fs qs->fs.length=qs.length
 | [],[],_=>rfl
 | _::fs,_::qs,h=>by rw[kM,kM,rW.len h.2]
 | [],_::_,h=>aa h
 | _::_,[],h=>aa h
theorem rW.dat{st:Hs}:∀{fs:List Wv}{qs:List Qg},rW fs qs->dF (aG st 19) fs=some (qs.map λq=>q.1.1)
 | [],[],_=>rfl
 | w::fs,q::qs,h=>by
  unfold dF
  rw[h.1.2 19 st (by omega),rW.dat h.2]
  rfl
 | [],_::_,h=>aa h
 | _::_,[],h=>aa h
theorem rW.snoc{w:Wv}{q:Qg}(hq:FK w q.1):∀{fs:List Wv}{qs:List Qg},rW fs qs->rW (fs++[w]) (qs++[q])
 | [],[],_=>⟨hq,trivial⟩
 | _::fs,_::qs,h=>⟨h.1,rW.snoc hq h.2⟩
 | [],_::_,h=>aa h
 | _::_,[],h=>aa h
theorem rW.re{q q':Qg}(e:q'.1=q.1):∀{pre post:List Qg}{fs:List Wv},rW fs (pre++q::post)->rW fs (pre++q'::post)
 | [],post,[],h=>aa h
 | [],post,w::fs,h=>⟨by rw[e];exact h.1,h.2⟩
 | x::pre,post,[],h=>aa h
 | x::pre,post,w::fs,h=>⟨h.1,rW.re e h.2⟩
section
variable {st:Hs}
theorem C0{lf:Nat}{fs:List Wv}{qs:List Qg}(h:st[lf]? =some (.lst fs))(k:rW fs qs):aG st 20 (.ref lf)=some (.list (qs.map λq=>q.1.1)):=by
 show(match av st lf with | some ws=>(dF (aG st 19) ws).map pg | none=>none)=_
 rw[eS h]
 dsimp only
 rw[k.dat]
 rfl
theorem KY{a:NK.KD}{q:Qg}{pre post:List Qg}(h:q.1=a):((pre++q::post).map λq=>q.1.1).any (λz=>aC z a.1)=true:=by
 rw[List.any_eq_true]
 exact⟨q.1.1,List.mem_map.mpr ⟨q,by simp,rfl⟩,by rw[NK.KD.eqv,h];simp⟩
theorem KZ{a:NK.KD}{qs:List Qg}(h:∀p∈qs,p.1≠a):(qs.map λq=>q.1.1).any (λz=>aC z a.1)=false:=by
 rw[List.any_eq_false]
 intro z hz
 obtain⟨q,hq,rfl⟩:=List.mem_map.mp hz
 rw[NK.KD.eqv]
 simpa using h q hq
theorem Bp{a:NK.KD}{q:Qg}{post:List Qg}(h:q.1=a):∀{pre:List Qg},(∀p∈pre,p.1≠a)->((pre++q::post).map λq=>q.1.1).findIdx? (λz=>aC z a.1)=some pre.length
 | [],_=>by
  rw[tX,aD,EA,NK.KD.eqv,h]
  simp
 | x::r,hp=>by
  rw[List.cons_append,aD,EA,NK.KD.eqv,decide_eq_false (hp x aK),Bp h λp x_=>hp p (aJ _ x_)]
  simp
theorem WX{t:GT}{g h:GS}{ρ:bw}{st':Hs}(h1:t ρ st= .ok true st'):je t g h ρ st=g ρ st':=by simp[h1]
theorem Tg{t:GT}{g h:GS}{ρ:bw}{st':Hs}(h1:t ρ st= .ok false st'):je t g h ρ st=h ρ st':=by simp[h1]
theorem rA{g:GE}{ρ:bw}{w:Wv}{s:Hs}(h:g ρ st= .ok w s):i5 g ρ st= .nx ρ s:=by
 unfold i5
 rw[h]
 rfl
theorem Hd{ρ:bw}{w x:Wv}{b:Bool}(h4:af 4 ρ st= .ok w st)(h1:af 1 ρ st= .ok x st)(oi:lC false w x st= .ok (.bl b) st):cm (ai (lC false) (af 4) (af 1)) ρ st= .ok b st:=by
 have e:ai (lC false) (af 4) (af 1) ρ st= .ok (.bl b) st:=by
  unfold ai
  rw[h4]
  simp only[cJ]
  rw[h1]
  simp only[cJ]
  rw[oi]
  rfl
 unfold cm
 rw[e]
 rfl
def Kc(f d b:Nat)(st st':Hs):Prop:=st.length<=st'.length/\∀k,k < b->k≠f->k≠d->st'[k]? =st[k]?
theorem Kc.trans{f d b:Nat}{x y z:Hs}(h:Kc f d b x y)(k:Kc f d b y z):Kc f d b x z:=⟨bf h.1 k.1,λj a c e=>(k.2 j a c e).trans (h.2 j a c e)⟩
theorem Kc.refl{f d b:Nat}{x:Hs}:Kc f d b x x:=⟨aj _,λ_ _ _ _=>rfl⟩
theorem Hf{lf lh b e:Nat}{kvs:Ks}{qs:List Qg}{fs:List Wv}{p:Pt}{o4:Option Wv}(he:dq st[e]? =some kvs)(hC:∀k v,bJ kvs k=some v->Cn v)(ht:tp kvs p=true)(hf:st[lf]? =some (.lst fs))(hk:rW fs qs)(hh:st[lh]? =some (.lst (qs.map λq=>Wv.ref q.2.1)))(L:Lay b qs st)(hb:lf < lh/\lh < b)(hs:b<=st.length)(hq:qs.length<=100)(hn:∀q∈qs,q.2.2.length<=100) :
  ∃(Df:List Qg)(fs':List Wv)(Pn:Option Wv)(st':Hs),cS [some (.ref e),some (.ref lf),some (.ref lh),some (pw p),o4] st= .nx [some (.ref e),some (.ref lf),some (.ref lh),some (pw p),Pn] st'/\Df.map vb=mj (qs.map vb) (G6 kvs p) p/\st'[lf]? =some (.lst fs')/\rW fs' Df/\st'[lh]? =some (.lst (Df.map λq=>Wv.ref q.2.1))/\Lay b Df st'/\Kc lf lh b st st':=by
 obtain⟨v,ev,hF,_,ef,fk⟩:=G7 hC ht
 obtain⟨s1,G1,e1⟩:=ef st
 generalize L_ kvs p=w at e1 fk
 generalize G6 kvs p=a at fk ⊢
 have ix:LD (.ref e) (pw p) st= .ok v st:=Bk (a:=p.1) (b:=p.2) he ev
 have is:nD iW ja [v,.ty "tuple"] st= .ok (.bl true) st:=by rw[Hy (.inr (hC _ _ ev)),hF]
 obtain⟨ρ,hρ⟩:∃ρ:bw,[some (.ref e),some (.ref lf),some (.ref lh),some (pw p),some w]=ρ:=⟨_,rfl⟩
 have head:∀{g:GS}{s':Hs},g ρ s1= .nx ρ s'->je (jX (aZ (nD iW ja) (ae (fM (af 0) (af 3)) (ae (gC (.ty "tuple")) ao)))) (aN (bt 4 (az 2 aI (ae (fM (af 0) (af 3)) (ae (af 3) ao)))) g) bD [some (.ref e),some (.ref lf),some (.ref lh),some (pw p),o4] st= .nx ρ s':=λ{g s'} h=>by
  subst hρ
  simp[fM,ix,is,e1,h]
 have hf1:=G1.get hf
 have WY:=G1.get hh
 have df:=C0 hf1 hk
 have dw:aG s1 20 w=some a.1:=fk.2 20 s1 (by omega)
 have v1:∀s:Hs,af 1 ρ s= .ok (.ref lf) s:=λs=>by rw[<-hρ];simp
 have v2:∀s:Hs,af 2 ρ s= .ok (.ref lh) s:=λs=>by rw[<-hρ];simp
 have v3:∀s:Hs,af 3 ρ s= .ok (pw p) s:=λs=>by rw[<-hρ];simp
 have v4:∀s:Hs,af 4 ρ s= .ok w s:=λs=>by rw[<-hρ];simp
 have l1:=G1.1
 have lf1:=hk.len
 unfold cS
 rcases ml a p s1.length qs with ⟨pre,q,post,e1,e2,e3,e5⟩ | ⟨e1,e3⟩
 ·refine⟨rn qs a p s1.length,fs,some w,?_⟩
  rw[rp,e5,hρ]
  subst e1
  have hm:q∈pre++q::post:=by simp
  have L1:=L.gr G1
  have oi:lC false w (.ref lf) s1= .ok (.bl true) s1:=by
   unfold lC
   rw[df,dw]
   dsimp only
   rw[KY e2]
   rfl
  have mi:fN (.ref lf) w s1= .ok (.int (pre.length:Nat)) s1:=by
   unfold fN
   rw[df,dw]
   dsimp only
   rw[Bp e2 e3]
   dsimp only
   rw[if_pos (by rw[bK];unfold lim;omega)]
  have gi:eF fN (af 1) (af 4) ρ s1= .ok (.int (pre.length:Nat)) s1:=by
   unfold eF
   rw[v1]
   simp only[cJ]
   rw[eS hf1]
   dsimp only
   rw[v4]
   simp only[cJ]
   rw[mi]
   rfl
  have gx:ai cg (af 2) (eF fN (af 1) (af 4)) ρ s1= .ok (.ref q.2.1) s1:=by
   have i0:cg (.ref lh) (.int (pre.length:Nat)) s1= .ok (.ref q.2.1) s1:=yP (eS WY) (L2.gq (j:=pre.length) (by simp))
   unfold ai
   rw[v2]
   simp only[cJ]
   rw[gi]
   simp only[cJ]
   rw[i0]
   rfl
  have r2:=ft gx (L1.ls q hm) (v3 _) (L1.ls q hm) (by rw[bK];have:=hn q hm;unfold lim;omega)
  have en:q.2.2.map pw++[pw p]=(q.2.2++[p]).map pw:=by simp
  rw[en] at r2
  have bq:=L.lt q hm
  refine⟨_,head (s':=s1.set q.2.1 (.lst ((q.2.2++[p]).map pw))) ?_,rfl,?_,rW.re (by rfl) hk,?_,L1.old,by simp;omega,λk h1 h2 h3=>?_⟩
  ·rw[WX (Hd (v4 s1) (v1 s1) oi)]
   exact rA r2
  ·rw[a9 (by omega)];exact hf1
  ·rw[a9 (by omega),WY];simp
  ·rw[a9 (by omega)]
   exact G1.2 k (by omega)
 ·refine⟨rn qs a p s1.length,fs++[w],some w,?_⟩
  rw[rp,e3,hρ]
  have oi:lC false w (.ref lf) s1= .ok (.bl false) s1:=by
   unfold lC
   rw[df,dw]
   dsimp only
   rw[KZ e1]
   rfl
  have r1:=ft (v1 s1) hf1 (v4 s1) hf1 (by unfold lim;omega)
  have n1:(s1.set lf (.lst (fs++[w]))).length=s1.length:=by simp
  have hf2:(s1.set lf (.lst (fs++[w])))[lf]? =some (.lst (fs++[w])):=cK hf1
  have UJ:(s1.set lf (.lst (fs++[w])))[lh]? =some (.lst (qs.map λq=>Wv.ref q.2.1)):=by rw[a9 (by omega)];exact WY
  have L2:Lay b qs (s1.set lf (.lst (fs++[w]))):=(L.gr G1).low (by omega)
  have Th:∀k,k < b->k≠lf->(s1.set lf (.lst (fs++[w])))[k]? =st[k]?:=λk h1 h2=>by rw[a9 (by omega)];exact G1.2 k (by omega)
  generalize s1.set lf (.lst (fs++[w]))=s2 at r1 n1 hf2 UJ L2 Th
  have gl:fJ (ae (af 3) ao) ρ s2= .ok (.ref s2.length) (s2++[.lst [pw p]]):=by rw[<-hρ];simp
  have r2:=ft (v2 s2) UJ gl (fP UJ) (by rw[bK];unfold lim;omega)
  have L3:Lay b qs ((s2++[Ob.lst [pw p]]).set lh (.lst ((qs.map λq=>Wv.ref q.2.1)++[Wv.ref s2.length]))):=(L2.gr Gr.push).low (by omega)
  have nw:((s2++[Ob.lst [pw p]]).set lh (.lst ((qs.map λq=>Wv.ref q.2.1)++[Wv.ref s2.length])))[s2.length]? =some (.lst [pw p]):=by
   rw[a9 (by omega)]
   exact bQ
  rw[<-n1]
  refine⟨_,head (s':=(s2++[Ob.lst [pw p]]).set lh (.lst ((qs.map λq=>Wv.ref q.2.1)++[Wv.ref s2.length]))) ?_,rfl,?_,rW.snoc fk hk,?_,L3.new nw (by omega) (λq hq=>cL (L2.ls q hq)),by simp;omega,λk h1 h2 h3=>?_⟩
  ·rw[Tg (Hd (v4 s1) (v1 s1) oi),GC,rA r1]
   exact rA r2
  ·rw[a9 (by omega)];exact fP hf2
  ·rw[cK (fP UJ)];simp
  ·rw[a9 (by omega),d_ (by omega)]
   exact Th k h1 h2
theorem K0{e:Nat}{kvs:Ks}{ps:List Pt}(h:st[e]? =some (.gw kvs))(hk:De kvs ps)(hC:∀k v,bJ kvs k=some v->Cn v)(hl:ps.length < 64) :
  ∃(l:Nat)(qs:List Qg)(st':Hs),g_ [.ref e] st= .ok (.ref l) st'/\Gr st st'/\st'[l]? =some (.lst (qs.map λq=>Wv.ref q.2.1))/\Lay st.length qs st'/\st.length<=l/\qs.map vb=HI (G6 kvs) (b9 (ps.filter (tp kvs))):=by
 obtain⟨s0,hs0⟩:∃s0,(st++[Ob.lst []])++[Ob.lst []]=s0:=⟨_,rfl⟩
 have g0:Gr st s0:=by rw[<-hs0];exact Gr.push.trans Gr.push
 have n0:s0.length=st.length+2:=by rw[<-hs0];simp
 have f0:s0[st.length]? =some (.lst []):=by rw[<-hs0];exact fP bQ
 have h0:s0[st.length+1]? =some (.lst []):=by rw[<-hs0];have:=bQ (st:=st++[Ob.lst []]) (o:=Ob.lst []);simpa using this
 have dw:dq s0[e]? =some kvs:=by rw[g0.get h];rfl
 have sr:lF [.ref e] s0= .ok (.ref s0.length) (s0++[.lst ((b9 ps).map pw)]):=by
  show(match dq s0[e]? with
   | some kvs=>(match kj (jJ (λx:List L2.Key×Wv=>x.1) kvs) with | some ps=>if ps.length < 64 then Re.ok (Wv.ref s0.length) (s0++[Ob.lst ((b9 ps).map pw)]) else .bad | none=> .bad)
   | none=>jO [.ref e] s0)=_
  rw[dw]
  dsimp only
  rw[hk.1,u9]
  dsimp only
  rw[if_pos hl]
 obtain⟨s1,hs1⟩:∃s1,s0++[Ob.lst ((b9 ps).map pw)]=s1:=⟨_,rfl⟩
 rw[hs1] at sr
 have g1:Gr s0 s1:=by rw[<-hs1];exact Gr.push
 have n1:s1.length=st.length+3:=by rw[<-hs1];simp[n0]
 have l1:av s1 s0.length=some ((b9 ps).map pw):=by rw[<-hs1];exact eG
 have pm:=dn ps
 have len:(b9 ps).length < 64:=by rw[pm.length_eq];exact hl
 have hes:=cL h
 obtain⟨ρ2,s2,e2,⟨o3,o4,qs,fs,rfl,q1,q2,WZ,K2,q3,q4⟩,_⟩:=mZ pw (i:=3) (gb:=cS) (l:=s0.length) (all:=(b9 ps).map pw) (b9 ps)
  (λpre ρ s=>∃(o3 o4:Option Wv)(qs:List Qg)(fs:List Wv),ρ=[some (.ref e),some (.ref st.length),some (.ref (st.length+1)),o3,o4]/\qs.map vb=HI (G6 kvs) (pre.filter (tp kvs))/\s[st.length]? =some (.lst fs)/\rW fs qs/\s[st.length+1]? =some (.lst (qs.map λq=>Wv.ref q.2.1))/\Lay s1.length qs s/\Kc st.length (st.length+1) s1.length s1 s)
  (λp pre post ρ s hf hP hl1=>by
   obtain⟨o3,o4,qs,fs,rfl,q1,q2,WZ,K2,q3,q4⟩:=hP
   have hm:p∈b9 ps:=by rw[hf];simp
   have hpl:(pre.filter (tp kvs)).length<=64:=by
    have h1:=congrArg dZ hf
    have h2:=u_ (tp kvs) pre
    rw[eh] at h1
    omega
   obtain⟨z1,z2⟩:=y_ q1
   have he:dq s[e]? =some kvs:=by
    rw[q4.2 e (by omega) (by omega) (by omega),(g0.trans g1).get h]
    rfl
   have q41:=q4.1
   by_cases ct:tp kvs p=true
   ·obtain⟨Df,fs',Pn,s',t1,t2,t3,t3',W0,t4,t5⟩:=Hf (p:=p) (o4:=o4) he hC ct q2 WZ K2 q3 ⟨by omega,by omega⟩ (by omega) (by omega) (λq hq=>by have:=z2 q hq;omega)
    refine⟨_,s',t1,?_,some (pw p),Pn,Df,fs',rfl,by rw[t2,q1,List.filter_append,qi ct,List.filter_nil,xn],t3,t3',W0,t4,q4.trans t5⟩
    have:=t5.2 s0.length (by omega) (by omega) (by omega)
    unfold av at hl1 ⊢
    rw[this]
    exact hl1
   ·have x_:oF p∈kvs.map (·.1):=by rw[hk.1];exact List.mem_map.mpr ⟨p,pm.mem_iff.mp hm,rfl⟩
    obtain⟨v,ev⟩:=lA x_
    have ix:LD (.ref e) (pw p) s= .ok v s:=Bk (a:=p.1) (b:=p.2) he ev
    have is:nD iW ja [v,.ty "tuple"] s= .ok (.bl false) s:=by
     rw[Hy (.inr (hC _ _ ev))]
     have:tp kvs p=HH v:=by show HH ((bJ kvs (oF p)).getD .non)=_;rw[ev];rfl
     rw[<-this]
     simp at ct
     rw[ct]
    refine⟨[some (.ref e),some (.ref st.length),some (.ref (st.length+1)),some (pw p),o4],s,?_,hl1,some (pw p),o4,qs,fs,rfl,by rw[q1,List.filter_append,nE ct,List.filter_nil,gO],q2,WZ,K2,q3,q4⟩
    unfold cS
    simp[fM,ix,is])
  (b9 ps) [] [some (.ref e),some (.ref st.length),some (.ref (st.length+1)),none,none] s1 rfl ⟨none,none,[],[],rfl,rfl,g1.get f0,trivial,g1.get h0,⟨λ_ z=>(by cases z),λ_ z=>(by cases z),eP⟩,Kc.refl⟩ l1
 have sm:(b9 ps).filter (tp kvs)=b9 (ps.filter (tp kvs)):=qt (((dn ps).filter _).trans (dn _).symm) ((mS ps).sublist List.filter_sublist) (mS _)
 rw[sm] at q1
 have q41:=q4.1
 refine⟨st.length+1,qs,s2,A_ (n:=5) (g:=jE) ?_,⟨by omega,λk hk'=>by rw[q4.2 k (by omega) (by omega) (by omega)];exact(g0.trans g1).2 k hk'⟩,K2,⟨q3.ls,λq hq=>by have:=q3.lt q hq;omega,q3.nd⟩,by omega,q1⟩
 unfold jE
 have Ab:forL 3 cS s0.length ((b9 ps).map pw) ((b9 ps).map pw) [some (.ref e),some (.ref st.length),some (.ref (st.length+1)),none,none] s1= .nx [some (.ref e),some (.ref st.length),some (.ref (st.length+1)),o3,o4] s2:=e2
 have abI:st++([Ob.lst []]++[Ob.lst []])=s0:=by rw[<-hs0];simp
 simp[hs0,sr,uL l1,Ab]
end
def dP(p:Pt):PyData:=.tuple [.int p.1,.int p.2]
def dH(g:Gp):PyData:=.list (g.2.map dP)
theorem Bq{st:Hs}{n:Nat}:∀l:List Pt,dF (aG st (n+1)) (l.map pw)=some (l.map dP)
 | []=>rfl
 | p::r=>by
  rw[aD]
  unfold dF
  rw[Bq r]
  have:aG st (n+1) (pw p)=some (dP p):=by cases n<;>rfl
  rw[this]
  rfl
theorem tE{st:Hs}{n:Nat}:∀{qs:List Qg},(∀q∈qs,st[q.2.1]? =some (.lst (q.2.2.map pw)))->dF (aG st (n+2)) (qs.map λq=>Wv.ref q.2.1)=some ((qs.map vb).map dH)
 | [],_=>rfl
 | q::r,h=>by
  rw[aD]
  unfold dF
  rw[tE (qs:=r) λx hx=>h x (aJ _ hx)]
  have:aG st (n+2) (.ref q.2.1)=some (dH (vb q)):=by
   show(match av st q.2.1 with | some ws=>(dF (aG st (n+1)) ws).map pg | none=>none)=_
   rw[eS (h q aK)]
   dsimp only
   rw[Bq]
   rfl
  rw[this]
  rfl
theorem Hg:∀l:List Pt,cu (l.map dP) (l.map dP)=true
 | []=>by simp[cu]
 | p::r=>by simp[cu,Hg r,dP,aC]
theorem Hh:∀gs:List Gp,cu (gs.map dH) (gs.map dH)=true
 | []=>by simp[cu]
 | p::r=>by simp[cu,Hh r,dH,aC,Hg]
theorem rB{st:Hs}{a b:Nat}{qs ps:List Qg}(ha:st[a]? =some (.lst (qs.map λq=>Wv.ref q.2.1)))(hq:∀q∈qs,st[q.2.1]? =some (.lst (q.2.2.map pw)))(hb:st[b]? =some (.lst (ps.map λq=>Wv.ref q.2.1)))(hp:∀q∈ps,st[q.2.1]? =some (.lst (q.2.2.map pw)))(e:qs.map vb=ps.map vb):C8 (.ref a) (.ref b) st= .ok (.bl false) st/\oEq (.ref a) (.ref b) st= .ok (.bl true) st:=by
 have d:∀{a:Nat}{qs:List Qg},st[a]? =some (.lst (qs.map λq=>Wv.ref q.2.1))->(∀q∈qs,st[q.2.1]? =some (.lst (q.2.2.map pw)))->aG st 20 (.ref a)=some (.list ((qs.map vb).map dH)):=λ{a qs} h k=>by
  show(match av st a with | some ws=>(dF (aG st 19) ws).map pg | none=>none)=_
  rw[eS h]
  dsimp only
  rw[tE k]
  rfl
 have d1:=d ha hq
 have d2:=d hb hp
 rw[<-e] at d2
 have ev:aC (.list ((qs.map vb).map dH)) (.list ((qs.map vb).map dH))=true:=by simp only[aC];exact Hh _
 exact⟨O9 d1 d2 ev,O_ d1 d2 ev⟩
theorem Ma{l l':List Int}(h:n6 l=some l'):Fits l':=by
 unfold n6 at h
 by_cases c:Fits l
 ·rw[if_pos c] at h;cases h;exact c
 ·rw[if_neg c] at h;cases h
theorem fS(a b c d:Int):∀f:Fm,f.fit->(f.e_ (g3 a b c d)).fit
 | .lit _ _,h=>trivial
 | .pt x l p,h=>by
  simp only[Fm.e_]
  cases e:g3 a b c d x l p with
  | none=>exact trivial
  | some l'=>exact Ma e
 | .fd f l p,h=>by
  simp only[Fm.e_]
  cases e:g3 a b c d "find" l p with
  | none=>exact trivial
  | some l'=>exact⟨fS a b c d f h.1,Ma e⟩
 | .o1 x f,h=>fS a b c d f h
 | .o2 x f g,h=>⟨fS a b c d f h.1,fS a b c d g h.2⟩
 | .o3 f g k,h=>⟨fS a b c d f h.1,fS a b c d g h.2.1,fS a b c d k h.2.2⟩
theorem Mb{i j:Int}{st:Hs}:∃m,sI [.int i,.int j] st= .ok (.int m) st/\m<=i/\m<=j/\(m=i\/m=j):=by
 by_cases c:j < i
 ·exact⟨j,by simp[c],by omega,by omega,.inr rfl⟩
 ·exact⟨i,by simp[c],by omega,by omega,.inl rfl⟩
structure Sh(d n:Nat)(kvs:Ks)(ps:List Pt)(st:Hs):Prop where
 at':st[d]? =some (.gw kvs)
 ks:De kvs ps
 cn:∀kv∈kvs,Cn kv.2
 len:ps.length<=n
theorem i_{k:List L2.Key}{v:Wv}:∀{kvs:Ks},bJ kvs k=some v->(k,v)∈kvs
 | [],e=>by cases e
 | x::r,e=>by
  unfold bJ at e
  by_cases c:x.1=k
  ·rw[if_pos c] at e
   cases e
   rw[<-c]
   exact aK
  ·rw[if_neg c] at e
   exact aJ _ (i_ e)
theorem Sh.hC{d n:Nat}{kvs:Ks}{ps:List Pt}{st:Hs}(h:Sh d n kvs ps st):∀k v,bJ kvs k=some v->Cn v:=λk v e=>h.cn _ (i_ e)
theorem Ti{v:Wv}{st:Hs}(h:Cn v):oO iW ja [v,.ty "tuple"] st= .ok (.bl (HH v)) st:=by
 rcases h with ⟨i,rfl⟩ | ⟨x,rfl⟩ | ⟨f,rfl,_⟩<;>rfl
theorem Mc{l:Nat}{ws:List Wv}{st:Hs}(h':st[l]? =some (.lst ws)):oO iW ja [.ref l,.ty "list"] st= .ok (.bl true) st:=by
 have h:=eS h'
 have e:D8 [.ref l,.ty "list"] st= .ok (.bl true) st:=by
  unfold D8
  dsimp only
  rw[if_pos (show BM "list"=true from rfl)]
  have e0:Rt st "list" (.ref l)=some true:=by
   show(av st l).map _=_
   rw[h]
   rfl
  rw[e0]
 show(if "list"="dict"/\(dq st[l]?).isSome=true then Re.ok (Wv.bl true) st else D8 [.ref l,.ty "list"] st)=_
 rw[if_neg (λz=>absurd z.1 (by decide)),e]
theorem K3{a b:GS}{ρ ρ':bw}{st st':Hs}(h:a ρ st= .nx ρ' st'):aN a b ρ st=b ρ' st':=by rw[GC,h];rfl
abbrev Rh(d r:Nat)(o3 o4 o5:Option Wv):bw:=[some (.ref 0),some (.ref d),some (.ref r),o3,o4,o5,none,none,none,none]
theorem C2{d r n:Nat}{kvs:Ks}{ps:List Pt}{p:Pt}{o4 o5:Option Wv}{s:Hs}(hr:Ro r s)(S:Sh d n kvs ps s)(hp:hR p.1 p.2)(hm:oF p∈kvs.map (·.1))(nd:d≠r)(hn:n<=30) :
  ∃(Pn W3:Option Wv)(kvs':Ks)(ps':List Pt)(s':Hs),hJ (Rh d r (some (pw p)) o4 o5) s= .nx (Rh d r (some (pw p)) Pn W3) s'/\Ro r s'/\Sh d (n+1) kvs' ps' s'/\(∀k∈kvs.map (·.1),k∈kvs'.map (·.1))/\(s.length<=s'.length/\∀k,k < s.length->k≠d->k≠r->s'[k]? =s[k]?):=by
 obtain⟨v,ev⟩:=lA hm
 have hv:=S.hC _ v ev
 have he:dq s[d]? =some kvs:=by rw[S.at'];rfl
 have ix:∀{s':Hs},s'[d]? =some (.gw kvs)->LD (.ref d) (pw p) s'= .ok v s':=λ{s'} h=>Bk (a:=p.1) (b:=p.2) (by rw[h];rfl) ev
 have is:oO iW ja [v,.ty "tuple"] s= .ok (.bl (HH v)) s:=Ti hv
 by_cases cf:HH v=false
 ·rw[cf] at is
  refine⟨o4,o5,kvs,ps,s,?_,hr,⟨S.at',S.ks,S.cn,by have:=S.len;omega⟩,λ_ z=>z,aj _,λ_ _ _ _=>rfl⟩
  unfold hJ
  simp[fM,ix S.at',is]
 have cf:HH v=true:=by simpa using cf
 rw[cf] at is
 obtain⟨w,s1,e1,w0,w1,d1⟩:=dig (m:=2) hr (by decide) (by decide)
 have h1:s1[d]? =some (.gw kvs):=by rw[d1.1.2 d (cL S.at') nd];exact S.at'
 by_cases cw:¬w=1
 ·have cw':(w == 1)=false:=beq_false_of_ne cw
  refine⟨o4,o5,kvs,ps,s1,?_,d1.2,⟨h1,S.ks,S.cn,by have:=S.len;omega⟩,λ_ z=>z,d1.1.1,λk hk _ hkr=>d1.1.2 k hk hkr⟩
  unfold hJ
  simp[fM,ix S.at',is,e1,cw']
 have cw:w=1:=Decidable.not_not.mp cw
 subst cw
 obtain⟨x,s2,e2,x0,x1,d2⟩:=dig (m:=5) d1.2 (by decide) (by decide)
 obtain⟨y,s3,e3,y0,y1,d3⟩:=dig (m:=5) d2.2 (by decide) (by decide)
 obtain⟨m1,n1,u1,u2,u3⟩:=Mb (i:=98) (j:=p.1+x) (st:=s2)
 obtain⟨m2,n2,v1,v2,v3⟩:=Mb (i:=25) (j:=p.2+y) (st:=s3)
 have Fd:=(d1.trans d2).trans d3
 have h3:s3[d]? =some (.gw kvs):=by rw[Fd.1.2 d (cL S.at') nd];exact S.at'
 have pl:hR m1 m2:=by unfold hR at hp ⊢;omega
 rcases hv with ⟨i,rfl⟩ | ⟨z,rfl⟩ | ⟨f,rfl,f1,f2,f3⟩
 ·cases cf
 ·cases cf
 obtain⟨s4,k4,e4⟩:=KS (a:=p.1) (b:=p.2) (c:=m1) (d:=m2) f1 (by omega) s3
 have h4:=k4.get h3
 have lk:kvs.length<=n:=by
  have:=congrArg dZ S.ks.1
  simp at this
  have:=S.len
  omega
 have pd:=GX (a:=m1) (b:=m2) (v:=(f.e_ (g3 p.1 p.2 m1 m2)).w) h4 (by omega)
 have cn:Cn (f.e_ (g3 p.1 p.2 m1 m2)).w:=.inr (.inr ⟨_,rfl,iE _ _ _ _ f f1,fS _ _ _ _ f f2,bf (jK _ f) f3⟩)
 obtain⟨qs,hq,lq⟩:=S.ks.put (p:=(m1,m2)) (v:=(f.e_ (g3 p.1 p.2 m1 m2)).w) pl (.inr cn)
 generalize (f.e_ (g3 p.1 p.2 m1 m2)).w=w' at e4 pd cn hq
 have P6:=k4.1
 have n31:=Fd.1.1
 have r4:Ro r s4:=Fd.2.gr k4
 refine⟨some (.int m1),some (tI [m1,m2]),_,qs,_,?_,?_,⟨cK h4,hq,λkv hk=>?_,by have:=S.len;omega⟩,λk hk=>?_,by simp;omega,λk h1 h2 h3=>?_⟩
 ·have t2:oP [.int m1,.int m2] s3= .ok (tI [m1,m2]) s3:=jo
  have e4':ax [f.w,pw p,tI [m1,m2]] s3= .ok w' s4:=e4
  have i0:∀{s:Hs},cg (pw p) (.int 0) s= .ok (.int p.1) s:=rfl
  have i1:∀{s:Hs},cg (pw p) (.int 1) s= .ok (.int p.2) s:=rfl
  have pd':putD (.ref d) (tI [m1,m2]) w' s4=some (s4.set d (.gw (fU kvs (ky m1 m2) w'))):=pd
  unfold hJ
  simp[fM,ix S.at',ix h3,is,e1,i0,i1,e2,e3,-SK,n1,n2,-jo,t2,e4',sM,pd']
  rfl
 ·obtain⟨z,hz⟩:=r4
  exact⟨z,by rw[a9 nd];exact hz⟩
 ·rcases xk hk with z | z
  ·rw[z];exact cn
  ·exact S.cn kv z
 ·have e:(fU kvs (oF (m1,m2)) w').map (·.1)=_:=rj
  show k∈(fU kvs (oF (m1,m2)) w').map (·.1)
  rw[e]
  split
  ·exact hk
  ·exact zv _ hk
 ·rw[a9 (λz=>h2 z.symm),k4.2 k (by omega)]
  exact Fd.1.2 k h1 h3
theorem Po{a b:Int}{kvs:Ks}(hs:rh a b)(h:Bh a b 12 kvs):∃ps,De kvs ps/\(∀kv∈kvs,Cn kv.2)/\ps.length<=12:=by
 obtain⟨js,h1,h2,h3,h4,h5⟩:=h
 refine⟨js.map (gp a b),⟨by rw[h1,kZ];rfl,?_,λp hp=>?_,λkv hk=> .inr (h5 kv hk)⟩,h5,by simpa using h4⟩
 ·exact List.pairwise_map.mpr (h2.imp λne e=>ne (GY (by rw[e])))
 ·obtain⟨j,hj,rfl⟩:=List.mem_map.mp hp
  exact Ta hs (h3 j hj)
theorem Md{d r l b:Nat}{qs:List Qg}{o3 o4 o5 o6 o7:Option Wv}:∀(rest pre:List Qg)(o9:Option Wv)(st:Hs),qs=pre++rest->(∀q∈qs,b<=q.2.1/\q.2.1≠l)->st[l]? =some (.lst (qs.map λq=>Wv.ref q.2.1))->(∀q∈qs,∃ws,st[q.2.1]? =some (.lst ws)/\ws.length<=100+pre.length)->qs.length<=100->
  ∃(W4:Option Wv)(st':Hs),forL 9 kI l (qs.map λq=>Wv.ref q.2.1) (rest.map λq=>Wv.ref q.2.1) [some (.ref 0),some (.ref d),some (.ref r),o3,o4,o5,o6,o7,some (.ref l),o9] st= .nx [some (.ref 0),some (.ref d),some (.ref r),o3,o4,o5,o6,o7,some (.ref l),W4] st'/\st'[l]? =some (.lst (qs.map λq=>Wv.ref q.2.1))/\st'.length=st.length/\∀k,k < b->st'[k]? =st[k]?
 | [],pre,o9,st,_,_,hl,_,_=>⟨o9,st,rfl,hl,rfl,λ_ _=>rfl⟩
 | q::rest,pre,o9,st,hf,hq,hl,hw,hn=>by
  have hm:q∈qs:=by rw[hf];simp
  obtain⟨ws,h1,h2⟩:=hw q hm
  obtain⟨b1,b2⟩:=hq q hm
  have len:=congrArg dZ hf
  rw[eh,kM] at len
  have is:=Mc h1
  have t2:oP [.int 0,.int 0] st= .ok (tI [0,0]) st:=jo
  obtain⟨ρ,hρ⟩:∃ρ:bw,[some (.ref 0),some (.ref d),some (.ref r),o3,o4,o5,o6,o7,some (.ref l),some (.ref q.2.1)]=ρ:=⟨_,rfl⟩
  have v9:af 9 ρ st= .ok (.ref q.2.1) st:=by rw[<-hρ];simp
  have gt:cH (ae (gC (.int 0)) (ae (gC (.int 0)) ao)) ρ st= .ok (tI [0,0]) st:=by simp[-jo,t2]
  have ap:=ft v9 h1 gt h1 (by unfold lim;omega)
  have bd:kI ρ st= .nx ρ (st.set q.2.1 (.lst (ws++[tI [0,0]]))):=by
   unfold kI
   have t:t_ (jX (aZ (oO iW ja) (ae (af 9) (ae (gC (.ty "list")) ao)))) ρ st= .ok false st:=by rw[<-hρ];simp[is]
   rw[GC,Tg t]
   show(Rs.nx ρ st).sq _=_
   exact rA ap
  have l1:(st.set q.2.1 (.lst (ws++[tI [0,0]])))[l]? =some (.lst (qs.map λq=>Wv.ref q.2.1)):=by rw[a9 b2];exact hl
  obtain⟨W4,st',e1,e2,e3,e4⟩:=Md (o3:=o3) (o4:=o4) (o5:=o5) (o6:=o6) (o7:=o7) (d:=d) (r:=r) rest (pre++[q]) (some (.ref q.2.1)) (st.set q.2.1 (.lst (ws++[tI [0,0]]))) (by rw[hf];simp) hq l1 (λx hx=>by
   by_cases c:q.2.1=x.2.1
   ·rw[<-c]
    exact⟨_,cK h1,by simp;omega⟩
   ·obtain⟨us,k1,k2⟩:=hw x hx
    exact⟨us,by rw[a9 c];exact k1,by simp;omega⟩) hn
  refine⟨W4,st',?_,e2,by rw[e3];simp,λk hk=>by rw[e4 k hk,a9 (by omega)]⟩
  rw[aD]
  unfold forL
  have e0:([some (.ref 0),some (.ref d),some (.ref r),o3,o4,o5,o6,o7,some (.ref l),o9]:bw).set 9 (some (.ref q.2.1))=ρ:=by rw[<-hρ];rfl
  rw[e0,bd]
  simp only[if_pos (eS l1)]
  rw[<-hρ]
  exact e1
theorem law_true:∀ns:List Int,ns.length<=63->∃st,F_law [.ref 0] [.sj ns]= .ok (.bl true) st:=by
 intro ns hn
 have l0:av [Ob.sj ns] 0=some (ns.map Wv.int):=rfl
 obtain⟨a,b,kvs,d,s1,e1,h1,hs,hk,g1,_⟩:=cells l0 hn (dp:=2) (by decide)
 obtain⟨n,e2⟩:=stream (g1.lst l0) hn (k:=12) (by decide) (by decide)
 obtain⟨ps,pk,cn,pl⟩:=Po hs hk
 obtain⟨s2,hs2⟩:∃s2,s1++[Ob.lst [.int n]]=s2:=⟨_,rfl⟩
 rw[hs2] at e2
 have g2:Gr s1 s2:=by rw[<-hs2];exact Gr.push
 have r2:Ro s1.length s2:=⟨n,by rw[<-hs2];exact bQ⟩
 have n2:s2.length=s1.length+1:=by rw[<-hs2];simp
 have nd:d≠s1.length:=aX (cL h1)
 have dl:d < s1.length:=cL h1
 have h2:=g2.get h1
 have sr:lF [.ref d] s2= .ok (.ref s2.length) (s2++[.lst ((b9 ps).map pw)]):=by
  show(match dq s2[d]? with
   | some kvs=>(match kj (jJ (λx:List L2.Key×Wv=>x.1) kvs) with | some ps=>if ps.length < 64 then Re.ok (Wv.ref s2.length) (s2++[Ob.lst ((b9 ps).map pw)]) else .bad | none=> .bad)
   | none=>jO [.ref d] s2)=_
  rw[show dq s2[d]? =some kvs by rw[h2];rfl]
  dsimp only
  rw[pk.1,u9]
  dsimp only
  rw[if_pos (by omega)]
 obtain⟨s3,Lr⟩:∃s3,s2++[Ob.lst ((b9 ps).map pw)]=s3:=⟨_,rfl⟩
 rw[Lr] at sr
 have P9:Gr s2 s3:=by rw[<-Lr];exact Gr.push
 have n3:s3.length=s2.length+1:=by rw[<-Lr];simp
 have l3:av s3 s2.length=some ((b9 ps).map pw):=by rw[<-Lr];exact eG
 have pm:=dn ps
 have abN:(b9 ps).length<=12:=by rw[pm.length_eq];exact pl
 obtain⟨ρ4,s4,e4,⟨o3,o4,o5,Qj,W5,rfl,r4,S4,_,_⟩,_⟩:=mZ pw (i:=3) (gb:=hJ) (l:=s2.length) (all:=(b9 ps).map pw) (b9 ps)
  (λpre ρ s=>∃(o3 o4 o5:Option Wv)(kvs':Ks)(ps':List Pt),ρ=Rh d s1.length o3 o4 o5/\Ro s1.length s/\Sh d (12+pre.length) kvs' ps' s/\(∀k∈kvs.map (·.1),k∈kvs'.map (·.1))/\s3.length<=s.length)
  (λp pre post ρ s hf hP hl=>by
   obtain⟨o3,o4,o5,kvs',ps',rfl,r,S,sub,ln⟩:=hP
   have hm:p∈b9 ps:=by rw[hf];simp
   have hmp:=pm.mem_iff.mp hm
   have x_:oF p∈kvs.map (·.1):=by rw[pk.1];exact List.mem_map.mpr ⟨p,hmp,rfl⟩
   have len:=congrArg dZ hf
   rw[eh,kM] at len
   obtain⟨Pn,W3,kv2,ps2,s',t1,t2,t3,t4,t5,t6⟩:=C2 (o4:=o4) (o5:=o5) r S (pk.2.2.1 p hmp) (sub _ x_) nd (by omega)
   refine⟨_,s',t1,?_,some (pw p),Pn,W3,kv2,ps2,rfl,t2,by rw[eh,zM,<-Nat.add_assoc];exact t3,λk hk=>t4 k (sub k hk),by omega⟩
   have:=t6 s2.length (by omega) (by omega) (by omega)
   unfold av at hl ⊢
   rw[this]
   exact hl)
  (b9 ps) [] (Rh d s1.length none none none) s3 rfl ⟨none,none,none,kvs,ps,rfl,r2.gr P9,⟨P9.get h2,pk,cn,by simp;omega⟩,λ_ z=>z,aj _⟩ l3
 have Zb:=S4.at'
 have dk:=KR (d:=d) (st:=s4) (by rw[Zb];rfl) S4.ks.hash
 obtain⟨s5,W6⟩:∃s5,s4++[Ob.gw Qj]=s5:=⟨_,rfl⟩
 rw[W6] at dk
 have g5:Gr s4 s5:=by rw[<-W6];exact Gr.push
 have h5:s5[s4.length]? =some (.gw Qj):=by rw[<-W6];exact bQ
 have Zc:=g5.get Zb
 have hC:=S4.hC
 have Pp:W5.length < 64:=by have:=S4.len;omega
 obtain⟨ld,qd,s6,e6,g6,d6,L6,b6,m6⟩:=K0 Zc S4.ks hC Pp
 have W7:=g6.get Zc
 obtain⟨lh,qh,s7,e7,g7,d7,L7,b7,nl7,m7⟩:=xp W7 S4.ks hC Pp
 have Ze:=g7.get W7
 have c1:=(rB d7 L7.ls (g7.get d6) (L6.gr g7).ls (m7.trans m6.symm)).1
 have c2:=(eq_self (l:=d) (k:=s4.length) (st:=s7) (by rw[Ze];rfl) (by rw[(g6.trans g7).get h5];rfl) S4.ks.dat).2
 have is:=Mc d7
 obtain⟨z1,z2⟩:=y_ m7
 have zl:(b9 (W5.filter (tp Qj))).length<=64:=by
  rw[(dn _).length_eq]
  have:=u_ (tp Qj) W5
  omega
 have Zf:ld < s6.length:=cL d6
 obtain⟨o9,s8,e8,d8,n8,k8⟩:=Md (d:=d) (r:=s1.length) (o3:=o3) (o4:=o4) (o5:=o5) (o6:=some (.ref s4.length)) (o7:=some (.ref ld)) (qs:=qh) (b:=s6.length) qh [] none s7 rfl (λq hq=>⟨L7.lt q hq,nl7 q hq⟩) d7 (λq hq=>⟨_,L7.ls q hq,by rw[bK];have:=z2 q hq;simp;omega⟩) (by omega)
 have hdl:d < s6.length:=cL W7
 have hd8:s8[d]? =some (.gw Qj):=by rw[k8 d hdl];exact Ze
 have dd8:s8[ld]? =some (.lst (qd.map λq=>Wv.ref q.2.1)):=by rw[k8 ld Zf];exact g7.get d6
 have ls8:∀q∈qd,s8[q.2.1]? =some (.lst (q.2.2.map pw)):=λq hq=>by
  have:=L6.ls q hq
  rw[k8 _ (cL this)]
  exact g7.get this
 obtain⟨s9,Zg⟩:∃s9,(s8++[Ob.lst []]).set lh (.lst ((qh.map λq=>Wv.ref q.2.1)++[Wv.ref s8.length]))=s9:=⟨_,rfl⟩
 have k9:∀k,k < s6.length->s9[k]? =s8[k]?:=λk hk=>by
  have l67:=g7.1
  rw[<-Zg,a9 (by omega),d_ (by omega)]
 have hd9:s9[d]? =some (.gw Qj):=by rw[k9 d hdl];exact hd8
 obtain⟨lz,qz,P7,P8,Rw,Tj,L10,b10,_,Jl⟩:=xp hd9 S4.ks hC Pp
 have c3:=(rB Tj L10.ls (Rw.get (by rw[k9 ld Zf];exact dd8)) (λq hq=>Rw.get (by rw[k9 _ (cL (L6.ls q hq))];exact ls8 q hq)) (Jl.trans m6.symm)).2
 have xt:dz [.ref 0,.int 2] [Ob.sj ns]= .ok (.ref d) s1:=e1
 have v8:af 8 [some (.ref 0),some (.ref d),some (.ref s1.length),o3,o4,o5,some (.ref s4.length),some (.ref ld),some (.ref lh),o9] s8= .ok (.ref lh) s8:=rfl
 have gm:=ft v8 d8 (vc (st:=s8)) (fP d8) (by rw[bK];unfold lim;omega)
 rw[Zg] at gm
 refine⟨P7,A_ (n:=10) (g:=Bb) ?_⟩
 have f1:bt 1 (az 2 dz (ae (af 0) (ae (gC (.int 2)) ao))) [some (.ref 0),none,none,none,none,none,none,none,none,none] [Ob.sj ns]= .nx [some (.ref 0),some (.ref d),none,none,none,none,none,none,none,none] s1:=by simp[xt]
 have f2:bt 2 (az 2 bU (ae (af 0) (ae (gC (.int 12)) ao))) [some (.ref 0),some (.ref d),none,none,none,none,none,none,none,none] s1= .nx (Rh d s1.length none none none) s2:=by simp[e2]
 have f3:qf 3 (aZ lF (ae (af 1) ao)) hJ (Rh d s1.length none none none) s2= .nx (Rh d s1.length o3 o4 o5) s4:=by simp[sr,uL l3,e4]
 have f4:bt 6 (aZ qH (ae (af 1) ao)) (Rh d s1.length o3 o4 o5) s4= .nx [some (.ref 0),some (.ref d),some (.ref s1.length),o3,o4,o5,some (.ref s4.length),none,none,none] s5:=by simp[dk]
 have f5:bt 7 (az 1 g_ (ae (af 1) ao)) [some (.ref 0),some (.ref d),some (.ref s1.length),o3,o4,o5,some (.ref s4.length),none,none,none] s5= .nx [some (.ref 0),some (.ref d),some (.ref s1.length),o3,o4,o5,some (.ref s4.length),some (.ref ld),none,none] s6:=by simp[e6]
 have f6:bt 8 (az 1 eD (ae (af 1) ao)) [some (.ref 0),some (.ref d),some (.ref s1.length),o3,o4,o5,some (.ref s4.length),some (.ref ld),none,none] s6= .nx [some (.ref 0),some (.ref d),some (.ref s1.length),o3,o4,o5,some (.ref s4.length),some (.ref ld),some (.ref lh),none] s7:=by simp[e7]
 have f7:je (IG (t_ (jX (aZ (oO iW ja) (ae (af 8) (ae (gC (.ty "list")) ao))))) (IG (cm (ai C8 (af 8) (af 7))) (cm (ai wu (af 1) (af 6))))) (bp (gC (.bl false))) bD [some (.ref 0),some (.ref d),some (.ref s1.length),o3,o4,o5,some (.ref s4.length),some (.ref ld),some (.ref lh),none] s7= .nx [some (.ref 0),some (.ref d),some (.ref s1.length),o3,o4,o5,some (.ref s4.length),some (.ref ld),some (.ref lh),none] s7:=by simp[is,c1,c2]
 have f8:qf 9 (af 8) kI [some (.ref 0),some (.ref d),some (.ref s1.length),o3,o4,o5,some (.ref s4.length),some (.ref ld),some (.ref lh),none] s7= .nx [some (.ref 0),some (.ref d),some (.ref s1.length),o3,o4,o5,some (.ref s4.length),some (.ref ld),some (.ref lh),o9] s8:=by simp[uL (eS d7),e8]
 have f10:bp (ai oEq (az 1 eD (ae (af 1) ao)) (af 7)) [some (.ref 0),some (.ref d),some (.ref s1.length),o3,o4,o5,some (.ref s4.length),some (.ref ld),some (.ref lh),o9] s9= .rt (.bl true) P7:=by simp[P8,c3]
 unfold Bb
 show aN _ _ [some (.ref 0),none,none,none,none,none,none,none,none,none] [Ob.sj ns]=_
 rw[K3 f1,K3 f2,K3 f3,K3 f4,K3 f5,K3 f6,K3 f7,K3 f8,K3 (rA gm)]
 exact f10
end K61
namespace PySem.W.Fast
def tw9954990189610334446:=()
def tw15309244605636453918:=()
def tw13684920722388856332:=()
def tw18096007271511261289:=()
def tw2608920067985270489:=()
def tw8058897321057705642:=()
def tw11313783135550045427:=()
def tw1547257741603749803:=()
def tw15378491917442619662:=()
def tw5035498760102173038:=()
def tw16245949021360433483:=()
def tw17948017982672270268:=()
def tw5974561148617542167:=()
def tw18225719224580720480:=()
def tw12441724354304258167:=()
def tw4099231311674026036:=()
def tw379872237633234361:=()
def tw16894759784894534311:=()
def tw18153950369216465059:=()
def tw11784982796567797103:=()
def tw11731372071758616099:=()
def tw16144176610744497594:=()
def tw6119783622498369626:=()
def tw13540537299717752797:=()
def tw982729078795048740:=()
def tw3951493058652958218:=()
def tw6578230681900581296:=()
def tw5744422331059729462:=()
def tw17223480965541212507:=()
def tw14317863971515286564:=()
def tw12148910249899501183:=()
def tw15981355772836991595:=()
def tw2562084907052992644:=()
def tw14261453597203598931:=()
def tw15255236229757625956:=()
def tw14243011875378499436:=()
def tw17220147383864676804:=()
def tw6538335082704552047:=()
def tw17792486276932382798:=()
def tw12270530041645957362:=()
def tw2908808550876945659:=()
def tw12978807395509196959:=()
def tw17190611358284475817:=()
def tw18226048350598582537:=()
def tw5964098069458344277:=()
def tw8586214541321043520:=()
def tw14800033847337892999:=()
def tw11153092829976797502:=()
def tw8778719763074342747:=()
def tw12597363848494037676:=()
def tw6996683023935482307:=()
def tw10217089882205858888:=()
def tw1321265300629197679:=()
def tw10172174720510571740:=()
def tw4513090473308729565:=()
def tw17941006105153875846:=()
def tw4405697219237554:=()
def tw899678050467502506:=()
def tw7923294882304527203:=()
def tw8817845340617376794:=()
def tw12741522549062258738:=()
def tw16362693203937572222:=()
def tw9231187787441163206:=()
def tw929196226305263939:=()
def tw7650170548209404661:=()
def tw8327176216387611526:=()
def tw12627141835583258564:=()
def tw12328931900171277669:=()
def tw13214865645146815451:=()
def tw14441595109766247063:=()
def tw8490520015257112523:=()
def tw7767727070339025505:=()
def tw6049975316370144279:=()
def tw15733834103179526745:=()
def tw5033270406997698288:=()
def tw3129626651184036416:=()
def tw3742209866102356787:=()
def tw5938315596041483933:=()
def tw9894297814288628603:=()
def tw330354544262115413:=()
def tw5542492875314380057:=()
def tw5176067635812205577:=()
def tw11065425148547995438:=()
def tw16730218388642744528:=()
def tw4764300543188837168:=()
def tw1103049150575267430:=()
def tw249773536351246109:=()
def tw10000776291690329243:=()
def tw17771471586070391280:=()
def tw12416377171912150698:=()
def tw15758844437327336794:=()
def tw1890411551825460525:=()
def tw6716997481681333696:=()
def tw7618246798621840422:=()
def tw10860444290712671361:=()
def tw12481547104106947720:=()
def tw9252766271047453995:=()
def tw15866009240773441856:=()
def tw8678994502108371284:=()
def tw14583866368156126300:=()
def tw3996377285346492106:=()
def tw14120366731469471414:=()
def tw672218550099614327:=()
def tw4247925537895269637:=()
def tw8306374622106427025:=()
def tw17187565528728906341:=()
def tw2007417854216410117:=()
def tw14936485467291930997:=()
def tw6499111881780514562:=()
def tw14535413709899554965:=()
def tw9828619175205435937:=()
def tw8825342910031847057:=()
def tw13586178269237117901:=()
def tw9712339994647365918:=()
def tw17891654766393224904:=()
def tw5219334280191519244:=()
def tw9214980961090898760:=()
def tw1572674175459205883:=()
def tw5265532583405768652:=()
def tw374002690425576448:=()
def tw856878613034453866:=()
def tw7687763920433746430:=()
def tw764213668857863201:=()
def tw3391942421715239189:=()
def tw4283769464172223658:=()
def tw12752458343170951424:=()
def tw2711977039540407366:=()
def tw685747275404369651:=()
def tw6938861689696465799:=()
def tw8755218523502222897:=()
def tw301603623282555974:=()
def tw17278115947857970352:=()
def tw13194739161303801006:=()
def tw14783112910013182237:=()
def tw6183951934305257468:=()
def tw16427363268541292747:=()
def tw15313548156292172919:=()
def tw766851294736582746:=()
def tw15521778209101505080:=()
def tw16761807090774710837:=()
def tw15638091369376984255:=()
def tw7893923013848730314:=()
def tw11428772086546750785:=()
def tw5158682180427397781:=()
def tw9446066478894020551:=()
def tw103219559613650262:=()
def tw2675584460439470166:=()
def tw16013095788936215512:=()
def tw470077947484320865:=()
def tw17753124510028508981:=()
def tw9596066418922307361:=()
def tw14046515494190337395:=()
def tw10545545502217255404:=()
def tw4997562714663628406:=()
def tw17305038313600218382:=()
def tw2775383736256093219:=()
def tw7972506419141367178:=()
def tw5306921595996998231:=()
def tw6038100014913844128:=()
end PySem.W.Fast
namespace K61
open PySem PySem.W PyProof.Rows
set_option maxHeartbeats 0 in
open_top head for PySem.Challenge.rw_onelook_k61_heaps_of_sheets
open PySem J
open PySem.W (nsIn codeIn keepIn fnOf mg_of mg_none_of tabIn)
open L2 (defScope defBody defArgs FnScope CX0 FnOk XK Hp)
set_option autoImplicit true in
theorem all_mk{l:PySem.W.OpenLaw}{w:adp}{K:PySem.W.Frag}{h:Heap}{mg:Str->Option ado}{fa:adi}(X:K.In h)(G:h.Ns adz mg)(hfa:mg "law"=some (.ref fa))
    (d1:J.bT K "_law_cell_at" eT)
    (d2:J.bT K "_law_spot" ij)
    (d3:J.bT K "_law_digit" gA)
    (d4:J.bT K "_law_area" ik)
    (d5:J.bT K "_law_pins" il)
    (d6:J.bT K "_law_number" fA)
    (d7:J.bT K "_law_place" gB)
    (d8:J.bT K "_law_leaf" ip)
    (d9:J.bT K "_law_formula" eV)
    (Tj:J.bT K "_law_content" eX)
    (W8:J.bT K "_law_mixed" gD)
    (Qb:J.bT K "_law_stream" fB)
    (Fd:J.bT K "_law_cells" gE)
    (W9:J.bT K "_law_led" jB)
    (UK:J.bT K "_law_form" iq)
    (W_:J.bT K "_law_due" jD)
    (W':J.bT K "has_formula" fF)
    (Xa:J.bT K "formula_places" dA)
    (Xb:J.bT K "part_many" ir)
    (Xd:J.bT K "tail_of" k_)
    (Xe:J.bT K "has_area" jF)
    (Xf:J.bT K "parts_of" jG)
    (To:nsIn K adz "rebuilt"=some (some (.ref Zh)))(UL:K.lookup Zh=some ⟨abX,abY,.func (fnOf "rebuilt" "rebuilt" (defArgs gI) (defBody gI) (defScope gI) .none abZ ab4 ab5 ab6 Xg ab7),ab8⟩)(UM:codeIn K Xg "rebuilt"=true)(EG:keepIn K (.ref Zh)=true)
    (Xh:J.bT K "stepped" ll)
    (UN:nsIn K adz "form_of"=some (some (.ref Zi)))(UO:K.lookup Zi=some ⟨ab9,aca,.func (fnOf "form_of" "form_of" (defArgs gM) (defBody gM) (defScope gM) .none acb acd ace acf (.ref K4) acg),ach⟩)(Xi:codeIn K (.ref K4) "form_of"=true)(Xj:keepIn K (.ref Zi)=true)
    (Xk:J.bT K "heaps_of" jH)
    (Xl:J.bT K "_law_fits" iu)
    (UP:J.bT K "_law_copied" fH)
    (Xm:J.bT K "law" Ba)
    (z0:nsIn K adz "len"=some none)
    (z1:nsIn K adz "tuple"=some none)
    (z2:nsIn K adz "range"=some none)
    (z3:nsIn K adz "sum"=some none)
    (z4:nsIn K adz "sorted"=some none)
    (z5:nsIn K adz "isinstance"=some none)
    (z6:nsIn K adz "zip"=some none)
    (z7:nsIn K adz "list"=some none)
    (z8:nsIn K adz "dict"=some none)
    (z9:nsIn K adz "min"=some none)
    (v0:nsIn K adz "AREA_WORDS"=some (some (.ref ca0)))(w0:K.lookup ca0=some ⟨.type "tuple",acj,.seq #[.str "sum" Zj,.str "count" Zk,.str "least" Zl,.str "greatest" Zm,.str "find" Zn] cn0,cs0⟩)
    (Xn:nsIn K adz "PART_COUNTS"=some (some (.ref Zo)))(Xo:K.lookup Zo=some ⟨.type "dict",none,.dict #[⟨Tp,.str "num" Zp,.int 0 Zq⟩,⟨Tq,.str "text" Zr,.int 0 Zs⟩,⟨Tr,.str "lost" Zt,.int 0 Zu⟩,⟨Ts,.str "at" Zv,.int 0 Zw⟩,⟨Tt,.str "minus" Zx,.int 1 Zy⟩,⟨Tu,.str "not" Zz,.int 1 ZA⟩,⟨Tv,.str "+" ZC,.int 2 ZD⟩,⟨Tw,.str "-" ZE,.int 2 ZF⟩,⟨Tz,.str "*" ZG,.int 2 ZH⟩,⟨TC,.str "/" ZI,.int 2 ZJ⟩,⟨Pq,.str "&" Xp,.int 2 Xq⟩,⟨Pr,.str "<" Xr,.int 2 Xs⟩,⟨Pu,.str "=" Xt,.int 2 Xu⟩,⟨Pw,.str "rest" Xv,.int 2 Xw⟩,⟨Px,.str "if" Xx,.int 3 Xy⟩,⟨Py,.str "else" Xz,.int 2 XA⟩,⟨Pz,.str "sum" XB,.int 0 XC⟩,⟨PB,.str "count" XD,.int 0 XE⟩,⟨PC,.str "least" XF,.int 0 XG⟩,⟨PD,.str "greatest" XH,.int 0 XI⟩,⟨PF,.str "find" XJ,.int 1 XM⟩] de0,#[]⟩)(XN:(Zo == sysModules)=false)(Hi:Tp=hashStr w "num")(Hj:Tq=hashStr w "text")(Hk:Tr=hashStr w "lost")(Hl:Ts=hashStr w "at")(Hm:Tt=hashStr w "minus")(Ho:Tu=hashStr w "not")(Hq:Tv=hashStr w "+")(Hr:Tw=hashStr w "-")(Hu:Tz=hashStr w "*")(Hv:TC=hashStr w "/")(zc:Pq=hashStr w "&")(zd:Pr=hashStr w "<")(ze:Pu=hashStr w "=")(zf:Pw=hashStr w "rest")(zg:Px=hashStr w "if")(zh:Py=hashStr w "else")(zi:Pz=hashStr w "sum")(zj:PB=hashStr w "count")(zk:PC=hashStr w "least")(zm:PD=hashStr w "greatest")(zo:PF=hashStr w "find")
    (Hw:K.lookup K4=some ⟨.type "code",ack,.fields C3,acm⟩)(Hx:C3[11]? =some (.ref xq))(PH:C3.getD 11 .none= .ref xq)(PJ:C3.getD 18 .none= .str acn aco)(PK:C3.getD 7 .none= .int ZK acp)(PL:C3.getD 9 .none= .bool acq)(PM:C3.getD 10 .none= .int ZL acr)(PN:K4≠xq)(K5:K.lookup xq=none)(PQ:xq∈ts)
    (XO:nsIn K adz "formula_by"=some none)
    (XQ:nsIn K adz "turned"=some none)
    (XR:nsIn K adz "readied_content"=some none)
    (XS:nsIn K adz "ordered"=some none) :
    J.A6 K ts/\∃fd:adk,(∀(s:adn)(u:ado),BindsTo s fd ⟨[u],[]⟩ [("script",u)])/\∀base:Heap,J.jk K mg base->FnOk l.prog w K mg base (CXJ l.prog w) 13 fa fd ["script"] (spW K 1 F_law):=by
  have TF:tabIn K "form_of"=some (K4,xq):=by
    unfold tabIn
    rw[UN]
    dsimp only
    rw[UO]
    dsimp only
    rw[Hw]
    dsimp only
    rw[Hx]
  have XT:tabIn K "formula_by"=none:=by
    unfold tabIn
    rw[XO]
  have XU:tabIn K "turned"=none:=by
    unfold tabIn
    rw[XQ]
  have XW:tabIn K "readied_content"=none:=by
    unfold tabIn
    rw[XR]
  have XX:tabIn K "ordered"=none:=by
    unfold tabIn
    rw[XS]
  have XY:J.bu K "form_of"=some xq:=J.A7 TF K5
  have TJ:J.bu K "formula_by"=none:=by
    unfold J.bu
    rw[XT]
  have TK:J.bu K "turned"=none:=by
    unfold J.bu
    rw[XU]
  have TL:J.bu K "readied_content"=none:=by
    unfold J.bu
    rw[XW]
  have TM:J.bu K "ordered"=none:=by
    unfold J.bu
    rw[XX]
  have T:J.A6 K ts:=λq P hq t=>by
    simp only[J.br,bM,bP,or_false] at hq
    rcases hq with rfl | rfl | rfl | rfl | rfl
    · rw[XY] at t;cases t;exact⟨PQ,_,_,_,Hw,rfl,rfl,Hx⟩
    · rw[TJ] at t;cases t
    · rw[TK] at t;cases t
    · rw[TL] at t;cases t
    · rw[TM] at t;cases t
  have U25:∀q,q∈J.br->J.bu K q=some xq->q="form_of":=λq hq t=>by
    simp only[J.br,bM,bP,or_false] at hq
    rcases hq with rfl | rfl | rfl | rfl | rfl
    · rfl
    · rw[TJ] at t;cases t
    · rw[TK] at t;cases t
    · rw[TL] at t;cases t
    · rw[TM] at t;cases t
  have XZ:J.yN K mg "form_of" xq:=J.Kz (by decide) TF K5 Hw rfl rfl Hx PH PJ PK PL PM PN U25
  refine⟨T,?_⟩
  refine J.Gz X G hfa Xm (λ_ _ _ _ _ _ s u=> .of_eq rfl) (λf fd Fu base M=>?_)
  have Z0:=mg_none_of X G z0
  have Z1:=mg_none_of X G z1
  have Z2:=mg_none_of X G z2
  have Z3:=mg_none_of X G z3
  have Z4:=mg_none_of X G z4
  have Z5:=mg_none_of X G z5
  have Z6:=mg_none_of X G z6
  have Z7:=mg_none_of X G z7
  have Z8:=mg_none_of X G z8
  have Z9:=mg_none_of X G z9
  have V0:=mg_of X G v0
  have TB:TabOk K iW ja CM:=J.OZ trivial trivial trivial
  have H1:J.HB l.prog w K mg 1 "_law_cell_at" 2 b_:=λbase M=>J.hdf X G d1 (J.tk (c:=gX) (k:=0) TB (hb:=⟨Z0,trivial⟩)) oQ qW
  have H2:J.HB l.prog w K mg 2 "_law_spot" 1 eI:=λbase M=>J.hdf X G d2 (J.tk (c:=km) (k:=1) TB ⟨(H1 base M).mo,trivial⟩) uO wX
  have H3:J.HB l.prog w K mg 1 "_law_digit" 2 aq:=λbase M=>J.hdf X G d3 (J.tk (c:=ju) (k:=0) TB) rN uP
  have H4:J.HB l.prog w K mg 2 "_law_area" 2 cG:=λbase M=>J.hdf X G d4 (J.tk (c:=kr) (k:=1) TB ⟨(H3 base M).mo,trivial⟩) uQ wY
  have H5:J.HB l.prog w K mg 2 "_law_pins" 2 bF:=λbase M=>J.hdf X G d5 (J.tk (c:=kx) (k:=1) TB ⟨(H3 base M).mo,trivial⟩ (hb:=⟨Z1,Z2,trivial⟩)) uR wZ
  have H6:J.HB l.prog w K mg 2 "_law_number" 1 dQ:=λbase M=>J.hdf X G d6 (J.tk (c:=iO) (k:=1) TB ⟨(H3 base M).mo,trivial⟩) qX rO
  have H7:J.HB l.prog w K mg 2 "_law_place" 2 cM:=λbase M=>J.hdf X G d7 (J.tk (c:=jw) (k:=1) TB ⟨(H3 base M).mo,trivial⟩) rP uS
  have H8:J.HB l.prog w K mg 3 "_law_leaf" 2 eJ:=λbase M=>J.hdf X G d8 (J.tk (c:=kA) (k:=2) TB ⟨(H3 base M).mo,(H4 base M).mo,(H5 base M).mo,(H6 base M).mo,(H7 base M).mo,trivial⟩) uT w4
  have G9:∀base:Heap,J.jk K mg base->∀n:Nat,J.oJ l.prog w K mg base (3+n) "_law_formula" 3 (bG n):=λbase M n=>by
    induction n with
    | zero=>exact J.pz (ps:=["row","spot","deep"]) X G d9 (λ_ _ _ _ _ _ us hl=>J.Wz us hl λ_ _ _=>rfl)
    | succ n ih=>exact J.hdf X G d9 (J.tk (c:=(kC (bG n))) (k:=(3+n)) TB ⟨(H3 base M).mo,ih,(H8 base M).mo,(H4 base M).mo,(H5 base M).mo,trivial⟩) (oR (bG n)) (qY (bG n))
  have H9:J.HB l.prog w K mg 9 "_law_formula" 3 aM:=λbase M=>(G9 base M 6)
  have EI:J.HB l.prog w K mg 10 "_law_content" 3 cF:=λbase M=>J.hdf X G Tj (J.tk (c:=gZ) (k:=9) TB ⟨(H3 base M).mo,(H9 base M).mo,trivial⟩) oS qZ
  have Vs:J.HB l.prog w K mg 1 "_law_mixed" 2 eZ:=λbase M=>J.hdf X G W8 (J.tk (c:=jz) (k:=0) TB) rQ uU
  have ZM:J.HB l.prog w K mg 2 "_law_stream" 2 bU:=λbase M=>J.hdf X G Qb (J.tk (c:=iQ) (k:=1) TB ⟨(H1 base M).mo,(Vs base M).mo,trivial⟩ (hb:=⟨Z2,Z0,Z3,trivial⟩)) q8 rR
  have H13:J.HB l.prog w K mg 11 "_law_cells" 2 dz:=λbase M=>J.hdf X G Fd (J.tk (c:=jA) (k:=10) TB ⟨(H2 base M).mo,(EI base M).mo,(ZM base M).mo,trivial⟩ (hb:=⟨Z2,trivial⟩)) rS uV
  have ZN:J.HB l.prog w K mg 1 "_law_led" 4 cZ:=λbase M=>J.hdf X G W9 (J.tk (c:=l8) (k:=0) TB (hb:=⟨Z2,Z1,Z0,trivial⟩)) w5 yR
  have G15:∀base:Heap,J.jk K mg base->∀n:Nat,J.oJ l.prog w K mg base (1+n) "_law_form" 2 (aR n):=λbase M n=>by
    induction n with
    | zero=>exact J.pz (ps:=["formula","place"]) X G UK (λ_ _ _ _ _ _ us hl=>J.ln2 us hl λ_ _=>rfl)
    | succ n ih=>exact J.hdf X G UK (J.tk (c:=(oE (aR n))) (k:=(1+n)) TB ⟨(ZN base M).mo,ih,trivial⟩ (hb:=⟨Z1,trivial⟩)) (uW (aR n)) (w6 (aR n))
  have H15:J.HB l.prog w K mg 9 "_law_form" 2 aI:=λbase M=>(G15 base M 8)
  have H16:J.HB l.prog w K mg 10 "_law_due" 1 g_:=λbase M=>J.hdf X G W_ (J.tk (c:=l9) (k:=9) TB ⟨(H15 base M).mo,trivial⟩ (hb:=⟨Z4,Z5,Z1,trivial⟩)) w8 yS
  have H17:J.HB l.prog w K mg 1 "has_formula" 2 cT:=λbase M=>J.hdf X G W' (J.tk (c:=iS) (k:=0) TB (hb:=⟨Z5,Z1,trivial⟩)) q9 rT
  have H18:J.HB l.prog w K mg 2 "formula_places" 1 bY:=λbase M=>J.hdf X G Xa (J.tk (c:=fm) (k:=1) TB ⟨(H17 base M).mo,trivial⟩ (hb:=⟨Z4,trivial⟩)) ng nT
  have ZO:J.HB l.prog w K mg 1 "part_many" 1 c7:=λbase M=>J.hdf X G Xb (J.tk (c:=kE) (k:=0) TB (hd:=⟨⟨_,_,_,mg_of X G Xn,Xo,XN,⟨⟨Hi,⟨_,rfl⟩,⟨_,rfl⟩⟩,⟨Hj,⟨_,rfl⟩,⟨_,rfl⟩⟩,⟨Hk,⟨_,rfl⟩,⟨_,rfl⟩⟩,⟨Hl,⟨_,rfl⟩,⟨_,rfl⟩⟩,⟨Hm,⟨_,rfl⟩,⟨_,rfl⟩⟩,⟨Ho,⟨_,rfl⟩,⟨_,rfl⟩⟩,⟨Hq,⟨_,rfl⟩,⟨_,rfl⟩⟩,⟨Hr,⟨_,rfl⟩,⟨_,rfl⟩⟩,⟨Hu,⟨_,rfl⟩,⟨_,rfl⟩⟩,⟨Hv,⟨_,rfl⟩,⟨_,rfl⟩⟩,⟨zc,⟨_,rfl⟩,⟨_,rfl⟩⟩,⟨zd,⟨_,rfl⟩,⟨_,rfl⟩⟩,⟨ze,⟨_,rfl⟩,⟨_,rfl⟩⟩,⟨zf,⟨_,rfl⟩,⟨_,rfl⟩⟩,⟨zg,⟨_,rfl⟩,⟨_,rfl⟩⟩,⟨zh,⟨_,rfl⟩,⟨_,rfl⟩⟩,⟨zi,⟨_,rfl⟩,⟨_,rfl⟩⟩,⟨zj,⟨_,rfl⟩,⟨_,rfl⟩⟩,⟨zk,⟨_,rfl⟩,⟨_,rfl⟩⟩,⟨zm,⟨_,rfl⟩,⟨_,rfl⟩⟩,⟨zo,⟨_,rfl⟩,⟨_,rfl⟩⟩,trivial⟩,by decide+kernel⟩,trivial⟩)) uX w9
  have H20:J.HB l.prog w K mg 2 "tail_of" 1 eL:=λbase M=>J.hdf X G Xd (J.tk (c:=nV) (k:=1) TB ⟨(ZO base M).mo,trivial⟩) yT CN
  have H21:J.HB l.prog w K mg 1 "has_area" 1 fq:=λbase M=>J.hdf X G Xe (J.tk (c:=ma) (k:=0) TB (hc:=⟨⟨_,[.str "sum",.str "count",.str "least",.str "greatest",.str "find"],_,_,_,V0,w0,rfl,rfl,(show(5:Nat)<=adA by decide),(.cons ⟨_,rfl⟩ (.cons ⟨_,rfl⟩ (.cons ⟨_,rfl⟩ (.cons ⟨_,rfl⟩ (.cons ⟨_,rfl⟩ .nil))))),⟨⟨rfl,by decide+kernel⟩,⟨⟨rfl,by decide+kernel⟩,⟨⟨rfl,by decide+kernel⟩,⟨⟨rfl,by decide+kernel⟩,⟨⟨rfl,by decide+kernel⟩,trivial⟩⟩⟩⟩⟩⟩,trivial⟩)) w_ yU
  have H22:J.HB l.prog w K mg 2 "parts_of" 1 c9:=λbase M=>J.hdf X G Xf (J.tk (c:=me) (k:=1) TB ⟨(ZO base M).mo,trivial⟩) xa yV
  have G23:∀base:Heap,J.jk K mg base->∀(p:Lm)(L:LF),J.qC l.prog w K mg base 2 p 3 L->∀n:Nat,J.oJ l.prog w K mg base (2+n) "rebuilt" 2 (bz p L n):=λbase M p L HL n=>by
    induction n with
    | zero=>exact J.pz (ps:=["formula","goes"]) X G (J.nz To UL UM EG) (λ_ _ _ _ _ _ us hl=>J.ln2 us hl λ_ _=>rfl)
    | succ n ih=>exact J.hdf X G (J.nz To UL UM EG) (J.tk (c:=(s_ p L (bz p L n))) (k:=(2+n)) TB ⟨(H20 base M).mo,(H21 base M).mo,ih,(H22 base M).mo,trivial⟩ (hb:=⟨Z1,trivial⟩) (hx:=J.GB rfl (HL.mono (by omega)) rfl rfl rfl)) (yW p L (bz p L n)) (CO p L (bz p L n))
  have ZP:J.HB l.prog w K mg 1 "stepped" 3 gK:=λbase M=>J.hdf X G Xh (J.tk (c:=nX) (k:=0) TB (hb:=⟨Z1,Z6,trivial⟩)) yX CP
  have H25:J.HB l.prog w K mg 11 "form_of" 2 eM:=λbase M=>J.hdf X G (J.nz UN UO Xi Xj) (J.tk (c:=nZ) (k:=10) TB ⟨(ZP base M).mo,trivial⟩ (hx:=J.KC rfl ⟨⟨⟨_,mg_of X G To,EG⟩,λbase p L M HL=>(G23 base M p L HL 8).mono (by decide)⟩,trivial⟩ ⟨(λ_ _ e base M=>by cases e;exact(ZP base M).mono (by decide)),trivial⟩ (λ_=>⟨_,XZ⟩))) yY CQ (λ_=>⟨M,rfl⟩)
  have H26:J.HB l.prog w K mg 12 "heaps_of" 1 eD:=λbase M=>J.hdf X G Xk (J.tk (c:=mf) (k:=11) TB ⟨(H18 base M).mo,(H25 base M).mo,trivial⟩ (hb:=⟨Z7,trivial⟩)) xb yZ
  have H27:J.HB l.prog w K mg 1 "_law_fits" 1 bW:=λbase M=>J.hdf X G Xl (J.tk (c:=kF) (k:=0) TB (hb:=⟨Z2,Z0,trivial⟩)) uY xc
  have G28:∀base:Heap,J.jk K mg base->∀n:Nat,J.oJ l.prog w K mg base (1+n) "_law_copied" 3 (aE n):=λbase M n=>by
    induction n with
    | zero=>exact J.pz (ps:=["formula","here","there"]) X G UP (λ_ _ _ _ _ _ us hl=>J.Wz us hl λ_ _ _=>rfl)
    | succ n ih=>exact J.hdf X G UP (J.tk (c:=(lJ (aE n))) (k:=(1+n)) TB ⟨(ZN base M).mo,(H27 base M).mo,ih,trivial⟩ (hb:=⟨Z1,trivial⟩)) (rf (aE n)) (rV (aE n))
  have H28:J.HB l.prog w K mg 9 "_law_copied" 3 ax:=λbase M=>(G28 base M 8)
  exact J.OY Fu (J.wU (c:=GK) (k:=12) trivial ⟨Z4,Z8,Z5,Z1,Z9,Z7,trivial⟩ ⟨(H13 base M).mono (by decide),(ZM base M).mono (by decide),(H16 base M).mono (by decide),(H26 base M).mono (by decide),(H28 base M).mono (by decide),(H3 base M).mono (by decide),trivial⟩ TB trivial trivial trivial) O' rfl SN
end K61
open PySem PySem.W PyProof.Rows
set_option maxRecDepth 100000 in
set_option maxHeartbeats 0 in
theorem PySem.Challenge.cw_onelook_k61_heaps_of_sheets_holds : PySem.Challenge.rw_onelook_k61_heaps_of_sheets.Holds := by
  refine K61.head ?_
  k_fill
  refine J.walk_ofT (l:=PySem.Challenge.rw_onelook_k61_heaps_of_sheets) (n:=63) (k:=13) (x:="script") (CX:=fun w => J.CXJ PySem.Challenge.rw_onelook_k61_heaps_of_sheets.prog w) (sp:=fun w => J.spW _ 1 K61.F_law) rfl (by decide) rfl ⟨rfl,by decide,by decide⟩ (fun w h Y => ⟨PySem.W.km_in_of Y,PySem.W.km_tabs_of Y⟩) ?F (fun w H a ns hl hO hS hT => J.law_sp K61.law_true H a ns hl hO hS hT) (fun _ _ _ _ _ z => z.elim fun _ y => y.elim fun _ x => x.2)
  case F=>
    intro w mg fa h KX G hmg
    refine' K61.all_mk KX G hmg ?d1 ?d2 ?d3 ?d4 ?d5 ?d6 ?d7 ?d8 ?d9 ?Tj ?W8 ?Qb ?Fd ?W9 ?UK ?W_ ?W' ?Xa ?Xb ?Xd ?Xe ?Xf ?To ?UL ?UM ?EG ?Xh ?UN ?UO ?Xi ?Xj ?Xk ?Xl ?UP ?Xm ?z0 ?z1 ?z2 ?z3 ?z4 ?z5 ?z6 ?z7 ?z8 ?z9 ?v0 ?w0 ?Xn ?Xo ?XN ?Hi ?Hj ?Hk ?Hl ?Hm ?Ho ?Hq ?Hr ?Hu ?Hv ?zc ?zd ?ze ?zf ?zg ?zh ?zi ?zj ?zk ?zm ?zo ?Hw ?Hx ?PH ?PJ ?PK ?PL ?PM ?PN ?K5 ?PQ ?XO ?XQ ?XR ?XS
    case d1 | d2 | d3 | d4 | d5 | d6 | d7 | d8 | d9 | Tj | W8 | Qb | Fd | W9 | UK | W_ | W' | Xa | Xb | Xd | Xe | Xf=>refine' J.nz ?a ?l ?c ?k;(case a=>k_is);(case l=>k_is);(case c=>k_is);(case k=>k_is)
    case To | UL | UM | EG=>k_is
    case Xh=>refine' J.nz ?a ?l ?c ?k;(case a=>k_is);(case l=>k_is);(case c=>k_is);(case k=>k_is)
    case UN | UO | Xi | Xj=>k_is
    case Xk | Xl | UP | Xm=>refine' J.nz ?a ?l ?c ?k;(case a=>k_is);(case l=>k_is);(case c=>k_is);(case k=>k_is)
    case z0 | z1 | z2 | z3 | z4 | z5 | z6 | z7 | z8 | z9 | v0 | w0 | Xn | Xo=>k_is
    case XN | Hi | Hj | Hk | Hl | Hm | Ho | Hq | Hr | Hu | Hv | zc | zd | ze | zf | zg | zh | zi | zj | zk | zm | zo=>rfl
    case Hw=>k_is
    case Hx | PH | PJ | PK | PL | PM=>rfl
    case PN=>decide
    case K5=>rfl
    case PQ=>decide
    case XO | XQ | XR | XS=>k_is
