import PyProof.Rows.All
import Wide.All
import OpenK.AllK
import Wide.FinOn
import Lean
import PyProof.EqAt
import PyProof.EqKinds
import PyProof.TupleCall
import PySem.Challenge.RW_onelook_k89_written_and_taken
open PySem.Around renaming in1_units→Nv,under_plainId→N5
open Array renaming all_eq_true_iff_forall_mem→U8,forIn_toList→BI,getD→Cn,getD_eq_getD_getElem?→jO,getElem?_eq_getElem→iG,getElem?_eq_none→NX,getElem?_setIfInBounds→VL,getElem?_toList→kW,length_toList→qR,mem_of_getElem?→A0,toList_filterMap→Rv
open Bool renaming and_eq_true→bN,and_false→Ao,eq_iff_iff→qM,false_and→j6,false_eq_true→aW,false_ne_true→bF,not_false→we,not_true→fc,or_eq_true→AA
open PySem.Builtin.Dict renaming dictSlotArgs→AY,samePairs→Rf,showsAll→Q0
open PySem.Builtin.Dict_items renaming ownsTuple→Q1
open PySem.Builtin.Frozenset renaming intersection→RG,isAnySet→H_,sizeOf→HY,unchanged→A4
open PySem.Builtin.List renaming listLengthHint→RK,listTooLong→q9
open PySem.Builtin.Range renaming rangeSize→vx,small→Q9
open PySem.Builtin.Slice renaming sliceAdjust→FC,sliceApplied→Pu,slicePlaces→Ai
open PySem.Builtin.SmallTypes renaming nextOf→oT,ownedTupleHandOut→RL,ownedTupleIsFree→A6
open PySem.Builtin.Str renaming occurrences→Pk
open PySem.Builtin.Tuple renaming tupleExact→Ak,tupleHashOf→zU,tupleIsExact→QU,tupleItemsOf→zW
open PySem.Builtin renaming divisionGoesByPylong→Q_
open PySem.Calls renaming Name_function_global→OZ,callWith_builtin→PD,evalArgs_plain→FG,spliced_cons→Af,spliced_nil→Ae
open Classical renaming byContradiction→AZ,propDecidable→Gz
open PySem.EntryCells renaming newEntry→PU
open PySem.F renaming args_tuple_iterator_next_1→Q8,entry_tuple_iterator_next→Q7,slot_int_rmul→Ap,slot_tuple_iterator_next→AV,slot_zip_next→A7
open PyProof.Rows.F renaming entry_set_update_loop→Rw,plain_set_update_loop→HN
open False renaming elim→ae
open ForInStep renaming yield→jl
open PySem.Heap renaming ExtBut→wa,MadeExcOf→vN,SameBut→eB,get?_push_of_some→aT,get?_push_size→bE,get?_update_other→qV,get?_update_self→j_,lt_size→az,size_push→m7
open PySem.Heap.SameBut renaming refl→A3,update→fF
open PySem.Heap.UpToSlots renaming refl→Qo
open Int renaming fmod_lt_of_pos→tN,fmod_nonneg_of_pos→pA,toNat_natCast→ke
open PyProof.Rows.IsTup renaming new→Al
open List renaming all_cons→de,all_eq_true→HE,any_cons→iz,append_assoc→An,append_nil→j8,drop_eq_getElem_cons→rB,drop_length→AE,drop_of_length_le→Rg,drop_zero→AJ,eq_nil_of_length_eq_zero→Ax,filterMap_cons→k7,filterMap_map→Aj,filter_cons_of_neg→GL,filter_cons_of_pos→GK,find?_cons→vI,flatMap_cons→BE,flatten_cons→qX,foldl→qY,foldl_cons→oI,forIn_cons→zV,forIn_nil→GN,getD_eq_getElem?_getD→qv,getElem?_append_left→dM,getElem?_append_right→fz,getElem?_eq_getElem→bh,getElem?_map→cM,getElem?_replicate→ql,getElem?_set_ne→b9,getElem?_set_self→l3,getElem?_toArray→LO,getElem_mem→Cj,getElem_of_mem→i9,length→fv,length_append→cJ,length_cons→fB,length_drop→BQ,length_erase_of_mem→Mn,length_map→bf,length_pos_of_mem→Mo,length_replicate→j9,length_singleton→K6,length_take→nI,lookup_cons→fD,map_append→hU,map_congr_left→xg,map_cons→aH,map_map→cu,map_nil→qo,mem_append→CP,mem_append_left→gX,mem_append_right→bU,mem_cons→dB,mem_cons_of_mem→av,mem_cons_self→ax,mem_erase_of_ne→Mm,mem_filter→CU,mem_filterMap→Ck,mem_of_getElem?→l6,mem_of_mem_drop→Ms,nil_append→nK,nodup_cons→hV,nodup_nil→l8,not_mem_nil→hJ,of_mem_zip→qj,pairwise_cons→v_,pairwise_iff_getElem→Mg,pairwise_map→CC,perm_ext_iff_of_nodup→MD,range→aU,range'→kj,range_succ→CN,range_succ_eq_map→Cg,replicate→ay,replicate_succ→gZ,set_cons_succ→qB,set_cons_zero→xf,size_toArray→aZ,take_append_drop→wA,take_of_length_le→Ci
open PySem.NameKind renaming cell→eR,free→eQ
open Nat renaming add_sub_cancel→wc,add_zero→CF,le_of_eq→nL,le_of_lt→qg,le_refl→ar,le_succ→mj,le_trans→bZ,lt_irrefl→dz,lt_of_lt_of_le→bT,lt_succ_of_lt→mn,lt_succ_self→wt,lt_trans→vK,min_le_right→BN,mod_lt→oh,mul_comm→vG,ne_of_gt→eP,ne_of_lt→aN,sub_eq_zero_of_le→Md,sub_self→qr,succ_le_succ→vq,zero_add→qA,zero_le→bH
open Ne renaming symm→bC
open PySem.Obj renaming cls_mapFields→qq,data_mapFields→f9,isFreed_of_fields→nM,mapFields→g_,mapSeq→dO,putSet→qD
open Option renaming isSome_none→Mu,isSome_some→K9,map_some→nD
open Or renaming inl→l9,inr→l_
open PySem.PassesOwn renaming leaving→M3
open Prod renaming ext→l7
open PySem.PyData renaming canLayAll0→qd,depthAll→jX,eqv→bI,eqvAll→ft,list→qt,strOk→bB,tuple→B3
open PyProof.Rows renaming callWith_builtin1→BM,callWith_type1→j7,slot_tuple_getitem→vA,Keyed→agj
open PySem.SeqAt.EqAt renaming int_none→Kf,int_str→Ke,none_int→Kj,none_str→Kk,same→Kl,str_int→Kh,str_none→Ki
open PySem.SeqAt renaming eqBoolOverData→Kq
open PySem.SetTable renaming toList_insertAt→Mr
open PySem.Str renaming ofString→gY
open Subtype renaming ext→BK
open PySem.Txt renaming slice→mv
open PySem.Value renaming bool→qf,int→jW,none→bg,ref→aA,str→qb,type→jY
open PySem renaming Addr→afR,Around→afS,FuncData→afT,NameKind→afU,Program→afV,Shared→afW,Value→afX,World→afY,behindInMarks→afZ,binaryOp→af0,bootBuiltins→af1,codeAny→af2,compPost→af3,compareOp→af4,foldedSetIterable→af5,isSubtype_type→af6,mainGlobals→af7,sizeLine→af8,starEach→af9,wpAny→aga,wpAny_bind→agb,wpAny_dictEntries→agc,wpAny_holding→agd,wpAny_mono→age,wpAny_newList→agf,wpAny_newObj_type→agg,wpAny_pure→agh,wpAny_truthy_bool→agi
noncomputable section
set_option Elab.async false
set_option linter.all false
set_option maxRecDepth 100000
namespace L2
open PySem PySem.Spec PyProof.Rows
inductive Key where
 |inl (i:Int) |inr (x:Str) |bK
 deriving DecidableEq
def pG:Key->afX->Bool
 |.inl k,v=>Value.isInt k v
 |.inr x,v=>Value.isStrOf x v
 |.bK,v=>(match v with |.none=>true |_=>false)
def Kc(w:afY):Key->Int
 |.inl k=>hashInt k
 |.inr x=>hashStr w x
 |.bK=>reduceHash 4238894112
theorem cL:∀{k:Key}{v:afX},pG k v=true->(∃i t,k=Key.inl i/\v=jW i t)\/(∃x t,k=Key.inr x/\v=qb x t)\/(k=Key.bK/\v=bg)
 |.inl i,v,h=>by obtain⟨t,e⟩:=Value.isInt_shape (k:=i) (v:=v) h;exact .inl ⟨i,t,rfl,e⟩
 |.inr x,v,h=>by obtain⟨t,e⟩:=Value.isStrOf_shape (x:=x) (v:=v) h;exact .inr (.inl ⟨x,t,rfl,e⟩)
 |.bK,v,h=>by cases v<;>first |exact .inr (.inr ⟨rfl,rfl⟩) |(unfold pG at h;cases h)
theorem Dx(i:Int)(t:Tok):pG (.inl i) (.int i t)=true:=by simp[pG,Value.isInt]
theorem Dy(x:Str)(t:Tok):pG (.inr x) (.str x t)=true:=by simp[pG,Value.isStrOf]
theorem OQ(a b:Int):decide ((Key.inl a:Key)=Key.inl b)=(a == b):=by
 by_cases e:a=b
 ·subst e;simp
 ·have h:¬(Key.inl a:Key)=Key.inl b:=λq=>e (Key.inl.inj q);rw[decide_eq_false h];exact(beq_eq_false_iff_ne.mpr e).symm
theorem OR(a b:Str):decide ((Key.inr a:Key)=Key.inr b)=decide (a=b):=by
 by_cases e:a=b
 ·subst e;simp
 ·have h:¬(Key.inr a:Key)=Key.inr b:=λq=>e (Key.inr.inj q);rw[decide_eq_false h,decide_eq_false e]
theorem qL{prog:afV}{w:afY}{A:afS}{E:afX->afW->Prop}{s:afW}{Q:Int->afW->Prop}(h:Q (reduceHash 4238894112) { s with toks:=s.toks+1 }):aga (model prog w) A (PySem.pyHash .none) Q E s :=
 PySem.W.pyHash_slot (T:="NoneType") rfl F.slot_NoneType_hash F.entry_NoneType_hash (F.args_NoneType_hash_1 _) (beq_builtin_none _) (.inl rfl) (agb (agh (agb (wpAny_mkInt (agh ⟨_,_,rfl,h⟩)))))
def aw(prog:afV)(w:afY):PySem.KeyKind prog w Key where
 is:=pG
 hash:=Kc w
 inj:=λv a b ha hb=>by rcases cL ha with ⟨i,t,rfl,rfl⟩ |⟨x,t,rfl,rfl⟩ |⟨rfl,rfl⟩<;>rcases cL hb with ⟨j,u,rfl,e⟩ |⟨y,u,rfl,e⟩ |⟨rfl,e⟩<;>cases e<;>rfl
 byValue:=λk v h=>by rcases cL h with ⟨i,t,rfl,rfl⟩ |⟨x,t,rfl,rfl⟩ |⟨rfl,rfl⟩<;>rfl
 pyHash:=λhv h=>by
  rcases cL hv with ⟨i,t,rfl,rfl⟩ |⟨x,t,rfl,rfl⟩ |⟨rfl,rfl⟩
  ·exact wpAny_pyHash_int h
  ·exact wpAny_pyHash_str h
  ·exact qL h
 eqBool:=λ{A E s a b u v Q} hu hv h=>by
  have no:a≠b->Q false s:=λn=>by rw[decide_eq_false n]at h;exact h
  rcases cL hu with ⟨i,t,rfl,rfl⟩ |⟨x,t,rfl,rfl⟩ |⟨rfl,rfl⟩<;>rcases cL hv with ⟨j,u,rfl,rfl⟩ |⟨y,u,rfl,rfl⟩ |⟨rfl,rfl⟩
  ·rw[OQ]at h;exact wpAny_eqBool_int h
  ·exact Ke i t y u _ _ _ _ (no nofun)
  ·exact Kf i t _ _ _ _ (no nofun)
  ·exact Kh x t j u _ _ _ _ (no nofun)
  ·rw[OR]at h;exact wpAny_eqBool_str h
  ·exact Ki x t _ _ _ _ (no nofun)
  ·exact Kj j u _ _ _ _ (no nofun)
  ·exact Kk y u _ _ _ _ (no nofun)
  ·exact Kl .none _ _ _ _ (by simpa using h)
 «strs»:=λk x t v h=>by rcases cL h with ⟨i,u,rfl,e⟩ |⟨y,u,rfl,e⟩ |⟨rfl,e⟩<;>cases e;cases v<;>rfl
theorem xn(prog:afV)(w:afY)(i:Int)(t:Tok):(aw prog w).is (.inl i) (.int i t)=true:=Dx i t
theorem xo(prog:afV)(w:afY)(x:Str)(t:Tok):(aw prog w).is (.inr x) (.str x t)=true:=Dy x t
end L2
namespace NK
open PySem L2
def kd:Nat->PyData->Bool
 |_,.none=>true
 |_,.int _=>true
 |_,.str x=>bB x
 |n+1,.tuple xs=>xs.all (kd n)
 |_,_=>false
def kh(w:afY):Nat->PyData->Int
 |_,.none=>Kc w .bK
 |_,.int i=>Kc w (.inl i)
 |_,.str x=>Kc w (.inr x)
 |n+1,.tuple xs=>reduceHash (zU (xs.map (kh w n)))
 |_,_=>0
def T4:Nat->PyData->Nat
 |n+1,.tuple xs=>(xs.map (T4 n)).sum+1
 |_,_=>1
def Rd(h:Heap)(v:afX)(d:PyData):Prop:=∃as,Reads h v d as
inductive Dz(h:Heap):List afX->List PyData->Prop
 |nil:Dz h [] []
 |cons {v:afX}{d:PyData}{vs:List afX}{ds:List PyData}:Rd h v d->Dz h vs ds->Dz h (v::vs) (d::ds)
theorem Dz.of{h:Heap}:∀{vs:List afX}{ds:List PyData}{as:List afR},ReadsAll h vs ds as->Dz h vs ds
 |_,_,_,.nil=> .nil
 |_,_,_,.cons r rs=> .cons ⟨_,r⟩ (Dz.of rs)
variable{h:Heap}
theorem Dz.all{vs:List afX}{ds:List PyData}(r:Dz h vs ds):∃as,ReadsAll h vs ds as:=by
 induction r with
 |nil=>exact⟨_,.nil⟩
 |cons a _ ih=>obtain⟨as,ra⟩:=a;obtain⟨bs,rb⟩:=ih;exact⟨_,.cons ra rb⟩
theorem Rd.tup{v:afX}{xs:List PyData}(r:Rd h v (.tuple xs)):∃a o vs n,v= .ref a/\h.get? a=some o/\o.cls= .type "tuple"/\o.data= .seq vs n/\Dz h vs.toList xs:=by
 obtain⟨as,r⟩:=r;cases r with
 |tuple h1 h2 h3 h4=>exact⟨_,_,_,_,rfl,h1,h2,h3,.of h4⟩
section
variable {prog:afV}{w:afY}{E:afX->afW->Prop}
theorem uw{n:Nat}(ih:∀(d:PyData)(v:afX)(A:afS)(s:afW)(Q:Int->afW->Prop),kd n d=true->Rd s.heap v d->A.units+n < cLine->Q (kh w n d) { s with toks:=s.toks+T4 n d }->aga (model prog w) A (pyHash v) Q E s):
  ∀(xs:List PyData)(vs:List afX)(A:afS)(s:afW)(b:Array Int)(Q:Array Int->afW->Prop),xs.all (kd n)=true->Dz s.heap vs xs->A.units+n < cLine->
  (∀b':Array Int,b'.toList=b.toList++xs.map (kh w n)->Q b' { s with toks:=s.toks+(xs.map (T4 n)).sum })->
  aga (model prog w) A (forIn vs b λx r=>do let h <-pyHash x;pure PUnit.unit;pure (jl (r.push h))) Q E s
 |[],_,A,s,b,Q,_,x,_,h=>by cases x;exact agh (h b (by simp))
 |k::xs,_,A,s,b,Q,hk,x,hu,h=>by
  cases x with
  |cons x1 x2=>rw[de,bN]at hk;rw[zV];refine agb (agb (ih k _ A s _ hk.1 x1 hu ?_));refine agb (agh (agh ?_));exact uw ih xs _ A _ _ Q hk.2 x2 hu λb' hb=>by have:=h b' (by rw[hb];simp);rw[aH,List.sum_cons,<-Nat.add_assoc]at this;exact this
theorem OS:∀(n:Nat)(d:PyData)(v:afX)(A:afS)(s:afW)(Q:Int->afW->Prop),kd n d=true->Rd s.heap v d->A.units+n < cLine->Q (kh w n d) { s with toks:=s.toks+T4 n d }->aga (model prog w) A (pyHash v) Q E s:=by
 intro n
 induction n with
 |zero=>
  intro d v A s Q hk r hu h;obtain⟨as,r⟩:=r;cases r with
  |none=>exact qL h
  |int i t=>exact wpAny_pyHash_int h
  |str x t=>exact wpAny_pyHash_str h
  |_=>simp[kd]at hk
 |succ n ih=>
  intro d v A s Q hk r hu h;cases d with
  |tuple xs=>obtain⟨a,o,vs,m,rfl,h1,h2,h3,h4⟩:=r.tup;refine PySem.W.pyHash_slot (T:="tuple") ⟨o,h1,h2⟩ F.slot_tuple_hash F.entry_tuple_hash (F.args_tuple_hash_1 _) (beq_builtin_none _) (.inr (by omega)) ?_;show aga _ _ (zW (.ref a) >>= _) _ _ s;refine agb (wpAny_tupleItemsOf h1 h3 ?_);refine agb ?_;rw[<-BI];refine uw ih xs vs.toList A.in1 s #[] _ hk h4 (by simp only[Nv];omega) λb hb=>?_;show aga _ _ (retInt (zU b.toList)) _ _ _;rw[hb];exact agb (wpAny_mkInt (agh ⟨_,_,rfl,h⟩))
  |none=>obtain⟨as,r⟩:=r;cases r;exact qL h
  |int i=>obtain⟨as,r⟩:=r;cases r;exact wpAny_pyHash_int h
  |str x=>obtain⟨as,r⟩:=r;cases r;exact wpAny_pyHash_str h
  |_=>simp[kd]at hk
end
theorem zX:∀(n:Nat)(d:PyData),kd n d=true->d.canLay0=true/\d.depth<=n:=by
 intro n
 induction n with
 |zero=>
  intro d h;cases d with
  |none=>exact⟨rfl,ar _⟩
  |int i=>exact⟨rfl,ar _⟩
  |str x=>exact⟨h,ar _⟩
  |_=>simp[kd]at h
 |succ n ih=>
  intro d h;cases d with
  |none=>exact⟨rfl,bH _⟩
  |int i=>exact⟨rfl,bH _⟩
  |str x=>exact⟨h,bH _⟩
  |tuple xs=>
   have hx:xs.all (kd n)=true:=h;have key:∀xs:List PyData,xs.all (kd n)=true->qd xs=true/\jX xs<=n:=by
    intro xs
    induction xs with
    |nil=>intro _;exact⟨rfl,bH _⟩
    |cons x r ihr=>
     intro h;rw[de,bN]at h;obtain⟨a,b⟩:=ih x h.1;obtain⟨c,e⟩:=ihr h.2;refine⟨?_,?_⟩
     ·show(PyData.canLay0 x&&qd r)=true;rw[a,c];rfl
     ·show max x.depth (jX r)<=n;omega
   obtain⟨a,b⟩:=key xs hx;exact⟨a,vq b⟩
  |_=>simp[kd]at h
theorem BJ:∀(n:Nat)(d e:PyData),kd n d=true->kd n e=true->(bI d e=true↔d=e):=by
 intro n
 induction n with
 |zero=>intro d e h k;cases d<;>cases e<;>first |(simp[kd]at h;done) |(simp[kd]at k;done) |simp[bI]
 |succ n ih=>
  intro d e h k;cases d with
  |tuple xs=>
   cases e with
   |tuple ys=>
    have key:∀xs ys:List PyData,xs.all (kd n)=true->ys.all (kd n)=true->(ft xs ys=true↔xs=ys):=by
     intro xs
     induction xs with
     |nil=>intro ys _ _;cases ys<;>simp[ft]
     |cons x r ihr=>
      intro ys h k;cases ys with
      |nil=>simp[ft]
      |cons y t=>rw[de,bN]at h k;show(bI x y&&ft r t)=true↔_;rw[bN,ih x y h.1 k.1,ihr t h.2 k.2,List.cons.injEq]
    show ft xs ys=true↔_;rw[key xs ys h k,PyData.tuple.injEq]
   |_=>first |(simp[kd]at k;done) |simp[bI]
  |_=>cases e<;>first |(simp[kd]at h;done) |(simp[kd]at k;done) |simp[bI]
def isT:PyData->Bool
 |.tuple _=>true
 |_=>false
def KD:Type:={ d:PyData // kd 8 d=true/\isT d=true }
instance:DecidableEq KD:=λx y=>decidable_of_iff (bI x.1 y.1=true) ((BJ 8 x.1 y.1 x.2.1 y.2.1).trans ⟨BK,λh=>by rw[h]⟩)
theorem KD.eqv{x y:KD}:bI x.1 y.1=decide (x=y):=by rw[qM,BJ 8 x.1 y.1 x.2.1 y.2.1,decide_eq_true_eq];exact⟨BK,λh=>by rw[h]⟩
theorem Km{h':Heap}{d0:afR}{o:Obj}{es ep}(ho:h.get? d0=some o)(hd:o.data= .dict es ep)(hs:eB d0 h h'):∀(n:Nat)(d:PyData)(v:afX),kd n d=true->Rd h v d->Rd h' v d:=by
 intro n
 induction n with
 |zero=>
  intro d v hk r;obtain⟨as,r⟩:=r;cases r with
  |none=>exact⟨_,.none⟩
  |int i t=>exact⟨_,.int i t⟩
  |str x t=>exact⟨_,.str x t⟩
  |_=>simp[kd]at hk
 |succ n ih=>
  intro d v hk r;cases d with
  |tuple xs=>
   obtain⟨a,o',vs,m,rfl,h1,h2,h3,h4⟩:=r.tup;have ne:a≠d0:=λz=>by subst z;rw[h1]at ho;cases ho;rw[h3]at hd;cases hd
   have key:∀(vs:List afX)(xs:List PyData),xs.all (kd n)=true->Dz h vs xs->Dz h' vs xs:=by
    intro vs xs hx r
    induction r with
    |nil=>exact .nil
    |cons a _ ihr=>rw[de,bN]at hx;exact .cons (ih _ _ hx.1 a) (ihr hx.2)
   obtain⟨as,ra⟩:=(key _ _ hk h4).all;exact⟨_,.tuple ((hs.2 a ne).trans h1) h2 h3 ra⟩
  |none=>obtain⟨as,r⟩:=r;cases r;exact⟨_,.none⟩
  |int i=>obtain⟨as,r⟩:=r;cases r;exact⟨_,.int _ _⟩
  |str x=>obtain⟨as,r⟩:=r;cases r;exact⟨_,.str _ _⟩
  |_=>simp[kd]at hk
section
variable {prog:afV}{w:afY}{A:afS}{E:afX->afW->Prop}{s:afW}
theorem Ko:∀(n:Nat)(d:PyData)(v:afX)(Q:Bool->afW->Prop),kd n d=true->Rd s.heap v d->Q true s->aga (model prog w) A (eqIsQuiet n v) Q E s:=by
 intro n
 induction n with
 |zero=>
  intro d v Q hk r h;obtain⟨as,r⟩:=r;cases r with
  |none=>rw[eqIsQuiet_byValue 0 rfl];exact agh h
  |int i t=>rw[eqIsQuiet_byValue 0 rfl];exact agh h
  |str x t=>rw[eqIsQuiet_byValue 0 rfl];exact agh h
  |_=>simp[kd]at hk
 |succ n ih=>
  intro d v Q hk r h;cases d with
  |tuple xs=>
   obtain⟨a,o,vs,m,rfl,h1,h2,h3,h4⟩:=r.tup;have hT:s.TypeIs (.ref a) "tuple":=⟨o,h1,h2⟩;unfold eqIsQuiet;refine agb (wpAny_specialOf hT F.slot_tuple_eq.lookup ?_);show aga _ _ (isInstance (.ref a) (.type "tuple") >>= _) _ _ s;refine agb (wpAny_isInstance hT isSubtype_tuple_tuple ?_);simp only[fc,aW,if_false];refine agb (wpAny_seqItems h1 h3 ?_);refine agb ?_;show aga _ _ (forIn vs _ _) _ _ s;rw[<-BI];refine wpAny_forIn_list _ (λrest r s'=>r.1=none/\s'=s/\∃ds,ds.all (kd n)=true/\Dz s.heap rest ds) _ ?_ ?_ _ _ ⟨rfl,rfl,xs,hk,h4⟩
   ·rintro v rest r s' ⟨hr,rfl,ds,hds,hall⟩;cases hall with
    |cons ra rr=>rw[de,bN]at hds;refine agb (ih _ _ _ hds.1 ra ?_);simp only[fc,aW,if_false];exact agh ⟨rfl,rfl,_,hds.2,rr⟩
   ·rintro⟨r1,r2⟩ s' ⟨hr,rfl,_⟩;simp only at hr;subst hr;exact agh h
  |none=>obtain⟨as,r⟩:=r;cases r;rw[eqIsQuiet_byValue _ rfl];exact agh h
  |int i=>obtain⟨as,r⟩:=r;cases r;rw[eqIsQuiet_byValue _ rfl];exact agh h
  |str x=>obtain⟨as,r⟩:=r;cases r;rw[eqIsQuiet_byValue _ rfl];exact agh h
  |_=>simp[kd]at hk
end
def Fe(prog:afV)(w:afY):HeapKind prog w KD where
 is:=λh k a=>Rd h (.ref a) k.1
 hash:=λk=>kh w 8 k.1
 draws:=λk=>T4 8 k.1
 room:=λA=>A.units+8 < cLine
 inj:=λ{h a x y} hx hy=>by obtain⟨as,hx⟩:=hx;obtain⟨bs,hy⟩:=hy;exact BK (SeqAt.Reads.unique _ _ _ _ _ (zX 8 _ x.2.1).1 hx hy)
 keeps:=λ{h h' k a d o es ep} x ho hd hs=>Km ho hd hs 8 _ _ k.2.1 x
 pyHash:=λ{A E s k a Q} hu hk h=>OS 8 _ _ A s Q k.2.1 hk hu h
 eqBool:=λ{A E s x y a b Q} hu hx hy h=>by
  obtain⟨as,hx⟩:=hx;obtain⟨bs,hy⟩:=hy;obtain⟨l1,d1⟩:=zX 8 _ x.2.1;obtain⟨l2,d2⟩:=zX 8 _ y.2.1;refine Kq prog w A E s _ _ _ _ as bs Q hx hy l1 l2 ?_ ?_
  ·have:min x.1.depth y.1.depth<=8:=by omega
   have Tz:A.units+8 < cLine:=hu;omega
  ·rw[KD.eqv];exact h
 quiet:=λ{A E s k a Q} hk h=>Ko 8 _ _ Q k.2.1 hk h
end NK
namespace L2
open PySem PySem.Spec PyProof.Rows
inductive V where
 |bK |bl (b:Bool) |int (i:Int) |str (x:Str) |T5 (b:Array UInt8) |XI (b:UInt64) |ref (a:afR) |ty (n:String)
 deriving DecidableEq
def RelV:V->afX->Prop
 |.bK,u=>u=bg
 |.bl b,u=>u=qf b
 |.int i,u=>∃t,u=jW i t
 |.str x,u=>∃t,u=qb x t
 |.T5 b,u=>∃t,u=Value.bytes b t
 |.XI b,u=>∃t,u=Value.float b t
 |.ref a,u=>u=aA a
 |.ty n,u=>u=jY n
abbrev Vals:List V->List afX->Prop:=Paired RelV
variable{xs:List V}{us:List afX}
theorem Vals.length(r:Vals xs us):xs.length=us.length:=Paired.length r
theorem Vals.get:∀{xs:List V}{us:List afX}{i:Nat}{x:V},Vals xs us->xs[i]? =some x->∃u,us[i]? =some u/\RelV x u
 |_,_,_,_,.nil,e=>by simp at e
 |_,_,0,_,.cons r _,e=>by simp at e;subst e;exact⟨_,rfl,r⟩
 |_,_,i+1,x,.cons _ t,e=>by obtain⟨u,h1,h2⟩:=Vals.get (i:=i) (x:=x) t (by simpa using e);exact⟨u,by simpa using h1,h2⟩
theorem Vals.set{x:V}{u:afX}(r:RelV x u):∀{xs:List V}{us:List afX}(i:Nat),Vals xs us->Vals (xs.set i x) (us.set i u)
 |_,_,_,.nil=> .nil
 |_,_,0,.cons _ t=> .cons r t
 |_,_,i+1,.cons q t=> .cons q (Vals.set r i t)
theorem Vals.append:∀{xs ys:List V}{us ws:List afX},Vals xs us->Vals ys ws->Vals (xs++ys) (us++ws)
 |_,_,_,_,.nil,s=>s
 |_,_,_,_,.cons r t,s=> .cons r (Vals.append t s)
theorem Vals.take:∀{xs:List V}{us:List afX}(n:Nat),Vals xs us->Vals (xs.take n) (us.take n)
 |_,_,0,_=> .nil
 |_,_,_+1,.nil=> .nil
 |_,_,n+1,.cons r t=> .cons r (Vals.take n t)
theorem Vals.drop:∀{xs:List V}{us:List afX}(n:Nat),Vals xs us->Vals (xs.drop n) (us.drop n)
 |_,_,0,r=>r
 |_,_,_+1,.nil=> .nil
 |_,_,n+1,.cons _ t=>Vals.drop n t
def DA:Option V->Option afX->Prop
 |some v,some u=>RelV v u
 |none,none=>True
 |_,_=>False
variable{κ:Type}
def KV:List (κ×V)->List (κ×afX)->Prop:=Paired λ(p:κ×V)(q:κ×afX)=>p.1=q.1/\RelV p.2 q.2
def kV:Key->V
 |.inl i=> .int i
 |.inr x=> .str x
 |.bK=> .bK
inductive HO where
 |dN (kvs:List (NK.KD×V))
  |lst (xs:List V)
  |tup (xs:List V)
  |dK (kvs:List (Key×V)) |dT (kvs:List (List Key×V))
  |set (S:Int->Bool) (n:Nat)
  |ins (C dx:afR) (fs:List (Str×V))
  |own (x:afR)
  |xd (fs:List (Str×V))
  |met (f x:afR)
  |WL (lo hi:Int)
  |iV (o:Obj) (u:HO)
  |jG (ps:Array afX)
  |ext (φ:Heap->Prop)
abbrev Hp:=afR->Option HO
def upd(H:Hp)(a:afR)(o:HO):Hp:=λb=>if b=a then some o else H b
variable{H:Hp}{a:afR}{o:HO}
theorem bq:upd H a o a=some o:=by unfold upd;rw[if_pos rfl]
variable{b:afR}
theorem aI(h:b≠a):upd H a o b=H b:=by unfold upd;rw[if_neg h]
variable{u:HO}
theorem T6(h:H a=some o)(h':H b=some u)(d:o≠u):a≠b:=by intro e;subst e;rw[h]at h';exact d (Option.some.inj h')
theorem cD(h:H a=some o)(h':H b=none):a≠b:=by intro e;subst e;rw[h]at h';cases h'
def xp(h:Heap)(a:afR):Prop:=∀o,h.get? a=some o->o.dict=none
theorem xp.new(h:Heap)(us:Array afX):xp (h.push { cls:=.type "tuple",data:=.seq us }) h.objs.size:=λo q=>by rw[bE _ rfl]at q;cases q;rfl
def KA(H:Hp):Nat->V->PyData->Prop
 |_,.bK,.none=>True
 |_,.int i,.int j=>i=j
 |_,.str x,.str y=>x=y
 |n+1,.ref a,.tuple ds=>∃vs,H a=some (.tup vs)/\Paired (KA H n) vs ds
 |_,_,_=>False
section
variable (P:afV) (w:afY)
def dZ(H:Hp)(h:Heap)(a:afR):HO->Prop
 |.lst xs=>xs.length<=af8/\∃(its:List afX)(n:Nat),Vals xs its/\h.get? a=some { cls:=.type "list",data:=.seq its.toArray n }
 |.tup xs=>xs.length<=af8/\∃its:List afX,Vals xs its/\IsTup h a its.toArray/\xp h a
 |.dN kvs=>kvs.length<=af8/\(a == sysModules)=false/\∃xs:List (NK.KD×afR×afX),
   Paired (λ(p:NK.KD×V)(q:NK.KD×afR×afX)=>p.1=q.1/\KA H 8 (.ref q.2.1) p.1.1/\RelV p.2 q.2.2) kvs xs/\
   ∃o es ep,h.get? a=some o/\o.ExactDict/\o.data= .dict es ep/\es.toList=xs.map (entryOfKey (NK.Fe P w))/\(xs.map (·.1)).Nodup
 |.dK kvs=>kvs.length<=af8/\(a == sysModules)=false/\∃vs,KV kvs vs/\h.DictOf (aw P w) a vs
 |.dT kvs=>kvs.length<=af8/\(a == sysModules)=false/\∃xs:List (List Key×afR×afX),
   Paired (λ(p:List Key×V)(q:List Key×afR×afX)=>p.1=q.1/\H q.2.1=some (.tup (p.1.map kV))/\RelV p.2 q.2.2) kvs xs/\
   ∃o es ep,h.get? a=some o/\o.ExactDict/\o.data= .dict es ep/\es.toList=xs.map (entryOfKey (tupleKind (aw P w)))/\(xs.map (·.1)).Nodup
 |.set S n=>h.SetOf (intKind P w) a S n
 |.ins C dx fs=>H dx=some (.own a)/\fs.length<=1000/\dx≠a/\h.get? a=some (PySem.W.instObj C dx)/\
   ∃mA,h.Ns1 dx mA/\(∀f,DA (fs.lookup f) (mA f))/\PySem.Within mA (fs.map (·.1))
 |.own _=>∃o,h.get? a=some o
 |.xd fs=>∃mA,h.Ns1 a mA/\∀f,DA (fs.lookup f) (mA f)
 |.WL lo hi=>∃t u v,h.get? a=some { cls:=.type "range",data:=.fields #[.int lo t,.int hi u,.int 1 v] }
 |.iV o u=>h.get? a=some o/\dZ H h a u
 |.jG ps=>h.get? a=some { cls:=.none,data:=.fields ps }
 |.met f x=>h.get? a=some (PySem.W.methodObj (.ref f) (.ref x))
 |.ext φ=>φ h/\(∃o,h.get? a=some o)/\∀h1 h2:Heap,φ h1->(∀o,h1.get? a=some o->h2.get? a=some o)->φ h2
def kZ(H:Hp)(h:Heap):Prop:=∀a o,H a=some o->dZ P w H h a o
end
section
variable {P:afV}{w:afY}{H H':Hp}{h h':Heap}{a:afR}{o:HO}
theorem dZ.lt(x:dZ P w H h a o):a < h.objs.size:=by
 cases o with
 |lst xs=>obtain⟨_,_,_,_,e⟩:=x;exact az e
 |tup xs=>obtain⟨_,_,_,p,_⟩:=x;exact p.lt
 |dK kvs=>obtain⟨_,_,_,_,o,_,_,e,_⟩:=x;exact az e
 |dT kvs=>obtain⟨_,_,_,_,o,_,_,e,_⟩:=x;exact az e
 |dN kvs=>obtain⟨_,_,_,_,o,_,_,e,_⟩:=x;exact az e
 |set S n=>obtain⟨o,_,_,_,e,_⟩:=x;exact az e
 |ins C dx fs=>obtain⟨_,_,_,e,_⟩:=x;exact az e
 |own y=>obtain⟨_,e⟩:=x;exact az e
 |xd fs=>obtain⟨_,⟨_,_,_,e,_⟩,_⟩:=x;exact az e
 |WL lo hi=>obtain⟨_,_,_,e⟩:=x;exact az e
 |iV ob u=>obtain⟨e,_⟩:=x;exact az e
 |jG ps=>exact az (show h.get? a=some _ from x)
 |met f y=>exact az (show h.get? a=some _ from x)
 |ext φ=>obtain⟨_,⟨_,e⟩,_⟩:=x;exact az e
theorem Paired.Ff{α β:Type}{F G:α->β->Prop}:∀{l₁:List α}{l₂:List β},Paired F l₁ l₂->(∀a b,F a b->G a b)->Paired G l₁ l₂
 |_,_,.nil,_=> .nil
 |_,_,.cons r t,f=> .cons (f _ _ r) (Paired.Ff t f)
theorem KA.stay(ht:∀b xs,H b=some (.tup xs)->H' b=some (.tup xs)):∀(n:Nat)(v:V)(d:PyData),KA H n v d->KA H' n v d:=by
 intro n
 induction n with
 |zero=>intro v d x;cases v<;>cases d<;>first |exact x |exact ae x
 |succ n ih=>
  intro v d x;cases v with
  |ref a=>
   cases d with
   |tuple ds=>obtain⟨vs,e,p⟩:=x;exact⟨vs,ht _ _ e,Paired.Ff p λv d=>ih v d⟩
   |_=>exact ae x
  |_=>cases d<;>first |exact x |exact ae x
theorem dZ.stay(x:dZ P w H h a o)(k:∀b u,(b=a\/H b=some (.own a))->h.get? b=some u->h'.get? b=some u)
  (ho:∀b,H b=some (.own a)->H' b=some (.own a))(ht:∀b xs,H b=some (.tup xs)->H' b=some (.tup xs)):dZ P w H' h' a o:=by
 induction o with
 |lst xs=>obtain⟨z,its,n,r,e⟩:=x;exact⟨z,its,n,r,k _ _ (.inl rfl) e⟩
 |tup xs=>obtain⟨z,us,r,⟨ob,e,c⟩,nd⟩:=x;exact⟨z,us,r,⟨ob,k _ _ (.inl rfl) e,c⟩,λo q=>by rw[k _ _ (.inl rfl) e]at q;cases q;exact nd _ e⟩
 |dK kvs=>obtain⟨z,y,vs,r,ob,es,ep,e,c⟩:=x;exact⟨z,y,vs,r,ob,es,ep,k _ _ (.inl rfl) e,c⟩
 |dT kvs=>obtain⟨z,y,xs,r,ob,es,ep,e,c⟩:=x;exact⟨z,y,xs,Paired.Ff r λp q z=>⟨z.1,ht _ _ z.2.1,z.2.2⟩,ob,es,ep,k _ _ (.inl rfl) e,c⟩
 |dN kvs=>obtain⟨z,y,xs,r,ob,es,ep,e,c⟩:=x;exact⟨z,y,xs,Paired.Ff r λp q z=>⟨z.1,KA.stay ht _ _ _ z.2.1,z.2.2⟩,ob,es,ep,k _ _ (.inl rfl) e,c⟩
 |set S n=>obtain⟨ob,es,ep,t,e,c⟩:=x;exact⟨ob,es,ep,t,k _ _ (.inl rfl) e,c⟩
 |ins C dx fs=>obtain⟨d,z,ne,e,mA,⟨od,es,ep,e2,c⟩,r⟩:=x;exact⟨ho _ d,z,ne,k _ _ (.inl rfl) e,mA,⟨od,es,ep,k _ _ (.inr d) e2,c⟩,r⟩
 |own y=>obtain⟨ob,e⟩:=x;exact⟨ob,k _ _ (.inl rfl) e⟩
 |xd fs=>obtain⟨mA,⟨od,es,ep,e,c⟩,r⟩:=x;exact⟨mA,⟨od,es,ep,k _ _ (.inl rfl) e,c⟩,r⟩
 |WL lo hi=>obtain⟨t,u,v,e⟩:=x;exact⟨t,u,v,k _ _ (.inl rfl) e⟩
 |iV ob u ih=>obtain⟨e,q⟩:=x;exact⟨k _ _ (.inl rfl) e,ih q⟩
 |jG ps=>have e:h.get? a=some { cls:=.none,data:=.fields ps }:=x;show h'.get? a=some { cls:=.none,data:=.fields ps };exact k a _ (.inl rfl) e
 |met f y=>have e:h.get? a=some (PySem.W.methodObj (.ref f) (.ref y)):=x;show h'.get? a=some (PySem.W.methodObj (.ref f) (.ref y));exact k a _ (.inl rfl) e
 |ext φ=>obtain⟨p,⟨o,e⟩,st⟩:=x;exact⟨st _ _ p λo q=>k _ _ (.inl rfl) q,⟨o,k _ _ (.inl rfl) e⟩,st⟩
theorem kZ.lt(x:kZ P w H h)(e:H a=some o):a < h.objs.size:=(x a o e).lt
theorem kZ.fresh(x:kZ P w H h)(e:h.objs.size<=a):H a=none:=by
 cases q:H a with
 |none=>rfl
 |some u=>exact absurd (bT (x.lt q) e) (dz _)
theorem kZ.kept(x:kZ P w H h)(k:∀b u,h.get? b=some u->h'.get? b=some u):kZ P w H h':=λa o e=>
 (x a o e).stay (λb u _ q=>k b u q) (λ_ q=>q) λ_ _ q=>q
theorem kZ.laid(x:kZ P w H h)(k:∀b u,h.get? b=some u->h'.get? b=some u)(hp:h.objs.size<=a)(new:dZ P w (upd H a o) h' a o):kZ P w (upd H a o) h':=λb u e=>by
 have hn:=x.fresh hp;by_cases hb:b=a
 ·subst hb;rw[bq]at e;cases e;exact new
 ·rw[aI hb]at e;exact(x b u e).stay (λc v _ q=>k c v q) (λc q=>by rw[aI (cD q hn)];exact q) λc xs q=>by rw[aI (cD q hn)];exact q
end
def Rd(H:Hp)(a:afR)(u:HO):Prop:=H a=some u\/∃o,H a=some (.iV o u)
variable{P:afV}{w:afY}{h:Heap}
theorem Rd.ok(r:Rd H a u)(x:kZ P w H h):dZ P w H h a u:=by
 rcases r with r |⟨o,r⟩
 ·exact x a u r
 ·obtain⟨_,q⟩:=x a _ r;exact q
def T7:Option HO->Prop
 |some (.lst _)=>True
 |some (.dK _)=>True
 |some (.dT _)=>True
 |some (.dN _)=>True
 |some (.set _ _)=>True
 |some (.ins _ _ _)=>True
 |some (.ext _)=>True
 |_=>False
section
variable {P:afV}{w:afY}{H:Hp}{h h':Heap}{x e:afR}{o':HO}
theorem kZ.write(ok:kZ P w H h)(mu:T7 (H x))(he:e=x\/H e=some (.own x))(k:∀b u,b≠e->h.get? b=some u->h'.get? b=some u)(TC:∃u,h'.get? e=some u)
  (new:dZ P w (upd H x o') h' x o'):kZ P w (upd H x o') h':=λb u q=>by
 have T8:∀c y,H c=some (.own y)->c≠x:=λc y r z=>by subst z;rw[r]at mu;exact mu
 have XJ:∀c xs,H c=some (.tup xs)->c≠x:=λc xs r z=>by subst z;rw[r]at mu;exact mu
 by_cases hb:b=x
 ·subst hb;rw[bq]at q;cases q;exact new
 ·rw[aI hb]at q;by_cases OT:b=e
  ·have q':H b=some (.own x):=by
    rcases he with z |z
    ·exact absurd (OT.trans z) hb
    ·rw[OT];exact z
   rw[q]at q';cases q';obtain⟨v,hv⟩:=TC;exact⟨v,by rw[OT];exact hv⟩
  ·refine(ok b u q).stay (λc v hc r=>k c v ?_ r) (λc r=>by rw[aI (T8 c b r)];exact r) λc xs r=>by rw[aI (XJ c xs r)];exact r
   rcases hc with rfl |hc
   ·exact OT
   ·rintro rfl;rcases he with z |z
    ·exact T8 c b hc z
    ·rw[hc]at z;cases z;exact hb rfl
end
structure Un(fs ex:List afR)(H H':Hp)(h h':Heap):Prop where
 keep:∀b o,h.get? b=some o->H b=none->b∉fs->b∉ex->h'.get? b=some o
 slot:∀b o,h.get? b=some o->H b=none->b∈fs->b∉ex->∃sl,h'.get? b=some { o with slots:=sl }
 free:∀b o,h.get? b=some o->H b=none->b∉ex->H' b=none
 there:∀b o,h.get? b=some o->b∉ex->∃o',h'.get? b=some o'
 tups:∀b xs,H b=some (.tup xs)->H' b=some (.tup xs)
 k6:∀b o u,H b=some (.iV o u)->H' b=some (.iV o u)
 mX:∀b ps,H b=some (.jG ps)->∃more,H' b=some (.jG (ps++more))
section
variable {fs fs' ex ex':List afR}{H H1 H2:Hp}{h h1 h2 h':Heap}{a x e:afR}{o:HO}
theorem Un.any(u:Un fs ex H H1 h h1){ob:Obj}(q:h.get? b=some ob)(n:H b=none)(hx:b∉ex):∃sl,h1.get? b=some { ob with slots:=sl }:=by
 by_cases hb:b∈fs
 ·exact u.slot b ob q n hb hx
 ·exact⟨ob.slots,u.keep b ob q n hb hx⟩
theorem Un.kept(k:∀b u,h.get? b=some u->h'.get? b=some u):Un fs ex H H h h' :=
 ⟨λb ob q _ _ _=>k b ob q,λb ob q _ _ _=>⟨ob.slots,k b ob q⟩,λ_ _ _ n _=>n,λb ob q _=>⟨ob,k b ob q⟩,λ_ _ q=>q,λ_ _ _ q=>q,λ_ ps q=>⟨#[],by rw[q];simp⟩⟩
theorem Un.refl:Un fs ex H H h h:=Un.kept λ_ _ q=>q
theorem Un.laid(k:∀b u,h.get? b=some u->h'.get? b=some u)(hp:h.objs.size<=a)(hn:H a=none):Un fs ex H (upd H a o) h h' where
 keep:=λb u q _ _ _=>k b u q
 slot:=λb u q _ _ _=>⟨u.slots,k b u q⟩
 free:=λb u q n _=>by rw[aI (aN (bT (az q) hp))];exact n
 there:=λb u q _=>⟨u,k b u q⟩
 tups:=λb xs q=>by rw[aI (cD q hn)];exact q
 k6:=λb u xs q=>by rw[aI (cD q hn)];exact q
 mX:=λb ps q=>⟨#[],by rw[aI (cD q hn),q];simp⟩
theorem Un.write(mu:T7 (H x))(he:e=x\/H e=some (.own x))(k:∀b u,b≠e->h.get? b=some u->h'.get? b=some u)(TC:∃u,h'.get? e=some u):Un fs ex H (upd H x o) h h':=by
 have hx:∀b,H b=none->b≠x:=λb n z=>by subst z;rw[n]at mu;exact mu
 have hb:∀b,H b=none->b≠e:=λb n z=>by
  subst z;rcases he with r |r
  ·exact hx b n r
  ·rw[n]at r;cases r
 have hm:∀b u,H b=some u->¬T7 (some u)->b≠x:=λb u q nm z=>by subst z;rw[q]at mu;exact nm mu
 refine⟨λb u q n _ _=>k b u (hb b n) q,λb u q n _ _=>⟨u.slots,k b u (hb b n) q⟩,λb u q n _=>by rw[aI (hx b n)];exact n,λb u q _=>?_,
  λb xs q=>by rw[aI (hm b _ q λz=>z)];exact q,λb u xs q=>by rw[aI (hm b _ q λz=>z)];exact q,λb ps q=>⟨#[],by rw[aI (hm b _ q λz=>z),q];simp⟩⟩
 by_cases OT:b=e
 ·subst OT;exact TC
 ·exact⟨u,k b u OT q⟩
end
def WM(h:Heap)(H:Hp):List afR:=(aU h.objs.size).filter λa=>(H a).isSome
def vt(h:Heap)(H:Hp):Heap:=PySem.W.hideAll h (WM h H)
theorem DB(h:Heap)(H:Hp):(vt h H).objs.size=h.objs.size:=PySem.W.hideAll_size _ _
variable{o:Obj}
theorem Fg(e:h.get? b=some o)(n:H b=none):(vt h H).get? b=some o :=
 PySem.W.hideAll_get _ e λhm=>by have q:(H b).isSome=true:=(List.mem_filter.mp hm).2;rw[n]at q;simp at q
theorem Kr(e:(vt h H).get? b=some o):h.get? b=some o/\H b=none:=by
 have e':h.get? b=some o:=PySem.W.of_hideAll (WM h H) e;refine⟨e',?_⟩;cases q:H b with
 |none=>rfl
 |some x=>have hm:b∈WM h H:=List.mem_filter.mpr ⟨List.mem_range.mpr (az e'),by simp[q]⟩;have z:(vt h H).get? b=none:=PySem.W.hideAll_none (WM h H) hm;rw[z]at e;cases e
def jZ(g h:Heap)(L:afR):List (afR×Obj):=(aU h.objs.size).filterMap λa=>if a=L\/(g.get? a).isSome=true then none else(h.get? a).map λo=>(a,o)
variable{g:Heap}{L:afR}
theorem cz(h1:a≠L)(h2:g.get? a=none)(h3:h.get? a=some o):(a,o)∈jZ g h L :=
 List.mem_filterMap.mpr ⟨a,List.mem_range.mpr (az h3),by simp[h1,h2,h3]⟩
variable{p:afR×Obj}
theorem qN(hp:p∈jZ g h L):p.1≠L/\g.get? p.1=none/\h.get? p.1=some p.2:=by
 obtain⟨b,_,e⟩:=List.mem_filterMap.mp hp;split at e
 ·cases e
 ·rename_i hn;cases q:h.get? b with
  |none=>rw[q]at e;simp at e
  |some u=>
   rw[q]at e;simp only[nD,Option.some.injEq]at e;subst e;refine⟨λz=>hn (.inl z),?_,q⟩;show g.get? b=none;cases r:g.get? b with
   |none=>rfl
   |some v=>exact(hn (.inr (by simp[r]))).elim
theorem qO:News g L h (jZ g h L):=λp hp=>let ⟨a,b,c⟩:=qN hp;⟨c,a,b⟩
structure Mod(K:PySem.W.Frag)(mg:Str->Option afX)(base:Heap):Prop where
 Nw:K.In base
 glob:base.Ns af7 mg
 blt:∃mb,base.Ns builtinsNs mb/\∀x:Str,x≠"__name__"->mb x=af1 x
 nolimit:base.NoLimit
structure Cx where
 prog:afV
 w:afY
 K:PySem.W.Frag
 mg:Str->Option afX
 base:Heap
 A:afS
 N:List Str
 s₀:afW
 H₀:Hp
 env:Env
 outer:List Env
 stack:List Env
 ex:List afR
 fn:Str->Bool
 calm:Bool
 pn:List (afR×Obj)
 xe:afX->afW->Prop
def frs(l:List Env):List afR:=l.filterMap (·.frame)
abbrev Cx.fs(X:Cx):List afR:=frs X.outer
def WN(sc:Scope)(x:Str):Prop:=sc.names.lookup x=some .local\/sc.names.lookup x=some .cell\/sc.names.lookup x=some .free
def Loc(sc:Scope)(x:Str):Prop:=sc.names.lookup x=some .local\/sc.names.lookup x=some .cell
def Look(env:Env)(h:Heap)(m:Str->Option afX)(x:Str)(u:afX):Prop :=
 (env.kindOf x=some .local/\m x=some u)\/((env.kindOf x=some .cell\/env.kindOf x=some .free)/\∃c,env.cells.lookup x=some c/\h.IsCell c (some u))
structure Cx.Ok(X:Cx):Prop where
 mod:Mod X.K X.mg X.base
 kind:X.env.scope.kind= .function
 glob:X.env.globals=af7
 blt:X.env.builtins=builtinsNs
 above:X.s₀.heap.objs.size<=X.env.locals
 inj:∀x y c,X.env.cells.lookup x=some c->X.env.cells.lookup y=some c->x=y
 has:∀x,(X.env.kindOf x=some .cell\/X.env.kindOf x=some .free)->∃c,X.env.cells.lookup x=some c
 TF:∀x c,X.fn x=true->X.env.cells.lookup x=some c->X.s₀.heap.objs.size<=c
 hd:X.calm=true->X.A.handled=none
 frames:X.A.frames=some X.stack
 stk:X.stack=X.outer\/(X.stack=X.env::X.outer/\X.env.frame=some X.env.locals)
 XM:∀b∈X.ex,b≠X.env.locals/\∀x c,X.env.cells.lookup x=some c->c≠b
 bs:∀b o,X.base.get? b=some o->X.s₀.heap.get? b=some o/\X.H₀ b=none
 Kt:X.base.objs.size<=X.s₀.heap.objs.size
 DC:∀b o,X.base.get? b=some o->b∉X.ex
 Fh:∀b∈X.ex,b∉X.fs
 nE:X.s₀.heap.FunFrames X.base X.outer
 Nx:∀b∈X.fs,X.H₀ b=none
structure Inv(X:Cx)(pins:List (afR×Obj))(σ:List (Option V))(H:Hp)(s:afW):Prop where
 ok:X.Ok
 os:s.os=X.s₀.os
 bare:AllBare s.gens
 base:Un X.fs X.ex X.H₀ H X.s₀.heap s.heap
 loc:∃m,s.heap.Ns X.env.locals m/\∀(i:Nat)(x:Str)(v:V),X.N[i]? =some x->σ[i]? =some (some v)->WN X.env.scope x->∃u,RelV v u/\Look X.env s.heap m x u
 cell:∀x c,X.env.cells.lookup x=some c->∃v,s.heap.IsCell c v
 free:H X.env.locals=none
 jI:∀x c,X.env.cells.lookup x=some c->H c=none
 pin:∀p∈X.pn++pins,s.heap.get? p.1=some p.2/\H p.1=none/\p.1≠X.env.locals/\p.1∉X.fs/\∀v,p.2.data≠.cell v
 hok:kZ X.prog X.w H s.heap
 len:σ.length=X.N.length
variable{u:afX}{g':Array GenState}{t' i j:Nat}{d':Drawn}{ch:List afR}{it:afR}{x:Str}{N:List Str}{M:Model}{A:afS}{E:afX->afW->Prop}{v:V}{Q:Unit->afW->Prop}
section
variable {X:Cx}{pins:List (afR×Obj)}{σ:List (Option V)}{H H':Hp}{s:afW}{h':Heap}
theorem Cx.Ok.XN(ok:X.Ok)(e:X.base.get? b=some o):b∉X.fs:=λhb=>by have:=(ok.nE.mem hb).1;rw[e]at this;cases this
theorem Inv.bs(I:Inv X pins σ H s):∀b o,X.base.get? b=some o->s.heap.get? b=some o/\H b=none:=λb o e=>
 ⟨I.base.keep b o (I.ok.bs b o e).1 (I.ok.bs b o e).2 (I.ok.XN e) (I.ok.DC b o e),I.base.free b o (I.ok.bs b o e).1 (I.ok.bs b o e).2 (I.ok.DC b o e)⟩
theorem Inv.bk(I:Inv X pins σ H s):∀b o,X.base.get? b=some o->s.heap.get? b=some o:=λb o e=>(I.bs b o e).1
theorem Inv.mod(I:Inv X pins σ H s):Mod X.K X.mg X.base:=I.ok.mod
theorem Inv.vw(I:Inv X pins σ H s):X.K.In s.heap:=I.ok.mod.Nw.keeps I.bk
theorem Inv.lt(I:Inv X pins σ H s):X.env.locals < s.heap.objs.size:=let ⟨_,hn,_⟩:=I.loc;hn.lt
theorem Inv.sz(I:Inv X pins σ H s):X.s₀.heap.objs.size<=s.heap.objs.size:=bZ I.ok.above (qg I.lt)
theorem Inv.T9(I:Inv X pins σ H s)(h:s.heap.objs.size<=a):a∉X.fs:=λhb=>by obtain⟨_,o,ho,_⟩:=I.ok.nE.mem hb;exact absurd (bT (az ho) (bZ I.sz h)) (dz _)
theorem Inv.OU(I:Inv X pins σ H s):∀x c,X.env.cells.lookup x=some c->c≠X.env.locals:=λx c e z=>by obtain⟨v,o,ho,hd⟩:=I.cell x c e;obtain⟨m,⟨o',es,ep,ho',hd',_⟩,_⟩:=I.loc;rw[z,ho']at ho;cases ho;rw[hd']at hd;cases hd
theorem Inv.nE(I:Inv X pins σ H s):s.heap.FunFrames X.base X.outer:=by
 have all:∀(l:List Env),(∀b∈frs l,b∈X.fs)->X.s₀.heap.FunFrames X.base l->s.heap.FunFrames X.base l:=by
  intro l
  induction l with
  |nil=>intro _ _;trivial
  |cons env r ih=>intro hs hl;obtain⟨hk,⟨L,o,hf,hn,ho,hd⟩,hr⟩:=hl;have hL:L∈X.fs:=hs L (by unfold frs;rw[k7,hf];exact ax);obtain⟨sl,e⟩:=I.base.slot L o ho (I.ok.Nx L hL) hL λz=>I.ok.Fh L z hL;exact⟨hk,⟨L,_,hf,hn,e,hd⟩,ih (λb hb=>hs b (by unfold frs;rw[k7,hf];exact av _ hb)) hr⟩
 exact all X.outer (λ_ hb=>hb) I.ok.nE
theorem Inv.stack(I:Inv X pins σ H s):s.heap.FunFrames X.base X.stack:=by
 rcases I.ok.stk with e |⟨e,hf⟩
 ·rw[e];exact I.nE
 ·rw[e];obtain⟨m,hn,_⟩:=I.loc;refine .cons (by rw[I.ok.kind];decide) hf hn ?_ I.nE;exact Heap.get?_none_of_le (bZ I.ok.Kt I.ok.above)
theorem Inv.qP(I:Inv X pins σ H s):∀b∈frs X.stack,b∈X.env.locals::X.fs:=λb hb=>by
 rcases I.ok.stk with e |⟨e,hf⟩
 ·rw[e]at hb;exact av _ hb
 ·rw[e]at hb;unfold frs at hb;rw[k7,hf]at hb;exact hb
theorem Inv.nG(I:Inv X pins σ H s):∀b∈frs X.stack,H b=none:=λb hb=>by
 rcases List.mem_cons.mp (I.qP b hb)with e |hb
 ·rw[e];exact I.free
 ·obtain⟨_,o,ho,_⟩:=I.ok.nE.mem hb;exact I.base.free b o ho (I.ok.Nx b hb) λz=>I.ok.Fh b z hb
theorem Inv.step(I:Inv X pins σ H s)
  (hch:∀b∈ch,(b∈X.ex\/X.s₀.heap.objs.size<=b)/\b≠X.env.locals/\(∀x c,X.env.cells.lookup x=some c->c≠b)/\∀p∈X.pn++pins,p.1≠b)
  (keep:∀b o,b≠X.env.locals->b∉X.fs->b∉ch->s.heap.get? b=some o->H b=none->h'.get? b=some o)
  (slot:∀b o,b≠X.env.locals->b∈X.fs->b∉ch->s.heap.get? b=some o->H b=none->∃sl,h'.get? b=some { o with slots:=sl })(free:∀b o,b∉ch->s.heap.get? b=some o->H b=none->H' b=none)
  (there:∀b o,b∉ch->s.heap.get? b=some o->∃o',h'.get? b=some o')
  (tups:∀b xs,H b=some (.tup xs)->H' b=some (.tup xs))(k6:∀b o u,H b=some (.iV o u)->H' b=some (.iV o u))(mX:∀b ps,H b=some (.jG ps)->∃more,H' b=some (.jG (ps++more)))
  (ns:∀m,s.heap.Ns X.env.locals m->h'.Ns X.env.locals m)(hok:kZ X.prog X.w H' h')(hg:AllBare g'):
  Inv X pins σ H' { s with heap:=h',gens:=g',drawn:=d',toks:=t' }:=by
 have T_:∀b o,X.s₀.heap.get? b=some o->b≠X.env.locals:=λb o e=>aN (bT (az e) I.ok.above);have WO:∀b o,X.s₀.heap.get? b=some o->b∉X.ex->b∉ch:=λb o e hx hb=>by
  rcases(hch b hb).1 with z |z
  ·exact hx z
  ·exact absurd (bT (az e) z) (dz _)
 have cellK:∀x c,X.env.cells.lookup x=some c->∀v,s.heap.IsCell c v->h'.IsCell c v:=λx c e v ⟨o,ho,hd⟩=>by
  have OV:c∉ch:=λz=>(hch c z).2.2.1 x c e rfl;by_cases hc:c∈X.fs
  ·obtain⟨sl,q⟩:=slot c o (I.OU x c e) hc OV ho (I.jI x c e);exact⟨_,q,hd⟩
  ·exact⟨o,keep c o (I.OU x c e) hc OV ho (I.jI x c e),hd⟩
 refine⟨I.ok,I.os,hg,⟨λb o e n hb hx=>?_,λb o e n hb hx=>?_,λb o e n hx=>?_,λb o e hx=>?_,λb xs e=>tups b xs (I.base.tups b xs e),λb o xs e=>k6 b o xs (I.base.k6 b o xs e),λb ps e=>?_⟩,?_,λx c e=>?_,?_,λx c e=>?_,λp hp=>?_,hok,I.len⟩
 ·exact keep b o (T_ b o e) hb (WO b o e hx) (I.base.keep b o e n hb hx) (I.base.free b o e n hx)
 ·obtain⟨sl,e1⟩:=I.base.slot b o e n hb hx;obtain⟨sl',e2⟩:=slot b _ (T_ b o e) hb (WO b o e hx) e1 (I.base.free b o e n hx);exact⟨sl',e2⟩
 ·obtain⟨o',e1⟩:=I.base.there b o e hx;exact free b o' (WO b o e hx) e1 (I.base.free b o e n hx)
 ·obtain⟨o',e1⟩:=I.base.there b o e hx;exact there b o' (WO b o e hx) e1
 ·obtain⟨m1,e1⟩:=I.base.mX b ps e;obtain⟨m2,e2⟩:=mX b _ e1;exact⟨m1++m2,by rw[e2,Array.append_assoc]⟩
 ·obtain⟨m,hn,hl⟩:=I.loc;refine⟨m,ns m hn,λi x v e1 e2 e3=>?_⟩;obtain⟨u,r,l⟩:=hl i x v e1 e2 e3;refine⟨u,r,?_⟩;rcases l with l |⟨k,c,e,z⟩
  ·exact .inl l
  ·exact .inr ⟨k,c,e,cellK x c e _ z⟩
 ·obtain⟨v,z⟩:=I.cell x c e;exact⟨v,cellK x c e v z⟩
 ·obtain⟨m,⟨o,_,_,ho,_⟩,_⟩:=I.loc;exact free _ o (λz=>(hch _ z).2.1 rfl) ho I.free
 ·obtain⟨v,o,ho,hd⟩:=I.cell x c e;exact free c o (λz=>(hch c z).2.2.1 x c e rfl) ho (I.jI x c e)
 ·obtain⟨e,n,ne,nf,d⟩:=I.pin p hp;have OV:p.1∉ch:=λz=>(hch p.1 z).2.2.2 p hp rfl;exact⟨keep p.1 p.2 ne nf OV e n,free p.1 p.2 OV e n,ne,nf,d⟩
theorem Inv.un(I:Inv X pins σ H s)(u:Un X.fs [] H H' s.heap h')(hok:kZ X.prog X.w H' h'):Inv X pins σ H' { s with heap:=h',toks:=t' }:=by obtain⟨m,⟨o,es,ep,ho,r⟩,_⟩:=id I.loc;obtain⟨sl,hL⟩:=u.any ho I.free (by simp);exact I.step (g':=s.gens) (d':=s.drawn) (ch:=[]) (λ_ z=>nomatch z) (λb o _ hb _ e n=>u.keep b o e n hb (by simp)) (λb o _ hb _ e n=>u.slot b o e n hb (by simp)) (λb o _ e n=>u.free b o e n (by simp)) (λb o _ e=>u.there b o e (by simp)) u.tups u.k6 u.mX (λm' hm=>by obtain⟨o',es',TH,ho',r'⟩:=hm;rw[ho]at ho';cases ho';exact⟨_,es',TH,hL,r'⟩) hok I.bare
theorem Inv.call(I:Inv X pins σ H s)(u:Un (frs X.stack) ch H H' s.heap h')(hok:kZ X.prog X.w H' h')(hg:AllBare g')
  (hch:∀b∈ch,(b∈X.ex\/X.s₀.heap.objs.size<=b)/\b≠X.env.locals/\(∀x c,X.env.cells.lookup x=some c->c≠b)/\∀p∈X.pn++pins,p.1≠b):
  Inv X pins σ H' { s with heap:=h',gens:=g',drawn:=d',toks:=t' }:=by
 obtain⟨m,⟨o,es,ep,ho,r⟩,_⟩:=id I.loc;obtain⟨sl,hL⟩:=u.any ho I.free λz=>(hch _ z).2.1 rfl;exact I.step (ch:=ch) hch (λb o hL hb hc e n=>u.keep b o e n (λz=>(List.mem_cons.mp (I.qP b z)).elim hL hb) hc) (λb o _ _ hc e n=>u.any e n hc) (λb o hc e n=>u.free b o e n hc) (λb o hc e=>u.there b o e hc) u.tups u.k6 u.mX (λm' hm=>by obtain⟨o',es',TH,ho',r'⟩:=hm;rw[ho]at ho';cases ho';exact⟨_,es',TH,hL,r'⟩) hok hg
theorem Inv.turned(I:Inv X pins σ H s)(k:∀b o,b≠it->s.heap.get? b=some o->h'.get? b=some o)(hn:H it=none)(hL:it≠X.env.locals)
  (h1:it∈X.ex\/X.s₀.heap.objs.size<=it)(h2:∀x c,X.env.cells.lookup x=some c->c≠it)(h3:∀p∈X.pn++pins,p.1≠it):Inv X pins σ H { s with heap:=h',toks:=t' }:=by
 have nit:∀b u,H b=some u->b≠it:=λb u e z=>by rw[z,hn]at e;cases e
 refine I.step (g':=s.gens) (d':=s.drawn) (ch:=[it]) (λb hb=>?_) (λb o _ _ hc e _=>k b o (λz=>hc (by simp[z])) e) (λb o _ _ hc e _=>⟨o.slots,k b o (λz=>hc (by simp[z])) e⟩) (λ_ _ _ _ n=>n)
  (λb o hc e=>⟨o,k b o (λz=>hc (by simp[z])) e⟩) (λ_ _ e=>e) (λ_ _ _ e=>e) (λb ps e=>⟨#[],by rw[e];simp⟩) (λm hm=>?_) (λb u e=>?_) I.bare
 ·have e:b=it:=by simpa using hb
  subst e;exact⟨h1,hL,h2,h3⟩
 ·obtain⟨o,es,ep,ho,r⟩:=hm;exact⟨o,es,ep,k _ o (bC hL) ho,r⟩
 ·refine(I.hok b u e).stay (λc v hc q=>k c v ?_ q) (λ_ q=>q) λ_ _ q=>q;rcases hc with z |z
  ·rw[z];exact nit b u e
  ·exact nit c _ z
theorem Inv.tok(I:Inv X pins σ H s)(t:Nat):Inv X pins σ H { s with toks:=t }:=I.un (h':=s.heap) (t':=t) Un.refl I.hok
theorem Inv.kept(I:Inv X pins σ H s)(k:∀b u,s.heap.get? b=some u->h'.get? b=some u):Inv X pins σ H { s with heap:=h',toks:=t' }:=I.un (Un.kept k) (I.hok.kept k)
theorem Inv.laid{o:HO}(I:Inv X pins σ H s)(k:∀b u,s.heap.get? b=some u->h'.get? b=some u)(hp:s.heap.objs.size<=a)(new:dZ X.prog X.w (upd H a o) h' a o):
  Inv X pins σ (upd H a o) { s with heap:=h',toks:=t' }:=I.un (Un.laid k hp (I.hok.fresh hp)) (I.hok.laid k hp new)
theorem Inv.write{x e:afR}{o:HO}(I:Inv X pins σ H s)(mu:T7 (H x))(he:e=x\/H e=some (.own x))(k:∀b u,b≠e->s.heap.get? b=some u->h'.get? b=some u)(TC:∃u,h'.get? e=some u)
  (new:dZ X.prog X.w (upd H x o) h' x o):Inv X pins σ (upd H x o) { s with heap:=h',toks:=t' }:=I.un (Un.write mu he k TC) (I.hok.write mu he k TC new)
theorem Inv.qh{iw:List (afR×Obj)}(I:Inv X pins σ H s)(h:∀p∈iw,s.heap.get? p.1=some p.2/\H p.1=none/\p.1≠X.env.locals/\p.1∉X.fs/\∀v,p.2.data≠.cell v):Inv X iw σ H s :=
 ⟨I.ok,I.os,I.bare,I.base,I.loc,I.cell,I.free,I.jI,λp hp=>(List.mem_append.mp hp).elim (λz=>I.pin p (gX _ z)) (h p),I.hok,I.len⟩
theorem xq(hN:N.Nodup)(a:N[i]? =some x)(b:N[j]? =some x):i=j:=by obtain⟨h1,e1⟩:=List.getElem?_eq_some_iff.mp a;obtain⟨h2,e2⟩:=List.getElem?_eq_some_iff.mp b;exact(List.getElem_inj hN).mp (e1.trans e2.symm)
theorem oG(I:Inv X pins σ H s)(hN:X.N.Nodup)(hi:X.N[i]? =some x)(hx:Loc X.env.scope x)(r:RelV v u)
  (h:∀s',Inv X pins (σ.set i (some v)) H s'->(∃a,eB a s.heap s'.heap/\(a=X.env.locals\/X.env.cells.lookup x=some a))->Q () s')(hf:X.fn x=true\/X.env.scope.names.lookup x=some .local:=by first |exact .inl rfl |exact .inr rfl |assumption):aga M A (storeName X.env x u) Q E s:=by
 obtain⟨m,hn,hl⟩:=id I.loc;have hcls:(X.env.scope.kind == .class||(X.env.scope.kind == .module&&X.env.locals != X.env.globals))=false:=by rw[I.ok.kind];rfl
 have Ua:i < σ.length:=by rw[I.len];exact(List.getElem?_eq_some_iff.mp hi).1
 have OU:=I.OU;have tracked:∀{a:afR}{h':Heap},(∃o,s.heap.get? a=some o/\H a=none)->eB a s.heap h'->kZ X.prog X.w H h':=λ{a h'} ha hs b ob e=>by
  obtain⟨_,_,hfree⟩:=ha;refine(I.hok b ob e).stay (λc w' hc q=>(hs.2 c ?_).trans q) (λ_ q=>q) λ_ _ q=>q;rintro rfl;rcases hc with rfl |hc
  ·rw[hfree]at e;cases e
  ·rw[hfree]at hc;cases hc
 rcases hx with hk |hk
 ·refine wpAny_storeName_local hk hn (λh' hn' hs=>?_) hcls;obtain⟨oL,_,_,hoL,_⟩:=id hn;refine h _ ⟨I.ok,I.os,I.bare,⟨λb o e n hb hx=>?_,λb o e n hb hx=>?_,I.base.free,λb o e hx=>?_,I.base.tups,I.base.k6,I.base.mX⟩,⟨_,hn',λj y v' e1 e2 e3=>?_⟩,λy c e=>?_,I.free,I.jI,λp hp=>?_,tracked ⟨oL,hoL,I.free⟩ hs,by simpa using I.len⟩ ⟨_,hs,.inl rfl⟩
  ·exact(hs.2 b (aN (bT (az e) I.ok.above))).trans (I.base.keep b o e n hb hx)
  ·obtain⟨sl,e1⟩:=I.base.slot b o e n hb hx;exact⟨sl,(hs.2 b (aN (bT (az e) I.ok.above))).trans e1⟩
  ·obtain⟨o',e1⟩:=I.base.there b o e hx;exact⟨o',(hs.2 b (aN (bT (az e) I.ok.above))).trans e1⟩
  ·by_cases hj:j=i
   ·subst hj;rw[hi]at e1;cases e1;rw[l3 Ua]at e2;cases e2;exact⟨u,r,.inl ⟨hk,by simp⟩⟩
   ·rw[b9 (bC hj)]at e2;obtain⟨u',r',q⟩:=hl j y v' e1 e2 e3;refine⟨u',r',?_⟩;rcases q with ⟨k,e⟩ |⟨k,c,e,z⟩
    ·refine .inl ⟨k,?_⟩;have:y≠x:=λe=>hj (xq hN e1 (e ▸ hi));simp[this,e]
    ·exact .inr ⟨k,c,e,z.sameBut hs (OU y c e)⟩
  ·obtain⟨w',z⟩:=I.cell y c e;exact⟨w',z.sameBut hs (OU y c e)⟩
  ·obtain⟨e,n,ne,nf,d⟩:=I.pin p hp;exact⟨(hs.2 p.1 ne).trans e,n,ne,nf,d⟩
 ·have hfn:X.fn x=true:=by
   rcases hf with z |z
   ·exact z
   ·rw[z]at hk;cases hk
  obtain⟨c,hc⟩:=I.ok.has x (.inl hk);obtain⟨w',z⟩:=I.cell x c hc;refine wpAny_storeName_cell I.ok.kind hk hc z (λh' hc' hs=>?_);obtain⟨oc,hoc,XO⟩:=id z;refine h { s with heap:=h' } ⟨I.ok,I.os,I.bare,⟨λb o e n hb hx=>?_,λb o e n hb hx=>?_,I.base.free,λb o e hx=>?_,I.base.tups,I.base.k6,I.base.mX⟩,⟨m,hn.sameBut hs (bC (OU x c hc)),λj y v' e1 e2 e3=>?_⟩,λy c' e=>?_,I.free,I.jI,λp hp=>?_,tracked ⟨oc,hoc,I.jI x c hc⟩ hs,by simpa using I.len⟩ ⟨c,hs,.inr hc⟩
  ·exact(hs.2 b (aN (bT (az e) (I.ok.TF x c hfn hc)))).trans (I.base.keep b o e n hb hx)
  ·obtain⟨sl,e1⟩:=I.base.slot b o e n hb hx;exact⟨sl,(hs.2 b (aN (bT (az e) (I.ok.TF x c hfn hc)))).trans e1⟩
  ·obtain⟨o',e1⟩:=I.base.there b o e hx;exact⟨o',(hs.2 b (aN (bT (az e) (I.ok.TF x c hfn hc)))).trans e1⟩
  ·by_cases hj:j=i
   ·subst hj;rw[hi]at e1;cases e1;rw[l3 Ua]at e2;cases e2;exact⟨u,r,.inr ⟨.inl hk,c,hc,hc'⟩⟩
   ·rw[b9 (bC hj)]at e2;obtain⟨u',r',q⟩:=hl j y v' e1 e2 e3;refine⟨u',r',?_⟩;rcases q with q |⟨k,c',e,z'⟩
    ·exact .inl q
    ·refine .inr ⟨k,c',e,z'.sameBut hs ?_⟩;rintro rfl;exact hj (xq hN e1 (I.ok.inj _ _ _ e hc ▸ hi))
  ·by_cases hcc:c'=c
   ·subst hcc;exact⟨_,hc'⟩
   ·obtain⟨w2,z2⟩:=I.cell y c' e;exact⟨w2,z2.sameBut hs hcc⟩
  ·obtain⟨e,n,ne,nf,d⟩:=I.pin p hp;refine⟨(hs.2 p.1 ?_).trans e,n,ne,nf,d⟩;intro q;rw[q,hoc]at e;have q':oc=p.2:=Option.some.inj e;exact d w' (by rw[<-q'];exact XO)
theorem qQ(I:Inv X pins σ H s)(hN:X.N.Nodup)(hi:X.N[i]? =some x)(hx:Loc X.env.scope x)(r:RelV v u)
  (h:∀s',Inv X pins (σ.set i (some v)) H s'->Q () s')(hf:X.fn x=true\/X.env.scope.names.lookup x=some .local:=by first |exact .inl rfl |exact .inr rfl |assumption):aga M A (storeName X.env x u) Q E s :=
 oG I hN hi hx r (λs' I' _=>h s' I') hf
theorem Inv.xt{s':afW}(I:Inv X pins σ H s)(ho:s'.os=s.os)(u:Un (frs X.stack) ch H H' s.heap s'.heap)(hok:kZ X.prog X.w H' s'.heap)(hg:AllBare s'.gens)
  (hch:∀b∈ch,(b∈X.ex\/X.s₀.heap.objs.size<=b)/\b≠X.env.locals/\(∀x c,X.env.cells.lookup x=some c->c≠b)/\∀p∈X.pn++pins,p.1≠b):Inv X pins σ H' s':=by
 obtain⟨h',g',d',t',o'⟩:=s';have e:o'=s.os:=ho;subst e;exact I.call (g':=g') (t':=t') (d':=d') u hok hg hch
end
abbrev XK:=afX->Option afR->Hp->Prop
abbrev St:=List (Option V)
abbrev VK:=V->Hp->Prop
abbrev TE:=St->Hp->VK->Prop
abbrev TT:=St->Hp->(Bool->Hp->Prop)->Prop
abbrev TA:=St->Hp->(List V->Hp->Prop)->Prop
structure Ends where
 nx:St->Hp->Prop
 rt:VK
 bk:St->Hp->Prop:=λ_ _=>False
 ct:St->Hp->Prop:=λ_ _=>False
abbrev TS:=Ends->St->Hp->Prop
def EP(X:Cx)(pins:List (afR×Obj))(σ:St)(Q:VK)(u:afX)(s':afW):Prop:=∃v H',Inv X pins σ H' s'/\RelV v u/\Q v H'
def TP(X:Cx)(pins:List (afR×Obj))(σ:St)(Q:Bool->Hp->Prop)(b:Bool)(s':afW):Prop:=∃H',Inv X pins σ H' s'/\Q b H'
def AP(X:Cx)(pins:List (afR×Obj))(σ:St)(Q:List V->Hp->Prop)(us:List afX)(s':afW):Prop:=∃vs H',Inv X pins σ H' s'/\Vals vs us/\Q vs H'
def SP(X:Cx)(pins:List (afR×Obj))(D:Ends)(f:Flow)(s':afW):Prop :=
 match f with
 |.next=>∃σ' H',Inv X pins σ' H' s'/\D.nx σ' H'
 |.brk=>∃σ' H',Inv X pins σ' H' s'/\D.bk σ' H'
 |.cont=>∃σ' H',Inv X pins σ' H' s'/\D.ct σ' H'
 |.ret u=>∃v σ' H',Inv X pins σ' H' s'/\RelV v u/\D.rt v H'
def PE(X:Cx)(e:Expr)(t:TE):Prop :=
 ∀(pins:List (afR×Obj))(s:afW)(σ:St)(H:Hp)(Q:VK),Inv X pins σ H s->t σ H Q->aga (model X.prog X.w) X.A (eval e X.env) (EP X pins σ Q) X.xe s
def PT(X:Cx)(e:Expr)(t:TT):Prop :=
 ∀(pins:List (afR×Obj))(s:afW)(σ:St)(H:Hp)(Q:Bool->Hp->Prop),Inv X pins σ H s->t σ H Q->aga (model X.prog X.w) X.A (isTrue e X.env (eval e X.env)) (TP X pins σ Q) X.xe s
def PW(X:Cx)(e:Expr)(t:TT):Prop :=
 ∀(whole:Sem afX)(pins:List (afR×Obj))(s:afW)(σ:St)(H:Hp)(Q:Bool->Hp->Prop),Inv X pins σ H s->t σ H Q->aga (model X.prog X.w) X.A (isTrue e X.env whole) (TP X pins σ Q) X.xe s
def PA(X:Cx)(es:List Expr)(t:TA):Prop :=
 ∀(pos:Pos)(pins:List (afR×Obj))(s:afW)(σ:St)(H:Hp)(Q:List V->Hp->Prop),Inv X pins σ H s->t σ H Q->aga (model X.prog X.w) X.A (spliced (backTo pos (af9 es X.env))) (AP X pins σ Q) X.xe s
def PS(X:Cx)(st:Stmt)(t:TS):Prop :=
 ∀(pins:List (afR×Obj))(s:afW)(σ:St)(H:Hp)(D:Ends),Inv X pins σ H s->t D σ H->aga (model X.prog X.w) X.A (exec st X.env) (SP X pins D) X.xe s
def Fi(X:Cx)(st:List Stmt)(t:TS):Prop :=
 ∀(pins:List (afR×Obj))(s:afW)(σ:St)(H:Hp)(D:Ends),Inv X pins σ H s->t D σ H->aga (model X.prog X.w) X.A (execs st X.env) (SP X pins D) X.xe s
variable{s:afW}
theorem bR{α:Type}{t:Sem α}{Q Q':α->afW->Prop}(h:aga M A t Q E s)(hQ:∀a s,Q a s->Q' a s):aga M A t Q' E s:=age h hQ λ_ _ x=>x
variable{Q:afX->afW->Prop}{pos:Pos}{σ:St}{c:Expr}
section
variable {X:Cx}
def XQ(i:Nat):TE:=λσ H Q=>∃v,σ[i]? =some (some v)/\Q v H
def tC(v:V):TE:=λ_ H Q=>Q v H
theorem Fj(hN:X.N[i]? =some x)(hv:WN X.env.scope x)(hd:(x == ("__debug__":Str))=false:=by decide)(hcd:(x == ("__classdict__":Str))=false:=by decide):PE X (.Name x pos) (XQ i):=by
 intro pins s σ H Q I h;obtain⟨v,e,h⟩:=h;obtain⟨m,hn,hl⟩:=I.loc;obtain⟨u,r,l⟩:=hl i x v hN e hv;have fin:EP X pins σ Q u s:=⟨v,H,I,r,h⟩;rcases l with ⟨hk,hm⟩ |⟨hk,c,hc,hcell⟩
 ·exact wpAny_Name (wpAny_loadName_local I.ok.kind hk hn hm fin) hd
 ·rcases hk with hk |hk
  ·exact wpAny_Name (wpAny_loadName_cell I.ok.kind hk hc hcell fin) hd
  ·exact wpAny_Name (wpAny_loadName_free I.ok.kind hk hc hcell fin hcd) hd
theorem OW{i j pos}:PE X (.Constant (.int i) j pos) (tC (.int i)):=λ_ _ _ H _ I h=>wpAny_Constant_int ⟨.int i,H,I.tok _,⟨_,rfl⟩,h⟩
theorem Ub{b j pos}:PE X (.Constant (.bool b) j pos) (tC (.bl b)):=λ_ _ _ H _ I h=>Constant_bool ⟨.bl b,H,I,rfl,h⟩
theorem OX{j pos}:PE X (.Constant .none j pos) (tC .bK):=λ_ _ _ H _ I h=>Constant_none ⟨.bK,H,I,rfl,h⟩
theorem OY{x j pos}:PE X (.Constant (.str x) j pos) (tC (.str x)):=λ_ _ _ H _ I h=>Calls.Constant_str ⟨.str x,H,I.tok _,⟨_,rfl⟩,h⟩
def Gl(X:Cx)(x:Str):Prop:=X.env.kindOf x=some .globalImplicit
theorem qi{pins:List (afR×Obj)}(I:Inv X pins σ H s)(hg:Gl X x)(hm:X.mg x=some u)(h:Q u s)
  (hd:(x == ("__debug__":Str))=false:=by decide):aga (model X.prog X.w) X.A (eval (.Name x pos) X.env) Q E s :=
 OZ I.ok.kind hg (Calls.loadGlobal_global (by rw[I.ok.glob];exact I.mod.glob.keeps I.bk) hm h) hd
theorem gK{pins:List (afR×Obj)}(I:Inv X pins σ H s)(hg:Gl X x)(hm:X.mg x=none)(hv:af1 x=some u)(h:Q u s)
  (hn:x≠"__name__":=by decide)(hd:(x == ("__debug__":Str))=false:=by decide):aga (model X.prog X.w) X.A (eval (.Name x pos) X.env) Q E s:=by
 obtain⟨mb,h1,h2⟩:=I.mod.blt;exact OZ I.ok.kind hg (Calls.loadGlobal_builtin (by rw[I.ok.glob];exact I.mod.glob.keeps I.bk) hm (by rw[I.ok.blt];exact h1.keeps I.bk) ((h2 x hn).trans hv) h) hd
theorem j5(hg:Gl X x)(hm:X.mg x=some u)(r:RelV v u)(hd:(x == ("__debug__":Str))=false:=by decide):PE X (.Name x pos) (tC v) :=
 λ_ _ _ H _ I h=>qi I hg hm ⟨v,H,I,r,h⟩ hd
theorem Ku(hg:Gl X x)(hm:X.mg x=none)(hv:af1 x=some u)(r:RelV v u)(hn:x≠"__name__":=by decide)(hd:(x == ("__debug__":Str))=false:=by decide):PE X (.Name x pos) (tC v) :=
 λ_ _ _ H _ I h=>gK I hg hm hv ⟨v,H,I,r,h⟩ hn hd
variable {a b:Expr}{ta tb:TE}{pos:Pos}
variable {tA WQ:TT}{rest:List Expr}
def XR(t u:TT):TT:=λσ H Q=>t σ H λc H1=>if c=true then u σ H1 Q else Q false H1
def tOr(t u:TT):TT:=λσ H Q=>t σ H λc H1=>if c=true then Q true H1 else u σ H1 Q
def XS(t:TT):TT:=λσ H Q=>t σ H λc H1=>Q (!c) H1
theorem Kv(ha:PT X a tA):PW X (.BoolOp .And [a] pos) tA:=by
 intro wh pins s σ H Q I h;refine isTrue_and (bR (ha pins s σ H Q I h) λc s1 e=>?_);cases c with
 |true=>exact isTrue_and_nil e
 |false=>exact e
theorem O0(ha:PT X a tA):PW X (.BoolOp .Or [a] pos) tA:=by
 intro wh pins s σ H Q I h;refine isTrue_or (bR (ha pins s σ H Q I h) λc s1 e=>?_);cases c with
 |false=>exact isTrue_or_nil e
 |true=>exact e
theorem O3(ha:PT X a tA)(hb:PW X (.BoolOp .And (b::rest) pos) WQ):PW X (.BoolOp .And (a::b::rest) pos) (XR tA WQ):=by
 intro wh pins s σ H Q I h;refine isTrue_and (bR (ha pins s σ H _ I h) λc s1 ⟨H1,I1,q1⟩=>?_);cases c with
 |true=>exact hb wh pins s1 σ H1 Q I1 q1
 |false=>exact⟨H1,I1,q1⟩
theorem Uc(ha:PT X a tA)(hb:PW X (.BoolOp .Or (b::rest) pos) WQ):PW X (.BoolOp .Or (a::b::rest) pos) (tOr tA WQ):=by
 intro wh pins s σ H Q I h;refine isTrue_or (bR (ha pins s σ H _ I h) λc s1 ⟨H1,I1,q1⟩=>?_);cases c with
 |true=>exact⟨H1,I1,q1⟩
 |false=>exact hb wh pins s1 σ H1 Q I1 q1
theorem O4(ha:PT X a tA):PT X (.UnaryOp .Not a pos) (XS tA):=by intro pins s σ H Q I h;exact isTrue_not (ha pins s σ H (λc H1=>Q (!c) H1) I h)
def Ud(ta tb:TE):TE:=λσ H Q=>ta σ H λx H1=>∃c,x= .bl c/\if c=true then tb σ H1 Q else Q (.bl false) H1
def XT(ta tb:TE):TE:=λσ H Q=>ta σ H λx H1=>∃c,x= .bl c/\if c=true then Q (.bl true) H1 else tb σ H1 Q
def Ue(ta:TE):TE:=λσ H Q=>ta σ H λx H1=>∃c,x= .bl c/\Q (.bl (!c)) H1
theorem O5{op}{t:TE}(h:PE X a t):PE X (.BoolOp op [a] pos) t:=λpins s σ H Q I hw=>BoolOp_one (h pins s σ H Q I hw)
theorem O6(ha:PE X a ta)(hb:PE X (.BoolOp .And (b::rest) pos) tb):PE X (.BoolOp .And (a::b::rest) pos) (Ud ta tb):=by
 intro pins s σ H Q I h;refine BoolOp_and (bR (ha pins s σ H _ I h) λv s1 ⟨x,H1,I1,r1,q1⟩=>?_);obtain⟨c,rfl,q1⟩:=q1;cases r1;refine agi ?_;cases c with
 |true=>exact hb pins s1 σ H1 Q I1 q1
 |false=>exact⟨.bl false,H1,I1,rfl,q1⟩
theorem Ug(ha:PE X a ta)(hb:PE X (.BoolOp .Or (b::rest) pos) tb):PE X (.BoolOp .Or (a::b::rest) pos) (XT ta tb):=by
 intro pins s σ H Q I h;refine BoolOp_or (bR (ha pins s σ H _ I h) λv s1 ⟨x,H1,I1,r1,q1⟩=>?_);obtain⟨c,rfl,q1⟩:=q1;cases r1;refine agi ?_;cases c with
 |false=>exact hb pins s1 σ H1 Q I1 q1
 |true=>exact⟨.bl true,H1,I1,rfl,q1⟩
theorem O7(ha:PE X a ta):PE X (.UnaryOp .Not a pos) (Ue ta):=by intro pins s σ H Q I h;refine UnaryOp_ (bR (ha pins s σ H _ I h) λv s1 ⟨x,H1,I1,r1,q1⟩=>?_);obtain⟨c,rfl,q1⟩:=q1;cases r1;exact not_of (agi ⟨.bl (!c),H1,I1,rfl,q1⟩)
def tIf(t:TT)(ta tb:TE):TE:=λσ H Q=>t σ H λc H1=>if c=true then ta σ H1 Q else tb σ H1 Q
theorem Fl(hc:PT X c tA)(ha:PE X a ta)(hb:PE X b tb):PE X (.IfExp c a b pos) (tIf tA ta tb):=by
 intro pins s σ H Q I h;refine wpAny_IfExp (bR (hc pins s σ H _ I h) λd s1 ⟨H1,I1,q1⟩=>?_);cases d with
 |true=>exact ha pins s1 σ H1 Q I1 q1
 |false=>exact hb pins s1 σ H1 Q I1 q1
end
def l5(K:PySem.W.Frag)(H:Hp)(a:afR)(xs:List V):Prop :=
 Rd H a (.lst xs)\/
  ∃(o:Obj)(its:Array afX)(n:Nat),K.lookup a=some o/\o.cls= .type "list"/\o.dict=none/\o.data= .seq its n/\its.size<=af8/\Vals xs its.toList
def eO(K:PySem.W.Frag)(H:Hp)(a:afR)(xs:List V):Prop :=
 Rd H a (.tup xs)\/
  ∃(o:Obj)(its:Array afX)(n:Nat),K.lookup a=some o/\o.cls= .type "tuple"/\o.data= .seq its n/\its.size<=af8/\Vals xs its.toList
def XU:afX->Option V
 |.none=>some .bK
 |.bool b=>some (.bl b)
 |.int i _=>some (.int i)
 |.str x _=>some (.str x)
 |.bytes b _=>some (.T5 b)
 |.float b _=>some (.XI b)
 |.ref a=>some (.ref a)
 |.type n=>some (.ty n)
 |_=>none
theorem RelV.abs{x:V}(r:RelV x u):XU u=some x:=by
 cases x with
 |bK=>cases r;rfl
 |bl _=>cases r;rfl
 |int _=>obtain⟨t,rfl⟩:=r;rfl
 |str _=>obtain⟨t,rfl⟩:=r;rfl
 |T5 _=>obtain⟨t,rfl⟩:=r;rfl
 |XI _=>obtain⟨t,rfl⟩:=r;rfl
 |ref _=>cases r;rfl
 |ty _=>cases r;rfl
theorem RelV.inj{x y:V}(r:RelV x u)(q:RelV y u):x=y:=Option.some.inj (r.abs.symm.trans q.abs)
theorem Vals.inj:∀{xs ys:List V}{us:List afX},Vals xs us->Vals ys us->xs=ys
 |_,_,_,.nil,.nil=>rfl
 |_,_,_,.cons r t,.cons r' t'=>by rw[r.inj r',Vals.inj t t']
variable{K:PySem.W.Frag}
section
variable {X:Cx}{pins:List (afR×Obj)}{σ:St}{H:Hp}{s:afW}{a:afR}{xs ys:List V}
theorem l5.of(h:H a=some (.lst xs)):l5 K H a xs:=.inl (.inl h)
theorem eO.of(h:H a=some (.tup xs)):eO K H a xs:=.inl (.inl h)
theorem Inv.list(I:Inv X pins σ H s)(h:l5 X.K H a xs):∃its:List afX,Vals xs its/\PlainL s.heap a its.toArray/\xs.length<=af8:=by
 rcases h with h |⟨o,its,n,hk,hc,hd,hs,hz,r⟩
 ·obtain⟨z,its,n,r,e⟩:=h.ok I.hok;exact⟨its,r,⟨_,n,e,rfl,rfl,rfl⟩,z⟩
 ·refine⟨its.toList,r,⟨o,n,I.vw a o hk,hc,hd,by simpa using hs⟩,?_⟩;have e:=r.length;simp only[qR]at e;omega
theorem Inv.tuple(I:Inv X pins σ H s)(h:eO X.K H a xs):∃its:List afX,Vals xs its/\IsTup s.heap a its.toArray/\xs.length<=af8:=by
 rcases h with h |⟨o,its,n,hk,hc,hs,hz,r⟩
 ·obtain⟨z,its,r,p,_⟩:=h.ok I.hok;exact⟨its,r,p,z⟩
 ·refine⟨its.toList,r,⟨o,I.vw a o hk,hc,n,by simpa using hs⟩,?_⟩;have e:=r.length;simp only[qR]at e;omega
theorem Inv.Fm(I:Inv X pins σ H s)(h:l5 X.K H a xs)(h':l5 X.K H a ys):xs=ys:=by
 obtain⟨its,r,⟨o,n,e,_,_,d⟩,_⟩:=I.list h;obtain⟨its',r',⟨o',n',e',_,_,d'⟩,_⟩:=I.list h';rw[e]at e';cases e';rw[d]at d';injection d' with d1 _;have:its=its':=by simpa using congrArg Array.toList d1
 subst this;exact r.inj r'
theorem Inv.oH(I:Inv X pins σ H s)(h:eO X.K H a xs)(h':eO X.K H a ys):xs=ys:=by
 obtain⟨its,r,⟨o,e,_,n,d⟩,_⟩:=I.tuple h;obtain⟨its',r',⟨o',e',_,n',d'⟩,_⟩:=I.tuple h';rw[e]at e';cases e';rw[d]at d';injection d' with d1 _;have:its=its':=by simpa using congrArg Array.toList d1
 subst this;exact r.inj r'
end
section
variable {X:Cx}{st:Stmt}{rest:List Stmt}{t u:TS}{e:Expr}{te:TE}{pos:Pos}
def Ny:TS:=λD σ H=>D.nx σ H
def XW(t u:TS):TS:=λD σ H=>t { D with nx:=u D } σ H
theorem Kx:Fi X [] Ny:=λ_ _ σ H _ I h=>wpAny_execs_nil ⟨σ,H,I,h⟩
theorem Fn(h1:PS X st t)(h2:Fi X rest u):Fi X (st::rest) (XW t u):=by
 intro pins s σ H D I h;refine wpAny_execs_cons (bR (h1 pins s σ H { D with nx:=u D } I h) λf s1 q=>?_);cases f with
 |next=>obtain⟨σ',H',I',q⟩:=q;exact h2 pins s1 σ' H' D I' q
 |ret v=>exact q
 |brk=>exact q
 |cont=>exact q
theorem Ky(h1:PS X st t):Fi X [st] t:=by
 intro pins s σ H D I h;refine wpAny_execs_cons (bR (h1 pins s σ H D I h) λf s1 q=>?_);cases f with
 |next=>exact wpAny_execs_nil q
 |ret v=>exact q
 |brk=>exact q
 |cont=>exact q
theorem Kz:PS X (.Pass pos) Ny:=λ_ _ σ H _ I h=>wpAny_Pass ⟨σ,H,I,h⟩
theorem Inv.quiet{pins:List (afR×Obj)}(I:Inv X pins σ H s):interactive X.env=false:=by simp[interactive,I.ok.kind]
def Uh(te:TE):TS:=λD σ H=>te σ H λ_ H1=>D.nx σ H1
theorem KC(he:PE X e te)(hs:swapsWith e none pos.line X.env=pure false:=by rfl):PS X (.Expr e pos) (Uh te):=by intro pins s σ H D I h;exact wpAny_Expr_any (bR (he pins s σ H _ I h) λv s1 ⟨x,H1,I1,r1,q1⟩=>⟨σ,H1,I1,q1⟩) I.quiet hs
def XX(te:TE):TS:=λD σ H=>te σ H D.rt
theorem O8(he:PE X e te):PS X (.Return (some e) pos) (XX te):=by intro pins s σ H D I h;exact wpAny_Return_some (bR (he pins s σ H _ I h) λv s1 ⟨x,H1,I1,r1,q1⟩=>⟨x,σ,H1,I1,r1,q1⟩)
def Ui:TS:=λD _ H=>D.rt .bK H
theorem KG:PS X (.Return none pos) Ui:=λ_ _ σ H _ I h=>wpAny_Return_none ⟨.bK,σ,H,I,rfl,h⟩
def XY(c:TT)(t u:TS):TS:=λD σ H=>c σ H λb H1=>if b=true then t D σ H1 else u D σ H1
theorem Uj{a b:List Stmt}{tc:TT}(hc:PT X c tc)(ha:Fi X a t)(hb:Fi X b u):PS X (.If c a b pos) (XY tc t u):=by
 intro pins s σ H D I h;refine wpAny_If (bR (hc pins s σ H _ I h) λd s1 ⟨H1,I1,q1⟩=>?_);cases d with
 |true=>exact ha pins s1 σ H1 D I1 q1
 |false=>exact hb pins s1 σ H1 D I1 q1
def Fp:TS:=λ_ _ _=>False
theorem Fq:PS X st Fp:=λ_ _ _ _ _ _ h=>h.elim
theorem DD{sts:List Stmt}:Fi X sts Fp:=λ_ _ _ _ _ _ h=>h.elim
end
abbrev TG:=V->St->Hp->(St->Hp->Prop)->Prop
abbrev J4:=List V->St->Hp->(St->Hp->Prop)->Prop
def PG(X:Cx)(target:Expr)(t:TG):Prop :=
 ∀(pins:List (afR×Obj))(s:afW)(σ:St)(H:Hp)(v:V)(u:afX)(Q:St->Hp->Prop),Inv X pins σ H s->RelV v u->t v σ H Q->
  aga (model X.prog X.w) X.A (assign target X.env u) (λ_ s'=>∃σ' H',Inv X pins σ' H' s'/\Q σ' H') X.xe s
def TJ(X:Cx)(ts:List Expr)(t:J4):Prop :=
 ∀(pins:List (afR×Obj))(s:afW)(σ:St)(H:Hp)(vs:List V)(us:List afX)(Q:St->Hp->Prop),Inv X pins σ H s->Vals vs us->t vs σ H Q->
  aga (model X.prog X.w) X.A (assignInOrder ((assignEach ts X.env).map (·.2)) us) (λ_ s'=>∃σ' H',Inv X pins σ' H' s'/\Q σ' H') X.xe s
abbrev KH:=V->V->V->Hp->(Hp->Prop)->Prop
def Uk(X:Cx)(t:KH):Prop :=
 ∀(pins:List (afR×Obj))(s:afW)(σ:St)(H:Hp)(o i v:V)(ov iv u:afX)(Q:Hp->Prop),Inv X pins σ H s->RelV o ov->RelV i iv->RelV v u->t o i v H Q->
  aga (model X.prog X.w) X.A (setItem ov iv u) (λ_ s'=>∃H',Inv X pins σ H' s'/\Q H') X.xe s
variable{g:TG}{e tg:Expr}{es:List Expr}{k n:Nat}{te:TE}
section
variable {X:Cx}{pos:Pos}
def xu(i:Nat):TG:=λv σ H Q=>Q (σ.set i (some v)) H
theorem nH(hN:X.N.Nodup)(hi:X.N[i]? =some x)(hx:Loc X.env.scope x)(hf:X.fn x=true\/X.env.scope.names.lookup x=some .local:=by first |exact .inl rfl |exact .inr rfl |assumption):PG X (.Name x pos) (xu i):=by intro pins s σ H v u Q I r h;exact wpAny_assign_Name (qQ I hN hi hx r (λs' I'=>⟨_,H,I',h⟩) hf)
def aj:J4:=λvs σ H Q=>vs=[]/\Q σ H
def aa(t:TG)(u:J4):J4:=λvs σ H Q=>∃v r,vs=v::r/\t v σ H λσ' H'=>u r σ' H' Q
theorem KI:TJ X [] aj:=by intro pins s σ H vs us Q I r h;obtain⟨e,h⟩:=h;subst e;cases r;exact assignInOrder_nil ⟨σ,H,I,h⟩
theorem Fs{t:TG}{u:J4}(h1:PG X e t)(h2:TJ X es u)
  (hs:(assignEach (e::es) X.env).map (·.2)=assign e X.env::(assignEach es X.env).map (·.2):=by rfl):TJ X (e::es) (aa t u):=by
 intro pins s σ H vs us Q I r h;obtain⟨v,vr,e1,h⟩:=h;subst e1;cases r with
 |cons r rr=>rw[hs];refine assignInOrder_cons (bR (h1 pins s σ H _ _ _ I r h) λ_ s1 ⟨σ1,H1,I1,q1⟩=>?_);exact h2 pins s1 σ1 H1 _ _ Q I1 rr q1
def cU(K:PySem.W.Frag)(n:Nat)(t:J4):TG:=λv σ H Q=>∃a xs,v= .ref a/\eO K H a xs/\xs.length=n/\t xs σ H Q
theorem Ft{t:J4}(hc:X.calm=true)(h:TJ X es t)
  (hn:(assignEach es X.env).length=n:=by rfl)(hst:(assignEach es X.env).findIdx? (·.1)=none:=by rfl):PG X (.Tuple es k pos) (cU X.K n t):=by
 intro pins s σ H v u Q I r hw;obtain⟨a,xs,e1,hq,hl,hw⟩:=hw;subst e1;cases r;obtain⟨its,rv,ht,hz⟩:=I.tuple hq;refine assign_Tuple_tuple (I.ok.hd hc) ht (by simp[hn,<-hl,rv.length]) hst λh' hx=>?_;have I1:Inv X pins σ H { s with heap:=h' }:=I.kept (t':=s.toks) λb o e=>hx b o (aN (az e)) e;exact h pins _ σ H xs _ Q I1 (by simpa using rv) hw
def XZ(to ti:TE)(t:KH):TG:=λv σ H Q=>to σ H λo H1=>ti σ H1 λi H2=>t o i v H2 λH3=>Q σ H3
theorem O9{o i:Expr}{to ti:TE}{t:KH}(ho:PE X o to)(hi:PE X i ti)(hs:Uk X t)
  (ha:∀v,assign (.Subscript o i pos) X.env v=(do
   let ov <-holding [v] (eval o X.env)
   let iv <-holding [v,ov] (eval i X.env)
   standAt pos
   holding [v,ov,iv] (setItem ov iv v)
   release [v,ov,iv] []):=by intro _;rfl):PG X (.Subscript o i pos) (XZ to ti t):=by
 intro pins s σ H v u Q I r h;rw[ha];refine agb (agd (bR (ho pins s σ H _ I h) λov s1 ⟨x,H1,I1,r1,q1⟩=>?_));refine agb (agd (bR (hi pins s1 σ H1 _ I1 q1) λiv s2 ⟨y,H2,I2,r2,q2⟩=>?_));refine agb (wpAny_standAt (agb (agd (bR (hs pins s2 σ H2 x y v ov iv u _ I2 r1 r2 r q2) λ_ s3 ⟨H3,I3,q3⟩=>?_))));exact wpAny_release ⟨σ,H3,I3,q3⟩
def Ul(te:TE)(g:TG):TS:=λD σ H=>te σ H λx H1=>g x σ H1 D.nx
theorem zY(he:PE X e te)(hg:PG X tg g)(hs:swapsWithSole [tg] e pos.line X.env=pure false:=by rfl)(hw:swappedStores [tg] e X.env=pure none:=by rfl)
  (h1:(assignEach [tg] X.env).map (·.2)=[assign tg X.env]:=by rfl):PS X (.Assign [tg] e pos) (Ul te g):=by
 intro pins s σ H D I h;refine wpAny_Assign_stores (bR (he pins s σ H _ I h) λv s1 ⟨x,H1,I1,r1,q1⟩=>?_) hs hw;rw[h1];exact bR (hg pins s1 σ H1 x v _ I1 r1 q1) λ_ s2 q=>q
theorem O_{pos':Pos}(hN:X.N.Nodup)(hi:X.N[i]? =some x)(hx:Loc X.env.scope x)(he:PE X e te)(hs:swapsWith e (some (.Name x pos')) pos.line X.env=pure false:=by rfl)(hf:X.fn x=true\/X.env.scope.names.lookup x=some .local:=by first |exact .inl rfl |exact .inr rfl |assumption):
  PS X (.Assign [.Name x pos'] e pos) (Ul te (xu i)):=by
 intro pins s σ H D I h;refine wpAny_Assign_Name (bR (he pins s σ H _ I h) λv s1 ⟨y,H1,I1,r1,q1⟩=>?_) hs;exact qQ I1 hN hi hx r1 (λs2 I2=>⟨_,H1,I2,q1⟩) hf
end
structure It where
 go:Nat->Hp->Prop
 xv:Nat->Hp->V->Hp->Prop
 stop:Nat->Hp->Prop
def ff(X:Cx)(pins:List (afR×Obj))(H:Hp)(b:afR):Prop :=
 H b=none/\b≠X.env.locals/\b∉X.fs/\(b∈X.ex\/X.s₀.heap.objs.size<=b)/\(∀x c,X.env.cells.lookup x=some c->c≠b)/\∀p∈X.pn++pins,p.1≠b
theorem Inv.zZ{X:Cx}{pins:List (afR×Obj)}{H':Hp}(I:Inv X pins σ H s)(hb:s.heap.objs.size<=b)(hn:H' b=none):ff X pins H' b:=by
 refine⟨hn,eP (bT I.lt hb),I.T9 hb,.inr (bZ I.sz hb),λx c e z=>?_,λp hp z=>?_⟩
 ·obtain⟨v,q⟩:=I.cell x c e;exact absurd (bT q.lt (by rw[z];exact hb)) (dz _)
 ·exact absurd (bT (az (I.pin p hp).1) (by rw[z];exact hb)) (dz _)
structure Turn(P:afV)(w:afY)(K:PySem.W.Frag)(tg:Expr)(J:It)(fp:List afR)(it:afR)(tn:Nat->Heap->Prop):Prop where
 mem:it∈fp
 obj:∀i h,tn i h->∀b∈fp,∃o,h.get? b=some o/\∀v,o.data≠.cell v
 keep:∀i h h',tn i h->(∀b∈fp,∀o,h.get? b=some o->h'.get? b=some o)->tn i h'
 item:∀(X:Cx),X.prog=P->X.w=w->X.K=K->X.calm=true->∀(i:Nat)(pins:List (afR×Obj))(s:afW)(σ:St)(H:Hp)(E:afX->afW->Prop),Inv X pins σ H s->(∀b∈fp,ff X pins H b)->tn i s.heap->J.go i H->
  aga (model P w) X.A (pyNext (.ref it)) (λr s1=>∃u,r=some u/\
   aga (model P w) X.A (letOwnedTupleGo tg (.ref it) u) (λ_ s2=>∃x H',Inv X pins σ H' s2/\RelV x u/\J.xv i H x H'/\tn (i+1) s2.heap/\∀b∈fp,H' b=none) E s1) E s
 done:∀(X:Cx),X.prog=P->X.w=w->X.K=K->X.calm=true->∀(i:Nat)(pins:List (afR×Obj))(s:afW)(σ:St)(H:Hp)(E:afX->afW->Prop),Inv X pins σ H s->(∀b∈fp,ff X pins H b)->tn i s.heap->J.stop i H->
  aga (model P w) X.A (pyNext (.ref it)) (λr s1=>r=none/\Inv X pins σ H s1) E s
 self:∀(A:afS)(i:Nat)(s:afW)(Q:afX->afW->Prop)(E:afX->afW->Prop),tn i s.heap->Q (.ref it) s->aga (model P w) A (pyIter (.ref it)) Q E s
abbrev TI:=St->Hp->(It->Hp->Prop)->Prop
def PIE(X:Cx)(pins:List (afR×Obj))(σ:St)(tg:Expr)(R:It->Hp->Prop)(itv:afX)(s2:afW):Prop :=
 ∃(it:afR)(fp:List afR)(tn:Nat->Heap->Prop)(J:It)(H':Hp),itv= .ref it/\Inv X pins σ H' s2/\Turn X.prog X.w X.K tg J fp it tn/\tn 0 s2.heap/\(∀b∈fp,ff X pins H' b)/\R J H'
def PI(X:Cx)(tg iter:Expr)(wi:TI):Prop :=
 ∀(pins:List (afR×Obj))(s:afW)(σ:St)(H:Hp)(R:It->Hp->Prop),Inv X pins σ H s->wi σ H R->
  aga (model X.prog X.w) X.A (eval iter X.env) (λv s1=>aga (model X.prog X.w) X.A (pyIter v) (PIE X pins σ tg R) X.xe s1) X.xe s
theorem ux{n:String}{vs:Array afX}{Q:Unit->afW->Prop}(ho:s.heap.get? it=some o)(hc:o.cls= .type n)(hd:o.data= .fields vs)
    (hn:["enumerate","zip","dict_itemiterator","dict_reverseitemiterator","odict_iterator","itertools.zip_longest","itertools.pairwise"].contains n=false)(hQ:Q () s):aga M A (letOwnedTupleGo tg (.ref it) u) Q E s:=by
  unfold letOwnedTupleGo;cases tg<;>first
    |exact agh hQ
    | (cases u<;>first
        |exact agh hQ
        | (refine agb (wpAny_load ho ?_)
           rw[hc,hd];show aga M A (if(["enumerate","zip","dict_itemiterator","dict_reverseitemiterator","odict_iterator","itertools.zip_longest","itertools.pairwise"].contains n&&vs[0]? == some (rawInt _))=true then _ else _) Q E s;rw[if_neg (by intro h;rw[hn,j6]at h;cases h)];exact agh hQ))
def Itl(K:PySem.W.Frag)(a:afR):It :=
 ⟨λi H=>∃xs x,l5 K H a xs/\xs[i]? =some x,λi H x H'=>H'=H/\∀xs,l5 K H a xs->xs[i]? =some x,λi H=>∃xs,l5 K H a xs/\xs.length<=i⟩
def Um(K:PySem.W.Frag)(a:afR):It :=
 ⟨λi H=>∃xs x,eO K H a xs/\xs[i]? =some x,λi H x H'=>H'=H/\∀xs,eO K H a xs->xs[i]? =some x,λi H=>∃xs,eO K H a xs/\xs.length<=i⟩
def Nz(lo:Int)(n:Nat):It:=⟨λi _=>i < n,λi H x H'=>H'=H/\x= .int (lo+i),λi _=>n<=i⟩
theorem DE(a it:afR):Turn P w K tg (Itl K a) [it] it (λi h=>h.IsListIter it a i) where
 mem:=by simp
 obj:=λi h st b hb=>by
  have e:b=it:=by simpa using hb
  subst e;obtain⟨o,e,c,d⟩:=st;exact⟨o,e,λv z=>by rw[d]at z;cases z⟩
 keep:=λi h h' st k=>st.at λo e=>k it (by simp) o e
 item:=by intro X hP hw hK hc i pins s σ H E I hf st hg;subst hP hw hK;obtain⟨xs,x,hq,hx⟩:=hg;obtain⟨its,rv,p,hz⟩:=I.list hq;obtain⟨u,hu,ru⟩:=rv.get hx;obtain⟨f0,f1,f2,f3,f4,f5⟩:=hf it (by simp);refine wpAny_pyNext_list_item st p.isList (x:=u) (by simpa using hu) λh' st' sb=>?_;have I1:Inv X pins σ H { s with heap:=h' }:=I.turned (t':=s.toks) (λb o hb e=>(sb.2 b hb).trans e) f0 f1 f3 f4 f5;obtain⟨o,e,c,d⟩:=id st';exact⟨u,rfl,ux (s:={ s with heap:=h' }) e c d (by decide) ⟨x,H,I1,ru,⟨rfl,λys hy=>by rw[I.Fm hy hq];exact hx⟩,st',λb hb=>(hf b hb).1⟩⟩
 done:=by intro X hP hw hK hc i pins s σ H E I hf st hg;subst hP hw hK;obtain⟨xs,hq,hx⟩:=hg;obtain⟨its,rv,p,hz⟩:=I.list hq;obtain⟨f0,f1,f2,f3,f4,f5⟩:=hf it (by simp);have hl:=rv.length;exact wpAny_pyNext_list_end (I.ok.hd hc) st p.isList (by simp;omega) λh' eb=>⟨rfl,I.turned (t':=s.toks) (λb o hb e=>eb b o hb e) f0 f1 f3 f4 f5⟩
 self:=λ_ _ _ _ _ st h=>wpAny_pyIter_listiter st h
theorem z_(a it:afR):Turn P w K tg (Um K a) [it] it (λi h=>h.IsTupleIter it a i) where
 mem:=by simp
 obj:=λi h st b hb=>by
  have e:b=it:=by simpa using hb
  subst e;obtain⟨o,e,c,d⟩:=st;exact⟨o,e,λv z=>by rw[d]at z;cases z⟩
 keep:=λi h h' st k=>st.at λo e=>k it (by simp) o e
 item:=by intro X hP hw hK hc i pins s σ H E I hf st hg;subst hP hw hK;obtain⟨xs,x,hq,hx⟩:=hg;obtain⟨its,rv,p,hz⟩:=I.tuple hq;obtain⟨u,hu,ru⟩:=rv.get hx;obtain⟨f0,f1,f2,f3,f4,f5⟩:=hf it (by simp);refine wpAny_pyNext_tuple_item st (show s.heap.IsTuple a its.toArray from p) (x:=u) (by simpa using hu) λh' st' sb=>?_;have I1:Inv X pins σ H { s with heap:=h' }:=I.turned (t':=s.toks) (λb o hb e=>(sb.2 b hb).trans e) f0 f1 f3 f4 f5;obtain⟨o,e,c,d⟩:=id st';exact⟨u,rfl,ux (s:={ s with heap:=h' }) e c d (by decide) ⟨x,H,I1,ru,⟨rfl,λys hy=>by rw[I.oH hy hq];exact hx⟩,st',λb hb=>(hf b hb).1⟩⟩
 done:=by intro X hP hw hK hc i pins s σ H E I hf st hg;subst hP hw hK;obtain⟨xs,hq,hx⟩:=hg;obtain⟨its,rv,p,hz⟩:=I.tuple hq;obtain⟨f0,f1,f2,f3,f4,f5⟩:=hf it (by simp);have hl:=rv.length;exact wpAny_pyNext_tuple_end (I.ok.hd hc) st (show s.heap.IsTuple a its.toArray from p) (by simp;omega) λh' eb=>⟨rfl,I.turned (t':=s.toks) (λb o hb e=>eb b o hb e) f0 f1 f3 f4 f5⟩
 self:=λ_ _ _ _ _ st h=>wpAny_pyIter_tupleiter st h
theorem Aa(it:afR)(lo:Int)(n:Nat):Turn P w K tg (Nz lo n) [it] it (λi h=>IsRangeIter h it (lo+(i:Nat) * 1) ((n:Int) - (i:Nat)) 1) where
 mem:=by simp
 obj:=λi h st b hb=>by
  have e:b=it:=by simpa using hb
  subst e;exact⟨_,st,λv z=>by have z':Data.fields _=Data.cell v:=z;cases z'⟩
 keep:=λi h h' st k=>k it (by simp) _ st
 item:=by intro X hP hw hK hc i pins s σ H E I hf st hg;subst hP hw hK;obtain⟨f0,f1,f2,f3,f4,f5⟩:=hf it (by simp);have W:=Walks.range (prog:=X.prog) (w:=X.w) (I.ok.hd hc) it lo 1 n;refine W.item i s _ _ hg st λv h' tk hv st' kk=>?_;obtain⟨t,rfl⟩:=hv;have I1:Inv X pins σ H { s with heap:=h',toks:=tk }:=I.turned (λb o hb e=>kk b o (by simpa using hb) e) f0 f1 f3 f4 f5;refine⟨_,rfl,ux (s:={ s with heap:=h',toks:=tk }) (n:="range_iterator") st' rfl rfl (by decide) ⟨.int (lo+i),H,I1,⟨t,?_⟩,⟨rfl,rfl⟩,st',λb hb=>(hf b hb).1⟩⟩;rw[Int.mul_one]
 done:=by intro X hP hw hK hc i pins s σ H E I hf st hg;subst hP hw hK;obtain⟨f0,f1,f2,f3,f4,f5⟩:=hf it (by simp);exact wpAny_pyNext_range_end (I.ok.hd hc) st (by have:n<=i:=hg;omega) λh' eb=>⟨rfl,I.turned (t':=s.toks) (λb o hb e=>eb b o hb e) f0 f1 f3 f4 f5⟩
 self:=λ_ _ _ _ _ st h=>wpAny_pyIter_rangeiter st h
variable{a:Expr}{ta:TA}{fp:List afR}{body:List Stmt}
section
variable {X:Cx}{tg:Expr}
theorem xw{pins:List (afR×Obj)}{R:It->Hp->Prop}{lo hi:Int}{t u v:Tok}{tk:Nat}(I:Inv X pins σ H s)(h1:-(2 ^ 62)<=lo)(h2:lo < 2 ^ 62)(h3:-(2 ^ 62)<=hi)(h4:hi < 2 ^ 62)
  (q:R (Nz lo (hi - lo).toNat) H):aga (model X.prog X.w) X.A (pyIter (.ref s.heap.objs.size)) (PIE X pins σ tg R) E { s with heap:=s.heap.push { cls:=.type "range",data:=.fields #[.int lo t,.int hi u,.int 1 v] },toks:=tk }:=by
 refine wpAny_pyIter_range (IsRange.new ..) (small_one h1 h2 h3 h4) ?_;have I1:Inv X pins σ H { s with heap:=s.heap.push { cls:=.type "range",data:=.fields #[.int lo t,.int hi u,.int 1 v] },toks:=tk }:=I.kept λb o e=>aT _ e;refine⟨(s.heap.push { cls:=.type "range",data:=.fields #[.int lo t,.int hi u,.int 1 v] }).objs.size,[(s.heap.push { cls:=.type "range",data:=.fields #[.int lo t,.int hi u,.int 1 v] }).objs.size],_,_,H,rfl,
  I1.kept (t':=tk) λb o e=>aT _ e,Aa _ lo (hi - lo).toNat,?_,λb hb=>?_,q⟩
 ·have e1:lo+((0:Nat):Int) * 1=lo:=by simp
  have e2:(((hi - lo).toNat:Nat):Int) - ((0:Nat):Int)=vx lo hi 1:=by rw[rangeSize_one];split<;>omega
  show IsRangeIter _ _ (lo+((0:Nat):Int) * 1) ((((hi - lo).toNat:Nat):Int) - ((0:Nat):Int)) 1;rw[e1,e2];exact bE _ rfl
 ·have e:b=(s.heap.push { cls:=.type "range",data:=.fields #[.int lo t,.int hi u,.int 1 v] }).objs.size:=by simpa using hb
  subst e;exact I1.zZ (ar _) (I1.hok.fresh (ar _))
def Uo(ta:TA):TI:=λσ H R=>ta σ H λvs H1=>∃j:Int,vs=[.int j]/\-(2 ^ 62)<=j/\j < 2 ^ 62/\R (Nz 0 j.toNat) H1
def Uq(ta:TA):TI:=λσ H R=>ta σ H λvs H1=>∃i j:Int,vs=[.int i,.int j]/\(-(2 ^ 62)<=i/\i < 2 ^ 62/\-(2 ^ 62)<=j/\j < 2 ^ 62)/\R (Nz i (j - i).toNat) H1
theorem uy{p:Pos}(hg:Gl X "range")(hm:X.mg "range"=none)(ha:PA X [a] ta)(hs:af9 [a] X.env=[(false,eval a X.env)]:=by rfl):PI X tg (.Call (.Name "range" p) [a] [] pos) (Uo ta):=by
 intro pins s σ H R I h;refine Call_ (gK I hg hm boot_range (j7 (bR (ha pos pins s σ H _ I h) λus s1 ⟨vs,H1,I1,r1,q1⟩=>?_) hs rfl));obtain⟨j,e,q1,q2,q⟩:=q1;subst e;cases r1 with
 |cons r rr=>cases rr;obtain⟨t,rfl⟩:=r;exact call_range_1 (xw I1 (by omega) (by omega) q1 q2 (by simpa using q))
theorem uz{b:Expr}{p:Pos}(hg:Gl X "range")(hm:X.mg "range"=none)(ha:PA X [a,b] ta)(hs:af9 [a,b] X.env=[(false,eval a X.env),(false,eval b X.env)]:=by rfl)(hs2:af9 [b] X.env=[(false,eval b X.env)]:=by rfl):
  PI X tg (.Call (.Name "range" p) [a,b] [] pos) (Uq ta):=by
 intro pins s σ H R I h;refine Call_ (gK I hg hm boot_range (j7 (bR (ha pos pins s σ H _ I h) λus s1 ⟨vs,H1,I1,r1,q1⟩=>?_) (by rw[hs,hs2]) (by rw[hs2];rfl)));obtain⟨i,j,e,⟨q1,q2,q3,q4⟩,q⟩:=q1;subst e;cases r1 with
 |cons r rr=>
  cases rr with
  |cons r' rr=>cases rr;obtain⟨t,rfl⟩:=r;obtain⟨t',rfl⟩:=r';exact call_range_2 (xw I1 q1 q2 q3 q4 q)
def X4(wi:TI)(g:TG)(tb:TS):TS:=λD σ H=>wi σ H λJ H1=>∃W:Nat->Nat->St->Hp->Prop,(∃m,W 0 m σ H1)/\∀i m σ H,W i m σ H->
 (J.stop i H/\D.nx σ H)\/(J.go i H/\∃N:St->Hp->Prop,(∀σ' H',N σ' H'->∃m',m' < m/\W (i+1) m' σ' H')/\∀x H',J.xv i H x H'->g x σ H' λσ2 H2=>tb { D with nx:=N,ct:=N,bk:=D.nx } σ2 H2)
def eC(fp:List afR)(h:Heap):List (afR×Obj):=fp.filterMap λb=>(h.get? b).map λo=>(b,o)
theorem fW(hb:b∈fp)(e:h.get? b=some o):(b,o)∈eC fp h:=List.mem_filterMap.mpr ⟨b,hb,by rw[e];rfl⟩
theorem DF(hp:p∈eC fp h):p.1∈fp/\h.get? p.1=some p.2:=by
 obtain⟨b,hb,e⟩:=List.mem_filterMap.mp hp;cases q:h.get? b with
 |none=>rw[q]at e;cases e
 |some o=>rw[q]at e;have e':(b,o)=p:=Option.some.inj e;subst e';exact⟨hb,q⟩
theorem Inv.pinned{pins:List (afR×Obj)}(I:Inv X pins σ H s)(hf:∀b∈fp,ff X pins H b)(ho:∀b∈fp,∃o,s.heap.get? b=some o/\∀v,o.data≠.cell v):Inv X (pins++eC fp s.heap) σ H s :=
 I.qh λp hp=>(List.mem_append.mp hp).elim (λz=>I.pin p (bU _ z)) λz=>by obtain⟨hb,e⟩:=DF z;obtain⟨f0,f1,f2,_⟩:=hf p.1 hb;obtain⟨o,e',d⟩:=ho p.1 hb;rw[e]at e';cases e';exact⟨e,f0,f1,f2,d⟩
theorem Inv.k8{pins pl:List (afR×Obj)}(I:Inv X (pins++pl) σ H s):Inv X pins σ H s:=I.qh λp hp=>I.pin p (bU _ (gX _ hp))
theorem vy{iter:Expr}{wi:TI}{tb:TS}(hp:PassesOwn (model X.prog X.w) X.A X.env X.xe)(hc:X.calm=true)(hi:PI X tg iter wi)(hg:PG X tg g)(hb:Fi X body tb)
  (hs:∀x,af5 iter X.env x=pure x:=by intro _;rfl):PS X (.For tg iter body [] pos) (X4 wi g tb):=by
 intro pins s σ H D I h;refine wpAny_For (bR (hi pins s σ H _ I h) λv s1 h1=>bR h1 λitv s2 h2=>?_) hs;obtain⟨it,fp,tn,J,H2,e,I2,T,st2,f2,W,⟨m0,w0⟩,turn⟩:=h2;subst e
 -- what stays true of the O' objects through the loop
 have Pa:∀{H':Hp},(∀b∈fp,H' b=none)->∀b∈fp,ff X pins H' b:=λhn b hb=>⟨hn b hb,(f2 b hb).2⟩;refine codeAny_forLoop_any (λn s'=>∃i σ' H',Inv X pins σ' H' s'/\tn i s'.heap/\(∀b∈fp,H' b=none)/\W i n σ' H') ?_ m0 ⟨0,σ,H2,I2,st2,λb hb=>(f2 b hb).1,w0⟩;rintro n s3 ⟨i,σ3,H3,I3,st3,fr3,w3⟩;rcases turn i n σ3 H3 w3 with ⟨stop,qn⟩ |⟨go,N,hN,step⟩
 ·refine wpAny_passesOwn hp (bR (T.done X rfl rfl rfl hc i pins s3 σ3 H3 X.xe I3 (Pa fr3) st3 stop) λr s4 ⟨hr,I4⟩=>?_);subst hr;exact wpAny_execs_nil ⟨σ3,H3,I4,qn⟩
 ·refine wpAny_passesOwn hp (bR (T.item X rfl rfl rfl hc i pins s3 σ3 H3 X.xe I3 (Pa fr3) st3 go) λr s4 ⟨u,hr,h4⟩=>?_);subst hr;refine wpAny_passesOwn hp (bR h4 λ_ s5 ⟨x,H5,I5,r5,y5,xx,Pb⟩=>?_);have I5':=I5.pinned (Pa Pb) (T.obj _ _ xx);refine wpAny_passesOwn hp (bR (hg _ s5 σ3 H5 x u _ I5' r5 (step x H5 y5)) λ_ s6 ⟨σ6,H6,I6,q6⟩=>?_);refine wpAny_passesOwn hp (bR (hb _ s6 σ6 H6 _ I6 q6) λf s7 q7=>?_);have again:∀{σ7:St}{H7:Hp},Inv X (pins++eC fp s5.heap) σ7 H7 s7->N σ7 H7->∃m,m < n/\∃i σ' H',Inv X pins σ' H' s7/\tn i s7.heap/\(∀b∈fp,H' b=none)/\W i m σ' H':=λ{σ7 H7} I7 n7=>by obtain⟨m',hm,w7⟩:=hN σ7 H7 n7;refine⟨m',hm,i+1,σ7,H7,I7.k8,T.keep _ _ _ xx λb hb o e=>(I7.pin (b,o) (bU _ (bU _ (fW hb e)))).1,λb hb=>?_,w7⟩;obtain⟨o,e,d⟩:=T.obj _ _ xx b hb;exact(I7.pin (b,o) (bU _ (bU _ (fW hb e)))).2.1
  cases f with
  |next=>obtain⟨σ7,H7,I7,n7⟩:=q7;exact again I7 n7
  |cont=>obtain⟨σ7,H7,I7,n7⟩:=q7;exact again I7 n7
  |brk=>obtain⟨σ7,H7,I7,q7⟩:=q7;exact⟨σ7,H7,I7.k8,q7⟩
  |ret v=>obtain⟨x7,σ7,H7,I7,r7,q7⟩:=q7;exact⟨x7,σ7,H7,I7.k8,r7,q7⟩
end
abbrev R2:=V->V->Hp->VK->Prop
def fV(X:Cx)(f:afX->afX->Sem afX)(r:R2):Prop :=
 ∀(pins:List (afR×Obj))(s:afW)(σ:St)(H:Hp)(x y:V)(v u:afX)(Q:VK),Inv X pins σ H s->RelV x v->RelV y u->r x y H Q->
  aga (model X.prog X.w) X.A (f v u) (EP X pins σ Q) X.xe s
def X5(X:Cx)(f:afX->Sem afX)(r:V->Hp->VK->Prop):Prop :=
 ∀(pins:List (afR×Obj))(s:afW)(σ:St)(H:Hp)(x:V)(v:afX)(Q:VK),Inv X pins σ H s->RelV x v->r x H Q->
  aga (model X.prog X.w) X.A (f v) (EP X pins σ Q) X.xe s
def fu(X:Cx)(f:afX)(r:List V->Hp->VK->Prop):Prop :=
 ∀(pins:List (afR×Obj))(s:afW)(σ:St)(H:Hp)(xs:List V)(us:List afX)(Q:VK),Inv X pins σ H s->Vals xs us->r xs H Q->
  aga (model X.prog X.w) X.A (call f us) (EP X pins σ Q) X.xe s
def X6(X:Cx)(r:V->Hp->(Bool->Hp->Prop)->Prop):Prop :=
 ∀(pins:List (afR×Obj))(s:afW)(σ:St)(H:Hp)(x:V)(v:afX)(Q:Bool->Hp->Prop),Inv X pins σ H s->RelV x v->r x H Q->
  aga (model X.prog X.w) X.A (truthy v) (TP X pins σ Q) X.xe s
def Ur(r:R2)(ta tb:TE):TE:=λσ H Q=>ta σ H λx H1=>tb σ H1 λy H2=>r x y H2 Q
def tUn(r:V->Hp->VK->Prop)(ta:TE):TE:=λσ H Q=>ta σ H λx H1=>r x H1 Q
def rI(C:Int->Int->Prop)(g:Int->Int->V):R2:=λx y H Q=>∃i j,x= .int i/\y= .int j/\C i j/\Q (g i j) H
def Pc(g:Int->Int->V):R2:=λx y H Q=>∃i j,x= .int i/\y= .int j/\Q (g i j) H
def rU(g:Int->V):V->Hp->VK->Prop:=λx H Q=>∃i,x= .int i/\Q (g i) H
variable{g:Int->Int->Int}{f:afX->afX->Sem afX}{r:R2}
section
variable {X:Cx}{a b c:Expr}{ta tb tc:TE}{pos:Pos}
theorem Pd(ha:PE X a ta)(hb:PE X b tb){pins:List (afR×Obj)}{R:V->V->Hp->Prop}(I:Inv X pins σ H s)
  (h:ta σ H λx H1=>tb σ H1 λy H2=>R x y H2)
  (hf:∀v u s2 x y H2,Inv X pins σ H2 s2->RelV x v->RelV y u->R x y H2->aga (model X.prog X.w) X.A (f v u) Q X.xe s2):
  aga (model X.prog X.w) X.A (eval a X.env) (λv s₁=>aga (model X.prog X.w) X.A (eval b X.env) (λu s₂=>aga (model X.prog X.w) X.A (f v u) Q X.xe s₂) X.xe s₁) X.xe s:=by
 refine bR (ha pins s σ H _ I h) λv s1 ⟨x,H1,I1,r1,q1⟩=>?_;refine bR (hb pins s1 σ H1 _ I1 q1) λu s2 ⟨y,H2,I2,r2,q2⟩=>?_;exact hf v u s2 x y H2 I2 r1 r2 q2
theorem Us{op:Operator}(ho:fV X (af0 op) r)(ha:PE X a ta)(hb:PE X b tb):PE X (.BinOp a op b pos) (Ur r ta tb):=by intro pins s σ H Q I h;exact wpAny_BinOp (Pd ha hb I h λv u s2 x y H2 I2 rx ry q=>ho pins s2 σ H2 x y v u Q I2 rx ry q)
theorem Ut{op:UnaryOp}{r:V->Hp->VK->Prop}(ho:X5 X (unaryOp op) r)(ha:PE X a ta):PE X (.UnaryOp op a pos) (tUn r ta):=by intro pins s σ H Q I h;exact UnaryOp_ (bR (ha pins s σ H _ I h) λv s1 ⟨x,H1,I1,r1,q1⟩=>ho pins s1 σ H1 x v Q I1 r1 q1)
theorem WR{C:Int->Int->Prop}
  (rule:∀(i j:Int)(t u:Tok)(s:afW)(Q:afX->afW->Prop)(E:afX->afW->Prop),C i j->Q (.int (g i j) s.toks) { s with toks:=s.toks+1 }->aga (model X.prog X.w) X.A (f (.int i t) (.int j u)) Q E s):
  fV X f (rI C λi j=> .int (g i j)):=by
 intro pins s σ H x y v u Q I rx ry h;obtain⟨i,j,rfl,rfl,hc,q⟩:=h;obtain⟨t,rfl⟩:=rx;obtain⟨t',rfl⟩:=ry;exact rule i j t t' s _ _ hc ⟨.int (g i j),H,I.tok _,⟨_,rfl⟩,q⟩
theorem Uu
  (rule:∀(i j:Int)(t u:Tok)(s:afW)(Q:afX->afW->Prop)(E:afX->afW->Prop),Q (.int (g i j) s.toks) { s with toks:=s.toks+1 }->aga (model X.prog X.w) X.A (f (.int i t) (.int j u)) Q E s):
  fV X f (Pc λi j=> .int (g i j)):=by
 intro pins s σ H x y v u Q I rx ry h;obtain⟨i,j,rfl,rfl,q⟩:=h;obtain⟨t,rfl⟩:=rx;obtain⟨t',rfl⟩:=ry;exact rule i j t t' s _ _ ⟨.int (g i j),H,I.tok _,⟨_,rfl⟩,q⟩
theorem Pe{g:Int->Int->Bool}
  (rule:∀(i j:Int)(t u:Tok)(s:afW)(Q:afX->afW->Prop)(E:afX->afW->Prop),Q (.bool (g i j)) s->aga (model X.prog X.w) X.A (f (.int i t) (.int j u)) Q E s):
  fV X f (Pc λi j=> .bl (g i j)):=by
 intro pins s σ H x y v u Q I rx ry h;obtain⟨i,j,rfl,rfl,q⟩:=h;obtain⟨t,rfl⟩:=rx;obtain⟨t',rfl⟩:=ry;exact rule i j t t' s _ _ ⟨.bl (g i j),H,I,rfl,q⟩
def X7(i j:Int):Prop:=0<=j/\j<=1000000/\i.natAbs < 2 ^ 64
theorem Pf:fV X (af0 .Add) (Pc λi j=> .int (i+j)):=Uu λ_ _ _ _ _ _ _ q=>add_int q
theorem Pg:fV X (af0 .Sub) (Pc λi j=> .int (i - j)):=Uu λ_ _ _ _ _ _ _ q=>sub_int q
theorem Ph:fV X (af0 .Pow) (rI X7 λi j=> .int (i ^ j.toNat)):=WR λ_ _ _ _ _ _ _ hc q=>pow_int_small hc.1 hc.2.1 hc.2.2 q
theorem unI{f:afX->Sem afX}{g:Int->Int}
  (rule:∀(i:Int)(t:Tok)(s:afW)(Q:afX->afW->Prop)(E:afX->afW->Prop),Q (.int (g i) s.toks) { s with toks:=s.toks+1 }->aga (model X.prog X.w) X.A (f (.int i t)) Q E s):
  X5 X f (rU λi=> .int (g i)):=by
 intro pins s σ H x v Q I rx h;obtain⟨i,rfl,q⟩:=h;obtain⟨t,rfl⟩:=rx;exact rule i t s _ _ ⟨.int (g i),H,I.tok _,⟨_,rfl⟩,q⟩
theorem Pj:X5 X (unaryOp .USub) (rU λi=> .int (-i)):=unI λ_ _ _ _ _ q=>neg_int q
end
variable{Q:VK}{op op':CmpOp}
section
variable {X:Cx}{a b c:Expr}{ta tb tc:TE}{pos:Pos}
theorem vz{pins:List (afR×Obj)}{k k':Bool}(I:Inv X pins σ H s)(q:Q (.bl k) H)(e:k=k'):EP X pins σ Q (.bool k') s:=by subst e;exact⟨.bl k,H,I,rfl,q⟩
theorem Uv:fV X (af4 .Lt) (Pc λi j=> .bl (decide (i < j))):=Pe λ_ _ _ _ _ _ _ q=>lt_int q
theorem Uw:fV X (af4 .LtE) (Pc λi j=> .bl (decide (i<=j))):=Pe λ_ _ _ _ _ _ _ q=>le_int q
theorem Ux:fV X (af4 .Gt) (Pc λi j=> .bl (decide (j < i))):=Pe λ_ _ _ _ _ _ _ q=>gt_int q
theorem DG:fV X (af4 .Lt) (λx y H Q=>∃i j,x= .str i/\y= .str j/\Q (.bl (decide (i.cps.toList < j.cps.toList))) H):=by intro pins s σ H x y v u Q I rx ry h;obtain⟨i,j,rfl,rfl,q⟩:=h;obtain⟨t,rfl⟩:=rx;obtain⟨t',rfl⟩:=ry;exact lt_str (vz I q rfl)
theorem DH:fV X (af4 .In) (λx y H Q=>∃i j,x= .str i/\y= .str j/\Q (.bl (!(Pk j i 0 j.length 1).isEmpty)) H):=by intro pins s σ H x y v u Q I rx ry h;obtain⟨i,j,rfl,rfl,q⟩:=h;obtain⟨t,rfl⟩:=rx;obtain⟨t',rfl⟩:=ry;exact in_str (vz I q rfl)
theorem Pl:fV X (af4 .Is) (λx y H Q=>y= .bK/\Q (.bl (decide (x= .bK))) H):=by
 intro pins s σ H x y v u Q I rx ry h;obtain⟨rfl,q⟩:=h;cases ry;refine is_none_gen (vz I q ?_);cases x<;>first
  |(cases rx;rfl)
  |(obtain⟨t,rfl⟩:=rx;rfl)
theorem KJ:fV X (af4 .IsNot) (λx y H Q=>y= .bK/\Q (.bl (!decide (x= .bK))) H):=by
 intro pins s σ H x y v u Q I rx ry h;obtain⟨rfl,q⟩:=h;cases ry;refine isnot_none_gen (vz I q ?_);cases x<;>first
  |(cases rx;rfl)
  |(obtain⟨t,rfl⟩:=rx;rfl)
theorem KL(ho:fV X (af4 op) r)(ha:PE X a ta)(hb:PE X b tb)(hm:afZ op b=false):PE X (.Compare a [op] [b] pos) (Ur r ta tb):=by intro pins s σ H Q I h;exact wpAny_Compare1 (Pd ha hb I h λv u s2 x y H2 I2 rx ry q=>ho pins s2 σ H2 x y v u Q I2 rx ry q) hm
def NA(t:TE):TT:=λσ H Q=>t σ H λx H'=>∃k,x= .bl k/\Q k H'
theorem KN(ho:fV X (af4 op) r)(ha:PE X a ta)(hb:PE X b tb)(hm:afZ op b=false):PT X (.Compare a [op] [b] pos) (NA (Ur r ta tb)):=by
 intro pins s σ H Q I h;refine wpAny_isTrue_Compare1 (bR (ha pins s σ H _ I h) λv s1 ⟨x,H1,I1,r1,q1⟩=>bR (hb pins s1 σ H1 _ I1 q1) λu s2 ⟨y,H2,I2,r2,q2⟩=>
  bR (ho pins s2 σ H2 x y v u _ I2 r1 r2 q2) λc s3 ⟨z,H3,I3,r3,k,e,q3⟩=>?_) hm
 subst e;cases r3;exact agi ⟨H3,I3,q3⟩
def Ab(r r':R2)(ta tb tc:TE):TE:=λσ H Q=>ta σ H λx H1=>tb σ H1 λy H2=>r x y H2 λz H3=>∃k,z= .bl k/\
 (if k=true then tc σ H3 λw' H4=>r' y w' H4 Q else Q (.bl false) H3)
theorem Fv{r':R2}(ho:fV X (af4 op) r)(ho':fV X (af4 op') r')(ha:PE X a ta)(hb:PE X b tb)(hc:PE X c tc)
  (hm:lastMarks [op,op'] [b,c]=false:=by with_unfolding_all rfl):PE X (.Compare a [op,op'] [b,c] pos) (Ab r r' ta tb tc):=by
 intro pins s σ H Q I h;refine Compare_chain (bR (ha pins s σ H _ I h) λv s1 ⟨x,H1,I1,r1,q1⟩=>chain_link (bR (hb pins s1 σ H1 _ I1 q1) λu s2 ⟨y,H2,I2,r2,q2⟩=>
  bR (ho pins s2 σ H2 x y v u _ I2 r1 r2 q2) λd s3 ⟨z,H3,I3,r3,k,e,q3⟩=>?_)) hm
 subst e;cases r3;refine agi ?_;cases k with
 |false=>exact ite_ff ⟨.bl false,H3,I3,rfl,q3⟩
 |true=>exact ite_tt (chain_last (bR (hc pins s3 σ H3 _ I3 q3) λw' s4 ⟨z',H4,I4,r4,q4⟩=>ho' pins s4 σ H4 y z' u w' Q I4 r2 r4 q4))
theorem Fw{r':R2}(ho:fV X (af4 op) r)(ho':fV X (af4 op') r')(ha:PE X a ta)(hb:PE X b tb)(hc:PE X c tc)
  (hm:lastMarks [op,op'] [b,c]=false:=by with_unfolding_all rfl):PT X (.Compare a [op,op'] [b,c] pos) (NA (Ab r r' ta tb tc)):=by
 intro pins s σ H Q I h;refine isTrue_chain (bR (ha pins s σ H _ I h) λv s1 ⟨x,H1,I1,r1,q1⟩=>test_link (bR (hb pins s1 σ H1 _ I1 q1) λu s2 ⟨y,H2,I2,r2,q2⟩=>
  bR (ho pins s2 σ H2 x y v u _ I2 r1 r2 q2) λd s3 ⟨z,H3,I3,r3,k,e,q3⟩=>?_)) hm
 subst e;cases r3;refine agi ?_;cases k with
 |false=>obtain⟨k',e',q'⟩:=q3;cases e';exact ite_ff ⟨H3,I3,q'⟩
 |true=>refine ite_tt (test_last (bR (hc pins s3 σ H3 _ I3 q3) λw' s4 ⟨z',H4,I4,r4,q4⟩=>bR (ho' pins s4 σ H4 y z' u w' _ I4 r2 r4 q4) λd' s5 ⟨z2,H5,I5,r5,k2,e2,q5⟩=>?_));subst e2;cases r5;exact agi ⟨H5,I5,q5⟩
def Uy(K:PySem.W.Frag)(x:V)(H:Hp)(k:Bool):Prop :=
 match x with
 |.bK=>k=false
 |.bl b=>k=b
 |.int i=>k=(i != 0)
 |.str y=>y.length<=af8/\k=((y.length:Int) != 0)
 |.T5 y=>y.size<=af8/\k=((y.size:Int) != 0)
 |.ref p=>(∃xs,l5 K H p xs/\k= !xs.isEmpty)\/(∃xs,eO K H p xs/\k= !xs.isEmpty)\/∃kvs,H p=some (.dK kvs)/\k= !kvs.isEmpty
 |_=>False
theorem Ac{kvs:List (κ×V)}{vs:List (κ×afX)}(r:KV kvs vs):(!vs.isEmpty)= !kvs.isEmpty:=by cases r<;>rfl
theorem qS{its:List afX}(r:Vals xs its):(!its.toArray.isEmpty)= !xs.isEmpty:=by cases r<;>simp
theorem mY:(af8:Nat) < 2 ^ 63:=by rw[sizeLine_eq];decide
theorem Pn:X6 X (λx H Q=>∃k,Uy X.K x H k/\Q k H):=by
 intro pins s σ H x v Q I rx h;obtain⟨k,e,q⟩:=h;have hl:=mY;have hs:af8=16777216:=sizeLine_eq;cases x with
 |bK=>cases rx;have e':k=false:=e;subst e';exact truthy_none ⟨H,I,q⟩
 |bl b=>cases rx;have e':k=b:=e;subst e';exact agi ⟨H,I,q⟩
 |int i=>obtain⟨t,rfl⟩:=rx;have e':k=(i != 0):=e;subst e';exact PySem.P.truthy_int ⟨H,I,q⟩
 |str y=>obtain⟨t,rfl⟩:=rx;obtain⟨hy,e'⟩:y.length<=af8/\k=((y.length:Int) != 0):=e;subst e';exact PySem.P.truthy_str (by omega) ⟨H,I.tok _,q⟩
 |T5 y=>obtain⟨t,rfl⟩:=rx;obtain⟨hy,e'⟩:y.size<=af8/\k=((y.size:Int) != 0):=e;subst e';exact PySem.W.truthy_bytes (by omega) ⟨H,I.tok _,q⟩
 |ref p=>
  cases rx;have e':(∃xs,l5 X.K H p xs/\k= !xs.isEmpty)\/(∃xs,eO X.K H p xs/\k= !xs.isEmpty)\/∃kvs,H p=some (.dK kvs)/\k= !kvs.isEmpty:=e;rcases e' with ⟨xs,hx,e'⟩ |⟨xs,hx,e'⟩ |⟨kvs,hx,e'⟩
  ·subst e';obtain⟨its,r,pl,hz⟩:=I.list hx;have hlen:=r.length;exact wpAny_truthy_list pl.isList (by simp only[aZ];omega) ⟨H,I.tok _,by rw[qS r];exact q⟩
  ·subst e';obtain⟨its,r,pl,hz⟩:=I.tuple hx;have hlen:=r.length;exact truthy_tuple pl (by simp only[aZ];omega) ⟨H,I.tok _,by rw[qS r];exact q⟩
  ·subst e';obtain⟨hz,hS,vs,r,m⟩:kvs.length<=af8/\(p == sysModules)=false/\∃vs,KV kvs vs/\s.heap.DictOf (aw X.prog X.w) p vs:=I.hok p _ hx;have hlen:kvs.length=vs.length:=Paired.length r;exact wpAny_truthy_dict hS m (by omega) ⟨H,I.tok _,by rw[Ac r];exact q⟩
 |_=>exact(show False from e).elim
theorem Fx(ha:PE X a ta)(he:∀whole,isTrue a X.env whole=(do let v <-whole;standAt a.pos;holding [v] (truthy v))):
  PT X a (λσ H Q=>ta σ H λx H'=>∃k,Uy X.K x H' k/\Q k H'):=by
 intro pins s σ H Q I h;exact isTrue_plain (bR (ha pins s σ H _ I h) λv s1 ⟨x,H1,I1,r1,q1⟩=>Pn pins s1 σ H1 x v Q I1 r1 q1) (he _)
theorem Ad:fV X (af0 .Add) (λx y H Q=>∃i j,x= .str i/\y= .str j/\i.length+j.length<=af8/\Q (.str (i++j)) H):=by intro pins s σ H x y v u Q I rx ry h;obtain⟨i,j,rfl,rfl,hz,q⟩:=h;obtain⟨t,rfl⟩:=rx;obtain⟨t',rfl⟩:=ry;exact add_str (λt' tk=>⟨.str (i++j),H,I.tok _,⟨_,rfl⟩,q⟩) hz
theorem vals1{x:V}(r:Vals [x] us):∃u,us=[u]/\RelV x u:=by
 cases r with
 |cons r1 r2=>cases r2;exact⟨_,rfl,r1⟩
theorem vals2{x y:V}(r:Vals [x,y] us):∃u w',us=[u,w']/\RelV x u/\RelV y w':=by
 cases r with
 |cons r1 r2=>
  cases r2 with
  |cons r3 r4=>cases r4;exact⟨_,_,rfl,r1,r3⟩
theorem DI(hc:X.calm=true):fu X (.builtin "max") (λxs H Q=>∃i j,xs=[.int i,.int j]/\Q (.int (if j > i then j else i)) H):=by
 intro pins s σ H xs us Q I r h;obtain⟨i,j,rfl,q⟩:=h;obtain⟨u,w',rfl,⟨t,rfl⟩,⟨t',rfl⟩⟩:=vals2 r;refine max_two_ints (I.ok.hd hc) λh' tk k=>⟨_,H,I.kept k,?_,q⟩;by_cases hj:j > i
 ·rw[if_pos hj,if_pos hj];exact⟨_,rfl⟩
 ·rw[if_neg hj,if_neg hj];exact⟨_,rfl⟩
theorem DJ(hc:X.calm=true):fu X (.builtin "min") (λxs H Q=>∃i j,xs=[.int i,.int j]/\Q (.int (if j < i then j else i)) H):=by
 intro pins s σ H xs us Q I r h;obtain⟨i,j,rfl,q⟩:=h;obtain⟨u,w',rfl,⟨t,rfl⟩,⟨t',rfl⟩⟩:=vals2 r;refine min_two_ints (I.ok.hd hc) λh' tk k=>⟨_,H,I.kept k,?_,q⟩;by_cases hj:j < i
 ·rw[if_pos hj,if_pos hj];exact⟨_,rfl⟩
 ·rw[if_neg hj,if_neg hj];exact⟨_,rfl⟩
end
structure k9(k:Nat)(A:afS):Prop where
 hd:A.handled=none
 dp:A.depth+3 * k+5 < recursionLimit
 un:A.units+16 * k+200 < cLine
theorem k9.mono(r:k9 k A)(h:j<=k):k9 j A:=⟨r.hd,by have:=r.dp;omega,by have:=r.un;omega⟩
theorem k9.deeper(r:k9 (k+1) A)(env:Env):k9 k (A.deeper env) :=
 ⟨r.hd,by have:=r.dp;show A.depth+1+3 * k+5 < _;omega,by have:=r.un;show A.units+3+16 * k+200 < _;omega⟩
theorem k9.depth(r:k9 k A):A.depth < recursionLimit:=by have:=r.dp;omega
def X8:TA:=λ_ H Q=>Q [] H
def Uz(ta:TE)(tr:TA):TA:=λσ H Q=>ta σ H λx H1=>tr σ H1 λxs H2=>Q (x::xs) H2
section
variable {X:Cx}{e:Expr}{es:List Expr}{te:TE}{t:TA}{pos:Pos}
theorem Fy:PA X [] X8:=λ_ _ _ _ H Q I h=>Ae ⟨[],H,I,.nil,h⟩
theorem BL(ha:PE X e te)(hr:PA X es t)(hs:af9 (e::es) X.env=(false,eval e X.env)::af9 es X.env:=by rfl):PA X (e::es) (Uz te t):=by intro pos pins s σ H Q I h;rw[hs];show aga _ _ (spliced ((false,eval e X.env)::backTo pos (af9 es X.env))) _ _ s;refine Af (bR (ha pins s σ H _ I h) λu s1 ⟨x,H1,I1,r1,q1⟩=>?_);exact bR (hr pos pins s1 σ H1 _ I1 q1) λus s2 ⟨xs,H2,I2,r2,q2⟩=>⟨x::xs,H2,I2,.cons r1 r2,q2⟩
def X9(t:TA):TE:=λσ H Q=>t σ H λxs H1=>xs.length<=af8/\∀p,H1 p=none->Q (.ref p) (upd H1 p (.tup xs))
def X_(t:TA):TE:=λσ H Q=>t σ H λxs H1=>xs.length<=af8/\∀p,H1 p=none->Q (.ref p) (upd H1 p (.lst xs))
theorem Po{x1}(h:PA X es t):PE X (.Tuple es x1 pos) (X9 t):=by intro pins s σ H Q I hq;refine wpAny_Tuple_spliced (bR (h pos pins s σ H _ I hq) λus s1 ⟨xs,H1,I1,r,z,q⟩=>⟨by rw[<-r.length];exact z,?_⟩);have hf:H1 s1.heap.objs.size=none:=I1.hok.fresh (ar _);refine⟨.ref s1.heap.objs.size,upd H1 s1.heap.objs.size (.tup xs),I1.laid (t':=s1.toks) (λb u e=>aT _ e) (ar _) ?_,rfl,q _ hf⟩;exact⟨z,us,r,⟨_,bE _ rfl,rfl,_,rfl⟩,xp.new _ _⟩
theorem Pp(h:PA X es t):PE X (.List es pos) (X_ t):=by intro pins s σ H Q I hq;refine wpAny_List_spliced (bR (h pos pins s σ H _ I hq) λus s1 ⟨xs,H1,I1,r,z,q⟩=>⟨by rw[<-r.length];exact z,?_⟩);have hf:H1 s1.heap.objs.size=none:=I1.hok.fresh (ar _);refine⟨.ref s1.heap.objs.size,upd H1 s1.heap.objs.size (.lst xs),I1.laid (t':=s1.toks) (λb u e=>aT _ e) (ar _) ?_,rfl,q _ hf⟩;exact⟨z,us,0,r,bE _ rfl⟩
end
abbrev Sp:=List V->Hp->VK->XK->Prop
abbrev E5:=List Env->Hp->afW->XK->afX->afW->Prop
structure Fz(P:afV)(w:afY)(K:PySem.W.Frag)(mg:Str->Option afX)(base:Heap)(A:afS)(outer:List Env)(s:afW)(H:Hp):Prop where
 frames:A.frames=some outer
 mod:Mod K mg base
 bs:∀b o,base.get? b=some o->s.heap.get? b=some o/\H b=none
 Kt:base.objs.size<=s.heap.objs.size
 nE:s.heap.FunFrames base outer
 Nx:∀b∈frs outer,H b=none
 hok:kZ P w H s.heap
 bare:AllBare s.gens
def CE(outer:List Env)(P:afV)(w:afY)(H:Hp)(s:afW)(Q:VK)(u:afX)(s':afW):Prop :=
 ∃v H',s'.os=s.os/\AllBare s'.gens/\Un (frs outer) [] H H' s.heap s'.heap/\kZ P w H' s'.heap/\RelV v u/\Q v H'
def CR(CX:E5)(outer:List Env)(P:afV)(w:afY)(H:Hp)(s:afW)(Q:VK)(E:XK)(r:Result)(s':afW):Prop :=
 match r with
 |.ok (.ret u)=>CE outer P w H s Q u s'
 |.ok _=>False
 |.error e=>CX outer H s E e s'
structure FnOk(P:afV)(w:afY)(K:PySem.W.Frag)(mg:Str->Option afX)(base:Heap)(CX:E5)(k:Nat)(f:afR)(fd:afT)(ps:List Str)(sp:Sp):Prop where
 len:∀vs H Q E,sp vs H Q E->vs.length=ps.length
 run:∀(A:afS)(outer:List Env)(s:afW)(H:Hp)(args:Args)(us:List afX)(vs:List V)(Q:VK)(E:XK),k9 k A->Fz P w K mg base A outer s H->BindsTo s fd args (ps.zip us)->Vals vs us->sp vs H Q E->
  af2 (model P w) A (.call (.ref f) args) (CR CX outer P w H s Q E) s
variable{f:afR}{mg:Str->Option afX}{base:Heap}{CX:E5}{fd:afT}{ps:List Str}{sp:Sp}
theorem FnOk.mono(F:FnOk P w K mg base CX j f fd ps sp)(h:j<=k):
  FnOk P w K mg base CX k f fd ps sp:=⟨F.len,λA outer s H args us vs Q E hr=>F.run A outer s H args us vs Q E (hr.mono h)⟩
section
variable {X:Cx}{pins:List (afR×Obj)}{σ:St}{H:Hp}{s s':afW}
theorem Inv.X'(I:Inv X pins σ H s):Fz X.prog X.w X.K X.mg X.base X.A X.stack s H :=
 ⟨I.ok.frames,I.ok.mod,I.bs,bZ I.ok.Kt I.sz,I.stack,I.nG,I.hok,I.bare⟩
theorem Inv.after(I:Inv X pins σ H s)(h:CE X.stack X.prog X.w H s Q u s'):EP X pins σ Q u s':=by obtain⟨v,H',os,bare,un,hok,r,q⟩:=h;obtain⟨hh,g,d,t,os'⟩:=s';obtain rfl:os'=s.os:=os;exact⟨v,H',I.call (h':=hh) (g':=g) (d':=d) (t':=t) (ch:=[]) un hok bare (λb z=>absurd z (by simp)),r,q⟩
end
def Binds(K:PySem.W.Frag)(fd:afT)(ps:List Str)(ds:List afX):Prop :=
 ∀(s:afW)(us:List afX),K.In s.heap->(us++ds).length=ps.length->BindsTo s fd ⟨us,[]⟩ (ps.zip (us++ds))
theorem Binds.all(h:∀us:List afX,us.length=ps.length->bindArgs fd ⟨us,[]⟩=pure (ps.zip us)):Binds K fd ps []:=λs us _ hl=>by rw[j8]at hl ⊢;exact .of_eq (h us hl)
structure FnScope(N P:List Str)(sc:Scope):Prop where
 kind:sc.kind= .function
 co:sc.isCoroutine=false
 gen:sc.isGenerator=false
 nd:N.Nodup
 pre:N.take P.length=P
 par:∀x∈P,sc.names.lookup x=some .local\/sc.names.lookup x=some .cell
 Pq:∀y∈sc.names,y.2≠.free
theorem uA{kindOf:Str->Option afU}{x:Str}:∀{binds:List (Str×afX)}{m:Str->Option afX},(∀v,(x,v)∉binds)->bindL kindOf binds m x=m x
 |[],_,_=>rfl
 |(n,v)::r,m,h=>by
  unfold bindL;rw[uA λw hw=>h w (av _ hw)];split
  ·have:x≠n:=by rintro rfl;exact h v ax
   simp[this]
  ·rfl
theorem uB{kindOf:Str->Option afU}{x:Str}:∀{binds:List (Str×afX)}{m:Str->Option afX},(∀v,(x,v)∉binds)->bindC kindOf binds m x=m x
 |[],_,_=>rfl
 |(n,v)::r,m,h=>by
  unfold bindC;rw[uB λw hw=>h w (av _ hw)];split
  ·rfl
  ·have:x≠n:=by rintro rfl;exact h v ax
   simp[this]
theorem uC{kindOf:Str->Option afU}{x:Str}{v:afX}:∀{P:List Str}{vs:List afX}{i:Nat}{m:Str->Option afX},P.Nodup->P[i]? =some x->vs[i]? =some v->kindOf x=some .local->
  bindL kindOf (P.zip vs) m x=some v
 |[],_,_,_,_,h,_,_=>by simp at h
 |_::_,[],_,_,_,_,h,_=>by simp at h
 |p::P,w::vs,0,m,nd,h1,h2,hk=>by simp at h1 h2;subst h1;subst h2;show bindL kindOf ((p,w)::P.zip vs) m p=_;unfold bindL;rw[uA λv hv=>(List.nodup_cons.mp nd).1 (qj hv).1,if_pos hk];simp
 |p::P,w::vs,i+1,m,nd,h1,h2,hk=>by show bindL kindOf ((p,w)::P.zip vs) m x=_;unfold bindL;exact uC (i:=i) (List.nodup_cons.mp nd).2 (by simpa using h1) (by simpa using h2) hk
theorem uD{kindOf:Str->Option afU}{x:Str}{v:afX}:∀{P:List Str}{vs:List afX}{i:Nat}{m:Str->Option afX},P.Nodup->P[i]? =some x->vs[i]? =some v->kindOf x≠some .local->
  bindC kindOf (P.zip vs) m x=some v
 |[],_,_,_,_,h,_,_=>by simp at h
 |_::_,[],_,_,_,_,h,_=>by simp at h
 |p::P,w::vs,0,m,nd,h1,h2,hk=>by simp at h1 h2;subst h1;subst h2;show bindC kindOf ((p,w)::P.zip vs) m p=_;unfold bindC;rw[uB λv hv=>(List.nodup_cons.mp nd).1 (qj hv).1,if_neg hk];simp
 |p::P,w::vs,i+1,m,nd,h1,h2,hk=>by show bindC kindOf ((p,w)::P.zip vs) m x=_;unfold bindC;exact uD (i:=i) (List.nodup_cons.mp nd).2 (by simpa using h1) (by simpa using h2) hk
def start(N:List Str)(vs:List V):St:=vs.map some++ay (N.length - vs.length) none
def tV(CX:E5)(P:afV)(w:afY)(K:PySem.W.Frag)(mg:Str->Option afX)(base:Heap)(N:List Str)(qual:Str)(scope:Scope)(f:afR)(cd:afX)(A:afS)(outer:List Env)(s:afW)(H:Hp)(E:XK):Cx where
 prog:=P
 w:=w
 K:=K
 mg:=mg
 base:=base
 A:=A.deeper (envOfC qual scope s.heap.objs.size f cd)
 N:=N
 s₀:=s
 H₀:=H
 env:=envOfC qual scope s.heap.objs.size f cd
 outer:=outer
 stack:=envOfC qual scope s.heap.objs.size f cd::outer
 ex:=[]
 calm:=true
 fn:=λ_=>true
 pn:=[]
 xe:=λe s'=>aga (model P w) (A.deeper (envOfC qual scope s.heap.objs.size f cd)) (leaving (envOfC qual scope s.heap.objs.size f cd) e) (λ_ s''=>CX outer H s E e s'') (λe' s''=>CX outer H s E e' s'') s'
theorem xy{sc:Scope}(h:sc.names.lookup x=some .cell):∃c,(cellsFrom n sc.names []).lookup x=some c:=by have q:=PySem.W.cellsFrom_some sc.names n [] (.inl h);exact Option.isSome_iff_exists.mp q
variable{qual:Str}{scope:Scope}
theorem DK{cd:afX}{outer:List Env}{s1:afW}{E:XK}{vs:List V}
  (S:FnScope N ps scope)(hd:A.handled=none)(e0:Fz P w K mg base A outer s H)(hl:vs.length=ps.length)(r:Vals vs us)
  (x:InCallC s s.heap.objs.size (bindL (envOfC qual scope s.heap.objs.size f cd).kindOf (ps.zip us) λ_=>none) (cellsFrom (s.heap.objs.size+1) scope.names []) (bindC (envOfC qual scope s.heap.objs.size f cd).kindOf (ps.zip us) λ_=>none) s1):
  Inv (tV CX P w K mg base N qual scope f cd A outer s H E) [] (start N vs) H s1:=by
 have hpl:ps.length<=N.length:=by have:=congrArg fv S.pre;rw[nI]at this;omega
 obtain⟨h1,tk,rfl,hk⟩:=x.done;have UA:∀b:afR,b∉(tV CX P w K mg base N qual scope f cd A outer s H E).ex:=λb z=>absurd (show b∈([]:List afR) from z) (by simp);refine⟨⟨e0.mod,S.kind,rfl,rfl,ar _,λy z c h1 h2=>?_,λy hy=>?_,λy c _ h=>?_,λ_=>hd,Around.frames_deeper e0.frames,.inr ⟨rfl,rfl⟩,λb z=>absurd z (UA b),e0.bs,e0.Kt,λb _ _=>UA b,λb z=>absurd z (UA b),e0.nE,e0.Nx⟩,
  rfl,e0.bare,Un.kept hk,⟨_,x.toInCall.ns,λi y v h1 h2 h3=>?_⟩,λy c h=>⟨_,x.cell y c h⟩,e0.hok.fresh (ar _),λy c h=>?_,λp hp=>absurd (show p∈([]:List (afR×Obj)) from hp) (by simp),e0.hok.kept hk,?_⟩
 ·exact name_of_addr x.apart (PySem.mem_of_lookup h1) (PySem.mem_of_lookup h2)
 ·have hy:scope.names.lookup y=some .cell\/scope.names.lookup y=some .free:=hy;rcases hy with hy |hy
  ·exact xy hy
  ·exact absurd rfl (S.Pq _ (PySem.mem_of_lookup hy))
 ·exact qg (x.above y c (PySem.mem_of_lookup h))
 ·have hi:i < vs.length:=by
   unfold start at h2;by_cases hi:i < vs.length
   ·exact hi
   ·rw[fz (by simpa using hi)]at h2;rw[ql]at h2;split at h2<;>cases h2
  have ha:vs[i]? =some v:=by
   unfold start at h2;rw[dM (by simpa using hi),cM]at h2;cases e:vs[i]? with
   |none=>rw[e]at h2;cases h2
   |some a=>rw[e]at h2;cases h2;rfl
  obtain⟨u,hu,rv⟩:=r.get ha;have hp:ps[i]? =some y:=by rw[<-S.pre,List.getElem?_take_of_lt (by omega)];exact h1
  have ndP:ps.Nodup:=by rw[<-S.pre];exact S.nd.sublist (List.take_sublist _ _)
  refine⟨u,rv,?_⟩;rcases S.par y (l6 hp)with k |k
  ·exact .inl ⟨k,uC ndP hp hu k⟩
  ·obtain⟨c,e⟩:=xy (n:=s.heap.objs.size+1) k;refine .inr ⟨.inl k,c,e,?_⟩;have q:=x.cell y c e;rw[uD ndP hp hu (by show scope.names.lookup y≠_;rw[k];decide)]at q;exact q
 ·exact e0.hok.fresh (qg (x.above y c (PySem.mem_of_lookup h)))
 ·unfold start;show _=N.length;rw[cJ,bf,j9];omega
theorem UB{name:Str}{params:Arguments}{dV kV doc pm cdv ct oc:afX}{an od:Option afR}
  {osl:Array (Option afX)}(lk:K.lookup f=some ⟨oc,od,.func (PySem.W.fnOf name qual params body scope dV kV doc pm an cdv ct),osl⟩)(hcd:PySem.W.codeIn K cdv qual=true)(S:FnScope N ps scope)
  (len:∀vs H Q E,sp vs H Q E->vs.length=ps.length)
  (hbody:∀(A:afS)(outer:List Env)(s:afW)(H:Hp)(vs:List V)(Q:VK)(E:XK),k9 k (A.deeper (envOfC qual scope s.heap.objs.size f cdv))->sp vs H Q E->
   ∃t,Fi (tV CX P w K mg base N qual scope f cdv A outer s H E) body t/\t { nx:=λ_ H'=>Q .bK H',rt:=Q } (start N vs) H):
  FnOk P w K mg base CX (k+1) f (PySem.W.fnOf name qual params body scope dV kV doc pm an cdv ct) ps sp:=by
 refine⟨len,λA outer s H args us vs Q E hr e0 hb r TK=>?_⟩;have hl:=len _ _ _ _ TK;have KX:K.In s.heap:=e0.mod.Nw.keeps λb o e=>(e0.bs b o e).1;have lim:s.heap.NoLimit:=e0.mod.nolimit.keeps λb o e=>(e0.bs b o e).1;have hkind:∀y∈ps.zip us,scope.names.lookup y.1=some .local\/(scope.names.lookup y.1=some .cell/\((cellsFrom (s.heap.objs.size+1) scope.names []).lookup y.1).isSome=true):=λ⟨n,v⟩ hy=>by
  rcases S.par n (qj hy).1 with q |q
  ·exact .inl q
  ·exact .inr ⟨q,PySem.W.cellsFrom_some _ _ _ (.inl q)⟩
 refine codeAny_call_function hr.depth (KX _ _ lk) rfl S.co S.gen rfl (PySem.W.codeRec_of KX hcd) (hb _ _ _ _ ?_);refine wpAny_newFunctionEnv_cells S.kind hkind λenv he s1 x=>?_;subst he;refine⟨lim.keeps x.toInCall.keep,codeAny_func ?_⟩;obtain⟨t,ht,hq⟩:=hbody A outer s H vs Q E (hr.deeper _) TK;have I:Inv (tV CX P w K mg base N qual scope f cdv A outer s H E) [] (start N vs) H s1:=DK S hr.hd e0 hl r x;refine age (ht [] s1 (start N vs) H _ I hq) (λfl s' hs=>?_) λe s' hs=>hs;have fin:∀{σ':St}{H':Hp}{v:V}{u:afX},Inv (tV CX P w K mg base N qual scope f cdv A outer s H E) [] σ' H' s'->RelV v u->Q v H'->CE outer P w H s Q u s' :=
  λ{σ' H' v u} J rv q=>⟨v,H',J.os,J.bare,J.base,J.hok,rv,q⟩
 cases fl with
 |ret u=>obtain⟨v,σ',H',J,rv,q⟩:=hs;exact fin J rv q
 |next=>obtain⟨σ',H',J,q⟩:=hs;exact fin (v:=V.bK) (u:=bg) J rfl q
 |brk=>obtain⟨_,_,_,q⟩:=hs;exact ae q
 |cont=>obtain⟨_,_,_,q⟩:=hs;exact ae q
section
variable {X:Cx}{x:Str}{p pos:Pos}{e:Expr}{es:List Expr}{t:TA}{id T:String}{r:List V->Hp->VK->Prop}
def tCB(r:List V->Hp->VK->Prop)(t:TA):TE:=λσ H Q=>t σ H λvs H1=>r vs H1 Q
theorem FA(hc:fu X (.builtin id) r)(hg:Gl X x)(hm:X.mg x=none)(hv:af1 x=some (.builtin id))(ha:PA X (e::es) t)(hn:x≠"__name__":=by decide)(hdb:(x == ("__debug__":Str))=false:=by decide)
  (he:af9 (e::es) X.env=(false,eval e X.env)::af9 es X.env:=by rfl)(hpl:(backTo pos (af9 es X.env)).any (·.1)=false:=by rfl):PE X (.Call (.Name x p) (e::es) [] pos) (tCB r t):=by
 intro pins s σ H Q I h;refine wpAny_Call_Name_kw (gK I hg hm hv ?_ hn hdb);exact BM (bR (ha pos pins s σ H _ I h) λus s1 ⟨vs,H1,I1,r1,q1⟩=>hc pins s1 σ H1 vs us Q I1 r1 q1) he hpl
theorem DL(hc:fu X (.type T) r)(hg:Gl X x)(hm:X.mg x=none)(hv:af1 x=some (.type T))(ha:PA X (e::es) t)(hn:x≠"__name__":=by decide)(hdb:(x == ("__debug__":Str))=false:=by decide)
  (he:af9 (e::es) X.env=(false,eval e X.env)::af9 es X.env:=by rfl)(hpl:(backTo pos (af9 es X.env)).any (·.1)=false:=by rfl):PE X (.Call (.Name x p) (e::es) [] pos) (tCB r t):=by
 intro pins s σ H Q I h;refine wpAny_Call_Name_kw (gK I hg hm hv ?_ hn hdb);exact j7 (bR (ha pos pins s σ H _ I h) λus s1 ⟨vs,H1,I1,r1,q1⟩=>hc pins s1 σ H1 vs us Q I1 r1 q1) he hpl
end
end L2
namespace HT
open PySem PyProof.Rows
variable{Q:afX->afW->Prop}{sl:afR}
section
variable {prog:afV}{w:afY}{A:afS}{E:afX->afW->Prop}{s:afW}
theorem KO{t b:afR}{vs ws:List afX}(ht:IsTup s.heap t vs.toArray)(hb:IsTup s.heap b ws.toArray)(hv:vs≠[])
  (h1:ws=[]->Q (.ref t) s)(h2:ws≠[]->Q (.ref s.heap.objs.size) { s with heap:=s.heap.push { cls:=.type "tuple",data:=.seq (vs++ws).toArray } })
  (hsz:vs.length+ws.length<=af8):aga (model prog w) A (af0 .Add (.ref t) (.ref b)) Q E s:=by
 obtain⟨⟨cls,dd,data,sl⟩,ho,hc,n,hd⟩:=id ht;obtain⟨⟨Ya,dd2,data2,sl2⟩,ho2,hc2,n2,hd2⟩:=id hb;simp only at hc hd hc2 hd2;subst hc hd hc2 hd2;have e:vs.toArray++ws.toArray=(vs++ws).toArray:=by simp
 by_cases hw:ws=[]
 ·exact concat_meets ⟨_,ho,rfl⟩ ⟨_,ho2,rfl⟩ noFill_tuple_add seq_tuple_add PySem.F.slot_tuple_add PySem.F.entry_tuple_add (PySem.F.args_tuple_add_2 _ _)
   (tuple_addW1 t b vs.toArray ws.toArray n n2 dd dd2 sl sl2 (by simpa using hv) (by simp[hw])) ⟨ho,ho2,h1 hw⟩
 ·refine concat_meets ⟨_,ho,rfl⟩ ⟨_,ho2,rfl⟩ noFill_tuple_add seq_tuple_add PySem.F.slot_tuple_add PySem.F.entry_tuple_add (PySem.F.args_tuple_add_2 _ _)
   (tuple_addW2 t b vs.toArray ws.toArray n n2 dd dd2 sl sl2 (by simpa using hv) (by simpa using hw) (by rw[aZ,aZ];exact hsz)) ⟨ho,ho2,?_⟩
  rw[e];exact h2 hw
def d_(n d:Nat):Option Int->Nat
 |none=>d
 |some v=>if v < 0 then(v+(n:Int)).toNat else min v.toNat n
theorem Pr(n d:Nat)(hd:d<=n)(o:Option Int):d_ n d o<=n:=by
 cases o with
 |none=>exact hd
 |some v=>
  show(if v < 0 then(v+(n:Int)).toNat else min v.toNat n)<=n;by_cases hv:v < 0
  ·rw[if_pos hv];omega
  ·rw[if_neg hv];exact BN _ _
theorem BO(v:Int)(n d:Nat):(if v < 0 then max (v+(n:Int)) 0 else min v (n:Int))=((d_ n d (some v):Nat):Int):=by
 show(if v < 0 then max (v+(n:Int)) 0 else min v (n:Int))=(((if v < 0 then(v+(n:Int)).toNat else min v.toNat n):Nat):Int);by_cases hv:v < 0
 ·simp only[if_pos hv];omega
 ·simp only[if_neg hv];omega
theorem Ag(lo hi:Option Int)(n:Nat):FC lo hi 1 (n:Int)=(((d_ n 0 lo:Nat):Int),((d_ n n hi:Nat):Int)):=by
 have h1:¬((1:Int) < 0):=by omega
 unfold FC;simp only[h1,if_false];refine l7 ?_ ?_
 ·cases lo with
  |none=>rfl
  |some v=>exact BO v n 0
 ·cases hi with
  |none=>rfl
  |some v=>exact BO v n n
theorem Ah(i j:Nat):Ai (i:Int) (j:Int) 1=j - i:=by
 unfold Ai;have h1:(1:Int) > 0:=by omega
 simp only[h1,if_true,Int.ediv_one];split<;>omega
theorem qT{v:afX}{o:Option Int}{Q:Option Int->afW->Prop}(p:IsPart v o)(h:Q o s):aga (model prog w) A (Builtin.Slice.slicePartIndex v) Q E s:=by
 cases p with
 |none=>exact slicePart_none h
 |int i t=>exact slicePart_int h
theorem jJ{vl vu:afX}{lo hi:Option Int}{n:Nat}{Q:Int×Int×Nat->afW->Prop}(hs:s.heap.IsSliceOf sl vl vu .none)(pl:IsPart vl lo)(pu:IsPart vu hi)
  (h:Q (((d_ n 0 lo:Nat):Int),1,d_ n n hi - d_ n 0 lo) s):aga (model prog w) A (Pu (.ref sl) (pure (n:Int))) Q E s:=by
 obtain⟨os,hos,hcs,hds⟩:=id hs;unfold Pu Builtin.Slice.sliceFields;refine agb (agb (wpAny_field hos hds (x:=vl) rfl (agb (wpAny_field hos hds (x:=vu) rfl (agb (wpAny_field hos hds (x:=.none) rfl (agh ?_)))))));refine agb (slicePart_none ?_);show aga _ _ (if((1:Int) == 0)=true then _ else _) _ _ s;rw[if_neg (by decide)];refine agb (qT pl (agb (qT pu (agb (agh ?_)))));show aga _ _ (match FC lo hi 1 (n:Int)with |(lo,hi)=>pure (lo,(1:Int),Ai lo hi 1)) _ _ s
 rw[Ag lo hi n];show aga _ _ (pure (((d_ n 0 lo:Nat):Int),(1:Int),Ai ((d_ n 0 lo:Nat):Int) ((d_ n n hi:Nat):Int) 1)) _ _ s;rw[Ah];exact agh h
theorem FD(xs:Array afX)(i k:Nat):((aU k).filterMap λ(m:Nat)=>xs[((i:Int)+(m:Int) * 1).toNat]?).toArray=((xs.toList.drop i).take k).toArray:=by
 have e:(λ(m:Nat)=>xs[((i:Int)+(m:Int) * 1).toNat]?)=λm=>xs[i+m]?:=by
  funext m;have:((i:Int)+(m:Int) * 1).toNat=i+m:=by omega
  rw[this]
 rw[e];have:=pick_run xs i k;rw[Aj]at this;have e2:((λx=>xs[x]?) ∘ λx=>i+x)=λm=>xs[i+m]?:=rfl;rw[e2]at this;rw[this]
theorem nJ{t:afR}{items:Array afX}{vl vu:afX}{lo hi:Option Int}(ht:IsTup s.heap t items)(hs:s.heap.IsSliceOf sl vl vu .none)(pl:IsPart vl lo)(pu:IsPart vu hi)
  (hw:¬(d_ items.size 0 lo=0/\d_ items.size items.size hi=items.size))
  (h:Q (.ref s.heap.objs.size) { s with heap:=s.heap.push { cls:=.type "tuple",data:=.seq ((items.toList.drop (d_ items.size 0 lo)).take (d_ items.size items.size hi - d_ items.size 0 lo)).toArray } })
  (hsz:items.size<=af8):aga (model prog w) A (getItem (.ref t) (.ref sl)) Q E s:=by
 have BP:sizeOk (.seq ((items.toList.drop (d_ items.size 0 lo)).take (d_ items.size items.size hi - d_ items.size 0 lo)).toArray):=by show((items.toList.drop (d_ items.size 0 lo)).take (d_ items.size items.size hi - d_ items.size 0 lo)).toArray.size<=af8;rw[aZ,nI,BQ,qR];omega
 have hj:d_ items.size items.size hi<=items.size:=Pr _ _ (ar _) hi;obtain⟨os,hos,hcs,hds⟩:=id hs;have hTs:s.TypeIs (.ref sl) "slice":=⟨os,hos,hcs⟩;unfold getItem
 try with_reducible refine agd ?_
 first |refine agb (agh ?_) |skip
 refine agb (wpAny_sequenceKey ht.typeIs (by decide) ?_);refine agb (wpAny_callSpecial?_slot (name:=gY "__getitem__") ht.typeIs vA
  (wpAny_call_entry vA ht.typeIs entry_tuple_getitem ?_ (args_tuple_getitem _ _)))
 show aga _ _ (zW (.ref t) >>= _) _ _ s;refine agb (tupleItemsOf_ ht ?_);refine agb (wpAny_typeOf hTs ?_);rw[if_pos (by decide)];refine agb (jJ hs pl pu ?_);have hno:¬((((d_ items.size 0 lo:Nat):Int) == 0&&(1:Int) == 1&&(d_ items.size items.size hi - d_ items.size 0 lo) == items.size)=true):=by intro q;rw[bN,bN]at q;have q1:((d_ items.size 0 lo:Nat):Int)=0:=eq_of_beq q.1.1;have q2:d_ items.size items.size hi - d_ items.size 0 lo=items.size:=eq_of_beq q.2;exact hw ⟨by omega,by omega⟩
 show aga _ _ (if(((d_ items.size 0 lo:Nat):Int) == 0&&(1:Int) == 1&&(d_ items.size items.size hi - d_ items.size 0 lo) == items.size)=true then _ else _) _ _ s;rw[if_neg hno,FD]
 first
  |exact agb (m:=Ak _) (agg (agh ⟨_,rfl,agh h⟩) BP)
  |exact agb (m:=Ak _) (agg (agb (agh (agh ⟨_,rfl,agh h⟩))) BP)
  |exact agb (agb (m:=Ak _) (agg (agh (agh ⟨_,rfl,agh h⟩)) BP))
  |exact agb (agb (m:=Ak _) (agg (agh ⟨_,rfl,agh h⟩) BP))
end
end HT
namespace L2
open PySem PySem.Spec PyProof.Rows
abbrev TO:=St->Hp->(Option Int->Hp->Prop)->Prop
def PO(X:Cx)(e:Option Expr)(t:TO):Prop :=
 ∀(pins:List (afR×Obj))(s:afW)(σ:St)(H:Hp)(Q:Option Int->Hp->Prop),Inv X pins σ H s->t σ H Q->
  aga (model X.prog X.w) X.A (evalPart e X.env) (λu s'=>∃o H',Inv X pins σ H' s'/\IsPart u o/\Q o H') X.xe s
def KP:TO:=λ_ H Q=>Q none H
def UC(t:TE):TO:=λσ H Q=>t σ H λx H1=>∃i,x= .int i/\Q (some i) H1
variable{r:V->Option Int->Option Int->Hp->VK->Prop}{xs:List V}
section
variable {X:Cx}{e:Expr}{te:TE}{lo hi:Option Expr}{tl th:TO}{pos p2:Pos}
theorem KQ:PO X none KP:=by intro pins s σ H Q I h;rw[evalPart_none];exact agh ⟨none,H,I,.none,h⟩
theorem KR(h:PE X e te):PO X (some e) (UC te):=by intro pins s σ H Q I hw;rw[evalPart_some];refine bR (h pins s σ H _ I hw) λu s1 ⟨x,H1,I1,r1,q1⟩=>?_;obtain⟨i,rfl,q⟩:=q1;obtain⟨t,rfl⟩:=r1;exact⟨some i,H1,I1,.int i t,q⟩
def J5(X:Cx)(r:V->Option Int->Option Int->Hp->VK->Prop):Prop :=
 ∀(pins:List (afR×Obj))(s:afW)(σ:St)(H:Hp)(x:V)(v vl vu:afX)(lo hi:Option Int)(sl:afR)(Q:VK),Inv X pins σ H s->RelV x v->s.heap.IsSliceOf sl vl vu .none->IsPart vl lo->IsPart vu hi->r x lo hi H Q->
  ∃T id,typeLookup (.type T) "__getitem__"=pure (some (.builtin id))/\s.TypeIs v T/\aga (model X.prog X.w) X.A (getItem v (.ref sl)) (EP X pins σ Q) X.xe s
theorem J5.or{r':V->Option Int->Option Int->Hp->VK->Prop}(h:J5 X r)(h':J5 X r'):J5 X (λx lo hi H Q=>r x lo hi H Q\/r' x lo hi H Q):=by
 intro pins s σ H x v vl vu lo hi sl Q I rx hs pl pu q;rcases q with q |q
 ·exact h pins s σ H x v vl vu lo hi sl Q I rx hs pl pu q
 ·exact h' pins s σ H x v vl vu lo hi sl Q I rx hs pl pu q
def tSl(r:V->Option Int->Option Int->Hp->VK->Prop)(te:TE)(tl th:TO):TE:=λσ H Q=>te σ H λx H1=>tl σ H1 λl H2=>th σ H2 λu H3=>r x l u H3 Q
theorem qU(hr:J5 X r)(he:PE X e te)(hl:PO X lo tl)(hu:PO X hi th):PE X (.Subscript e (.Slice lo hi none p2) pos) (tSl r te tl th):=by intro pins s σ H Q I h;refine Subscript_ (bR (he pins s σ H _ I h) λv s1 ⟨x,H1,I1,r1,q1⟩=>?_);refine wpAny_Slice (bR (hl pins s1 σ H1 _ I1 q1) λvl s2 ⟨l,H2,I2,pl,q2⟩=>bR (hu pins s2 σ H2 _ I2 q2) λvu s3 ⟨u,H3,I3,pu,q3⟩=>?_);rw[evalPart_none];refine agh ?_;have I4:Inv X pins σ H3 { s3 with heap:=s3.heap.push { cls:=.type "slice",data:=.fields #[vl,vu,.none] } }:=I3.kept (t':=s3.toks) λb ob q=>aT _ q;obtain⟨T,id,hT,ht,hg⟩:=hr pins { s3 with heap:=s3.heap.push { cls:=.type "slice",data:=.fields #[vl,vu,.none] } } σ H3 x v vl vu l u s3.heap.objs.size Q I4 r1 (Heap.IsSliceOf.new ..) pl pu q3;show aga (model X.prog X.w) X.A (subscriptTail e (.Slice lo hi none p2) v (.ref s3.heap.objs.size)) (EP X pins σ Q) X.xe { s3 with heap:=s3.heap.push { cls:=.type "slice",data:=.fields #[vl,vu,.none] } };exact tail_any (ops:=[.ref s3.heap.objs.size,v]) ht hT hg (by with_unfolding_all rfl)
def tW(xs:List V)(lo hi:Option Int):List V:=(xs.drop (HT.d_ xs.length 0 lo)).take (HT.d_ xs.length xs.length hi - HT.d_ xs.length 0 lo)
theorem pH(xs:List V)(lo hi:Option Int):(tW xs lo hi).length<=xs.length:=by unfold tW;rw[nI,BQ];omega
def Yb(K:PySem.W.Frag):V->Option Int->Option Int->Hp->VK->Prop:=λx lo hi H Q=>∃a xs,x= .ref a/\eO K H a xs/\
 ¬(HT.d_ xs.length 0 lo=0/\HT.d_ xs.length xs.length hi=xs.length)/\∀p,H p=none->Q (.ref p) (upd H p (.tup (tW xs lo hi)))
theorem FE:J5 X (Yb X.K):=by
 intro pins s σ H x v vl vu lo hi sl Q I rx hs pl pu h;obtain⟨a,xs,rfl,hx,hw,q⟩:=h;cases rx;obtain⟨its,r,ht,hz⟩:=I.tuple hx;have hlen:its.toArray.size=xs.length:=by rw[aZ];exact r.length.symm
 refine⟨"tuple",_,PyProof.Rows.slot_tuple_getitem.lookup,ht.typeIs,?_⟩;refine HT.nJ ht hs pl pu (by rw[hlen];exact hw) ?_ (by rw[hlen];exact hz);rw[hlen];refine⟨.ref s.heap.objs.size,_,I.laid (t':=s.toks) (o:=.tup (tW xs lo hi)) (λb ob q=>aT _ q) (ar _) ?_,rfl,q _ (I.hok.fresh (ar _))⟩;exact⟨bZ (pH xs lo hi) hz,_,(r.drop (HT.d_ xs.length 0 lo)).take (HT.d_ xs.length xs.length hi - HT.d_ xs.length 0 lo),Al _ _,xp.new _ _⟩
def UD(K:PySem.W.Frag):R2:=λx y H Q=>∃a b xs ys,x= .ref a/\y= .ref b/\eO K H a xs/\eO K H b ys/\xs≠[]/\xs.length+ys.length<=af8/\
 (ys=[]->Q (.ref a) H)/\(ys≠[]->∀p,H p=none->Q (.ref p) (upd H p (.tup (xs++ys))))
theorem Vals.vB{us:List afX}(r:Vals xs us):us=[]↔xs=[]:=by
 cases r with
 |nil=>simp
 |cons _ _=>simp
theorem KS:fV X (af0 .Add) (UD X.K):=by intro pins s σ H x y v u Q I rx ry h;obtain⟨a,b,xs,ys,rfl,rfl,ha,hb,hx,hz,q1,q2⟩:=h;cases rx;cases ry;obtain⟨its,r1,p1,_⟩:=I.tuple ha;obtain⟨its2,r2,p2,_⟩:=I.tuple hb;refine HT.KO p1 p2 (λz=>hx (r1.vB.mp z)) (λz=>⟨.ref a,H,I,rfl,q1 (r2.vB.mp z)⟩) (λz=>?_) (by rw[<-r1.length,<-r2.length];exact hz);refine⟨.ref s.heap.objs.size,_,I.laid (t':=s.toks) (o:=.tup (xs++ys)) (λb ob q=>aT _ q) (ar _) ?_,rfl,q2 (λw=>z (r2.vB.mpr w)) _ (I.hok.fresh (ar _))⟩;exact⟨by rw[cJ];exact hz,_,r1.append r2,Al _ _,xp.new _ _⟩
end
def E6(n:Nat)(i:Int):Option Nat:=if 0<=i then(if i < n then some i.toNat else none)else if -(n:Int)<=i then some (i+n).toNat else none
variable{α:Type}
def pW(xs:List α)(i:Int):Option α:=(E6 xs.length i).bind λj=>xs[j]?
variable{n j:Nat}{i:Int}
theorem BR(h:E6 n i=some j):seqIndex? i n=some j/\j < n/\-(n:Int)<=i/\i < n:=by
 unfold E6 at h;by_cases h0:0<=i
 ·rw[if_pos h0]at h;by_cases h1:i < n
  ·rw[if_pos h1]at h;have e:i.toNat=j:=Option.some.inj h;exact⟨by rw[seqIndex_of h0 h1,e],by omega,by omega,h1⟩
  ·rw[if_neg h1]at h;cases h
 ·rw[if_neg h0]at h;by_cases h1:-(n:Int)<=i
  ·rw[if_pos h1]at h;have e:(i+n).toNat=j:=Option.some.inj h;exact⟨by rw[seqIndex_neg (by omega) h1,e],by omega,h1,by omega⟩
  ·rw[if_neg h1]at h;cases h
theorem qm{xs:List α}{v:α}(h:pW xs i=some v):∃j,seqIndex? i xs.length=some j/\xs[j]? =some v/\j < xs.length/\-(xs.length:Int)<=i/\i < xs.length:=by
 unfold pW at h;cases e:E6 xs.length i with
 |none=>rw[e]at h;cases h
 |some j=>rw[e]at h;obtain⟨h1,h2,h3,h4⟩:=BR e;exact⟨j,h1,h,h2,h3,h4⟩
theorem iX{xs:List α}{v:α}(h:xs[j]? =some v):pW xs (j:Int)=some v:=by
 have hj:j < xs.length:=(List.getElem?_eq_some_iff.mp h).1;have e:E6 xs.length (j:Int)=some j:=by unfold E6;rw[if_pos (by omega),if_pos (by omega)];simp
 unfold pW;rw[e];exact h
def BS(b:Expr):Prop:=∀o i,subscripted b false o i=operate [o,i] (getItem o i)
def KU(X:Cx)(r:R2):Prop :=
 ∀(value slice:Expr)(pins:List (afR×Obj))(s:afW)(σ:St)(H:Hp)(x y:V)(v u:afX)(Q:VK),Inv X pins σ H s->RelV x v->RelV y u->r x y H Q->
  subscripted slice false v u=operate [v,u] (getItem v u)->aga (model X.prog X.w) X.A (subscriptTail value slice v u) (EP X pins σ Q) X.xe s
def Yc(X:Cx)(id:String)(r:V->List V->Hp->VK->Prop):Prop :=
 ∀(pins:List (afR×Obj))(s:afW)(σ:St)(H:Hp)(x:V)(xs:List V)(v:afX)(us:List afX)(Q:VK),Inv X pins σ H s->RelV x v->Vals xs us->r x xs H Q->
  aga (model X.prog X.w) X.A (call (.builtin id) (v::us)) (EP X pins σ Q) X.xe s
variable{r:R2}{σ:St}{H:Hp}{s:afW}{p:afR}{its its':List afX}{x:V}{u v:afX}
section
variable {X:Cx}{a b:Expr}{ta tb:TE}{pos:Pos}
theorem KU.or{r':R2}(h:KU X r)(h':KU X r'):KU X (λx y H Q=>r x y H Q\/r' x y H Q):=by
 intro value slice pins s σ H x y v u Q I rx ry q hs;rcases q with q |q
 ·exact h value slice pins s σ H x y v u Q I rx ry q hs
 ·exact h' value slice pins s σ H x y v u Q I rx ry q hs
theorem UE(hr:KU X r)(ha:PE X a ta)(hb:PE X b tb)(hs:BS b):PE X (.Subscript a b pos) (Ur r ta tb):=by intro pins s σ H Q I h;exact Subscript_ (Pd ha hb I h λv u s2 x y H2 I2 rx ry q=>hr a b pins s2 σ H2 x y v u Q I2 rx ry q (hs _ _))
def UG(K:PySem.W.Frag):R2:=λx y H Q=>∃p xs i v,x= .ref p/\y= .int i/\l5 K H p xs/\pW xs i=some v/\Q v H
def UH(K:PySem.W.Frag):R2:=λx y H Q=>∃p xs i v,x= .ref p/\y= .int i/\eO K H p xs/\pW xs i=some v/\Q v H
def UI:R2:=λx y H Q=>∃z i c,x= .str z/\y= .int i/\z.length<=af8/\pW z.cps.toList i=some c/\Q (.str ⟨#[c]⟩) H
theorem KW:KU X (UG X.K):=by
 intro value slice pins s σ H x y v u Q I rx ry h hs;obtain⟨p,xs,i,z,rfl,rfl,hq,he,q⟩:=h;cases rx;obtain⟨t,rfl⟩:=ry;obtain⟨its,r,pl,hz⟩:=I.list hq;obtain⟨j,h1,h2,h3,h4,h5⟩:=qm he;obtain⟨w,ew,rw'⟩:=r.get h2;have hl:=r.length;have hn:=mY;have fin:EP X pins σ Q w s:=⟨z,H,I,rw',q⟩;by_cases h0:0<=i
 ·have hj:i.toNat=j:=by rw[seqIndex_of h0 h5]at h1;exact Option.some.inj h1
  exact item_listR pl.isList h0 (by omega) (by rw[hj];simpa using ew) fin hs
 ·have hj:(i+(its.toArray.size:Int)).toNat=j:=by rw[seqIndex_neg (by omega) h4]at h1;rw[aZ,<-hl];exact Option.some.inj h1
  exact subscriptTail_builtinR (x:=w) pl.isList.typeIs slot_list_getitem.lookup
   (wpAny_getItem_list_neg (Q:=λr s'=>r=w/\EP X pins σ Q r s') pl.isList (by omega) (by rw[aZ]<;>omega) (by omega) (by rw[hj];simpa using ew) ⟨rfl,fin⟩) hs
theorem Pw:KU X (UH X.K):=by
 intro value slice pins s σ H x y v u Q I rx ry h hs;obtain⟨p,xs,i,z,rfl,rfl,hq,he,q⟩:=h;cases rx;obtain⟨t,rfl⟩:=ry;obtain⟨its,r,pl,hz⟩:=I.tuple hq;obtain⟨j,h1,h2,h3,h4,h5⟩:=qm he;obtain⟨w,ew,rw'⟩:=r.get h2;have hl:=r.length;have hn:=mY;have fin:EP X pins σ Q w s:=⟨z,H,I,rw',q⟩;exact subscriptTail_builtinR (x:=w) pl.typeIs slot_tuple_getitem.lookup
  (getItem_tuple (j:=j) (Q:=λr s'=>r=w/\EP X pins σ Q r s') pl (by omega) (by omega) (by rw[aZ,<-hl];exact h1) (by simpa using ew) ⟨rfl,fin⟩) hs
theorem Px:KU X UI:=by
 intro value slice pins s σ H x y v u Q I rx ry h hs;obtain⟨z,i,c,rfl,rfl,hz,he,q⟩:=h;obtain⟨t,rfl⟩:=rx;obtain⟨t',rfl⟩:=ry;obtain⟨j,h1,h2,h3,h4,h5⟩:=qm he;have hl:z.cps.toList.length=z.length:=by simp[Str.length]
 rw[hl]at h1 h4 h5;have hn:=mY;exact tail_any (typeIs_str s z t) slot_str_getitem.lookup (getItem_str (c:=c) (by have e1:decide (i < -(2 ^ 63:Int))=false:=decide_eq_false (by omega);have e2:decide (i >= 2 ^ 63)=false:=decide_eq_false (by omega);rw[e1,e2,Bool.or_false]) (by rw[h1];simpa using h2) ⟨.str ⟨#[c]⟩,H,I.tok _,⟨_,rfl⟩,q⟩) hs
def rIx(K:PySem.W.Frag):R2:=λx y H Q=>UG K x y H Q\/UH K x y H Q\/UI x y H Q
theorem Py:KU X (rIx X.K):=KW.or (Pw.or Px)
theorem Am(its:List afX)(n j:Nat)(u:afX):dO (·.setIfInBounds j u) { cls:=.type "list",data:=.seq its.toArray n }={ cls:=.type "list",data:=.seq (its.set j u).toArray n }:=by simp[dO]
theorem Inv.lst{pins:List (afR×Obj)}(I:Inv X pins σ H s)(h:H p=some (.lst xs)):
  ∃(its:List afX)(n:Nat),Vals xs its/\s.heap.get? p=some { cls:=.type "list",data:=.seq its.toArray n }/\xs.length<=af8:=by
 obtain⟨z,its,n,r,e⟩:=I.hok p _ h;exact⟨its,n,r,e,z⟩
theorem Inv.Pz{pins:List (afR×Obj)}{ys:List V}{n':Nat}{f:Obj->Obj}(I:Inv X pins σ H s)(h:H p=some (.lst xs))
  (ho:s.heap.get? p=some { cls:=.type "list",data:=.seq its.toArray n })(hf:f { cls:=.type "list",data:=.seq its.toArray n }={ cls:=.type "list",data:=.seq its'.toArray n' })(r:Vals ys its')(hz:ys.length<=af8)(t:Nat):
  Inv X pins σ (upd H p (.lst ys)) { s with heap:=s.heap.update p f,toks:=t }:=by
 have e:(s.heap.update p f).get? p=some { cls:=.type "list",data:=.seq its'.toArray n' }:=by rw[j_ f ho (by rw[hf]<;>rfl),hf]
 refine I.write (x:=p) (e:=p) (by rw[h];trivial) (.inl rfl) (λb u hb q=>(qV _ _ (bC hb)).trans q) ⟨_,e⟩ ?_;exact⟨hz,its',n',r,e⟩
def UJ:V->V->V->Hp->(Hp->Prop)->Prop:=λo i v H Q=>∃p xs k j,o= .ref p/\i= .int k/\H p=some (.lst xs)/\E6 xs.length k=some j/\Q (upd H p (.lst (xs.set j v)))
theorem set_list:Uk X UJ:=by
 intro pins s σ H o i v ov iv u Q I ro ri rv h;obtain⟨p,xs,k,j,rfl,rfl,hp,hj,q⟩:=h;cases ro;obtain⟨t,rfl⟩:=ri;obtain⟨its,n,r,ho,hz⟩:=I.lst hp;obtain⟨h1,h2,h3,h4⟩:=BR hj;have hl:=r.length;have hn:=mY;have I':Inv X pins σ (upd H p (.lst (xs.set j v))) { s with heap:=s.heap.update p (dO (·.setIfInBounds j u)) } :=
  I.Pz hp ho (Am its n j u) (r.set rv j) (by rw[List.length_set];exact hz) s.toks
 by_cases h0:0<=k
 ·have hk:k.toNat=j:=by rw[seqIndex_of h0 h4]at h1;exact Option.some.inj h1
  exact PySem.W.ki_setAt ho h0 (by omega) (by rw[aZ,<-hl];exact h4) (by rw[hk];exact⟨_,I',q⟩)
 ·have hk:(k+(its.toArray.size:Int)).toNat=j:=by rw[seqIndex_neg (by omega) h3]at h1;rw[aZ,<-hl];exact Option.some.inj h1
  exact PySem.W.ki_setBack ho (by omega) (by rw[aZ,<-hl];exact h3) (by omega) (by rw[hk];exact⟨_,I',q⟩)
theorem vC(lo hi:Option Int)(n:Nat):(sliceBounds lo hi none n).1=((HT.d_ n 0 lo:Nat):Int)/\(sliceBounds lo hi none n).2.1=((HT.d_ n n hi:Nat):Int)/\(sliceBounds lo hi none n).2.2=1:=by
 refine⟨?_,?_,rfl⟩
 ·cases lo with
  |none=>simp[sliceBounds,HT.d_]
  |some i=>
   simp only[sliceBounds,HT.d_,Option.getD_none,show(1:Int) > 0 by decide,if_true];by_cases h:i < 0
   ·simp only[h,if_true]<;>omega
   ·simp only[h,if_false]<;>omega
 ·cases hi with
  |none=>simp[sliceBounds,HT.d_]
  |some i=>
   simp only[sliceBounds,HT.d_,Option.getD_none,show(1:Int) > 0 by decide,if_true];by_cases h:i < 0
   ·simp only[h,if_true]<;>omega
   ·simp only[h,if_false]<;>omega
theorem tX(its:List afX)(lo hi:Option Int):slicePick its.toArray lo hi none=((its.drop (HT.d_ its.length 0 lo)).take (HT.d_ its.length its.length hi - HT.d_ its.length 0 lo)).toArray:=by obtain⟨h1,h2,h3⟩:=vC lo hi its.toArray.size;unfold slicePick;rw[h1,h2,h3];simp only[sliceRange_one,pick_run,aZ]<;>rfl
def Yd(K:PySem.W.Frag):V->Option Int->Option Int->Hp->VK->Prop:=λx lo hi H Q=>∃a xs,x= .ref a/\l5 K H a xs/\∀p,H p=none->Q (.ref p) (upd H p (.lst (tW xs lo hi)))
theorem KY:J5 X (Yd X.K):=by intro pins s σ H x v vl vu lo hi sl Q I rx hs pl pu h;obtain⟨a,xs,rfl,hx,q⟩:=h;cases rx;obtain⟨its,r,ht,hz⟩:=I.list hx;have hlen:=r.length;refine⟨"list",_,slot_list_getitem.lookup,ht.isList.typeIs,?_⟩;refine wpAny_getItem_list_slice ht.isList hs pl pu .none (by simp) ?_ (by rw[aZ]<;>omega);rw[tX,<-hlen];refine⟨.ref s.heap.objs.size,_,I.laid (t':=s.toks) (o:=.lst (tW xs lo hi)) (λb ob q=>aT _ q) (ar _) ?_,rfl,q _ (I.hok.fresh (ar _))⟩;exact⟨bZ (pH xs lo hi) hz,_,0,(r.drop (HT.d_ xs.length 0 lo)).take (HT.d_ xs.length xs.length hi - HT.d_ xs.length 0 lo),bE _ rfl⟩
def mP:V->Bool
 |.bK=>true
 |.bl _=>true
 |.int _=>true
 |.str _=>true
 |_=>false
def KZ:V->V->Bool
 |.bK,.bK=>true
 |.bl a,.bl b=>a == b
 |.bl a,.int b=>(if a then 1 else 0) == b
 |.int a,.bl b=>a == (if b then 1 else 0)
 |.int a,.int b=>a == b
 |.str a,.str b=>a == b
 |_,_=>false
theorem PB{A:afS}{y:V}(ry:RelV y u)(rx:RelV x v)(fy:mP y=true)(fx:mP x=true):SeqAt.EqAt A s u v (KZ y x):=by
 cases y with
 |bK=>
  cases ry;cases x with
  |bK=>cases rx;exact Kl _
  |bl b=>cases rx;exact SeqAt.EqAt.none_bool b
  |int b=>obtain⟨t,rfl⟩:=rx;exact Kj b t
  |str b=>obtain⟨t,rfl⟩:=rx;exact Kk b t
  |_=>exact absurd (show false=true from fx) bF
 |bl a=>
  cases ry;cases x with
  |bK=>cases rx;exact SeqAt.EqAt.bool_none a
  |bl b=>cases rx;exact SeqAt.EqAt.bool_bool a b
  |int b=>obtain⟨t,rfl⟩:=rx;exact SeqAt.EqAt.bool_int a b t
  |str b=>obtain⟨t,rfl⟩:=rx;exact SeqAt.EqAt.bool_str a b t
  |_=>exact absurd (show false=true from fx) bF
 |int a=>
  obtain⟨t',rfl⟩:=ry;cases x with
  |bK=>cases rx;exact Kf a t'
  |bl b=>cases rx;exact SeqAt.EqAt.int_bool a t' b
  |int b=>obtain⟨t,rfl⟩:=rx;exact SeqAt.EqAt.int_int a t' b t
  |str b=>obtain⟨t,rfl⟩:=rx;exact Ke a t' b t
  |_=>exact absurd (show false=true from fx) bF
 |str a=>
  obtain⟨t',rfl⟩:=ry;cases x with
  |bK=>cases rx;exact Ki a t'
  |bl b=>cases rx;exact SeqAt.EqAt.str_bool a t' b
  |int b=>obtain⟨t,rfl⟩:=rx;exact Kh a t' b t
  |str b=>obtain⟨t,rfl⟩:=rx;exact SeqAt.EqAt.str_str a t' b t
  |_=>exact absurd (show false=true from fx) bF
 |_=>exact absurd (show false=true from fy) bF
def K3(x:V)(u:afX):Bool:=match u with
 |.none=>KZ .bK x
 |.bool b=>KZ (.bl b) x
 |.int i _=>KZ (.int i) x
 |.str z _=>KZ (.str z) x
 |_=>false
theorem FF{y:V}(r:RelV y u)(f:mP y=true):K3 x u=KZ y x:=by
 cases y with
 |bK=>cases r;rfl
 |bl b=>cases r;rfl
 |int i=>obtain⟨t,rfl⟩:=r;rfl
 |str z=>obtain⟨t,rfl⟩:=r;rfl
 |_=>exact absurd (show false=true from f) bF
theorem vD{x:V}:∀{xs:List V}{us:List afX},Vals xs us->xs.all mP=true->us.any (K3 x)=xs.any λy=>KZ y x
 |_,_,.nil,_=>rfl
 |y::xs,u::us,.cons r t,f=>by rw[de,bN]at f;rw[iz,iz,FF r f.1,vD t f.2]
theorem qW{A:afS}{s:afW}{x:V}{v:afX}(rx:RelV x v)(fx:mP x=true):∀{xs:List V}{us:List afX},Vals xs us->xs.all mP=true->∀u∈us,SeqAt.EqAt A s u v (K3 x u)
 |_,_,.nil,_=>λu hu=>by cases hu
 |y::xs,u::us,.cons r t,f=>λu' hu=>by
  rw[de,bN]at f;rcases List.mem_cons.mp hu with rfl |hu
  ·rw[FF r f.1];exact PB r rx f.1 fx
  ·exact qW rx fx t f.2 u' hu
def WS(x:V)(xs:List V):Bool:=xs.any λy=>KZ y x
def rIn(K:PySem.W.Frag)(neg:Bool):R2:=λx y H Q=>∃p xs,y= .ref p/\(l5 K H p xs\/eO K H p xs)/\mP x=true/\xs.all mP=true/\Q (.bl (if neg then !WS x xs else WS x xs)) H
theorem DM:fV X (af4 .In) (rIn X.K false):=by
 intro pins s σ H x y v u Q I rx ry h;obtain⟨p,xs,rfl,hq,fx,fs,q⟩:=h;cases ry;rcases hq with hq |hq
 ·obtain⟨its,r,pl,hz⟩:=I.list hq;refine SeqAt.in_listAt (K3 x) pl.isList (λw hw=>qW rx fx r fs w (by simpa using hw)) ⟨.bl _,H,I,rfl,?_⟩;rw[show its.toArray.any (K3 x)=its.any (K3 x) by simp,vD r fs];exact q
 ·obtain⟨its,r,pl,hz⟩:=I.tuple hq;refine SeqAt.in_tupleAt (K3 x) pl (λw hw=>qW rx fx r fs w (by simpa using hw)) ⟨.bl _,H,I,rfl,?_⟩;rw[show its.toArray.any (K3 x)=its.any (K3 x) by simp,vD r fs];exact q
theorem vE:fu X (.builtin "len") (λxs H Q=>∃p ys,xs=[.ref p]/\(l5 X.K H p ys\/eO X.K H p ys)/\Q (.int ys.length) H):=by
 intro pins s σ H xs us Q I r h;obtain⟨p,ys,rfl,hq,q⟩:=h;obtain⟨u,rfl,rx⟩:=vals1 r;cases rx;have hn:=mY;rcases hq with hq |hq
 ·obtain⟨its,r',pl,hz⟩:=I.list hq;have hlen:=r'.length;exact Calls.call_len_list pl.isList (by simp only[aZ]<;>omega) ⟨.int ys.length,H,I.tok _,⟨s.toks+1,by rw[aZ,hlen]⟩,q⟩
 ·obtain⟨its,r',pl,hz⟩:=I.tuple hq;have hlen:=r'.length;exact len_tuple pl (by simp only[aZ]<;>omega) ⟨.int ys.length,H,I.tok _,⟨s.toks+1,by rw[aZ,hlen]⟩,q⟩
theorem vF:fu X (.builtin "len") (λxs H Q=>∃z,xs=[.str z]/\z.length<=af8/\Q (.int z.length) H):=by intro pins s σ H xs us Q I r h;obtain⟨z,rfl,hz,q⟩:=h;obtain⟨u,rfl,t,rfl⟩:=vals1 r;have hn:=mY;exact len_str (by omega) ⟨.int z.length,H,I.tok _,⟨_,rfl⟩,q⟩
theorem fu.or{f:afX}{r r':List V->Hp->VK->Prop}(h:fu X f r)(h':fu X f r'):fu X f (λxs H Q=>r xs H Q\/r' xs H Q):=by
 intro pins s σ H xs us Q I rs q;rcases q with q |q
 ·exact h pins s σ H xs us Q I rs q
 ·exact h' pins s σ H xs us Q I rs q
theorem tY:fu X (.type "tuple") (λxs H Q=>∃p ys,xs=[.ref p]/\((l5 X.K H p ys/\∀l,H l=none->Q (.ref l) (upd H l (.tup ys)))\/(eO X.K H p ys/\Q (.ref p) H))):=by
 intro pins s σ H xs us Q I r h;obtain⟨p,ys,rfl,h⟩:=h;obtain⟨u,rfl,rx⟩:=vals1 r;cases rx;rcases h with ⟨hq,q⟩ |⟨hq,q⟩
 ·obtain⟨its,r',pl,hz⟩:=I.list hq;have hlen:=r'.length;refine call_tuple_list pl.isList (λh' kp=>?_) (by simp only[aZ]<;>omega);have I1:Inv X pins σ H { s with heap:=h' }:=I.kept (t':=s.toks) kp;have I2:Inv X pins σ (upd H h'.objs.size (.tup ys)) { s with heap:=h'.push { cls:=.type "tuple",data:=.seq its.toArray } } :=
   I1.laid (t':=s.toks) (λb o e=>aT _ e) (ar _) (show dZ X.prog X.w _ _ _ (.tup ys) from⟨hz,its,r',Al _ _,xp.new _ _⟩)
  exact⟨.ref h'.objs.size,_,I2,rfl,q _ (I1.hok.fresh (ar _))⟩
 ·obtain⟨its,r',pl,hz⟩:=I.tuple hq;exact call_tuple_same pl ⟨.ref p,H,I,rfl,q⟩
def tyV(K:PySem.W.Frag)(T:String)(x:V)(H:Hp):Prop:=match x with
 |.str _=>T="str"
 |.int _=>T="int"
 |.ref p=>(T="list"/\∃xs,l5 K H p xs)\/(T="tuple"/\((∃o,K.lookup p=some o/\o.cls= .type "tuple"/\o.dict=none)\/∃xs,H p=some (.tup xs)))\/
   (T="dict"/\((∃kvs,H p=some (.dK kvs))\/∃kvs,H p=some (.dT kvs)))\/(T="set"/\∃S n,H p=some (.set S n))\/(T="dict"/\∃kvs,H p=some (.dN kvs))
 |_=>False
theorem PC{pins:List (afR×Obj)}{T:String}(I:Inv X pins σ H s)(r:RelV x v)(ty:tyV X.K T x H):
  s.TypeIs v T/\∀a,v= .ref a->∃ob,s.heap.get? a=some ob/\ob.dict=none:=by
 cases x with
 |str z=>obtain⟨t,rfl⟩:=r;cases (show T="str" from ty);exact⟨typeIs_str s z t,λ_ e=>nomatch e⟩
 |int i=>obtain⟨t,rfl⟩:=r;cases (show T="int" from ty);exact⟨typeIs_int s i t,λ_ e=>nomatch e⟩
 |ref p=>
  cases r;rcases ty with ⟨rfl,xs,hq⟩ |⟨rfl,⟨o,hk,hc,hd⟩ |⟨xs,hk⟩⟩ |⟨rfl,hk⟩ |⟨rfl,S,n,hk⟩ |⟨rfl,kvs,hk⟩
  ·obtain⟨its,_,pl,_⟩:=I.list hq;refine⟨pl.isList.typeIs,λa e=>?_⟩;cases e;obtain⟨o,n,e,c,hd,_⟩:=pl;exact⟨o,e,hd⟩
  ·refine⟨⟨o,I.vw p o hk,hc⟩,λa e=>?_⟩;cases e;exact⟨o,I.vw _ o hk,hd⟩
  ·obtain⟨_,_,_,⟨o,e1,e2,_⟩,nd⟩:=I.hok p _ hk;refine⟨⟨o,e1,e2⟩,λa e=>?_⟩;cases e;exact⟨o,e1,nd o e1⟩
  ·have z:∃o,s.heap.get? p=some o/\o.ExactDict:=by
    rcases hk with ⟨kvs,hk⟩ |⟨kvs,hk⟩
    ·obtain⟨_,_,_,_,o,_,_,e,ex,_⟩:=I.hok p _ hk;exact⟨o,e,ex⟩
    ·obtain⟨_,_,_,_,o,_,_,e,ex,_⟩:=I.hok p _ hk;exact⟨o,e,ex⟩
   obtain⟨o,e,ex⟩:=z;refine⟨⟨o,e,ex.1⟩,λa e2=>?_⟩;cases e2;exact⟨o,e,ex.2.1⟩
  ·obtain⟨o,_,_,_,e,ex,_⟩:=I.hok p _ hk;refine⟨⟨o,e,ex.1⟩,λa e2=>?_⟩;cases e2;exact⟨o,e,ex.2.1⟩
  ·obtain⟨_,_,_,_,o,_,_,e,ex,_⟩:=I.hok p _ hk;refine⟨⟨o,e,ex.1⟩,λa e2=>?_⟩;cases e2;exact⟨o,e,ex.2.1⟩
 |_=>exact ae ty
def tBM(K:PySem.W.Frag)(T:String)(r:V->List V->Hp->VK->Prop)(to:TE)(t:TA):TE:=λσ H Q=>to σ H λx H1=>tyV K T x H1/\t σ H1 λxs H2=>r x xs H2 Q
variable {o e:Expr}{es:List Expr}{to:TE}{t:TA}{name:Str}{apos cpos:Pos}{T id:String}{r:V->List V->Hp->VK->Prop}
theorem UK(pa:PlainAttrs T)(slot:Slot T name id)(hty:typeOf (.builtin id)=pure (.type "method_descriptor"))(hm:Yc X id r)(ho:PE X o to)(ha:PA X (e::es) t)
  (hbase:attributeBase o name X.env (eval o X.env)=eval o X.env:=by rfl)
  (hfew:((backTo cpos (af9 (e::es) X.env)).all (λx=> !x.1)&&(backToKw cpos (keywordEach [] X.env)).all (λx=>x.1.isSome)
   &&decide ((e::es).length+([]:List Keyword).length+(if([]:List Keyword).isEmpty then 0 else 1) < 30))=true:=by rfl)
  (hline:(apos.endLine == cpos.line)=true:=by rfl)(hs:af9 (e::es) X.env=(false,eval e X.env)::af9 es X.env:=by rfl)(hplain:(backTo cpos (af9 es X.env)).any (·.1)=false:=by rfl):
  PE X (.Call (.Attribute o name apos) (e::es) [] cpos) (tBM X.K T r to t):=by
 intro pins s σ H Q I h;refine wpAny_Call_method_late hbase hfew hline rfl (bR (ho pins s σ H _ I h) λv s1 ⟨x,H1,I1,r1,ty,q1⟩=>?_);obtain⟨h1,h2⟩:=PC I1 r1 ty;refine⟨T,id,pa,slot,hty,h1,h2,?_⟩;have hA:=ha cpos pins s1 σ H1 _ I1 q1;rw[hs]at hA ⊢;refine PD (by show(false||(backTo cpos (af9 es X.env)).any (·.1))=false;rw[hplain]<;>rfl) (FG ?_);exact bR hA λus s2 ⟨vs,H2,I2,r2,q2⟩=>hm pins s2 σ H2 x vs v us Q I2 r1 r2 q2
/- xs.append(e),list.index on a FH tuple .. are Yc facts of 06m -/
end
def Ye(X:Cx)(id:String)(r:V->List V->Hp->VK->Prop):Prop :=
 ∀(pins:List (afR×Obj))(s:afW)(σ:St)(H:Hp)(x:V)(xs:List V)(v:afX)(us:List afX)(Q:VK),Inv X pins σ H s->RelV x v->Vals xs us->r x xs H Q->
  aga (model X.prog X.w) X.A (call (.builtin id) (v::us)) (EP X pins σ Q) X.xe s
theorem Vals.one:∀{x:V}{us:List afX},Vals [x] us->∃u,us=[u]/\RelV x u
 |_,_,.cons r .nil=>⟨_,rfl,r⟩
theorem Vals.rep{xs:List V}{us:List afX}(h:Vals xs us):∀k:Nat,Vals (ay k xs).flatten (ay k us).flatten
 | 0=> .nil
 |k+1=>by rw[gZ,gZ,qX,qX];exact Vals.append h (Vals.rep h k)
theorem foldl_rep(its:List afX):∀(k:Nat)(acc:List afX),
  qY (λx1 x2=>x1++x2) acc.toArray (ay k its.toArray)=(acc++(ay k its).flatten).toArray
 | 0,acc=>by simp
 |k+1,acc=>by
  have e:acc.toArray++its.toArray=(acc++its).toArray:=by simp
  have e2:(acc++its)++(ay k its).flatten=acc++(ay (k+1) its).flatten:=by rw[gZ,qX,An]
  rw[<-e2,<-foldl_rep its k (acc++its),<-e,gZ,oI]
variable{t':Nat}
section
variable {X:Cx}{pins:List (afR×Obj)}{σ:St}{H:Hp}{s:afW}{l b:afR}{xs ys zs:List V}
theorem Inv.PF{f:Array afX->Array afX}(I:Inv X pins σ H s)(hH:H l=some (.lst xs))
  (e:s.heap.get? l=some { cls:=.type "list",data:=.seq its.toArray n })(hf:f its.toArray=its'.toArray)(hv:Vals ys its')(hz:ys.length<=af8):
  Inv X pins σ (upd H l (.lst ys)) { s with heap:=s.heap.update l (dO f),toks:=t' }:=by
 have q:=PySem.IsL.update e f;rw[hf]at q;refine I.write (x:=l) (e:=l) (by rw[hH];exact trivial) (.inl rfl) (λb' u hb hu=>(qV s.heap (dO f) (bC hb)).trans hu) ⟨_,q⟩ ?_;exact⟨hz,its',_,hv,q⟩
theorem Inv.K4(I:Inv X pins σ H s)(hv:Vals ys its)(hz:ys.length<=af8):
  Inv X pins σ (upd H s.heap.objs.size (.lst ys)) { s with heap:=s.heap.push { cls:=.type "list",data:=.seq its.toArray },toks:=t' } :=
 I.laid (λ_ _ q=>aT _ q) (ar _) ⟨hz,its,0,hv,bE _ rfl⟩
theorem Inv.fresh(I:Inv X pins σ H s):H s.heap.objs.size=none:=I.hok.fresh (ar _)
theorem Inv.FI(I:Inv X pins σ H s)(hH:H l=some (.lst xs)):xs.length<=af8/\∃(its:List afX)(n:Nat),Vals xs its/\xs.length=its.length/\s.heap.get? l=some { cls:=.type "list",data:=.seq its.toArray n }:=by obtain⟨z,its,n,r,e⟩:=I.hok l _ hH;exact⟨z,its,n,r,r.length,e⟩
theorem qZ(h:n<=af8):q9 n=false:=by unfold q9;exact decide_eq_false (by omega)
end
section
variable {X:Cx}
def K5:V->List V->Hp->VK->Prop:=λx vs H Q=>∃l xs y,x= .ref l/\vs=[y]/\H l=some (.lst xs)/\xs.length < af8/\Q .bK (upd H l (.lst (xs++[y])))
theorem DN:Ye X "list.append" K5:=by intro pins s σ H x vs v us Q I rx rv h;obtain⟨l,xs,y,rfl,rfl,hH,hz,q⟩:=h;cases rx;obtain⟨u,rfl,ru⟩:=rv.one;obtain⟨z,its,n,r,hl,e⟩:=I.FI hH;refine call_meets F.slot_list_append ⟨_,e,rfl⟩ F.entry_list_append (F.args_list_append_2 _ _) (PySem.list_append l its.toArray n u (by rw[aZ];omega)) ⟨e,?_⟩;refine⟨.bK,_,I.PF (its':=its++[u]) hH e (by simp) (r.append (.cons ru .nil)) ?_,rfl,q⟩;rw[cJ,K6];omega
def K7:V->List V->Hp->VK->Prop:=λx vs H Q=>∃l b xs zs,x= .ref l/\vs=[.ref b]/\H l=some (.lst xs)/\H b=some (.lst zs)/\xs.length+zs.length<=af8/\Q .bK (upd H l (.lst (xs++zs)))
theorem DO:Ye X "list.extend" K7:=by
 intro pins s σ H x vs v us Q I rx rv h;obtain⟨l,b,xs,zs,rfl,rfl,hH,hB,hz,q⟩:=h;cases rx;obtain⟨u,rfl,ru⟩:=rv.one;cases ru;obtain⟨z,its,n,r,hl,e⟩:=I.FI hH;obtain⟨z2,its2,n2,r2,hl2,e2⟩:=I.FI hB;have hsz:its.toArray.size+its2.toArray.size<=af8:=by rw[aZ,aZ];omega
 have xA:¬(!its.toArray.isEmpty&&q9 (its.toArray.size+its2.toArray.size))=true:=by rw[qZ hsz,Ao];exact bF
 refine call_meets F.slot_list_extend ⟨_,e,rfl⟩ F.entry_list_extend (F.args_list_extend_2 _ _)
  (AutoSeq1.list_extend_list_list_0 l its.toArray n b its2.toArray n2 xA (by rw[aZ];omega) (by omega)) ⟨e,e2,?_⟩
 refine⟨.bK,_,I.PF (its':=its++its2) hH e (by simp) (r.append r2) ?_,rfl,q⟩;rw[cJ];omega
def Yf:R2:=λx y H Q=>∃l k xs,x= .ref l/\y= .int k/\H l=some (.lst xs)/\-(2 ^ 63)<=k/\k < 2 ^ 63/\xs.length * k.toNat<=af8/\
 ∀p,H p=none->Q (.ref p) (upd H p (.lst (ay k.toNat xs).flatten))
theorem len_rep(xs:List α)(k:Nat):(ay k xs).flatten.length=k * xs.length:=by
 induction k with
 |zero=>simp
 |succ k ih=>rw[gZ,qX,cJ,ih,Nat.succ_mul,Nat.add_comm]
theorem PH:fV X (af0 .Mult) Yf:=by
 intro pins s σ H x y v u Q I rx ry h;obtain⟨l,k,xs,rfl,rfl,hH,h1,h2,hz,q⟩:=h;cases rx;obtain⟨t,rfl⟩:=ry;obtain⟨z,its,n,r,hl,e⟩:=I.FI hH;have hlen:its.toArray.size * k.toNat<=af8:=by rw[aZ,<-hl];exact hz
 have hcap:¬its.toArray.size * k.toNat > (2 ^ 63 - 1) / 8:=by
  have:(af8:Nat)<=(2 ^ 63 - 1) / 8:=by decide
  omega
 have hfit:¬(!Builtin.List.listFitsIndex k)=true:=by rw[fitsIndex_both h1 h2];exact bF
 have xA:¬q9 (its.toArray.size * k.toNat)=true:=by rw[qZ hlen];exact bF
 have hnew:qY (λx1 x2=>x1++x2) #[] (ay (if its.toArray.isEmpty=true then 0 else k.toNat) its.toArray)=(ay k.toNat its).flatten.toArray:=by
  have f0:∀m:Nat,qY (λx1 x2=>x1++x2) #[] (ay m its.toArray)=(ay m its).flatten.toArray:=λm=>by have:=foldl_rep its m [];rw[nK]at this;exact this
  rw[f0];cases its with
  |nil=>simp
  |cons a r'=>rw[if_neg (by simp)]
 refine wpAny_binaryOp_repeat_ref (T:="list") (U:="int") (by decide) ⟨_,e,rfl⟩ (λs'=>typeIs_int s' k t) noFill_list_mul F.fills_int_mul Ap repeat_list F.slot_int_index.lookup
  (call_meets Ap (typeIs_int s k t) F.entry_int_rmul (F.args_int_rmul_2 _ _) (int___rmul___int_list k t l its.toArray n)
   ⟨e,rfl,⟨_,e,rfl⟩,call_meets F.slot_list_mul ⟨_,e,rfl⟩ F.entry_list_mul (F.args_list_mul_2 _ _) (AutoListH.list___mul___list_int_3 l its.toArray n k t hfit hcap xA) ⟨e,?_⟩⟩)
 rw[hnew];exact⟨.ref _,_,I.K4 (t':=s.toks) (r.rep k.toNat) (by rw[len_rep,vG];exact hz),rfl,q _ I.fresh⟩
end
end L2
namespace Att
open PySem PySem.W PySem.Calls PyProof.Rows
variable{P:Params}{h:Heap}
theorem pX:∀(ns:List Int)(vs:List afX),WellAll P h vs (ns.map WData.int)->IntsAre vs ns:=by
 intro ns
 induction ns with
 |nil=>intro vs w;rw[qo]at w;cases w;exact .nil
 |cons n ns ih=>
  intro vs w;rw[aH]at w;cases w with
  |cons a b=>cases a;exact .cons _ _ (ih _ b)
variable{l:OpenLaw}{n:Nat}
theorem DP(hn:l.most=some n){args:List WData}{vals:List afX}
  (hpre:l.row.toRowW.claim.pre args=true)(hwl:WellAll P h vals args):
  ∃a vs ns,vals=[aA a]/\args=[WData.list (ns.map WData.int)]/\h.get? a=some { cls:=.type "list",data:=.seq vs.toArray }/\IntsAre vs ns/\ns.length<=n:=by
 have hsh:WShape.hasAll [] args [.list .int]=true:=(pre_splitW hpre).1;have hc:l.pre.holds [] { args:=args }=true:=(pre_splitW hpre).2;obtain⟨d,r,rfl,h1,h2⟩:=hasAllW_cons hsh;obtain rfl:=hasAllW_nil h2;obtain⟨xs,rfl,h3⟩:=hasW_list h1;obtain⟨ns,rfl⟩:=items_int h3;have hlen:ns.length<=n:=by
  unfold OpenLaw.pre at hc;have h4:(WTm.not (.lt (.lit (.int (n:Int))) (.len (.arg 0)))).holds [] { args:=[.list (ns.map .int)] }=true:=by have h4:=(holds_andW hc).1;rw[hn]at h4;exact h4
  have h5:=condW_of h4 (w_not (w_lt w_lit (w_len_list (w_arg rfl))));rw[bf]at h5;refine Nat.le_of_not_lt λq=>?_;have q':(n:Int) < ((ns.length:Nat):Int):=by omega
  first
   |(rw[decide_eq_true q']at h5;exact absurd h5 (by decide))
   |(simp at h5;omega)
 cases hwl with
 |cons w1 w2=>
  cases w2;cases w1 with
  |list ho hall=>exact⟨_,_,ns,rfl,rfl,ho,pX ns _ hall,hlen⟩
theorem DQ(l:OpenLaw)(args:List WData):l.row.toRowW.claim.post args (.bool true) args=true :=
 postW_of (r:=l.row.toRowW) (X:=(true == true))
  (show WShape.has [] (.bool true) .bool=true by first |rfl |decide |simp[WShape.has,WShape.arms,WShape.armsAll])
  (show(WTm.eq .res (.lit (.bool true))).value [] { args:=args,res:=some (.bool true),after:=args }=some (.bool (true == true)) from w_eq_bool (w_res rfl) w_lit) rfl
theorem xB{q:afV}{loose:List Str}{XP:(Str->Option afX)->Heap->Prop}{YP:afY->Heap->Prop}{d:DefRec}
  (hn:l.most=some n)(hdf:d.params.defaults=[])
  (call:∀(w:afY)(s₀ s₁:afW)(mg mb:Str->Option afX)(fa:afR)(o:Obj)(pm cd doc:afX)(a:afR)(vs:List afX)(ns:List Int),
   Ground q loose [] XP w s₀ mg mb s₁.heap->YP w s₁.heap->
   s₁.heap.get? fa=some o->o.data= .func (docDef d.name d.params d.body d.scope pm cd doc)->s₁.heap.CodeRec cd d.name->mg d.name=some (.ref fa)->
   s₁.heap.get? a=some { cls:=.type "list",data:=.seq vs.toArray }->IntsAre vs ns->ns.length<=n->s₁.gens=#[]->
   af2 (model l.prog w) callerA (.call (.ref fa) ⟨[.ref a],[]⟩) (λr s'=>r= .ok (.ret (.bool true))/\OldK s₁.heap s'.heap/\s'.os=s₁.os/\AllBare s'.gens) s₁):
  WalkO q loose XP YP l.row.toRowW d [] (λf vs=>PySem.call f vs):=by
 intro w s₀ s₁ mg mb G Y fa o pm cd doc dV kV ho hd hcd hD hmg hg args vals as hpre hlay hrd hwl hlo;obtain rfl:dV= .none:=Dflts.none hD hdf;obtain rfl:kV= .none:=Dflts.noKw hD;obtain⟨a,vs,ns,rfl,rfl,hobj,hints,hlen⟩:=DP hn hpre hwl;refine enter_call (codeAny_mono (call w s₀ s₁ mg mb fa o pm cd doc a vs ns G Y ho (fd_plain hd) hcd hmg hobj hints hlen hg) λr s' hq=>?_);obtain⟨rfl,h2,h3,h4⟩:=hq;exact⟨.inl ⟨.bool true,.bool true,[],rfl,λ_=>rfl,.bool true,DQ l _,λ_=>⟨List.Pairwise.nil,λ_ hm=>(nomatch hm)⟩⟩,h2,h3,h4⟩
section
variable {prog:afV}{w:afY}{A:afS}{E:afX->afW->Prop}{s:afW}{K:Frag}
def fA(h:Heap):Heap:={ h with objs:=#[] }
theorem cE(h:Heap)(b:afR):(fA h).get? b=none:=by
 cases e:(fA h).get? b with
 |none=>rfl
 |some o=>exact absurd (az e) (Nat.not_lt_zero _)
theorem Aq{L:afR}{m:Str->Option afX}(n:h.Ns L m):Fr (fA h) L h m :=
 ⟨n,λb o e=>(by rw[cE]at e;cases e),bH _⟩
end
end Att
namespace L2
open PySem PySem.Spec PyProof.Rows
theorem uE:∀{vs:List afX}{ns:List Int},IntsAre vs ns->Vals (ns.map V.int) vs
 |_,_,.nil=> .nil
 |_,_,.cons n t h=> .cons ⟨t,rfl⟩ (uE h)
def K8(H:Hp):Prop:=∀b,H b=none\/∃o xs,H b=some (.iV o (.lst xs))
variable{k:Nat}{x:Str}
theorem FJ{P:afV}{w:afY}{K:PySem.W.Frag}{mg mb:Str->Option afX}{CX:E5}{fa a:afR}{fd:afT}{sp:Sp}{s₁:afW}{vs:List afX}{ns:List Int}
  (KX:K.In s₁.heap)(hns:s₁.heap.Ns af7 mg)(hb:s₁.heap.Ns builtinsNs mb)(hbb:∀x:Str,x≠"__name__"->mb x=af1 x)(hlim:s₁.heap.NoLimit)(hg:s₁.gens=#[])
  (ha:s₁.heap.get? a=some { cls:=.type "list",data:=.seq vs.toArray })(hi:IntsAre vs ns)(hl:ns.length<=af8)(hr:k9 k callerA)
  (F:∀base:Heap,K.In base->base.Ns af7 mg->FnOk P w K mg base CX k fa fd [x] sp)(hbind:∀(s:afW)(u:afX),BindsTo s fd ⟨[u],[]⟩ [(x,u)])
  (TK:∀H:Hp,K8 H->l5 K H a (ns.map V.int)->sp [.ref a] H (λv _=>v= .bl true) λ_ _ _=>False)
  (Yg:∀H e s',CX [] H s₁ (λ_ _ _=>False) e s'->False):
  af2 (model P w) callerA (.call (.ref fa) ⟨[.ref a],[]⟩) (λr s'=>r= .ok (.ret (.bool true))/\OldK s₁.heap s'.heap/\s'.os=s₁.os/\AllBare s'.gens) s₁:=by
 have rv:=uE hi;have Yh:=hi.length
 -- from an abstract heap in which nothing but the script may be tracked
 have core:∀H:Hp,K8 H->l5 K H a (ns.map V.int)->kZ P w H s₁.heap->(∀b,H b≠none->b=a)->(H a≠none->K.lookup a=none)->
   af2 (model P w) callerA (.call (.ref fa) ⟨[.ref a],[]⟩) (λr s'=>r= .ok (.ret (.bool true))/\OldK s₁.heap s'.heap/\s'.os=s₁.os/\AllBare s'.gens) s₁:=by
  intro H hO hS hok hA hK;have BU:∀{b:afR}{o:Obj},s₁.heap.get? b=some o->H b=none->(vt s₁.heap H).get? b=some o:=λe n=>Fg e n;have UA:∀{b:afR}{o:Obj}{es:Array DictEntry}{ep:Nat},s₁.heap.get? b=some o->o.data= .dict es ep->H b=none:=λ{b o es ep} e d=>by
   cases q:H b with
   |none=>rfl
   |some u=>have e':b=a:=hA b (by rw[q];simp);subst e';rw[ha]at e;cases e;have d':Data.seq vs.toArray _=Data.dict es ep:=d;cases d'
  have WT:∀{b:afR}{m:Str->Option afX},s₁.heap.Ns b m->(vt s₁.heap H).Ns b m:=λ{b m} ⟨o,es,ep,e,d,r⟩=>⟨o,es,ep,BU e (UA e d),d,r⟩;have hKb:K.In (vt s₁.heap H):=λb o e=>BU (KX b o e) (by
   cases q:H b with
   |none=>rfl
   |some u=>have e':b=a:=hA b (by rw[q];simp);subst e';rw[hK (by rw[q];simp)]at e;cases e)
  have hM:Mod K mg (vt s₁.heap H):=⟨hKb,WT hns,⟨mb,WT hb,hbb⟩,let ⟨mc,h1,h2⟩:=hlim;⟨mc,WT h1,h2⟩⟩;have e0:Fz P w K mg (vt s₁.heap H) callerA [] s₁ H:=⟨rfl,hM,λb o e=>Kr e,nL (DB _ _),trivial,λb hb=>absurd (show b∈([]:List afR) from hb) (by simp),hok,.of_eq hg⟩;refine codeAny_mono ((F _ hKb (WT hns)).run callerA [] s₁ H ⟨[.ref a],[]⟩ [.ref a] [.ref a] _ _ hr e0 (hbind s₁ (.ref a)) (.cons rfl .nil) (TK H hO hS)) λr s' h=>?_;cases r with
  |error e=>exact(Yg H e s' h).elim
  |ok fl=>
   cases fl with
   |next=>exact ae h
   |brk=>exact ae h
   |cont=>exact ae h
   |ret u=>
    obtain⟨v,H',os,bare,un,Yi,r',q⟩:=h;have q':v= .bl true:=q;subst q';obtain rfl:u=qf true:=r';refine⟨rfl,OldK.of_keep λb o e=>?_,os,bare⟩;cases q:H b with
    |none=>exact un.keep b o e q (by intro z;exact absurd (show b∈([]:List afR) from z) (by simp)) (by simp)
    |some u=>
     rcases hO b with z |⟨ob,xs,z⟩
     ·rw[q]at z;cases z
     ·have z2:=un.k6 b ob _ z;obtain⟨e1,_⟩:=hok b _ z;obtain⟨e2,_⟩:=Yi b _ z2;rw[e]at e1;cases e1;exact e2
 cases hk:K.lookup a with
 |some o=>
  -- the script is one of the FH own objects
  have e:=KX a o hk;rw[ha]at e;cases e;refine core (λ_=>none) (λ_=> .inl rfl) (.inr ⟨_,vs.toArray,_,hk,rfl,rfl,rfl,by rw[aZ,Yh];exact hl,by simpa using rv⟩) (λb u z=>by have z':(none:Option HO)=some u:=z;cases z') (λb z=>absurd rfl z) λz=>absurd rfl z
 |none=>
  refine core (λb=>if b=a then some (.iV { cls:=.type "list",data:=.seq vs.toArray } (.lst (ns.map V.int)))else none) (λb=>?_) (.inl (.inr ⟨{ cls:=.type "list",data:=.seq vs.toArray },if_pos rfl⟩)) (λb u z=>?_) (λb z=>?_) λ_=>hk
  ·by_cases hb:b=a
   ·exact .inr ⟨_,_,if_pos hb⟩
   ·exact .inl (if_neg hb)
  ·by_cases hb:b=a
   ·have z':=(if_pos hb).symm.trans z;cases z';subst hb;exact⟨ha,by rw[bf];exact hl,vs,_,rv,ha⟩
   ·have z':=(if_neg hb).symm.trans z;cases z'
  ·by_cases hb:b=a
   ·exact hb
   ·exact absurd (if_neg hb) z
abbrev KOf{K:PySem.W.Frag}{h:Heap}(_:K.In h):PySem.W.Frag:=K
theorem walk_of{l:PySem.W.OpenLaw}{n:Nat}{q:afV}{loose:List Str}{XP:(Str->Option afX)->Heap->Prop}{YP:afY->Heap->Prop}{d:DefRec}{K:Params->PySem.W.Frag}{CX:afY->E5}{sp:afY->Sp}
  (hn:l.most=some n)(hn2:n<=af8)(hdf:d.params.defaults=[])(hr:k9 k callerA)
  (hY:∀(w:afY)(h:Heap),YP w h->(K w.params).In h)
  (F:∀(w:afY)(mg:Str->Option afX)(fa:afR)(h:Heap),(K w.params).In h->h.Ns af7 mg->mg d.name=some (.ref fa)->
   ∃fd:afT,(∀(s:afW)(u:afX),BindsTo s fd ⟨[u],[]⟩ [(x,u)])/\
    ∀base:Heap,(K w.params).In base->base.Ns af7 mg->FnOk l.prog w (K w.params) mg base (CX w) k fa fd [x] (sp w))
  (TK:∀(w:afY)(H:Hp)(a:afR)(ns:List Int),ns.length<=n->K8 H->l5 (K w.params) H a (ns.map V.int)->sp w [.ref a] H (λv _=>v= .bl true) λ_ _ _=>False)
  (Yg:∀(w:afY)(H:Hp)(s:afW)(e:afX)(s':afW),CX w [] H s (λ_ _ _=>False) e s'->False):
  PySem.W.WalkO q loose XP YP l.row.toRowW d [] (λf vs=>PySem.call f vs):=by
 refine Att.xB hn hdf λw s₀ s₁ mg mb fa o pm cd doc a vs ns G Y ho hd hcd hmg hobj hints hlen hg=>?_;have KX:=hY w _ Y;obtain⟨fd,hb,hF⟩:=F w mg fa _ KX G.T.g hmg;exact FJ KX G.T.g G.T.b G.T.builtins G.T.nolimit hg hobj hints (bZ hlen hn2) hr hF hb (λH hO hS=>TK w H a ns hlen hO hS) λH e s'=>Yg w H s₁ e s'
end L2
/- THE adq WU (shape;LID,My.* are abI):
   My.Adr: a structure of the addresses Yj your abJ names (classes,TL);My.Txt K t: a structure (Prop) of the equations over K;
   My.PJ:{K}{implicit addresses ..} (e1:nsIn K af7 "law"=some (some (.ref f))) (e2:K.lookup f=some ⟨oc,od,.func (fnOf "law" "law" params body scope dV kV doc pm an cdv ct),sl⟩) (e3:codeIn K cdv "law"=true) ..:∃t,My.Txt K t
set_option maxRecDepth 100000 in
set_option maxHeartbeats 0 in
theorem PySem.Challenge.cw_LID_holds:PySem.Challenge.rw_LID.Holds:=by
 w_on;o_law;k_head;(case hw=>w_witness2)
 k_fill
 refine L2.walk_of (l:=PySem.Challenge.rw_LID) (n:=63) (k:=40) (x:="script") (CX:=fun w => ..) (sp:=fun _ => My.sp_law) rfl (by decide) rfl ⟨rfl,by decide,by decide⟩ (fun w h Y => PySem.W.kIn_of Y) ?F ?S ?C
 case F=>
  intro w mg fa h KX G hmg;have T:∃t,My.Txt (L2.KOf KX) t:=by
   dsimp only[L2.KOf] -- K adt stand as «<heap const> w.params» for k_is;refine' My.PJ ?e1 ?e2 ?e3 ..
   (case e1=>PySem.W.k_is) -- in the order: a name -> its address -> its object -> its parts
   (case e2=>PySem.W.k_is)
   ..
  obtain⟨t,T⟩:=T;have e0:=hmg.symm.trans (PySem.W.mg_of KX G T.law);cases e0 -- fa is the abK own address;exact⟨_,λs u=> .of_eq rfl,λbase kb nb=>My.PK T kb nb⟩ -- if «.of_eq rfl» comes too early: refine' ⟨_,?b,λbase kb nb=>My.PK T kb nb⟩;exact λs u=> .of_eq rfl
 case S=>exact λw H a ns hl hO hS=> ..
 case C=>exact ..
(the tactic k_is has no namespace: write k_is) -/
namespace L2
open PySem PySem.Spec PyProof.Rows
def defArgs(s:Stmt):Arguments:=match s with
 |.FunctionDef _ a _ _ _ _ _ _ _ _=>a
 |_=>{ posonlyargs:=[],args:=[],vararg:=none,kwonlyargs:=[],kw_defaults:=[],kwarg:=none,defaults:=[] }
def defBody(s:Stmt):List Stmt:=match s with
 |.FunctionDef _ _ b _ _ _ _ _ _ _=>b
 |_=>[]
def defScope(s:Stmt):Scope:=match s with
 |.FunctionDef _ _ _ _ _ _ sc _ _ _=>sc
 |_=>{ kind:=.function,names:=[],isGenerator:=false,isCoroutine:=false }
abbrev CX0:E5:=λ_ _ _ _ _ _=>False
abbrev E0:XK:=λ_ _ _=>False
structure PL(K:PySem.W.Frag)(x qual:Str)(st:Stmt)(f:afR)(fd:afT):Prop where
 ex:∃(oc:afX)(od:Option afR)(kV doc pm:afX)(an:Option afR)(cdv ct:afX)(osl:Array (Option afX)),
  fd=PySem.W.fnOf x qual (defArgs st) (defBody st) (defScope st) .none kV doc pm an cdv ct/\K.lookup f=some ⟨oc,od,.func fd,osl⟩/\PySem.W.codeIn K cdv qual=true
 kp:PySem.W.keepIn K (.ref f)=true
variable{qual:Str}{st:Stmt}{f:afR}
section
variable {P:afV}{w:afY}{K:PySem.W.Frag}{mg:Str->Option afX}{base:Heap}
theorem PL.binds{x:Str}{fd:afT}{ps:List Str}(F:PL K x qual st f fd)
  (h:∀(kV doc pm:afX)(an:Option afR)(cdv ct:afX)(us:List afX),us.length=ps.length->bindArgs (PySem.W.fnOf x qual (defArgs st) (defBody st) (defScope st) .none kV doc pm an cdv ct) ⟨us,[]⟩=pure (ps.zip us)):Binds K fd ps []:=by
 obtain⟨oc,od,kV,doc,pm,an,cdv,ct,osl,rfl,lk,hcd⟩:=F.ex;exact .all (h kV doc pm an cdv ct)
theorem PM{x:Str}{oc:afX}{od an:Option afR}{osl:Array (Option afX)}{kV doc pm cdv ct:afX}(l:K.lookup f=some ⟨oc,od,.func (PySem.W.fnOf x qual (defArgs st) (defBody st) (defScope st) .none kV doc pm an cdv ct),osl⟩)
  (c:PySem.W.codeIn K cdv qual=true)(k:PySem.W.keepIn K (.ref f)=true):PL K x qual st f (PySem.W.fnOf x qual (defArgs st) (defBody st) (defScope st) .none kV doc pm an cdv ct):=⟨⟨oc,od,kV,doc,pm,an,cdv,ct,osl,rfl,l,c⟩,k⟩
end
variable{u:afX}{y:V}
section
variable {κ: Type} [DecidableEq κ]
def vH(kvs: List (κ×V))(k: κ): Option V := (kvs.find? λkv=>decide (kv.1=k)).map (·.2)
def putK(kvs: List (κ×V))(k: κ)(v: V): List (κ×V) :=
 if(kvs.any λkv=>decide (kv.1=k))=true then kvs.map (λkv=>if kv.1=k then(kv.1, v)else kv)else kvs++[(k, v)]
theorem q_{p: κ×V}{r: List (κ×V)}{k: κ}(e: p.1=k): vH (p::r) k=some p.2 := by simp[vH, vI, e]
theorem rf{p: κ×V}{r: List (κ×V)}{k: κ}(e: ¬p.1=k): vH (p::r) k=vH r k := by simp[vH, vI, e]
theorem xC(k: κ): ∀kvs: List (κ×V), (kvs.any λkv=>decide (kv.1=k))=(vH kvs k).isSome
 |[]=>rfl
 |p::r=>by
  rw[iz];by_cases e: p.1=k
  ·simp only[q_ e, decide_eq_true e, Bool.true_or, K9]
  ·rw[rf e, decide_eq_false e, Bool.false_or];exact xC k r
theorem pI(kvs: List (κ×V))(k: κ)(v: V): (putK kvs k v).length<=kvs.length+1 := by
 unfold putK;split
 ·rw[bf];omega
 ·rw[cJ, fB, List.length_nil];omega
theorem DA.uF{o: Option V}{u: Option afX}(r: DA o u): o.isSome=u.isSome := by
 cases o with
 |none=>cases u with
  |none=>rfl
  |some _=>exact(show False from r).elim
 |some _=>cases u with
  |none=>exact(show False from r).elim
  |some _=>rfl
theorem KV.any{kvs: List (κ×V)}{vs: List (κ×afX)}(r: KV kvs vs)(k: κ): (kvs.any λkv=>decide (kv.1=k))=vs.any λkv=>decide (kv.1=k) := by
 unfold KV at r
 induction r with
 |nil=>rfl
 |cons h t ih=>rw[iz, iz, ih, h.1]
theorem KV.repl{kvs: List (κ×V)}{vs: List (κ×afX)}(r: KV kvs vs)(k: κ)(ry: RelV y u):
  KV (kvs.map λkv=>if kv.1=k then(kv.1, y)else kv) (vs.map λkv=>if kv.1=k then(kv.1, u)else kv) := by
 unfold KV at r ⊢
 induction r with
 |nil=>exact .nil
 | @cons p q ps qs h t ih=>
  rw[aH, aH];refine .cons ?_ ih;obtain⟨h1, h2⟩ := h;by_cases e: p.1=k
  ·rw[if_pos e, if_pos (h1.symm.trans e)];exact⟨h1, ry⟩
  ·rw[if_neg e, if_neg (λz=>e (h1.trans z))];exact⟨h1, h2⟩
theorem KV.put{kvs: List (κ×V)}{vs: List (κ×afX)}(r: KV kvs vs)(k: κ)(ry: RelV y u): KV (putK kvs k y) (stored vs k u) := by
 unfold putK stored;rw[r.any k];by_cases e: (vs.any λkv=>decide (kv.1=k))=true
 ·rw[if_pos e, if_pos e];exact r.repl k ry
 ·rw[if_neg e, if_neg e];exact Paired.snoc r ⟨rfl, ry⟩
theorem KV.length{kvs: List (κ×V)}{vs: List (κ×afX)}(r: KV kvs vs): kvs.length=vs.length := Paired.length r
end
variable{P:afV}{w:afY}
theorem NC{k: Key}(r: RelV (kV k) u): (aw P w).is k u=true := by
 cases k with
 |inl i=>obtain⟨t, e⟩ := (show ∃t, u=jW i t from r);subst e;exact xn P w i t
 |inr x=>obtain⟨t, e⟩ := (show ∃t, u=qb x t from r);subst e;exact xo P w x t
 |bK=>rw[show u=bg from r];rfl
theorem uG{P: afV}{w: afY}: ∀{ks: List Key}{us: List afX}, Vals (ks.map kV) us->ItemsAre (aw P w) ks us
 |[], _, r=>by rw[qo]at r;cases r;exact .nil
 |k::ks, _, r=>by
  rw[aH]at r;cases r with
  |cons h t=>exact .cons (NC h) (uG t)
abbrev KT(H: Hp): List (List Key×V)->List (List Key×afR×afX)->Prop := Paired λp q=>p.1=q.1/\H q.2.1=some (.tup (p.1.map kV))/\RelV p.2 q.2.2
variable{H:Hp}{kvs:List (List Key×V)}{xs:List (List Key×afR×afX)}
theorem KT.val(r: KT H kvs xs)(k: List Key): DA (vH kvs k) ((atKey xs k).map (·.2)) := by
 induction r with
 |nil=>exact True.intro
 | @cons p q ps qs h t ih=>
  obtain⟨h1, _, h2⟩ := h;by_cases e: p.1=k
  ·have e': q.1=k := h1.symm.trans e;have b: atKey (q::qs) k=some q.2 := by simp[atKey, vI, e']
   rw[q_ e, b];exact h2
  ·have e': ¬q.1=k := λz=>e (h1.trans z);have b: atKey (q::qs) k=atKey qs k := by simp[atKey, vI, e']
   rw[rf e, b];exact ih
theorem KT.repl(r: KT H kvs xs)(k: List Key)(ry: RelV y u):
  KT H (kvs.map λkv=>if kv.1=k then(kv.1, y)else kv) (xs.map (putAt k u)) := by
 induction r with
 |nil=>exact .nil
 | @cons p q ps qs h t ih=>
  rw[aH, aH];refine .cons ?_ ih;obtain⟨h1, h2, h3⟩ := h;unfold putAt;by_cases e: p.1=k
  ·rw[if_pos e, if_pos (h1.symm.trans e)];exact⟨h1, h2, ry⟩
  ·rw[if_neg e, if_neg (λz=>e (h1.trans z))];exact⟨h1, h2, h3⟩
variable{b:afR}
theorem KT.put(r: KT H kvs xs)(k: List Key)(hb: H b=some (.tup (k.map kV)))(ry: RelV y u):
  KT H (putK kvs k y) (storedH xs k b u) := by
 have e: (kvs.any λkv=>decide (kv.1=k))=(atKey xs k).isSome := by rw[xC, (r.val k).uF, Option.isSome_map]
 unfold putK storedH;rw[e];by_cases q: (atKey xs k).isSome=true
 ·rw[if_pos q, if_pos q];exact r.repl k ry
 ·rw[if_neg q, if_neg q];exact Paired.snoc r ⟨rfl, hb, ry⟩
variable{H':Hp}
theorem KT.keeps(r: KT H kvs xs)(ht: ∀b ys, H b=some (.tup ys)->H' b=some (.tup ys)): KT H' kvs xs :=
 Paired.Ff r λ_ _ z=>⟨z.1, ht _ _ z.2.1, z.2.2⟩
section
variable {P: afV}{w: afY}{H: Hp}{h: Heap}{a: afR}
theorem FK{u: HO}(ok: kZ P w H h)(e: Rd H a u): dZ P w H h a u := e.ok ok
theorem UL{kvs: List (Key×V)}(ok: kZ P w H h)(e: Rd H a (.dK kvs)): kvs.length<=af8/\(a == sysModules)=false/\∃vs, KV kvs vs/\h.DictOf (aw P w) a vs :=
 show dZ P w H h a (.dK kvs) from FK ok e
theorem UM{kvs: List (Key×V)}(ok: kZ P w H h)(e: H a=some (.dK kvs)): kvs.length<=af8/\(a == sysModules)=false/\∃vs, KV kvs vs/\h.DictOf (aw P w) a vs := UL ok (.inl e)
theorem oJ{ks: List Key}(ok: kZ P w H h)(e: H a=some (.tup (ks.map kV))): (tupleKind (aw P w)).is h ks a := by obtain⟨_, its, r, ⟨o, h1, h2, n, h3⟩, _⟩ := (show dZ P w H h a (.tup (ks.map kV)) from ok a _ e);exact⟨o, its.toArray, n, h1, h2, h3, by simpa using uG r⟩
theorem FO(ok: kZ P w H h)(e: Rd H a (.dT kvs)): kvs.length<=af8/\(a == sysModules)=false/\
  ∃xs, KT H kvs xs/\h.DictOfH (tupleKind (aw P w)) a xs := by
 obtain⟨z, y, xs, r, o, es, ep, h1, h2, h3, h4, h5⟩ := (show dZ P w H h a (.dT kvs) from FK ok e);refine⟨z, y, xs, r, o, es, ep, h1, h2, h3, h4, λx hx=>?_, h5⟩;have all: ∀{l: List (List Key×V)}{m: List (List Key×afR×afX)}, KT H l m->∀x∈m, (tupleKind (aw P w)).is h x.1 x.2.1 := by
  intro l m q
  induction q with
  |nil=>intro x hx;exact nomatch hx
  | @cons p q ps qs hq t ih=>
   intro x hx;rcases List.mem_cons.mp hx with e |hx
   ·subst e;exact oJ ok (by rw[<-hq.1];exact hq.2.1)
   ·exact ih x hx
 exact all r x hx
theorem UN(ok: kZ P w H h)(e: H a=some (.dT kvs)): kvs.length<=af8/\(a == sysModules)=false/\
  ∃xs, KT H kvs xs/\h.DictOfH (tupleKind (aw P w)) a xs := FO ok (.inl e)
end
def vJ(H: Hp)(a: afR)(y v: V)(H': Hp): Prop :=
 (∃kvs k, H a=some (.dK kvs)/\y=kV k/\kvs.length < af8/\H'=upd H a (.dK (putK kvs k v)))\/
 ∃kvs k b, H a=some (.dT kvs)/\y= .ref b/\H b=some (.tup (k.map kV))/\kvs.length < af8/\H'=upd H a (.dT (putK kvs k v))
theorem vJ.k{H: Hp}{a: afR}{kvs: List (Key×V)}{k: Key}{v: V}(e: H a=some (.dK kvs))(hl: kvs.length < af8): vJ H a (kV k) v (upd H a (.dK (putK kvs k v))) := .inl ⟨kvs, k, e, rfl, hl, rfl⟩
theorem vJ.t{a:afR}{k: List Key}{v: V}(e: H a=some (.dT kvs))(eb: H b=some (.tup (k.map kV)))(hl: kvs.length < af8):
  vJ H a (.ref b) v (upd H a (.dT (putK kvs k v))) := .inr ⟨kvs, k, b, e, rfl, eb, hl, rfl⟩
variable{h':Heap}
section
variable {X: Cx}{pins: List (afR×Obj)}{σ: St}{H: Hp}{s: afW}{a: afR}{y v: V}{u r: afX}{o: Option V}{A: afS}{E: afX->afW->Prop}
theorem Inv.big(I: Inv X pins σ H s): sysModules < s.heap.objs.size := by have h: af7 < s.heap.objs.size := (I.mod.glob.keeps I.bk).lt;exact vK (by decide) h
theorem BV{t': Nat}{ob: HO}(I: Inv X pins σ H s)(mu: T7 (H a))(hs: eB a s.heap h')(he: ∃q, h'.get? a=some q)(new: dZ X.prog X.w (upd H a ob) h' a ob):
  Inv X pins σ (upd H a ob) { s with heap := h', toks := t' } :=
 I.write (x := a) (e := a) mu (.inl rfl) (λb q hb z=>(hs.2 b hb).trans z) he new
theorem PN{kvs: List (Key×V)}{vs: List (Key×afX)}(z: kvs.length<=af8)(hd: (a == sysModules)=false)(rel: KV kvs vs)(dd: h'.DictOf (aw P w) a vs):
  dZ P w H' h' a (.dK kvs) :=⟨z, hd, vs, rel, dd⟩
theorem DR{Q: Unit->afW->Prop}(hu: A.units+1 < cLine)(I: Inv X pins σ H s)(g: vJ H a y v H')(ry: RelV y u)(rv: RelV v r)(h: ∀s', Inv X pins σ H' s'->Q () s'):
  aga (model X.prog X.w) A (setItem (.ref a) u r) Q E s := by
 rcases g with ⟨kvs, k, e, ey, l, eH⟩ |⟨kvs, k, b, e, ey, eb, l, eH⟩
 ·subst ey eH;obtain⟨z, hd, vs, rel, dd⟩ := UM I.hok e;have hz: vs.length<=af8 := by rw[<-rel.length];exact z
  have hl: (putK kvs k v).length<=af8 := by have := pI kvs k v;omega
  refine wpAny_setItem_pairs (hsz := hz) (NC ry) dd λh' UO hs=>h _ ?_;have he: ∃q, h'.get? a=some q := let ⟨q, _, _, hq, _⟩ := UO;⟨q, hq⟩;exact BV I (by rw[e];exact True.intro) hs he (PN hl hd (rel.put k rv) UO)
 ·subst ey eH;cases (show u=aA b from ry);obtain⟨z, hd, xs, rel, dd⟩ := UN I.hok e;have hz: xs.length<=af8 := by rw[<-Paired.length rel];exact z
  have hl: (putK kvs k v).length<=af8 := by have := pI kvs k v;omega
  refine wpAny_setItem_heap (hsz := hz) (tupleKind_room_in1 hu) (oJ I.hok eb) dd λh' UO hs=>h _ ?_;obtain⟨q, es, ep, hq, h2, h3, h4, _, h5⟩ := UO;refine BV I (by rw[e];exact True.intro) hs ⟨q, hq⟩ ⟨hl, hd, _, (rel.put k eb rv).keeps λc ys ec=>?_, q, es, ep, hq, h2, h3, h4, h5⟩;rw[aI (T6 ec e (λz=>nomatch z))]
  exact ec
end
def PQ(i: Expr): Prop := ∀ov iv, subscripted i false ov iv=operate [ov, iv] (getItem ov iv)
theorem K_{prog: afV}{A: afS}{E: afX->afW->Prop}{s: afW}{env: Env}{value slice: Expr}{pos: Pos}{T id: String}{Q: afX->afW->Prop}
  (hl: typeLookup (.type T) "__getitem__"=pure (some (.builtin id)))(hs: PQ slice)
  (h: aga (model prog w) A (eval value env) (λo s₁=>aga (model prog w) A (eval slice env) (λi s₂=>s₂.TypeIs o T/\aga (model prog w) A (getItem o i) Q E s₂) E s₁) E s):
  aga (model prog w) A (eval (.Subscript value slice pos) env) Q E s := by
 refine Subscript_ (age h (λo s₁ h₁=>age h₁ (λi s₂ h₂=>?_) λ_ _ x=>x) λ_ _ x=>x);obtain⟨hT, h₂⟩ := h₂;unfold subscriptTail;refine agb ?_;rw[getitemInPython_of_ne hT.not_modules];refine agb (wpAny_specialOf hT hl ?_);have fin: aga (model prog w) A (subscripted slice false o i) (λr s₃=>aga (model prog w) A (letTemporaryGo value o r >>= λ_=>pure r) Q E s₃) E s₂ := by rw[hs o i];exact wpAny_operating (age h₂ (λr s₃ h₃=>agb (wpAny_letTemporaryGo (agh h₃))) λ_ _ x=>x)
 first
  |exact agh (agb fin)
  |exact agb (agh (agb fin))
  |exact agb fin
def UP(td ty tv: TE): TS := λD σ H=>tv σ H λv H1=>td σ H1 λx H2=>ty σ H2 λy H3=>∃a H4, x= .ref a/\vJ H3 a y v H4/\D.nx σ H4
section
variable {X: Cx}{o i e value: Expr}{pos pos' tpos: Pos}{td ty tv: TE}
theorem K'(hu: X.A.units+1 < cLine)(ho: PE X o td)(hi: PE X i ty)(hv: PE X value tv)(hs: swapsWith value (some (.Subscript o i pos')) pos.line X.env=pure false):
  PS X (.Assign [.Subscript o i pos'] value pos) (UP td ty tv) := by
 intro pins s σ H D I h;refine wpAny_Assign_Subscript (bR (hv pins s σ H _ I h) λr s1 ⟨v, H1, I1, rv, q1⟩=>bR (ho pins s1 σ H1 _ I1 q1) λu s2 ⟨x, H2, I2, rx, q2⟩=>bR (hi pins s2 σ H2 _ I2 q2) λiv s3 ⟨y, H3, I3, ry, a, H4, ex, g, q3⟩=>?_) hs;subst ex;obtain rfl: u=aA a := rx;exact DR hu I3 g ry rv λs4 I4=>⟨σ, H4, I4, q3⟩
end
theorem FP(h: Heap)(hb: sysModules < h.objs.size): dZ P w H (h.push { cls := .type "dict", data := .dict #[] }) h.objs.size (.dT []) :=
 ⟨bH _, beq_eq_false_iff_ne.mpr (bC (aN hb)), [], .nil, _, #[], 0, bE _ rfl, ⟨rfl, rfl, rfl⟩, rfl, rfl, l8⟩
def PR: TE := λ_ H Q=>∀p, H p=none->Q (.ref p) (upd H p (.dT []))
section
variable {X: Cx}{pos: Pos}
theorem FQ: PE X (.Dict [] [] pos) PR := λpins s σ H Q I h=>
 wpAny_Dict_empty ⟨.ref s.heap.objs.size, _, I.laid (a := s.heap.objs.size) (o := .dT []) (t' := s.toks) (λ_ _ q=>aT _ q) (ar _) (FP s.heap I.big), rfl, h _ (I.hok.fresh (ar _))⟩
end
structure M1(X: Cx)(o: Expr)(m: Str)(apos: Pos)(e: Expr)(cpos: Pos): Prop where
 base: attributeBase o m X.env (eval o X.env)=eval o X.env
 few: ((backTo cpos (af9 [e] X.env)).all (λx=> !x.1)&&(backToKw cpos (keywordEach [] X.env)).all (λx=>x.1.isSome)
  &&decide (([e]: List Expr).length+([]: List Keyword).length+(if([]: List Keyword).isEmpty then 0 else 1) < 30))=true
 line: (apos.endLine == cpos.line)=true
 trees: backTo cpos (af9 [e] X.env)=[(false, eval e X.env)]
end L2
set_option maxHeartbeats 4000000
namespace J
open PySem PySem.Spec PyProof.Rows L2
def WV(h base:Heap)(e:afR)(cls a0 fl:afX):Prop :=
 ∃ox us T ot ws,h.get? e=some ox/\(ox.cls=cls/\us[2]? =some bg)/\ox.data= .fields us/\us[1]? =some (.ref T)/\base.get? T=none/\T≠e/\h.get? T=some ot/\ot.data= .fields ws/\ws[3]? =some fl
abbrev La(base:Heap)(l:List Env)(e:afR)(cls a0 fl:afX)(h:Heap):Prop:=base.StaysIn h/\base.get? e=none/\h.FunFrames base l/\WV h base e cls a0 fl
def FR(base:Heap)(l:List Env)(e:afR)(cls a0:afX)(L:afR)(h:Heap):Prop:=La base l e cls a0 (rawInt L) h
def vL(base:Heap)(l:List Env)(e:afR)(cls a0:afX)(h:Heap):Prop:=La base l e cls a0 .none h
variable{cls:afX}
theorem vL.first{base h:Heap}{l:List Env}{e:afR}{a0:afX}(x:vL base l e cls a0 h):∃ox us,h.get? e=some ox/\ox.cls=cls/\ox.data= .fields us/\us[2]? =some bg :=
 let ⟨_,_,_,ox,us,_,_,_,g1,g2,g3,_⟩:=x;⟨ox,us,g1,g2.1,g3,g2.2⟩
variable{ox:Obj}{us:Array afX}
section
variable {M:Model}{A:afS}{E:afX->afW->Prop}{s:afW}{base:Heap}{env:Env}{outer l:List Env}{L e:afR}{cls a0 nt:afX}{Q:Unit->afW->Prop}
theorem Ar{h h1:Heap}{S:List afR}{ob:Obj}{ws:Array afX}(so:Heap.SlotsOnly S h h1)(hS:S=l.filterMap (·.frame))(fs:h.FunFrames base l)(g1:h.get? e=some ox)(g3:ox.data= .fields us)(st:base.StaysIn h)(ne:base.get? e=none)(sz:1 < us.size)(g2:us[2]? =some bg)
  (d:ob.data= .fields ws)(w3:ws[3]? =some nt)(nf:ob.isFreed=false):
  La base l e ox.cls a0 nt ((h1.push ob).update e (g_ (·.setIfInBounds 1 (.ref h1.objs.size))))/\h.UpToSlots ((h1.push ob).update e (g_ (·.setIfInBounds 1 (.ref h1.objs.size)))):=by
 have nS:e∉S:=λz=>by rw[hS]at z;obtain⟨_,o2,q2,d2⟩:=fs.mem z;rw[g1]at q2;cases q2;exact d2 us g3
 have q1:h1.get? e=some ox:=(so.2.1 e nS).trans g1;have lt:e≠h1.objs.size:=aN (az q1);have oth:∀b o,b≠e->h1.get? b=some o->((h1.push ob).update e (g_ (·.setIfInBounds 1 (.ref h1.objs.size)))).get? b=some o:=λb o n q=>(qV _ _ (bC n)).trans (aT _ q);have up:h.UpToSlots ((h1.push ob).update e (g_ (·.setIfInBounds 1 (.ref h1.objs.size)))):=λb o q n=>by obtain⟨sl,q2⟩:=so.2.2 b o q;exact⟨sl,oth b _ (λz=>by rw[z,g1]at q;cases q;exact n us g3) q2⟩
 have stay:base.StaysIn h1:=λb o q=>(so.2.1 b λz=>by rw[hS]at z;rw[(fs.mem z).1]at q;cases q).trans (st b o q);have fresh:base.get? h1.objs.size=none:=by
  cases z:base.get? h1.objs.size with
  |none=>rfl
  |some o=>exact absurd (az (stay _ _ z)) (dz _)
 have d1:=f9 g3 (·.setIfInBounds 1 (aA h1.objs.size));refine⟨⟨λb o q=>oth b o (λz=>by rw[z,ne]at q;cases q) (stay b o q),ne,fs.of_keeps λb o q n=>?_,_,_,h1.objs.size,ob,ws,j_ _ (aT _ q1) (nM d1),⟨qq _ _,?_⟩,d1,by simp[sz],fresh,bC lt,?_,d,w3⟩,up⟩
 ·obtain⟨sl,q2⟩:=up b o q n;exact⟨_,q2,rfl⟩
 ·rw[Array.getElem?_setIfInBounds_ne (by decide)];exact g2
 ·exact(qV _ _ lt).trans (bE _ nf)
theorem FT{head:afX}{had:Bool}(hfr:A.frames=some (env::outer))(fs:s.heap.FunFrames base (env::outer))(hf:env.frame=some L)(g1:s.heap.get? e=some ox)(st:base.StaysIn s.heap)(ne:base.get? e=none)(g3:ox.data= .fields us)(sz:1 < us.size)(g2:us[2]? =some bg)
  (k:∀h',FR base (env::outer) e ox.cls a0 L h'->s.heap.UpToSlots h'->Q () { s with heap:=h' }):
  aga M A (do let a <-frameOf env;let pl <-entryPlaceOf L had;let b <-PU head a .none (rawInt L) .none pl;setField (.ref e) 1 b) Q E s:=by
 refine agb (wpAny_frameOf_fun hfr fs hf λh1 so=>agb (wpAny_entryPlaceOf λpl pp=>?_));have nS:e∉(env::outer).filterMap (·.frame):=λz=>by obtain⟨_,o2,q2,d2⟩:=fs.mem z;rw[g1]at q2;cases q2;exact d2 us g3
 have q1:h1.get? e=some ox:=(so.2.1 e nS).trans g1;simp only[PU,newFields];refine agb (agg (wpAny_setField (aT _ q1) g3 sz ?_) (pp.sizeOk5 _ _ _ _ _));obtain⟨m,up⟩:=Ar (a0:=a0) (nt:=rawInt L) so rfl fs g1 g3 st ne sz g2 (ob:={ cls:=.type "traceback",dict:=none,data:=.fields ([head,.ref L,.none,rawInt L,.none]++(if pl.isEmpty then ay 6 bg else pl)).toArray }) rfl (by first |(simp;done) |(rcases pp with rfl |⟨_,_,_,_,_,_,_,rfl⟩<;>simp)) rfl;exact k _ m up
theorem PV(hf:env.frame=some L)(x:WV s.heap base e cls a0 (rawInt L))(k:Q () s):aga M A (noteFrame (.ref e) env) Q E s:=by obtain⟨ox,us,T,ot,ws,g1,g2,g3,g4,g5,g6,g7,g8,g9⟩:=x;unfold noteFrame;simp only[hf];refine agb (wpAny_field g1 g3 g4 ?_);rw[if_pos (by simp)];refine agb (wpAny_field g7 g8 g9 ?_);rw[if_pos (by simp)];exact agh k
theorem xD(x:La base l e cls a0 nt s.heap)(k:∀h',vL base l e cls a0 h'->s.heap.UpToSlots h'->Q () { s with heap:=h' }):aga M A (setFlight (.ref e) none) Q E s:=by
 obtain⟨x1,x2,x3,ox,us,T,ot,ws,g1,g2,g3,g4,g5,g6,g7,g8,g9⟩:=x;have sz:3 < ws.size:=(Array.getElem?_eq_some_iff.mp g9).1;unfold setFlight;refine agb (wpAny_field g1 g3 g4 ?_);rw[if_pos (by simp)];refine wpAny_setField g7 g8 sz ?_;generalize hu:s.heap.update T _=h';have ap:∀b,b≠T->h'.get? b=s.heap.get? b:=λb n=>by rw[<-hu];exact qV _ _ (bC n)
 have pl:∀b o,s.heap.get? b=some o->(∀vs,o.data≠.fields vs)->h'.get? b=some o:=λb o q n=>(ap b λz=>by rw[z,g7]at q;cases q;exact n ws g8).trans q;refine k h' ⟨λb o q=>(ap b λz=>by rw[z,g5]at q;cases q).trans (x1 b o q),x2,x3.of_keeps λb o q n=>⟨o,pl b o q n,rfl⟩,ox,us,T,g_ (·.setIfInBounds 3 .none) ot,ws.setIfInBounds 3 .none,(ap e (bC g6)).trans g1,g2,g3,g4,g5,g6,?_,f9 g8 _,?_⟩ λb o q n=>⟨o.slots,pl b o q n⟩
 ·rw[<-hu];exact j_ _ g7 (nM (f9 g8 _))
 ·simp[sz]
end
structure Lm where
 a:afR
 c:afR
 q:PySem.Str
 xs:List V
inductive Wv where
 |bK
 |bl (b:Bool)
 |int (i:Int)
 |str (x:PySem.Str)
 |tup (ws:List Wv)
 |iY (ws:List Wv)
 |ref (l:Nat)
 |ty (n:String)
 |cls (c:PySem.Str)
 |DS (c:PySem.Str)
 |fn (p:Lm) (ws:List Wv)
inductive Ob where
 |lst (ws:List Wv)
 |xm (ns:List Int)
 |dct (kvs:List (L2.Key×Wv))
 |gM (kvs:List (List L2.Key×Wv))
 |BW (kvs:List (List L2.Key×Wv))
 |E7 (kvs:List (L2.Key×Wv))
 |FU (kvs:List (NK.KD×Wv))
 |ins (c:PySem.Str) (fs:List (PySem.Str×Wv))
abbrev Hs:=List Ob
abbrev St:=L2.St
abbrev bX:=List (Option Wv)
abbrev Mp:=List afR
def pJ(a C:afR):Heap->Prop:=λh=>∃o,h.get? a=some o/\o.cls= .ref C/\∃vs,o.data= .fields vs
def ExH(a C:afR)(u:Option HO):Prop:=∃o vs,u=some (.iV o (.ext (pJ a C)))/\o.data= .fields vs/\vs[2]? =some bg
def ClsAt(K:PySem.W.Frag)(c:PySem.Str)(C:afR):Prop:=PySem.W.nsIn K af7 c=some (some (.ref C))
def FV(c:afR)(q:PySem.Str):Heap->Prop:=λh=>h.CodeRec (.ref c) q
def dA:List PySem.Str:=["form_of","formula_by","turned","readied_content","ordered","fresh_book","support_of","behind","book_behind"]
def ka(K:PySem.W.Frag)(q:PySem.Str):Option afR:=match PySem.W.tabIn K q with
 |some (_,P)=>if(K.lookup P).isNone=true then some P else none
 |none=>none
def Yk(q:PySem.Str):PySem.Str:=(q++".<locals>.")++"<lambda>"
def vM(K:PySem.W.Frag)(H:Hp):Prop:=∀q P,q∈dA->ka K q=some P->∃ps,H P=some (.jG ps)/\TriplesOk ps.toList/\∀pos cv,codeAmong pos ps.toList=some cv->∃c,cv= .ref c/\H c=some (.ext (FV c (Yk q)))
variable{K:PySem.W.Frag}{H:Hp}
theorem vM.keep{H':Hp}(t:vM K H)(h1:∀a ps,H a=some (.jG ps)->H' a=some (.jG ps))(h2:∀a φ,H a=some (.ext φ)->H' a=some (.ext φ)):vM K H':=λq P hq hP=>by obtain⟨ps,e1,e2,e3⟩:=t q P hq hP;refine⟨ps,h1 _ _ e1,e2,λpos cv e=>?_⟩;obtain⟨c,f1,f2⟩:=e3 pos cv e;exact⟨c,f1,h2 _ _ f2⟩
def UQ(K:PySem.W.Frag)(a:afR)(xs:List V):Prop:=∃(o:Obj)(its:Array afX)(n:Nat),K.lookup a=some o/\o.cls= .type "tuple"/\o.data= .seq its n/\its.size<=af8/\Vals xs its.toList
mutual
def ag(K:PySem.W.Frag)(m:Mp)(H:Hp):Wv->V->Prop
 |.bK,v=>v= .bK
 |.bl b,v=>v= .bl b
 |.int i,v=>v= .int i
 |.str x,v=>v= .str x/\bB x=true
 |.tup ws,v=>∃a xs,v= .ref a/\H a=some (.tup xs)/\ai K m H ws xs
 |.iY ws,v=>∃a xs,v= .ref a/\UQ K a xs/\ai K m H ws xs
 |.ref l,v=>∃a,v= .ref a/\m[l]? =some a
 |.ty n,v=>v= .ty n
 |.cls c,v=>∃C,v= .ref C/\ClsAt K c C
 |.DS c,v=>∃a C,v= .ref a/\ClsAt K c C/\ExH a C (H a)
 |.fn p ws,v=>v= .ref p.a/\H p.c=some (.ext (FV p.c p.q))/\ai K m H ws p.xs
def ai(K:PySem.W.Frag)(m:Mp)(H:Hp):List Wv->List V->Prop
 |[],xs=>xs=[]
 |w::ws,xs=>∃x r,xs=x::r/\ag K m H w x/\ai K m H ws r
end
structure Ext(K:PySem.W.Frag)(m:Mp)(H:Hp)(m':Mp)(H':Hp):Prop where
 pre:∀(l:Nat)(a:afR),m[l]? =some a->m'[l]? =some a
 tup:∀(a:afR)(xs:List V),H a=some (.tup xs)->H' a=some (.tup xs)
 ext:∀(a:afR)(φ:Heap->Prop),H a=some (.ext φ)->H' a=some (.ext φ)
 iV:∀(a:afR)(o:Obj)(u:HO),H a=some (.iV o u)->H' a=some (.iV o u)
section
variable {K:PySem.W.Frag}{m m1 m2:Mp}{H H1 H2:Hp}
theorem Ext.refl:Ext K m H m H:=⟨λ_ _ h=>h,λ_ _ h=>h,λ_ _ h=>h,λ_ _ _ h=>h⟩
theorem Ext.trans(a:Ext K m H m1 H1)(b:Ext K m1 H1 m2 H2):Ext K m H m2 H2 :=
 ⟨λl x h=>b.pre l x (a.pre l x h),λx xs h=>b.tup x xs (a.tup x xs h),λx φ h=>b.ext x φ (a.ext x φ h),λx o u h=>b.iV x o u (a.iV x o u h)⟩
structure PX(K:PySem.W.Frag)(m:Mp)(H:Hp)(m':Mp)(H':Hp):Prop where
 pre:∀(l:Nat)(a:afR),m[l]? =some a->m'[l]? =some a
 tup:∀(a:afR)(xs:List V),H a=some (.tup xs)->H' a=some (.tup xs)
 ext:∀(a:afR)(φ:Heap->Prop),H a=some (.ext φ)->H' a=some (.ext φ)
 fx:∀(a:afR)(o:Obj)(φ:Heap->Prop),H a=some (.iV o (.ext φ))->H' a=some (.iV o (.ext φ))
theorem Ext.z(e:Ext K m H m1 H1):PX K m H m1 H1:=⟨e.pre,e.tup,e.ext,λa o φ h=>e.iV a o _ h⟩
mutual
theorem ag.pK(e:PX K m H m1 H1):∀(w:Wv)(v:V),ag K m H w v->ag K m1 H1 w v
 |.bK,v,h=>by unfold ag at h ⊢;exact h
 |.bl b,v,h=>by unfold ag at h ⊢;exact h
 |.int i,v,h=>by unfold ag at h ⊢;exact h
 |.str x,v,h=>by unfold ag at h ⊢;exact h
 |.ty n,v,h=>by unfold ag at h ⊢;exact h
 |.cls c,v,h=>by unfold ag at h ⊢;exact h
 |.DS c,v,h=>by unfold ag at h ⊢;obtain⟨a,C,e1,e2,o,vs,e3,e4⟩:=h;exact⟨a,C,e1,e2,o,vs,e.fx _ _ _ e3,e4⟩
 |.ref l,v,h=>by unfold ag at h ⊢;obtain⟨a,e1,e2⟩:=h;exact⟨a,e1,e.pre _ _ e2⟩
 |.tup ws,v,h=>by unfold ag at h ⊢;obtain⟨a,xs,e1,e2,e3⟩:=h;exact⟨a,xs,e1,e.tup _ _ e2,ai.pK e ws xs e3⟩
 |.iY ws,v,h=>by unfold ag at h ⊢;obtain⟨a,xs,e1,e2,e3⟩:=h;exact⟨a,xs,e1,e2,ai.pK e ws xs e3⟩
 |.fn p ws,v,h=>by unfold ag at h ⊢;obtain⟨e1,e2,e3⟩:=h;exact⟨e1,e.ext _ _ e2,ai.pK e ws p.xs e3⟩
theorem ai.pK(e:PX K m H m1 H1):∀(ws:List Wv)(xs:List V),ai K m H ws xs->ai K m1 H1 ws xs
 |[],xs,h=>by unfold ai at h ⊢;exact h
 |w::ws,xs,h=>by unfold ai at h ⊢;obtain⟨x,r,e1,e2,e3⟩:=h;exact⟨x,r,e1,ag.pK e w x e2,ai.pK e ws r e3⟩
end
theorem ag.mono(e:Ext K m H m1 H1)(w:Wv)(v:V)(h:ag K m H w v):ag K m1 H1 w v:=ag.pK e.z w v h
theorem ai.mono(e:Ext K m H m1 H1)(ws:List Wv)(xs:List V)(h:ai K m H ws xs):ai K m1 H1 ws xs:=ai.pK e.z ws xs h
theorem ai.nil:ai K m H [] []:=by unfold ai;rfl
theorem ai.cons{w:Wv}{x:V}{ws:List Wv}{xs:List V}(h:ag K m H w x)(t:ai K m H ws xs):ai K m H (w::ws) (x::xs):=by unfold ai;exact⟨x,xs,rfl,h,t⟩
theorem ai.length:∀{ws:List Wv}{xs:List V},ai K m H ws xs->ws.length=xs.length
 |[],xs,h=>by unfold ai at h;subst h;rfl
 |w::ws,xs,h=>by unfold ai at h;obtain⟨x,r,e1,_,e3⟩:=h;subst e1;simp[ai.length e3]
theorem ai.get:∀{ws:List Wv}{xs:List V}{i:Nat}{w:Wv},ai K m H ws xs->ws[i]? =some w->∃x,xs[i]? =some x/\ag K m H w x
 |[],_,i,w,_,e=>by simp at e
 |a::ws,xs,0,w,h,e=>by unfold ai at h;obtain⟨x,r,e1,e2,_⟩:=h;subst e1;simp at e;subst e;exact⟨x,rfl,e2⟩
 |a::ws,xs,i+1,w,h,e=>by unfold ai at h;obtain⟨x,r,e1,_,e3⟩:=h;subst e1;obtain⟨y,f1,f2⟩:=ai.get (i:=i) (w:=w) e3 (by simpa using e);exact⟨y,by simpa using f1,f2⟩
theorem ai.append:∀{ws zs:List Wv}{xs ys:List V},ai K m H ws xs->ai K m H zs ys->ai K m H (ws++zs) (xs++ys)
 |[],_,xs,_,h,g=>by unfold ai at h;subst h;exact g
 |w::ws,zs,xs,ys,h,g=>by unfold ai at h;obtain⟨x,r,e1,e2,e3⟩:=h;subst e1;exact ai.cons e2 (ai.append e3 g)
theorem ai.set:∀{ws:List Wv}{xs:List V}(i:Nat){w:Wv}{x:V},ai K m H ws xs->ag K m H w x->ai K m H (ws.set i w) (xs.set i x)
 |[],xs,i,w,x,h,_=>by unfold ai at h;subst h;exact ai.nil
 |a::ws,xs,0,w,x,h,g=>by unfold ai at h;obtain⟨y,r,e1,e2,e3⟩:=h;subst e1;exact ai.cons g e3
 |a::ws,xs,i+1,w,x,h,g=>by unfold ai at h;obtain⟨y,r,e1,e2,e3⟩:=h;subst e1;exact ai.cons e2 (ai.set i e3 g)
theorem ai.drop:∀{ws:List Wv}{xs:List V}(i:Nat),ai K m H ws xs->ai K m H (ws.drop i) (xs.drop i)
 |ws,xs,0,h=>by simpa using h
 |[],xs,i+1,h=>by unfold ai at h;subst h;simpa using ai.nil
 |a::ws,xs,i+1,h=>by unfold ai at h;obtain⟨y,r,e1,e2,e3⟩:=h;subst e1;simpa using ai.drop i e3
theorem ai.take:∀{ws:List Wv}{xs:List V}(i:Nat),ai K m H ws xs->ai K m H (ws.take i) (xs.take i)
 |ws,xs,0,h=>by simpa using ai.nil
 |[],xs,i+1,h=>by unfold ai at h;subst h;simpa using ai.nil
 |a::ws,xs,i+1,h=>by unfold ai at h;obtain⟨y,r,e1,e2,e3⟩:=h;subst e1;simpa using ai.cons e2 (ai.take i e3)
theorem ai.ints:∀(ns:List Int),ai K m H (ns.map Wv.int) (ns.map V.int)
 |[]=>ai.nil
 |n::ns=>ai.cons (by unfold ag;rfl) (ai.ints ns)
end
def xE(K:PySem.W.Frag)(H:Hp)(a:afR)(ns:List Int):Prop :=
 (∃o,H a=some (.iV o (.lst (ns.map V.int))))\/
  ∃(o:Obj)(its:Array afX)(n:Nat),K.lookup a=some o/\o.cls= .type "list"/\o.dict=none/\o.data= .seq its n/\its.size<=af8/\Vals (ns.map V.int) its.toList
variable{κ:Type}
def RelK(K:PySem.W.Frag)(m:Mp)(H:Hp)(kvs:List (κ×Wv))(xs:List (κ×V)):Prop:=kvs.map (·.1)=xs.map (·.1)/\ai K m H (kvs.map (·.2)) (xs.map (·.2))
def tZ(K:PySem.W.Frag)(m:Mp)(H:Hp)(a:afR):Ob->Prop
 |.lst ws=>∃xs,H a=some (.lst xs)/\ai K m H ws xs
 |.xm ns=>xE K H a ns
 |.dct kvs=>∃xs,H a=some (.dK xs)/\RelK K m H kvs xs
 |.gM kvs=>∃xs,H a=some (.dT xs)/\RelK K m H kvs xs
 |.BW kvs=>∃o xs,H a=some (.iV o (.dT xs))/\RelK K m H kvs xs
 |.E7 kvs=>∃o xs,H a=some (.iV o (.dK xs))/\RelK K m H kvs xs
 |.FU kvs=>∃xs,H a=some (.dN xs)/\RelK K m H kvs xs
 |.ins c fs=>∃C dx xs,H a=some (.ins C dx xs)/\ClsAt K c C/\RelK K m H fs xs
def Ob.mu:Ob->Bool
 |.xm _=>false
 |_=>true
def Ob.wm:Ob->Bool
 |.xm _=>false
 |.BW _=>false
 |.E7 _=>false
 |_=>true
theorem Ob.UR{o:Ob}(h:o.wm=true):o.mu=true:=by cases o<;>first |rfl |cases h
structure bJ(K:PySem.W.Frag)(m:Mp)(st:Hs)(H:Hp):Prop where
 len:m.length=st.length
 obj:∀(l:Nat)(a:afR)(o:Ob),m[l]? =some a->st[l]? =some o->tZ K m H a o
 inj:∀(l l':Nat)(a:afR)(o o':Ob),m[l]? =some a->m[l']? =some a->st[l]? =some o->st[l']? =some o'->o.mu=true->o'.mu=true->l=l'
 tab:vM K H
def ao(st:Hs)(l:Nat):Option (List Wv):=match st[l]? with
 |some (.lst ws)=>some ws
 |some (.xm ns)=>some (ns.map Wv.int)
 |_=>none
variable{l:Nat}{ob:Ob}{ws:List Wv}{o u:HO}{p a b:afR}{xs:List V}{m1:Mp}{H1:Hp}
section
variable {K:PySem.W.Frag}{m:Mp}{H:Hp}{st:Hs}
def Wr(u:Option HO):Prop:=u=none\/(∃ys,u=some (.lst ys))\/(∃ys,u=some (.dK ys))\/(∃ys,u=some (.dT ys))\/(∃ys,u=some (.dN ys))\/∃C dx fs,u=some (.ins C dx fs)
theorem Wr.ne(hp:Wr (H p))(e:H a=some u)(n1:∀ys,u≠.lst ys)(n2:∀ys,u≠.dK ys)(n3:∀ys,u≠.dT ys)(n4:∀ys,u≠.dN ys)(n5:∀C dx fs,u≠.ins C dx fs:=by nofun):a≠p:=λz=>by
 subst z;rcases hp with q |⟨ys,q⟩ |⟨ys,q⟩ |⟨ys,q⟩ |⟨ys,q⟩ |⟨C,dx,fs,q⟩
 ·rw[q]at e;cases e
 ·rw[q]at e;cases e;exact n1 ys rfl
 ·rw[q]at e;cases e;exact n2 ys rfl
 ·rw[q]at e;cases e;exact n3 ys rfl
 ·rw[q]at e;cases e;exact n4 ys rfl
 ·rw[q]at e;cases e;exact n5 C dx fs rfl
theorem FW(hp:Wr (H p))(h:H a=some (.tup xs)):upd H p o a=some (.tup xs):=by rw[aI (hp.ne h nofun nofun nofun nofun)];exact h
theorem FX{ns:List Int}(hp:Wr (H p))(h:xE K H a ns):xE K (upd H p o) a ns:=by
 rcases h with ⟨o',h⟩ |h
 ·exact .inl ⟨o',by rw[aI (hp.ne h nofun nofun nofun nofun)];exact h⟩
 ·exact .inr h
theorem Wr.of{u:Option HO}(h:u=none\/∃ys,u=some (.lst ys)):Wr u:=by
 rcases h with q |q
 ·exact .inl q
 ·exact .inr (.inl q)
theorem Ext.mJ(hp:Wr (H p)):Ext K m H m (upd H p o):=⟨λ_ _ h=>h,λ_ _ h=>FW hp h,λa φ h=>by
 rw[aI (hp.ne h nofun nofun nofun nofun)];exact h,λa o u h=>by
 rw[aI (hp.ne h nofun nofun nofun nofun)];exact h⟩
theorem Ext.upd{p:afR}{o:HO}(hp:H p=none\/∃ys,H p=some (.lst ys)):Ext K m H m (upd H p o):=Ext.mJ (Wr.of hp)
theorem RelK.mono{kvs:List (κ×Wv)}{xs:List (κ×V)}(e:Ext K m H m1 H1)(h:RelK K m H kvs xs):RelK K m1 H1 kvs xs:=⟨h.1,ai.mono e _ _ h.2⟩
theorem tZ.keep{o:Ob}(ex:Ext K m H m1 (L2.upd H p u))(hp:Wr (H p))(hb:o.mu=true->b≠p)(h:tZ K m H b o):tZ K m1 (L2.upd H p u) b o:=by
 cases o with
 |lst ws=>obtain⟨xs,e1,e2⟩:=h;exact⟨xs,by rw[aI (hb rfl)];exact e1,ai.mono ex _ _ e2⟩
 |dct kvs=>obtain⟨xs,e1,e2⟩:=h;exact⟨xs,by rw[aI (hb rfl)];exact e1,e2.mono ex⟩
 |gM kvs=>obtain⟨xs,e1,e2⟩:=h;exact⟨xs,by rw[aI (hb rfl)];exact e1,e2.mono ex⟩
 |BW kvs=>obtain⟨o,xs,e1,e2⟩:=h;exact⟨o,xs,by rw[aI (hb rfl)];exact e1,e2.mono ex⟩
 |E7 kvs=>obtain⟨o,xs,e1,e2⟩:=h;exact⟨o,xs,by rw[aI (hb rfl)];exact e1,e2.mono ex⟩
 |FU kvs=>obtain⟨xs,e1,e2⟩:=h;exact⟨xs,by rw[aI (hb rfl)];exact e1,e2.mono ex⟩
 |ins c fs=>obtain⟨C,dx,xs,e1,e2,e3⟩:=h;exact⟨C,dx,xs,by rw[aI (hb rfl)];exact e1,e2,e3.mono ex⟩
 |xm ns=>exact FX hp h
theorem tZ.at{b:afR}{o:Ob}(h:tZ K m H b o)(hm:o.mu=true):∃u,H b=some u:=by
 cases o with
 |lst ws=>obtain⟨xs,e1,e2⟩:=h;exact⟨_,e1⟩
 |dct kvs=>obtain⟨xs,e1,e2⟩:=h;exact⟨_,e1⟩
 |gM kvs=>obtain⟨xs,e1,e2⟩:=h;exact⟨_,e1⟩
 |BW kvs=>obtain⟨o,xs,e1,e2⟩:=h;exact⟨_,e1⟩
 |E7 kvs=>obtain⟨o,xs,e1,e2⟩:=h;exact⟨_,e1⟩
 |FU kvs=>obtain⟨xs,e1,e2⟩:=h;exact⟨_,e1⟩
 |ins c fs=>obtain⟨C,dx,xs,e1,e2⟩:=h;exact⟨_,e1⟩
 |xm ns=>simp[Ob.mu]at hm
theorem tZ.wr{o:Ob}(h:tZ K m H b o)(hm:o.wm=true):Wr (H b):=by
 cases o with
 |lst ws=>obtain⟨xs,e1,e2⟩:=h;exact .inr (.inl ⟨_,e1⟩)
 |dct kvs=>obtain⟨xs,e1,e2⟩:=h;exact .inr (.inr (.inl ⟨_,e1⟩))
 |gM kvs=>obtain⟨xs,e1,e2⟩:=h;exact .inr (.inr (.inr (.inl ⟨_,e1⟩)))
 |FU kvs=>obtain⟨xs,e1,e2⟩:=h;exact .inr (.inr (.inr (.inr (.inl ⟨_,e1⟩))))
 |ins c fs=>obtain⟨C,dx,xs,e1,e2⟩:=h;exact .inr (.inr (.inr (.inr (.inr ⟨_,_,_,e1⟩))))
 |BW kvs=>cases hm
 |E7 kvs=>cases hm
 |xm ns=>cases hm
theorem vM.mJ(t:vM K H)(hp:Wr (H p)):vM K (L2.upd H p o):=t.keep
 (λa ps h=>by rw[aI (hp.ne h nofun nofun nofun nofun)];exact h)
 λa φ h=>by rw[aI (hp.ne h nofun nofun nofun nofun)];exact h
theorem Ext.more:Ext K m H (m++[p]) H:=⟨λl a h=>by
 rw[dM]
 ·exact h
 ·exact(List.getElem?_eq_some_iff.mp h).1,λ_ _ h=>h,λ_ _ h=>h,λ_ _ _ h=>h⟩
theorem bJ.fresh(S:bJ K m st H)(hp:H p=none):bJ K m st (upd H p o) :=
 ⟨S.len,λl a ob h1 h2=>by have q:=S.obj l a ob h1 h2;refine q.keep (Ext.mJ (.inl hp)) (.inl hp) λhm=>?_;obtain⟨u,e⟩:=q.at hm;exact cD e hp,S.inj,S.tab.mJ (.inl hp)⟩
theorem bJ.rh(S:bJ K m st H)(h1:m[l]? =some a)(h2:st[l]? =some (.lst ws)):∃xs,H a=some (.lst xs)/\ai K m H ws xs:=S.obj l a _ h1 h2
theorem bJ.read(S:bJ K m st H)(h1:m[l]? =some a)(h2:ao st l=some ws):∃xs,l5 K H a xs/\ai K m H ws xs:=by
 unfold ao at h2;cases e:st[l]? with
 |none=>rw[e]at h2;cases h2
 |some o=>
  rw[e]at h2;cases o with
  |lst zs=>cases h2;obtain⟨xs,e1,e2⟩:=S.rh h1 e;exact⟨xs,l5.of e1,e2⟩
  |dct kvs=>cases h2
  |gM kvs=>cases h2
  |BW kvs=>cases h2
  |E7 kvs=>cases h2
  |FU kvs=>cases h2
  |ins c fs=>cases h2
  |xm ns=>
   cases h2;have q:xE K H a ns:=S.obj l a _ h1 e;refine⟨ns.map V.int,?_,ai.ints ns⟩;rcases q with ⟨o,q⟩ |q
   ·exact .inl (.inr ⟨o,q⟩)
   ·exact .inr q
theorem bJ.FY(S:bJ K m st H)(hp:H p=none)(r:tZ K (m++[p]) (L2.upd H p u) p ob):bJ K (m++[p]) (st++[ob]) (L2.upd H p u):=by
 have ex:Ext K m H (m++[p]) (L2.upd H p u):=Ext.more.trans (Ext.mJ (.inl hp));have FZ:∀(l:Nat)(o:Ob),m[l]? =some p->st[l]? =some o->o.mu=true->False:=λl o h1 h2 hm=>by obtain⟨v,e⟩:=(S.obj l p o h1 h2).at hm;rw[hp]at e;cases e
 have old:∀(l:Nat)(a:afR),(m++[p])[l]? =some a->(l < m.length/\m[l]? =some a)\/(l=m.length/\a=p):=λl a h=>by
  by_cases hl:l < m.length
  ·exact .inl ⟨hl,by rw[dM hl]at h;exact h⟩
  ·have h':=h;rw[fz (by omega)]at h';have z:=List.getElem?_eq_some_iff.mp h';have z1:l - m.length < 1:=by simpa using z.1
   refine .inr ⟨by omega,?_⟩;have e0:l - m.length=0:=by omega
   rw[e0]at h';simpa using h'.symm
 have olds:∀(l:Nat)(o:Ob),l < m.length->(st++[ob])[l]? =some o->st[l]? =some o:=λl o hl h=>by rw[dM (by rw[<-S.len];exact hl)]at h;exact h
 refine⟨by simp[S.len],λl a o h1 h2=>?_,λl l' a zs zs' h1 J6 h2 h2' k k'=>?_,S.tab.mJ (.inl hp)⟩
 ·rcases old l a h1 with ⟨hl,h1⟩ |⟨hl,rfl⟩
  ·have q:=S.obj l a o h1 (olds l o hl h2);refine q.keep ex (.inl hp) λhm=>?_;obtain⟨v,e⟩:=q.at hm;exact cD e hp
  ·have e:o=ob:=by rw[hl,S.len,fz (ar _),qr]at h2;simpa using h2.symm
   subst e;exact r
 ·rcases old l a h1 with ⟨hl,g1⟩ |⟨hl,ea⟩
  ·rcases old l' a J6 with ⟨hl',J7⟩ |⟨hl',ea'⟩
   ·exact S.inj l l' a zs zs' g1 J7 (olds l _ hl h2) (olds l' _ hl' h2') k k'
   ·rw[ea']at g1;exact(FZ l zs g1 (olds l _ hl h2) k).elim
  ·rcases old l' a J6 with ⟨hl',J7⟩ |⟨hl',_⟩
   ·rw[ea]at J7;exact(FZ l' zs' J7 (olds l' _ hl' h2') k').elim
   ·omega
theorem bJ.alloc(S:bJ K m st H)(hp:H p=none)(r:ai K m H ws xs):bJ K (m++[p]) (st++[.lst ws]) (upd H p (.lst xs)) :=
 S.FY hp ⟨xs,bq,ai.mono (Ext.more.trans (Ext.mJ (.inl hp))) _ _ r⟩
theorem bJ.As{o0:Ob}(S:bJ K m st H)(h1:m[l]? =some a)(h2:st[l]? =some o0)(hw:o0.wm=true)(r:tZ K m (L2.upd H a u) a ob):bJ K m (st.set l ob) (L2.upd H a u):=by
 have wr:Wr (H a):=(S.obj l a o0 h1 h2).wr hw;have hm:=Ob.UR hw;have ex:Ext K m H m (L2.upd H a u):=Ext.mJ wr;have hl:l < st.length:=(List.getElem?_eq_some_iff.mp h2).1;have at':∀(k:Nat)(o:Ob),(st.set l ob)[k]? =some o->(k=l/\o=ob)\/(k≠l/\st[k]? =some o):=λk o h=>by
  by_cases e:l=k
  ·subst e;rw[l3 hl]at h;exact .inl ⟨rfl,(Option.some.inj h).symm⟩
  ·rw[b9 e]at h;exact .inr ⟨λz=>e z.symm,h⟩
 refine⟨by simp[S.len],λk b o g1 g2=>?_,λk k' b us us' g1 J7 g2 Yl q q'=>?_,S.tab.mJ wr⟩
 ·rcases at' k o g2 with ⟨rfl,rfl⟩ |⟨hk,g2⟩
  ·rw[h1]at g1;cases g1;exact r
  ·have q:=S.obj k b o g1 g2;refine q.keep ex wr λho z=>?_;subst z;exact hk (S.inj k l b o o0 g1 h1 g2 h2 ho hm)
 ·have back:∀(k:Nat)(o:Ob),(st.set l ob)[k]? =some o->o.mu=true->∃o',st[k]? =some o'/\o'.mu=true:=λk o h ho=>by
   rcases at' k _ h with ⟨rfl,_⟩ |⟨_,h⟩
   ·exact⟨o0,h2,hm⟩
   ·exact⟨o,h,ho⟩
  obtain⟨u1,e1,f1⟩:=back k us g2 q;obtain⟨u2,e2,f2⟩:=back k' us' Yl q';exact S.inj k k' b u1 u2 g1 J7 e1 e2 f1 f2
theorem bJ.write{zs:List Wv}(S:bJ K m st H)(h1:m[l]? =some a)(h2:st[l]? =some (.lst ws))(r:ai K m H zs xs):bJ K m (st.set l (.lst zs)) (upd H a (.lst xs)) :=
 S.As h1 h2 rfl ⟨xs,bq,ai.mono (Ext.mJ ((S.obj l a _ h1 h2).wr rfl)) _ _ r⟩
end
structure aG(K:PySem.W.Frag)(m:Mp)(H:Hp)(ρ:bX)(σ:St):Prop where
 len:ρ.length=σ.length
 get:∀(i:Nat)(w:Wv),ρ[i]? =some (some w)->∃v,σ[i]? =some (some v)/\ag K m H w v
section
variable {K:PySem.W.Frag}{m m1:Mp}{H H1:Hp}{ρ:bX}{σ:St}
theorem aG.mono(R:aG K m H ρ σ)(e:Ext K m H m1 H1):aG K m1 H1 ρ σ:=⟨R.len,λi w h=>let ⟨v,h1,h2⟩:=R.get i w h;⟨v,h1,ag.mono e _ _ h2⟩⟩
theorem aG.set(R:aG K m H ρ σ)(i:Nat){w:Wv}{v:V}(h:ag K m H w v):aG K m H (ρ.set i (some w)) (σ.set i (some v)):=by
 refine⟨by simp[R.len],λj u e=>?_⟩;by_cases hj:i=j
 ·subst hj;have hi:i < ρ.length:=by have:=(List.getElem?_eq_some_iff.mp e).1;simpa using this
  rw[l3 hi]at e;have e':w=u:=Option.some.inj (Option.some.inj e);subst e';exact⟨v,by rw[l3 (by rw[<-R.len];exact hi)],h⟩
 ·rw[b9 hj]at e;obtain⟨x,h1,h2⟩:=R.get j u e;exact⟨x,by rw[b9 hj];exact h1,h2⟩
end
inductive Re(α:Type) where
 |ok (a:α) (st:Hs)
 |err (c:PySem.Str) (st:Hs)
 |bad
variable{α:Type}
def Re.bind{β:Type}(r:Re α)(f:α->Hs->Re β):Re β:=match r with
 |.ok a st=>f a st
 |.err c st=> .err c st
 |.bad=> .bad
inductive Rs where
 |nx (ρ:bX) (st:Hs)
 |rt (w:Wv) (st:Hs)
 |bk (ρ:bX) (st:Hs)
 |ct (ρ:bX) (st:Hs)
 |err (c:PySem.Str) (ρ:bX) (st:Hs)
 |bad
def Re.bR(ρ:bX)(r:Re α)(f:α->Hs->Rs):Rs:=match r with
 |.ok a st=>f a st
 |.err c st=> .err c ρ st
 |.bad=> .bad
def Re.oE(r:Re α):Re α:=match r with
 |.ok a st=> .ok a st
 |_=> .bad
abbrev GE:=bX->Hs->Re Wv
abbrev GT:=bX->Hs->Re Bool
abbrev GA:=bX->Hs->Re (List Wv)
abbrev GS:=bX->Hs->Rs
def xF(P:afV)(w:afY)(outer:List Env)(H:Hp)(s:afW)(H':Hp)(cls:afX)(e:afX)(s':afW):Prop :=
 ∃(a:afR)(a0:afX)(B:Heap),e= .ref a/\s'.os=s.os/\AllBare s'.gens/\Un (frs outer) [] H H' s.heap s'.heap/\kZ P w H' B/\vL B outer a cls a0 s'.heap/\
  (∀b o,s.heap.get? b=some o->b∉frs outer->∃o',B.get? b=some o'/\(H b=none->o'=o))
def k_(X:Cx)(pins:List (afR×Obj))(H:Hp)(s:afW)(H':Hp)(cls:afX)(e:afX)(s':afW):Prop :=
 ∃(a:afR)(a0 nt:afX)(B:Heap)(ch:List afR),e= .ref a/\s'.os=s.os/\AllBare s'.gens/\(∀b∈ch,ff X pins H b)/\Un (frs X.stack) ch H H' s.heap s'.heap/\kZ X.prog X.w H' B/\
  (B.StaysIn s'.heap/\B.get? a=none/\s'.heap.FunFrames B X.stack/\WV s'.heap B a cls a0 nt)/\
  (∀b o,s.heap.get? b=some o->b∉frs X.stack->b∉ch->∃o',B.get? b=some o'/\(H b=none->o'=o))
variable{X:Cx}
theorem xF.any{pins:List (afR×Obj)}{H':Hp}{s s':afW}{e:afX}(f:xF X.prog X.w X.stack H s H' cls e s'):k_ X pins H s H' cls e s' :=
 let ⟨a,a0,B,e1,e2,e3,un,hok,fl,xG⟩:=f
 ⟨a,a0,.none,B,[],e1,e2,e3,(λb z=>by cases z),un,hok,fl,λb o q hb _=>xG b o q hb⟩
def Au(X:Cx)(σ:St)(H':Hp)(c:PySem.Str)(e:afX)(s':afW):Prop :=
 ∃(C:afR)(pins:List (afR×Obj))(Hc:Hp)(sc:afW),ClsAt X.K c C/\Inv X pins σ Hc sc/\
  (k_ X pins Hc sc H' (.ref C) e s'\/(H'=Hc/\∃a args,e= .ref a/\s'.os=sc.os/\s'.gens=sc.gens/\vN sc.heap s'.heap a (.ref C) args))
def TM(X:Cx)(σ:St)(m:Mp)(H:Hp)(c:PySem.Str)(st:Hs):Prop :=
 ∀(m':Mp)(H':Hp)(e:afX)(s':afW),Ext X.K m H m' H'->bJ X.K m' st H'->Au X σ H' c e s'->X.xe e s'
variable{σ:St}{m:Mp}{st:Hs}
theorem TM.mono{c:PySem.Str}(h:TM X σ m H c st)(e:Ext X.K m H m1 H1):TM X σ m1 H1 c st :=
 λm' H' x s' e' S r=>h m' H' x s' (e.trans e') S r
def aE(X:Cx)(σ:St)(m:Mp)(H:Hp)(r:Re α)(ok:α->Hs->Prop):Prop:=match r with
 |.ok a st=>ok a st
 |.err c st=>TM X σ m H c st
 |.bad=>False
def rj(r:Re α)(ok:α->Hs->Prop):Prop:=match r with
 |.ok a st=>ok a st
 |_=>False
theorem aE.oE{r:Re α}{ok:α->Hs->Prop}(h:aE X σ m H r.oE ok):rj r ok:=by
 cases r with
 |ok a st=>exact h
 |err c st=>exact h
 |bad=>exact h
theorem aE.bind{β:Type}{r:Re α}{f:α->Hs->Re β}{ok:β->Hs->Prop}(h:aE X σ m H (r.bind f) ok):aE X σ m H r (λa st=>aE X σ m H (f a st) ok):=by
 cases r with
 |ok a st=>exact h
 |err c st=>exact h
 |bad=>exact h
theorem aE.imp{r:Re α}{ok ok':α->Hs->Prop}(h:aE X σ m H r ok)(e:Ext X.K m H m1 H1)(k:∀a st,ok a st->ok' a st):aE X σ m1 H1 r ok':=by
 cases r with
 |ok a st=>exact k a st h
 |err c st=>exact TM.mono (c:=c) (st:=st) h e
 |bad=>exact h
theorem rj.imp{r:Re α}{ok ok':α->Hs->Prop}(h:rj r ok)(k:∀a st,ok a st->ok' a st):rj r ok':=by
 cases r with
 |ok a st=>exact k a st h
 |err c st=>exact h
 |bad=>exact h
def TN(K:PySem.W.Frag)(m:Mp)(H:Hp)(Q:VK)(w:Wv)(st:Hs):Prop:=∀(v:V)(m':Mp)(H':Hp),Ext K m H m' H'->bJ K m' st H'->ag K m' H' w v->Q v H'
def okT(K:PySem.W.Frag)(m:Mp)(H:Hp)(Q:Bool->Hp->Prop)(b:Bool)(st:Hs):Prop:=∀(m':Mp)(H':Hp),Ext K m H m' H'->bJ K m' st H'->Q b H'
def okA(K:PySem.W.Frag)(m:Mp)(H:Hp)(Q:List V->Hp->Prop)(ws:List Wv)(st:Hs):Prop:=∀(vs:List V)(m':Mp)(H':Hp),Ext K m H m' H'->bJ K m' st H'->ai K m' H' ws vs->Q vs H'
abbrev gE(X:Cx)(σ:St)(m:Mp)(H:Hp)(r:Re Wv)(Q:VK):Prop:=aE X σ m H r (TN X.K m H Q)
abbrev jK(X:Cx)(σ:St)(m:Mp)(H:Hp)(r:Re Bool)(Q:Bool->Hp->Prop):Prop:=aE X σ m H r (okT X.K m H Q)
abbrev ND(X:Cx)(σ:St)(m:Mp)(H:Hp)(r:Re (List Wv))(Q:List V->Hp->Prop):Prop:=aE X σ m H r (okA X.K m H Q)
variable{r:Re Wv}{Q:VK}
theorem gE.shift(h:gE X σ m H r Q)(e:Ext X.K m H m1 H1):gE X σ m1 H1 r Q:=h.imp e λ_ _ k v m' H' e'=>k v m' H' (e.trans e')
theorem jK.shift{r:Re Bool}{Q:Bool->Hp->Prop}(h:jK X σ m H r Q)(e:Ext X.K m H m1 H1):jK X σ m1 H1 r Q:=h.imp e λ_ _ k m' H' e'=>k m' H' (e.trans e')
abbrev dC(K:PySem.W.Frag)(m:Mp)(H:Hp)(r:Re Wv)(Q:VK):Prop:=rj r (TN K m H Q)
theorem dC.shift(h:dC K m H r Q)(e:Ext K m H m1 H1):dC K m1 H1 r Q:=rj.imp h λ_ _ k v m' H' e'=>k v m' H' (e.trans e')
def aV(X:Cx)(m:Mp)(H:Hp)(r:Rs)(D:Ends):Prop:=match r with
 |.nx ρ st=>∀(σ:St)(m':Mp)(H':Hp),Ext X.K m H m' H'->bJ X.K m' st H'->aG X.K m' H' ρ σ->D.nx σ H'
 |.rt w st=>∀(v:V)(m':Mp)(H':Hp),Ext X.K m H m' H'->bJ X.K m' st H'->ag X.K m' H' w v->D.rt v H'
 |.bk ρ st=>∀(σ:St)(m':Mp)(H':Hp),Ext X.K m H m' H'->bJ X.K m' st H'->aG X.K m' H' ρ σ->D.bk σ H'
 |.ct ρ st=>∀(σ:St)(m':Mp)(H':Hp),Ext X.K m H m' H'->bJ X.K m' st H'->aG X.K m' H' ρ σ->D.ct σ H'
 |.err c ρ st=>∀(σ:St)(m':Mp)(H':Hp)(e:afX)(s':afW),Ext X.K m H m' H'->bJ X.K m' st H'->aG X.K m' H' ρ σ->Au X σ H' c e s'->X.xe e s'
 |.bad=>False
variable{D:Ends}
theorem aV.shift{r:Rs}(h:aV X m H r D)(e:Ext X.K m H m1 H1):aV X m1 H1 r D:=by
 cases r with
 |nx ρ st=>exact λσ m' H' e'=>h σ m' H' (e.trans e')
 |rt w st=>exact λv m' H' e'=>h v m' H' (e.trans e')
 |bk ρ st=>exact λσ m' H' e'=>h σ m' H' (e.trans e')
 |ct ρ st=>exact λσ m' H' e'=>h σ m' H' (e.trans e')
 |err c ρ st=>exact λσ m' H' x s' e'=>h σ m' H' x s' (e.trans e')
 |bad=>exact h
variable{ρ:bX}
theorem aV.df{r:Re α}{f:α->Hs->Rs}(R:aG X.K m H ρ σ)(h:aV X m H (r.bR ρ f) D):aE X σ m H r (λa st=>aV X m H (f a st) D):=by
 cases r with
 |ok a st=>exact h
 |err c st=>exact λm' H' x s' e' S r=>h σ m' H' x s' e' S (R.mono e') r
 |bad=>exact h
def SE(X:Cx)(e:Expr):TE:=λσ H Q=>∀(pins:List (afR×Obj))(s:afW),Inv X pins σ H s->aga (model X.prog X.w) X.A (eval e X.env) (EP X pins σ Q) X.xe s
def ST(X:Cx)(e:Expr):TT:=λσ H Q=>∀(pins:List (afR×Obj))(s:afW),Inv X pins σ H s->aga (model X.prog X.w) X.A (isTrue e X.env (eval e X.env)) (TP X pins σ Q) X.xe s
def SA(X:Cx)(es:List Expr):TA:=λσ H Q=>∀(pos:Pos)(pins:List (afR×Obj))(s:afW),Inv X pins σ H s->aga (model X.prog X.w) X.A (spliced (backTo pos (af9 es X.env))) (AP X pins σ Q) X.xe s
def SS(X:Cx)(st:Stmt):TS:=λD σ H=>∀(pins:List (afR×Obj))(s:afW),Inv X pins σ H s->aga (model X.prog X.w) X.A (exec st X.env) (SP X pins D) X.xe s
def WW(X:Cx)(st:List Stmt):TS:=λD σ H=>∀(pins:List (afR×Obj))(s:afW),Inv X pins σ H s->aga (model X.prog X.w) X.A (execs st X.env) (SP X pins D) X.xe s
variable{e:Expr}{es:List Expr}
section
variable {X:Cx}
theorem br:PE X e (SE X e):=λpins s _ _ _ I h=>h pins s I
theorem rl:PT X e (ST X e):=λpins s _ _ _ I h=>h pins s I
theorem jL:PA X es (SA X es):=λpos pins s _ _ _ I h=>h pos pins s I
theorem NF{st:Stmt}:PS X st (SS X st):=λpins s _ _ _ I h=>h pins s I
theorem iZ{st:List Stmt}:Fi X st (WW X st):=λpins s _ _ _ I h=>h pins s I
end
def JE(X:Cx)(e:Expr)(g:GE):Prop:=∀(ρ:bX)(st:Hs)(σ:St)(H:Hp)(m:Mp)(Q:VK),bJ X.K m st H->aG X.K m H ρ σ->gE X σ m H (g ρ st) Q->SE X e σ H Q
def JT(X:Cx)(e:Expr)(g:GT):Prop:=∀(ρ:bX)(st:Hs)(σ:St)(H:Hp)(m:Mp)(Q:Bool->Hp->Prop),bJ X.K m st H->aG X.K m H ρ σ->jK X σ m H (g ρ st) Q->ST X e σ H Q
def JA(X:Cx)(es:List Expr)(g:GA):Prop:=∀(ρ:bX)(st:Hs)(σ:St)(H:Hp)(m:Mp)(Q:List V->Hp->Prop),bJ X.K m st H->aG X.K m H ρ σ->ND X σ m H (g ρ st) Q->SA X es σ H Q
def JS(X:Cx)(s:Stmt)(g:GS):Prop:=∀(ρ:bX)(st:Hs)(σ:St)(H:Hp)(m:Mp)(D:Ends),bJ X.K m st H->aG X.K m H ρ σ->aV X m H (g ρ st) D->SS X s D σ H
def oK(X:Cx)(s:List Stmt)(g:GS):Prop:=∀(ρ:bX)(st:Hs)(σ:St)(H:Hp)(m:Mp)(D:Ends),bJ X.K m st H->aG X.K m H ρ σ->aV X m H (g ρ st) D->WW X s D σ H
variable{g:GA}{t:TS}
section
variable {X:Cx}
theorem JE.of{g:GE}{t:TE}(h:PE X e t)(k:∀(ρ:bX)(st:Hs)(σ:St)(H:Hp)(m:Mp)(Q:VK),bJ X.K m st H->aG X.K m H ρ σ->gE X σ m H (g ρ st) Q->t σ H Q):JE X e g :=
 λρ st σ H m Q S R p pins s I=>h pins s σ H Q I (k ρ st σ H m Q S R p)
theorem JT.of{g:GT}{t:TT}(h:PT X e t)(k:∀(ρ:bX)(st:Hs)(σ:St)(H:Hp)(m:Mp)(Q:Bool->Hp->Prop),bJ X.K m st H->aG X.K m H ρ σ->jK X σ m H (g ρ st) Q->t σ H Q):JT X e g :=
 λρ st σ H m Q S R p pins s I=>h pins s σ H Q I (k ρ st σ H m Q S R p)
theorem JA.of{t:TA}(h:PA X es t)(k:∀(ρ:bX)(st:Hs)(σ:St)(H:Hp)(m:Mp)(Q:List V->Hp->Prop),bJ X.K m st H->aG X.K m H ρ σ->ND X σ m H (g ρ st) Q->t σ H Q):JA X es g :=
 λρ st σ H m Q S R p pos pins s I=>h pos pins s σ H Q I (k ρ st σ H m Q S R p)
theorem JS.of{e:Stmt}{g:GS}(h:PS X e t)(k:∀(ρ:bX)(st:Hs)(σ:St)(H:Hp)(m:Mp)(D:Ends),bJ X.K m st H->aG X.K m H ρ σ->aV X m H (g ρ st) D->t D σ H):JS X e g :=
 λρ st σ H m D S R p pins s I=>h pins s σ H D I (k ρ st σ H m D S R p)
theorem oK.of{e:List Stmt}{g:GS}(h:Fi X e t)(k:∀(ρ:bX)(st:Hs)(σ:St)(H:Hp)(m:Mp)(D:Ends),bJ X.K m st H->aG X.K m H ρ σ->aV X m H (g ρ st) D->t D σ H):oK X e g :=
 λρ st σ H m D S R p pins s I=>h pins s σ H D I (k ρ st σ H m D S R p)
theorem JE.go{g:GE}{T:VK}{ok:Wv->Hs->Prop}(h:JE X e g)(S:bJ X.K m st H)(R:aG X.K m H ρ σ)(p:aE X σ m H (g ρ st) ok)
  (k:∀(w:Wv)(st1:Hs)(v:V)(m1:Mp)(H1:Hp),ok w st1->Ext X.K m H m1 H1->bJ X.K m1 st1 H1->ag X.K m1 H1 w v->T v H1):SE X e σ H T :=
 h ρ st σ H m T S R (p.imp Ext.refl λw st1 q v m1 H1 e1 s1 r1=>k w st1 v m1 H1 q e1 s1 r1)
theorem JT.go{g:GT}{T:Bool->Hp->Prop}{ok:Bool->Hs->Prop}(h:JT X e g)(S:bJ X.K m st H)(R:aG X.K m H ρ σ)(p:aE X σ m H (g ρ st) ok)
  (k:∀(b:Bool)(st1:Hs)(m1:Mp)(H1:Hp),ok b st1->Ext X.K m H m1 H1->bJ X.K m1 st1 H1->T b H1):ST X e σ H T :=
 h ρ st σ H m T S R (p.imp Ext.refl λb st1 q m1 H1 e1 s1=>k b st1 m1 H1 q e1 s1)
theorem JA.go{T:List V->Hp->Prop}{ok:List Wv->Hs->Prop}(h:JA X es g)(S:bJ X.K m st H)(R:aG X.K m H ρ σ)(p:aE X σ m H (g ρ st) ok)
  (k:∀(ws:List Wv)(st1:Hs)(vs:List V)(m1:Mp)(H1:Hp),ok ws st1->Ext X.K m H m1 H1->bJ X.K m1 st1 H1->ai X.K m1 H1 ws vs->T vs H1):SA X es σ H T :=
 h ρ st σ H m T S R (p.imp Ext.refl λw st1 q v m1 H1 e1 s1 r1=>k w st1 v m1 H1 q e1 s1 r1)
end
end J
namespace J
open PySem PySem.Spec PyProof.Rows L2
def lim:Nat:=1000000
variable{n:Nat}
theorem eD(h:n<=lim):n<=af8:=bZ h (by unfold lim;rw[sizeLine_eq];decide)
theorem Av(h:n < lim):n < af8:=bT h (by unfold lim;rw[sizeLine_eq];decide)
def af(i:Nat):GE:=λρ st=>match ρ[i]? with
 |some (some w)=> .ok w st
 |_=> .bad
def gC(w:Wv):GE:=λ_ st=> .ok w st
variable{x:Str}{pos:Pos}{i:Int}{b a c e:Expr}{t:Tok}{T:String}{ga gb gc:GE}{r:R2}{ρ:bX}{st st1:Hs}{σ:St}{H H1:Hp}{m m1:Mp}{Q:VK}{o:CmpOp}{g:GA}{rest es:List Expr}{gt:GT}{K:PySem.W.Frag}{ws:List Wv}{vs:List V}
section
variable {X:Cx}
theorem Aw(i:Nat)(hN:X.N[i]? =some x:=by rfl)(hv:WN X.env.scope x:=by first |exact l9 rfl |exact l_ (l9 rfl) |exact l_ (l_ rfl))(hd:(x == ("__debug__":Str))=false:=by decide)
  (hcd:(x == ("__classdict__":Str))=false:=by decide):JE X (.Name x pos) (af i):=JE.of (Fj hN hv hd hcd) λρ st σ H m Q S R p=>by
 unfold af at p;cases e:ρ[i]? with
 |none=>rw[e]at p;exact ae p
 |some o=>
  cases o with
  |none=>rw[e]at p;exact ae p
  |some w=>rw[e]at p;obtain⟨v,h1,h2⟩:=R.get i w e;exact⟨v,h1,p v m H Ext.refl S h2⟩
theorem PY{j pos}:JE X (.Constant (.int i) j pos) (gC (.int i)):=JE.of OW λρ st σ H m Q S R p=>p (.int i) m H Ext.refl S (by unfold ag;rfl)
theorem US{b:Bool}{j pos}:JE X (.Constant (.bool b) j pos) (gC (.bl b)):=JE.of Ub λρ st σ H m Q S R p=>p (.bl b) m H Ext.refl S (by unfold ag;rfl)
theorem PZ{j pos}:JE X (.Constant .none j pos) (gC .bK):=JE.of OX λρ st σ H m Q S R p=>p .bK m H Ext.refl S (by unfold ag;rfl)
theorem P0{x:PySem.Str}{j pos}(hx:bB x=true:=by decide+kernel):JE X (.Constant (.str x) j pos) (gC (.str x)):=JE.of OY λρ st σ H m Q S R p=>p (.str x) m H Ext.refl S (by unfold ag;exact⟨rfl,hx⟩)
theorem F0(hg:Gl X x)(hm:X.mg x=some (.int i t))(hd:(x == ("__debug__":Str))=false:=by decide):JE X (.Name x pos) (gC (.int i)) :=
 JE.of (j5 (v:=.int i) hg hm ⟨t,rfl⟩ hd) λρ st σ H m Q S R p=>p (.int i) m H Ext.refl S (by unfold ag;rfl)
theorem F2{y:Str}(hg:Gl X x)(hm:X.mg x=some (.str y t))(hy:bB y=true:=by decide+kernel)(hd:(x == ("__debug__":Str))=false:=by decide):JE X (.Name x pos) (gC (.str y)) :=
 JE.of (j5 (v:=.str y) hg hm ⟨t,rfl⟩ hd) λρ st σ H m Q S R p=>p (.str y) m H Ext.refl S (by unfold ag;exact⟨rfl,hy⟩)
theorem UT(hg:Gl X x)(hm:X.mg x=none)(hv:af1 x=some (.type T))(hn:x≠"__name__":=by decide)(hd:(x == ("__debug__":Str))=false:=by decide):JE X (.Name x pos) (gC (.ty T)) :=
 JE.of (Ku (v:=.ty T) hg hm hv rfl hn hd) λρ st σ H m Q S R p=>p (.ty T) m H Ext.refl S (by unfold ag;rfl)
abbrev fX:=Wv->Wv->Hs->Re Wv
def ah(op:fX)(ga gb:GE):GE:=λρ st=>(ga ρ st).bind λx st1=>(gb ρ st1).bind λy st2=>(op x y st2).oE
def BX(X:Cx)(op:fX)(r:R2):Prop:=∀(x y:Wv)(a b:V)(st:Hs)(H:Hp)(m:Mp)(Q:VK),bJ X.K m st H->ag X.K m H x a->ag X.K m H y b->dC X.K m H (op x y st) Q->r a b H Q
def jU(X:Cx)(f:afX->afX->Sem afX)(op:fX):Prop:=∃r,fV X f r/\BX X op r
theorem BY{op:fX}(h2:BX X op r)(ha:JE X a ga)(hb:JE X b gb)(S:bJ X.K m st H)(R:aG X.K m H ρ σ)(p:gE X σ m H (ah op ga gb ρ st) Q):
  Ur r (SE X a) (SE X b) σ H Q:=by
 refine ha.go S R (aE.bind p) λx st1 v m1 H1 p1 e1 S1 rx=>?_;refine hb.go S1 (R.mono e1) ((aE.bind p1).imp e1 λ_ _ q=>q) λy st2 u m2 H2 p2 e2 S2 ry=>?_;exact h2 x y v u st2 H2 m2 Q S2 (ag.mono e2 _ _ rx) ry (dC.shift (aE.oE p2) (e1.trans e2))
theorem P4{o:Operator}{op:fX}(ho:jU X (af0 o) op)(ha:JE X a ga)(hb:JE X b gb):JE X (.BinOp a o b pos) (ah op ga gb):=by obtain⟨r,h1,h2⟩:=ho;exact JE.of (Us h1 br br) λρ st σ H m Q S R p=>BY h2 ha hb S R p
theorem P5{op:fX}(ho:jU X (af4 o) op)(ha:JE X a ga)(hb:JE X b gb)(hm:afZ o b=false):JE X (.Compare a [o] [b] pos) (ah op ga gb):=by obtain⟨r,h1,h2⟩:=ho;exact JE.of (KL h1 br br hm) λρ st σ H m Q S R p=>BY h2 ha hb S R p
def NG(w:Wv)(st:Hs):Re Bool:=match w with
 |.bl b=> .ok b st
 |_=> .bad
def b_(g:GE):GT:=λρ st=>(g ρ st).bind NG
theorem xH{r:Re Wv}{Q:Bool->Hp->Prop}(p:jK X σ m H (r.bind NG) Q):gE X σ m H r (λx H'=>∃k,x= .bl k/\Q k H'):=by
 cases r with
 |ok w st=>
  cases w with
  |bl b=>intro v m' H' e S rw';unfold ag at rw';exact⟨b,rw',p m' H' e S⟩
  |_=>exact ae p
 |err c st=>exact p
 |bad=>exact p
theorem P6{op:fX}(ho:jU X (af4 o) op)(ha:JE X a ga)(hb:JE X b gb)(hm:afZ o b=false):JT X (.Compare a [o] [b] pos) (b_ (ah op ga gb)):=by obtain⟨r,h1,h2⟩:=ho;exact JT.of (KN h1 br br hm) λρ st σ H m Q S R p=>BY h2 ha hb S R (xH p)
def lh(op op':fX)(ga gb gc:GE):GE:=λρ st=>(ga ρ st).bind λx st1=>(gb ρ st1).bind λy st2=>(op x y st2).oE.bind λz st3=>match z with
 |.bl true=>(gc ρ st3).bind λu BZ=>(op' y u BZ).oE
 |.bl false=> .ok (.bl false) st3
 |_=> .bad
theorem NH{op op':fX}{r':R2}(h2:BX X op r)(h2':BX X op' r')(ha:JE X a ga)(hb:JE X b gb)(hc:JE X c gc)
  (S:bJ X.K m st H)(R:aG X.K m H ρ σ)(p:gE X σ m H (lh op op' ga gb gc ρ st) Q):Ab r r' (SE X a) (SE X b) (SE X c) σ H Q:=by
 refine ha.go S R (aE.bind p) λx st1 v m1 H1 p1 e1 S1 rx=>?_;refine hb.go S1 (R.mono e1) ((aE.bind p1).imp e1 λ_ _ q=>q) λy st2 u m2 H2 p2 e2 S2 ry=>?_;refine h2 x y v u st2 H2 m2 _ S2 (ag.mono e2 _ _ rx) ry (rj.imp (aE.oE (aE.bind p2)) λz st3 p3=>?_);intro z' m3 H3 e3 S3 rz;cases z with
 |bl k=>
  unfold ag at rz;refine⟨k,rz,?_⟩;cases k with
  |true=>rw[if_pos rfl];refine hc.go S3 (R.mono (e1.trans (e2.trans e3))) ((aE.bind p3).imp (e1.trans (e2.trans e3)) λ_ _ q=>q) λq BZ u' m4 H4 p4 e4 S4 rq=>?_;exact h2' y q u u' BZ H4 m4 Q S4 (ag.mono (e3.trans e4) _ _ ry) rq (dC.shift (aE.oE p4) (e1.trans (e2.trans (e3.trans e4))))
  |false=>rw[if_neg bF];exact p3 (.bl false) m3 H3 (e1.trans (e2.trans e3)) S3 (by unfold ag;rfl)
 |_=>exact ae p3
theorem F3{o':CmpOp}{op op':fX}(ho:jU X (af4 o) op)(ho':jU X (af4 o') op')(ha:JE X a ga)(hb:JE X b gb)(hc:JE X c gc)
  (hm:lastMarks [o,o'] [b,c]=false:=by with_unfolding_all rfl):JE X (.Compare a [o,o'] [b,c] pos) (lh op op' ga gb gc):=by
 obtain⟨r,h1,h2⟩:=ho;obtain⟨r',J6,h2'⟩:=ho';exact JE.of (Fv h1 J6 br br br hm) λρ st σ H m Q S R p=>NH h2 h2' ha hb hc S R p
theorem F4{o':CmpOp}{op op':fX}(ho:jU X (af4 o) op)(ho':jU X (af4 o') op')(ha:JE X a ga)(hb:JE X b gb)(hc:JE X c gc)
  (hm:lastMarks [o,o'] [b,c]=false:=by with_unfolding_all rfl):JT X (.Compare a [o,o'] [b,c] pos) (b_ (lh op op' ga gb gc)):=by
 obtain⟨r,h1,h2⟩:=ho;obtain⟨r',J6,h2'⟩:=ho';exact JT.of (Fw h1 J6 br br br hm) λρ st σ H m Q S R p=>NH h2 h2' ha hb hc S R (xH p)
def gUn(op:Wv->Hs->Re Wv)(ga:GE):GE:=λρ st=>(ga ρ st).bind op
def F5:Wv->Hs->Re Wv
 |.int i,st=> .ok (.int (-i)) st
 |_,_=> .bad
theorem P7(ha:JE X a ga):JE X (.UnaryOp .USub a pos) (gUn F5 ga):=by
 refine JE.of (Ut Pj br) λρ st σ H m Q S R p=>?_;refine ha.go S R (aE.bind p) λx st1 v m1 H1 p1 e1 S1 rx=>?_;cases x with
 |int i=>unfold ag at rx;exact⟨i,rx,p1 _ m1 H1 e1 S1 (by unfold ag;rfl)⟩
 |_=>exact ae p1
def SW(X:Cx)(e:Expr):TT:=λσ H Q=>∀(wh:Sem afX)(pins:List (afR×Obj))(s:afW),Inv X pins σ H s->aga (model X.prog X.w) X.A (isTrue e X.env wh) (TP X pins σ Q) X.xe s
theorem NI:PW X e (SW X e):=λwh pins s _ _ _ I h=>h wh pins s I
def JW(X:Cx)(e:Expr)(g:GT):Prop:=∀(ρ:bX)(st:Hs)(σ:St)(H:Hp)(m:Mp)(Q:Bool->Hp->Prop),bJ X.K m st H->aG X.K m H ρ σ->jK X σ m H (g ρ st) Q->SW X e σ H Q
theorem JW.of{g:GT}{t:TT}(h:PW X e t)(k:∀(ρ:bX)(st:Hs)(σ:St)(H:Hp)(m:Mp)(Q:Bool->Hp->Prop),bJ X.K m st H->aG X.K m H ρ σ->jK X σ m H (g ρ st) Q->t σ H Q):JW X e g :=
 λρ st σ H m Q S R p wh pins s I=>h wh pins s σ H Q I (k ρ st σ H m Q S R p)
theorem JW.jt{g:GT}(h:JW X e g):JT X e g:=λρ st σ H m Q S R p pins s I=>h ρ st σ H m Q S R p _ pins s I
def F6(ga gb:GT):GT:=λρ st=>(ga ρ st).bind λb st1=>if b=true then gb ρ st1 else .ok false st1
def F7(ga gb:GT):GT:=λρ st=>(ga ρ st).bind λb st1=>if b=true then .ok true st1 else gb ρ st1
def oM(ga:GT):GT:=λρ st=>(ga ρ st).bind λb st1=> .ok (!b) st1
theorem Lb{ga:GT}(ha:JT X a ga):JW X (.BoolOp .And [a] pos) ga:=JW.of (Kv rl) λρ st σ H m Q S R p=>ha ρ st σ H m Q S R p
theorem P8{ga:GT}(ha:JT X a ga):JW X (.BoolOp .Or [a] pos) ga:=JW.of (O0 rl) λρ st σ H m Q S R p=>ha ρ st σ H m Q S R p
theorem P9{ga gb:GT}(ha:JT X a ga)(hb:JW X (.BoolOp .And (b::rest) pos) gb):JW X (.BoolOp .And (a::b::rest) pos) (F6 ga gb):=by
 refine JW.of (O3 rl NI) λρ st σ H m Q S R p=>?_;refine ha.go S R (aE.bind p) λc st1 m1 H1 p1 e1 S1=>?_;cases c with
 |true=>rw[if_pos rfl]at p1 ⊢;exact hb ρ st1 σ H1 m1 Q S1 (R.mono e1) (jK.shift p1 e1)
 |false=>rw[if_neg bF]at p1 ⊢;exact p1 m1 H1 e1 S1
theorem UU{ga gb:GT}(ha:JT X a ga)(hb:JW X (.BoolOp .Or (b::rest) pos) gb):JW X (.BoolOp .Or (a::b::rest) pos) (F7 ga gb):=by
 refine JW.of (Uc rl NI) λρ st σ H m Q S R p=>?_;refine ha.go S R (aE.bind p) λc st1 m1 H1 p1 e1 S1=>?_;cases c with
 |true=>rw[if_pos rfl]at p1 ⊢;exact p1 m1 H1 e1 S1
 |false=>rw[if_neg bF]at p1 ⊢;exact hb ρ st1 σ H1 m1 Q S1 (R.mono e1) (jK.shift p1 e1)
theorem P_{ga:GT}(ha:JT X a ga):JT X (.UnaryOp .Not a pos) (oM ga):=by refine JT.of (O4 rl) λρ st σ H m Q S R p=>?_;exact ha.go S R (aE.bind p) λc st1 m1 H1 p1 e1 S1=>p1 m1 H1 e1 S1
def iA(ga gb:GE):GE:=λρ st=>(ga ρ st).bind λw st1=>match w with
 |.bl true=>gb ρ st1
 |.bl false=> .ok (.bl false) st1
 |_=> .bad
def xI(ga gb:GE):GE:=λρ st=>(ga ρ st).bind λw st1=>match w with
 |.bl true=> .ok (.bl true) st1
 |.bl false=>gb ρ st1
 |_=> .bad
def B0(ga:GE):GE:=λρ st=>(ga ρ st).bind λw st1=>match w with
 |.bl b=> .ok (.bl (!b)) st1
 |_=> .bad
theorem F8{op}(ha:JE X a ga):JE X (.BoolOp op [a] pos) ga:=JE.of (O5 br) λρ st σ H m Q S R p=>ha ρ st σ H m Q S R p
theorem Qa(ha:JE X a ga)(hb:JE X (.BoolOp .And (b::rest) pos) gb):JE X (.BoolOp .And (a::b::rest) pos) (iA ga gb):=by
 refine JE.of (O6 br br) λρ st σ H m Q S R p=>?_;refine ha.go S R (aE.bind p) λx st1 v m1 H1 p1 e1 S1 rx=>?_;cases x with
 |bl c=>
  unfold ag at rx;refine⟨c,rx,?_⟩;cases c with
  |true=>rw[if_pos rfl];exact hb ρ st1 σ H1 m1 Q S1 (R.mono e1) (gE.shift p1 e1)
  |false=>rw[if_neg bF];exact p1 _ m1 H1 e1 S1 (by unfold ag;rfl)
 |_=>exact ae p1
theorem UW(ha:JE X a ga)(hb:JE X (.BoolOp .Or (b::rest) pos) gb):JE X (.BoolOp .Or (a::b::rest) pos) (xI ga gb):=by
 refine JE.of (Ug br br) λρ st σ H m Q S R p=>?_;refine ha.go S R (aE.bind p) λx st1 v m1 H1 p1 e1 S1 rx=>?_;cases x with
 |bl c=>
  unfold ag at rx;refine⟨c,rx,?_⟩;cases c with
  |true=>rw[if_pos rfl];exact p1 _ m1 H1 e1 S1 (by unfold ag;rfl)
  |false=>rw[if_neg bF];exact hb ρ st1 σ H1 m1 Q S1 (R.mono e1) (gE.shift p1 e1)
 |_=>exact ae p1
theorem Qb(ha:JE X a ga):JE X (.UnaryOp .Not a pos) (B0 ga):=by
 refine JE.of (O7 br) λρ st σ H m Q S R p=>?_;refine ha.go S R (aE.bind p) λx st1 v m1 H1 p1 e1 S1 rx=>?_;cases x with
 |bl c=>unfold ag at rx;exact⟨c,rx,p1 _ m1 H1 e1 S1 (by unfold ag;rfl)⟩
 |_=>exact ae p1
def Lc(gt:GT)(ga gb:GE):GE:=λρ st=>(gt ρ st).bind λb st1=>if b=true then ga ρ st1 else gb ρ st1
theorem UX(hc:JT X c gt)(ha:JE X a ga)(hb:JE X b gb):JE X (.IfExp c a b pos) (Lc gt ga gb):=by
 refine JE.of (Fl rl br br) λρ st σ H m Q S R p=>?_;refine hc.go S R (aE.bind p) λk st1 m1 H1 p1 e1 S1=>?_;cases k with
 |true=>rw[if_pos rfl]at p1 ⊢;exact ha ρ st1 σ H1 m1 Q S1 (R.mono e1) (gE.shift p1 e1)
 |false=>rw[if_neg bF]at p1 ⊢;exact hb ρ st1 σ H1 m1 Q S1 (R.mono e1) (gE.shift p1 e1)
def aj:GA:=λ_ st=> .ok [] st
def aa(ga:GE)(gr:GA):GA:=λρ st=>(ga ρ st).bind λx st1=>(gr ρ st1).bind λxs st2=> .ok (x::xs) st2
theorem F9:JA X [] aj:=JA.of Fy λρ st σ H m Q S R p=>p [] m H Ext.refl S ai.nil
theorem B1{gr:GA}(ha:JE X e ga)(hr:JA X es gr)(hs:af9 (e::es) X.env=(false,eval e X.env)::af9 es X.env:=by rfl):JA X (e::es) (aa ga gr):=by refine JA.of (BL br jL hs) λρ st σ H m Q S R p=>?_;refine ha.go S R (aE.bind p) λx st1 v m1 H1 p1 e1 S1 rx=>?_;refine hr.go S1 (R.mono e1) ((aE.bind p1).imp e1 λ_ _ q=>q) λxs st2 vs m2 H2 p2 e2 S2 rs=>?_;exact p2 (v::vs) m2 H2 (e1.trans e2) S2 (ai.cons (ag.mono e2 _ _ rx) rs)
def cU(g:GA):GE:=λρ st=>(g ρ st).bind λws st1=>if ws.length<=lim then .ok (.tup ws) st1 else .bad
def jm(g:GA):GE:=λρ st=>(g ρ st).bind λws st1=>if ws.length<=lim then .ok (.ref st1.length) (st1++[.lst ws])else .bad
theorem Qc{x1 pos}(h:JA X es g):JE X (.Tuple es x1 pos) (cU g):=by
 refine JE.of (Po jL) λρ st σ H m Q S R p=>?_;refine h.go S R (aE.bind p) λws st1 vs m1 H1 p1 e1 S1 rs=>?_;by_cases hl:ws.length<=lim
 ·rw[if_pos hl]at p1;refine⟨by rw[<-rs.length];exact eD hl,λq hq=>?_⟩;have e2:Ext X.K m1 H1 m1 (upd H1 q (.tup vs)):=Ext.upd (.inl hq);exact p1 (.ref q) m1 _ (e1.trans e2) (S1.fresh hq) (by unfold ag;exact⟨q,vs,rfl,bq,ai.mono e2 _ _ rs⟩)
 ·rw[if_neg hl]at p1;exact ae p1
theorem bJ.newest(S:bJ K m st H)(q:afR)(H':Hp):ag K (m++[q]) H' (.ref st.length) (.ref q):=by unfold ag;refine⟨q,rfl,?_⟩;rw[<-S.len,fz (ar _),qr];rfl
theorem nN(p1:TN X.K m H Q (.ref st1.length) (st1++[.lst ws]))(e1:Ext X.K m H m1 H1)(S1:bJ X.K m1 st1 H1)(rs:ai X.K m1 H1 ws vs)(q:afR)(hq:H1 q=none):
  Q (.ref q) (upd H1 q (.lst vs)) :=
 p1 (.ref q) (m1++[q]) _ (e1.trans (Ext.more.trans (Ext.upd (.inl hq)))) (S1.alloc hq rs) (S1.newest q _)
theorem Qd{pos}(h:JA X es g):JE X (.List es pos) (jm g):=by
 refine JE.of (Pp jL) λρ st σ H m Q S R p=>?_;refine h.go S R (aE.bind p) λws st1 vs m1 H1 p1 e1 S1 rs=>?_;by_cases hl:ws.length<=lim
 ·rw[if_pos hl]at p1;exact⟨by rw[<-rs.length];exact eD hl,λq hq=>nN p1 e1 S1 rs q hq⟩
 ·rw[if_neg hl]at p1;exact ae p1
end
variable{x:PySem.Str}
section
variable {X:Cx}
theorem fV.or{f:afX->afX->Sem afX}{r':R2}(h:fV X f r)(h':fV X f r'):fV X f (λx y H Q=>r x y H Q\/r' x y H Q):=by
 intro pins s σ H x y v u Q I rx ry q;rcases q with q |q
 ·exact h pins s σ H x y v u Q I rx ry q
 ·exact h' pins s σ H x y v u Q I rx ry q
theorem F_:fV X (af0 .FloorDiv) (rI (λ_ j=>j≠0/\j.natAbs.log2 < 9000) λi j=> .int (i.fdiv j)):=WR λi j _ _ _ _ _ hc q=>floordiv_int hc.1 q (.inl (PyProof.noPylong_of_log2 hc.2))
theorem Ld:fV X (af0 .Mod) (rI (λ_ j=>j≠0) λi j=> .int (i.fmod j)):=WR λi j _ _ _ _ _ hc q=>mod_int' hc q
theorem Le:fV X (af0 .Mult) (rI (λi j=>IntMulOk i j) λi j=> .int (i * j)):=WR λ_ _ _ _ _ _ _ hc q=>mul_int q hc
instance Ym{a b:Int}:Decidable (IntMulOk a b):=by unfold IntMulOk;infer_instance
def jM:fX
 |.int i,.int j,st=> .ok (.int (i - j)) st
 |_,_,_=> .bad
def i7:fX
 |.int i,.int j,st=>if j≠0/\j.natAbs.log2 < 9000 then .ok (.int (i.fdiv j)) st else .bad
 |_,_,_=> .bad
def oMod:fX
 |.int i,.int j,st=>if j≠0 then .ok (.int (i.fmod j)) st else .bad
 |_,_,_=> .bad
def rn:fX
 |.int i,.int j,st=>if 0<=j/\j<=1000000/\i.natAbs < 2 ^ 64 then .ok (.int (i ^ j.toNat)) st else .bad
 |_,_,_=> .bad
def UY:fX
 |.int i,.int j,st=> .ok (.bl (decide (i < j))) st
 |.str i,.str j,st=> .ok (.bl (decide (i.cps.toList < j.cps.toList))) st
 |_,_,_=> .bad
def UZ:fX
 |.int i,.int j,st=> .ok (.bl (decide (i<=j))) st
 |_,_,_=> .bad
def Qe:fX
 |.int i,.int j,st=> .ok (.bl (decide (j < i))) st
 |_,_,_=> .bad
def oGe:fX
 |.int i,.int j,st=> .ok (.bl (decide (j<=i))) st
 |_,_,_=> .bad
theorem aX{a:V}(h:ag X.K m H (.int i) a):a= .int i:=by unfold ag at h;exact h
theorem fg{a:V}(h:ag X.K m H (.str x) a):a= .str x/\bB x=true:=by unfold ag at h;exact h
theorem mkInt:ag X.K m H (.int i) (.int i):=by unfold ag;rfl
theorem kY{i:Bool}:ag X.K m H (.bl i) (.bl i):=by unfold ag;rfl
theorem B2:ag X.K m H .bK .bK:=by unfold ag;rfl
theorem mkStr(h:bB x=true):ag X.K m H (.str x) (.str x):=by unfold ag;exact⟨rfl,h⟩
theorem Qf:jU X (af0 .Sub) jM:=⟨_,Pg,λx y a b st H m Q S rx ry p=>by
 cases x with
 |int i=>
  cases y with
  |int j=>exact⟨i,j,aX rx,aX ry,p _ m H Ext.refl S mkInt⟩
  |_=>exact ae p
 |_=>cases y<;>exact ae p⟩
theorem Lf:jU X (af0 .FloorDiv) i7:=⟨_,F_,λx y a b st H m Q S rx ry p=>by
 cases x with
 |int i=>
  cases y with
  |int j=>
   dsimp only[i7]at p;by_cases c:j≠0/\j.natAbs.log2 < 9000
   ·rw[if_pos c]at p;exact⟨i,j,aX rx,aX ry,c,p _ m H Ext.refl S mkInt⟩
   ·rw[if_neg c]at p;exact ae p
  |_=>exact ae p
 |_=>cases y<;>exact ae p⟩
theorem Qg:jU X (af0 .Mod) oMod:=⟨_,Ld,λx y a b st H m Q S rx ry p=>by
 cases x with
 |int i=>
  cases y with
  |int j=>
   dsimp only[oMod]at p;by_cases c:j≠0
   ·rw[if_pos c]at p;exact⟨i,j,aX rx,aX ry,c,p _ m H Ext.refl S mkInt⟩
   ·rw[if_neg c]at p;exact ae p
  |_=>exact ae p
 |_=>cases y<;>exact ae p⟩
theorem Qh:jU X (af0 .Pow) rn:=⟨_,Ph,λx y a b st H m Q S rx ry p=>by
 cases x with
 |int i=>
  cases y with
  |int j=>
   dsimp only[rn]at p;by_cases c:0<=j/\j<=1000000/\i.natAbs < 2 ^ 64
   ·rw[if_pos c]at p;exact⟨i,j,aX rx,aX ry,c,p _ m H Ext.refl S mkInt⟩
   ·rw[if_neg c]at p;exact ae p
  |_=>exact ae p
 |_=>cases y<;>exact ae p⟩
theorem U0:jU X (af4 .Lt) UY:=⟨_,fV.or Uv DG,λx y a b st H m Q S rx ry p=>by
 cases x with
 |int i=>
  cases y with
  |int j=>exact .inl ⟨i,j,aX rx,aX ry,p _ m H Ext.refl S kY⟩
  |_=>exact ae p
 |str i=>
  cases y with
  |str j=>exact .inr ⟨i,j,(fg rx).1,(fg ry).1,p _ m H Ext.refl S kY⟩
  |_=>exact ae p
 |_=>cases y<;>exact ae p⟩
theorem U1:jU X (af4 .LtE) UZ:=⟨_,Uw,λx y a b st H m Q S rx ry p=>by
 cases x with
 |int i=>
  cases y with
  |int j=>exact⟨i,j,aX rx,aX ry,p _ m H Ext.refl S kY⟩
  |_=>exact ae p
 |_=>cases y<;>exact ae p⟩
theorem U2:jU X (af4 .Gt) Qe:=⟨_,Ux,λx y a b st H m Q S rx ry p=>by
 cases x with
 |int i=>
  cases y with
  |int j=>exact⟨i,j,aX rx,aX ry,p _ m H Ext.refl S kY⟩
  |_=>exact ae p
 |_=>cases y<;>exact ae p⟩
def J8:fX
 |x,.bK,st=> .ok (.bl (match x with |.bK=>true |_=>false)) st
 |_,_,_=> .bad
def Ga:fX
 |x,.bK,st=> .ok (.bl (match x with |.bK=>false |_=>true)) st
 |_,_,_=> .bad
theorem NJ{x:Wv}{a:V}(h:ag X.K m H x a):decide (a=V.bK)=(match x with |.bK=>true |_=>false):=by
 cases x with
 |bK=>unfold ag at h;subst h;rfl
 |bl b=>unfold ag at h;subst h;rfl
 |int b=>unfold ag at h;subst h;rfl
 |str b=>unfold ag at h;obtain⟨h,_⟩:=h;subst h;rfl
 |tup b=>unfold ag at h;obtain⟨q,xs,h,_⟩:=h;subst h;rfl
 |iY b=>unfold ag at h;obtain⟨q,xs,h,_⟩:=h;subst h;rfl
 |ref b=>unfold ag at h;obtain⟨q,h,_⟩:=h;subst h;rfl
 |ty b=>unfold ag at h;subst h;rfl
 |cls b=>unfold ag at h;obtain⟨q,h,_⟩:=h;subst h;rfl
 |DS b=>unfold ag at h;obtain⟨q,C,h,_⟩:=h;subst h;rfl
 |fn fp b=>unfold ag at h;obtain⟨h,_⟩:=h;subst h;rfl
theorem U3:jU X (af4 .Is) J8:=⟨_,Pl,λx y a b st H m Q S rx ry p=>by
 cases y with
 |bK=>refine⟨by unfold ag at ry;exact ry,?_⟩;rw[NJ rx];cases x<;>exact p _ m H Ext.refl S kY
 |_=>cases x<;>exact ae p⟩
theorem Gb:jU X (af4 .IsNot) Ga:=⟨_,KJ,λx y a b st H m Q S rx ry p=>by
 cases y with
 |bK=>refine⟨by unfold ag at ry;exact ry,?_⟩;rw[NJ rx];cases x<;>exact p _ m H Ext.refl S kY
 |_=>cases x<;>exact ae p⟩
theorem vO{a b:PySem.Str}(ha:bB a=true)(hb:bB b=true):bB (a++b)=true:=by unfold bB at *;show((a.cps++b.cps).all _)=true;rw[Array.all_append,ha,hb];rfl
def U4(K:PySem.W.Frag):R2:=λx y H Q=>∃l b xs zs,x= .ref l/\y= .ref b/\l5 K H l xs/\l5 K H b zs/\xs.length+zs.length<=af8/\∀p,H p=none->Q (.ref p) (upd H p (.lst (xs++zs)))
theorem Lg:fV X (af0 .Add) (U4 X.K):=by
 intro pins s σ H x y v u Q I rx ry h;obtain⟨l,b,xs,zs,rfl,rfl,hH,hB,hz,q⟩:=h;cases rx;cases ry;obtain⟨its,r,pl,hs⟩:=I.list hH;obtain⟨its2,r2,Yn,hs2⟩:=I.list hB;have hl:=r.length;have hl2:=r2.length;obtain⟨⟨cls,dd,data,sl⟩,ho,hc,n,hd⟩:=id pl.isList;obtain⟨⟨Ya,dd2,data2,sl2⟩,ho2,hc2,n2,hd2⟩:=id Yn.isList;simp only at hc hd hc2 hd2;subst hc hd hc2 hd2;have e:its.toArray++its2.toArray=(its++its2).toArray:=by simp
 refine PySem.concat_meets ⟨_,ho,rfl⟩ ⟨_,ho2,rfl⟩ PySem.noFill_list_add PySem.seq_list_add PySem.F.slot_list_add PySem.F.entry_list_add (PySem.F.args_list_add_2 _ _) (list_addW l b its.toArray its2.toArray n n2 dd dd2 sl sl2 (by simp;omega)) ⟨ho,ho2,?_⟩;rw[e];exact⟨.ref _,_,I.K4 (t':=s.toks) (r.append r2) (by rw[cJ];omega),rfl,q _ I.fresh⟩
def U5(K:PySem.W.Frag):R2:=λx y H Q=>∃a b ys,x= .ref a/\y= .ref b/\eO K H a []/\eO K H b ys/\Q (.ref b) H
theorem Lh:fV X (af0 .Add) (U5 X.K):=by intro pins s σ H x y v u Q I rx ry h;obtain⟨a,b,ys,rfl,rfl,ha,hb,q⟩:=h;cases rx;cases ry;obtain⟨its,r1,p1,_⟩:=I.tuple ha;obtain⟨its2,r2,p2,_⟩:=I.tuple hb;cases r1;obtain⟨⟨c1,d1,t1,l1⟩,g1,k1,n1,j1⟩:=id p1;obtain⟨⟨c2,d2,t2,l2⟩,g2,k2,n2,j2⟩:=id p2;simp only at k1 j1 k2 j2;subst k1 j1 k2 j2;exact PySem.concat_meets ⟨_,g1,rfl⟩ ⟨_,g2,rfl⟩ PySem.noFill_tuple_add PySem.seq_tuple_add PySem.F.slot_tuple_add PySem.F.entry_tuple_add (PySem.F.args_tuple_add_2 _ _) (tuple_addW0 a b #[] its2.toArray n1 n2 d1 d2 l1 l2 (by simp)) ⟨g1,g2,⟨.ref b,H,I,rfl,q⟩⟩
def cV:fX
 |.int i,.int j,st=> .ok (.int (i+j)) st
 |.str i,.str j,st=>if i.length+j.length<=lim then .ok (.str (i++j)) st else .bad
 |.tup i,.tup j,st=>if i.length+j.length<=lim then .ok (.tup (i++j)) st else .bad
 |.ref l,.ref k,st=>match ao st l,ao st k with
  |some i,some j=>if i.length+j.length<=lim then .ok (.ref st.length) (st++[.lst (i++j)])else .bad
  |_,_=> .bad
 |_,_,_=> .bad
instance {α:Type}{xs:List α}:Decidable (xs≠[]):=match xs with
 |[]=>isFalse (λh=>h rfl)
 |_::_=>isTrue (λh=>by cases h)
theorem Qi:jU X (af0 .Add) cV:=⟨_,fV.or Pf (fV.or Ad (fV.or KS (fV.or Lg Lh))),λx y a b st H m Q S rx ry p=>by
 cases x with
 |int i=>
  cases y with
  |int j=>exact .inl ⟨i,j,aX rx,aX ry,p _ m H Ext.refl S mkInt⟩
  |_=>exact ae p
 |str i=>
  cases y with
  |str j=>
   dsimp only[cV]at p;by_cases c:i.length+j.length<=lim
   ·rw[if_pos c]at p;exact .inr (.inl ⟨i,j,(fg rx).1,(fg ry).1,eD c,p _ m H Ext.refl S (mkStr (vO (fg rx).2 (fg ry).2))⟩)
   ·rw[if_neg c]at p;exact ae p
  |_=>exact ae p
 |tup i=>
  cases y with
  |tup j=>
   dsimp only[cV]at p;by_cases c:i.length+j.length<=lim
   ·rw[if_pos c]at p;by_cases c0:i=[]
    ·subst c0;unfold ag at rx ry;obtain⟨a1,xs,rfl,h1,h2⟩:=rx;obtain⟨a2,ys,rfl,h3,h4⟩:=ry;have l1:xs=[]:=Ax h2.length.symm;subst l1;exact .inr (.inr (.inr (.inr ⟨a1,a2,ys,rfl,rfl,eO.of h1,eO.of h3,p (.ref a2) m H Ext.refl S (by rw[nK];unfold ag;exact⟨a2,ys,rfl,h3,h4⟩)⟩)))
    unfold ag at rx ry;obtain⟨a1,xs,rfl,h1,h2⟩:=rx;obtain⟨a2,ys,rfl,h3,h4⟩:=ry;have l1:=h2.length;have l2:=h4.length;have n1:xs≠[]:=λz=>by rw[z]at l1;exact c0 (Ax l1)
    refine .inr (.inr (.inl ⟨a1,a2,xs,ys,rfl,rfl,eO.of h1,eO.of h3,n1,by rw[<-l1,<-l2];exact eD c,λz=>?_,λ_ q hq=>?_⟩))
    ·rw[z]at l2;rw[Ax l2,j8]at p;exact p (.ref a1) m H Ext.refl S (by unfold ag;exact⟨a1,xs,rfl,h1,h2⟩)
    have e2:Ext X.K m H m (upd H q (.tup (xs++ys))):=Ext.upd (.inl hq);exact p (.ref q) m _ e2 (S.fresh hq) (by unfold ag;exact⟨q,xs++ys,rfl,bq,ai.mono e2 _ _ (h2.append h4)⟩)
   ·rw[if_neg c]at p;exact ae p
  |_=>exact ae p
 |ref l=>
  cases y with
  |ref k=>
   dsimp only[cV]at p;unfold ag at rx ry;obtain⟨a1,rfl,h1⟩:=rx;obtain⟨a2,rfl,h2⟩:=ry;cases e1:ao st l with
   |none=>rw[e1]at p;exact ae p
   |some i=>
    cases e2:ao st k with
    |none=>rw[e1,e2]at p;exact ae p
    |some j=>
     rw[e1,e2]at p;by_cases c:i.length+j.length<=lim
     ·simp only[if_pos c]at p;obtain⟨xs,q1,q2⟩:=S.read h1 e1;obtain⟨ys,q3,q4⟩:=S.read h2 e2;exact .inr (.inr (.inr (.inl ⟨a1,a2,xs,ys,rfl,rfl,q1,q3,by rw[<-q2.length,<-q4.length];exact eD c,λq hq=>nN p Ext.refl S (q2.append q4) q hq⟩)))
     ·simp only[if_neg c]at p;exact ae p
  |_=>exact ae p
 |_=>cases y<;>exact ae p⟩
def xJ(n:Nat)(x:PySem.Str):PySem.Str:=⟨(ay n x.cps).foldl (· ++·) #[]⟩
end
open PySem PySem.Spec PySem.SeqAt PyProof.Rows L2
def dD{α β:Type}(f:α->Option β):List α->Option (List β)
 |[]=>some []
 |w::ws=>match f w,dD f ws with
  |some d,some ds=>some (d::ds)
  |_,_=>none
def a_(st:Hs):Nat->Wv->Option PyData
 | 0,w=>match w with
  |.bK=>some .none
  |.bl b=>some (.bool b)
  |.int i=>some (.int i)
  |.str x=>some (.str x)
  |_=>none
 |n+1,w=>match w with
  |.bK=>some .none
  |.bl b=>some (.bool b)
  |.int i=>some (.int i)
  |.str x=>some (.str x)
  |.tup ws=>(dD (a_ st n) ws).map .tuple
  |.iY ws=>(dD (a_ st n) ws).map .tuple
  |.ref l=>match ao st l with
   |some ws=>(dD (a_ st n) ws).map .list
   |none=>none
  |.ty _=>none
  |.cls _=>none
  |.DS _=>none
  |.fn _ _=>none
section
variable {X:Cx}{pins:List (afR×Obj)}{σ:St}{H:Hp}{s:afW}{m:Mp}{st:Hs}
def NL(h:Heap)(n:Nat)(u:afX)(d:PyData):Prop:=∃as,Reads h u d as/\d.canLay0=true/\d.depth<=n
theorem md{n:Nat}(ih:∀(w:Wv)(a:V)(u:afX)(d:PyData),ag X.K m H w a->RelV a u->a_ st n w=some d->NL s.heap n u d):
  ∀(ws:List Wv)(xs:List V)(us:List afX)(ds:List PyData),ai X.K m H ws xs->Vals xs us->dD (a_ st n) ws=some ds->∃as,ReadsAll s.heap us ds as/\qd ds=true/\jX ds<=n
 |[],xs,us,ds,h,r,e=>by unfold ai at h;subst h;cases r;cases e;exact⟨[],.nil,rfl,bH _⟩
 |w::ws,xs,us,ds,h,r,e=>by
  unfold ai at h;obtain⟨x,xr,rfl,h1,h2⟩:=h;cases r with
  |cons r1 r2=>
   unfold dD at e;cases e1:a_ st n w with
   |none=>rw[e1]at e;cases e
   |some d=>
    cases e2:dD (a_ st n) ws with
    |none=>rw[e1,e2]at e;cases e
    |some dr=>
     rw[e1,e2]at e;cases e;obtain⟨as,q1,q2,q3⟩:=ih w x _ d h1 r1 e1;obtain⟨bs,p1,p2,p3⟩:=md ih ws xr _ dr h2 r2 e2;refine⟨as++bs,.cons q1 p1,?_,?_⟩
     ·show(PyData.canLay0 d&&qd dr)=true;rw[q2,p2];rfl
     ·show max d.depth (jX dr)<=n;omega
theorem eF(I:Inv X pins σ H s)(S:bJ X.K m st H):∀(n:Nat)(w:Wv)(a:V)(u:afX)(d:PyData),ag X.K m H w a->RelV a u->a_ st n w=some d->NL s.heap n u d:=by
 intro n
 induction n with
 |zero=>
  intro w a u d h r e;cases w with
  |bK=>unfold ag at h;subst h;cases r;cases e;exact⟨[],.none,rfl,ar _⟩
  |bl b=>unfold ag at h;subst h;cases r;cases e;exact⟨[],.bool b,rfl,ar _⟩
  |int i=>unfold ag at h;subst h;obtain⟨t,rfl⟩:=r;cases e;exact⟨[],.int i t,rfl,ar _⟩
  |str x=>unfold ag at h;obtain⟨rfl,hx⟩:=h;obtain⟨t,rfl⟩:=r;cases e;exact⟨[],.str x t,hx,ar _⟩
  |tup ws=>cases e
  |iY ws=>cases e
  |ref l=>cases e
  |ty t=>cases e
  |cls t=>cases e
  |DS t=>cases e
  |fn fp t=>cases e
 |succ n ih=>
  intro w a u d h r e;cases w with
  |bK=>unfold ag at h;subst h;cases r;cases e;exact⟨[],.none,rfl,bH _⟩
  |bl b=>unfold ag at h;subst h;cases r;cases e;exact⟨[],.bool b,rfl,bH _⟩
  |int i=>unfold ag at h;subst h;obtain⟨t,rfl⟩:=r;cases e;exact⟨[],.int i t,rfl,bH _⟩
  |str x=>unfold ag at h;obtain⟨rfl,hx⟩:=h;obtain⟨t,rfl⟩:=r;cases e;exact⟨[],.str x t,hx,bH _⟩
  |ty t=>cases e
  |cls t=>cases e
  |DS t=>cases e
  |fn fp t=>cases e
  |tup ws=>
   unfold ag at h;obtain⟨p,xs,rfl,h1,h2⟩:=h;cases r;have e':(dD (a_ st n) ws).map B3=some d:=e;cases e2:dD (a_ st n) ws with
   |none=>rw[e2]at e';cases e'
   |some ds=>rw[e2]at e';cases e';obtain⟨its,rv,ht,hz⟩:=I.tuple (eO.of h1);obtain⟨as,q1,q2,q3⟩:=md ih ws xs its ds h2 rv e2;obtain⟨o,ho,hc,k,hd⟩:=ht;exact⟨as,.tuple ho hc hd (by simpa using q1),q2,vq q3⟩
  |iY ws=>
   unfold ag at h;obtain⟨p,xs,rfl,h1,h2⟩:=h;cases r;have e':(dD (a_ st n) ws).map B3=some d:=e;cases e2:dD (a_ st n) ws with
   |none=>rw[e2]at e';cases e'
   |some ds=>rw[e2]at e';cases e';obtain⟨its,rv,ht,hz⟩:=I.tuple (.inr h1);obtain⟨as,q1,q2,q3⟩:=md ih ws xs its ds h2 rv e2;obtain⟨o,ho,hc,k,hd⟩:=ht;exact⟨as,.tuple ho hc hd (by simpa using q1),q2,vq q3⟩
  |ref l=>
   unfold ag at h;obtain⟨p,rfl,h1⟩:=h;cases r;have e':(match ao st l with |some ws=>(dD (a_ st n) ws).map qt |none=>none)=some d:=e
   cases e1:ao st l with
   |none=>rw[e1]at e';cases e'
   |some ws=>
    rw[e1]at e';have e'':(dD (a_ st n) ws).map qt=some d:=e';cases e2:dD (a_ st n) ws with
    |none=>rw[e2]at e'';cases e''
    |some ds=>rw[e2]at e'';cases e'';obtain⟨xs,hq,h2⟩:=S.read h1 e1;obtain⟨its,rv,ht,hz⟩:=I.list hq;obtain⟨as,q1,q2,q3⟩:=md ih ws xs its ds h2 rv e2;obtain⟨o,ho,hc,k,hd⟩:=ht.isList;exact⟨_,.list ho hc hd (by simpa using q1),q2,vq q3⟩
end
def oEq:fX:=λx y st=>match a_ st 20 x,a_ st 20 y with
 |some a,some b=> .ok (.bl (bI a b)) st
 |_,_=> .bad
def vP:fX:=λx y st=>match a_ st 20 x,a_ st 20 y with
 |some a,some b=> .ok (.bl (!PyData.eqv a b)) st
 |_,_=> .bad
variable{x:Wv}{g:GE}{xs:List V}{α:Type}{z:PySem.Str}{hi:Option Int}
section
variable {X:Cx}
def U6(K:PySem.W.Frag)(neg:Bool):R2:=λa b H Q=>∃m st x y da db,bJ K m st H/\ag K m H x a/\ag K m H y b/\a_ st 20 x=some da/\a_ st 20 y=some db/\Q (.bl (if neg then !PyData.eqv da db else bI da db)) H
theorem me{d:PyData}(hn:n<=64)(h:d.canLay0=true)(k:d.depth<=n):shaped d=true:=by unfold shaped;rw[h,decide_eq_true (bZ k hn)];rfl
theorem Qj(hu:X.A.units+64 < cLine):fV X (af4 .Eq) (U6 X.K false):=by intro pins s σ H a b v u Q I rx ry h;obtain⟨m,st,x,y,da,db,S,h1,h2,e1,e2,q⟩:=h;obtain⟨as,q1,q2,q3⟩:=eF I S 20 x a v da h1 rx e1;obtain⟨bs,p1,p2,p3⟩:=eF I S 20 y b u db h2 ry e2;exact eq_dataH q1 p1 (me (by decide) q2 q3) (me (by decide) p2 p3) hu ⟨.bl _,H,I,rfl,q⟩
theorem Qk(hu:X.A.units+64 < cLine):fV X (af4 .NotEq) (U6 X.K true):=by intro pins s σ H a b v u Q I rx ry h;obtain⟨m,st,x,y,da,db,S,h1,h2,e1,e2,q⟩:=h;obtain⟨as,q1,q2,q3⟩:=eF I S 20 x a v da h1 rx e1;obtain⟨bs,p1,p2,p3⟩:=eF I S 20 y b u db h2 ry e2;exact ne_dataH q1 p1 (me (by decide) q2 q3) (me (by decide) p2 p3) hu ⟨.bl _,H,I,rfl,q⟩
theorem NM(hu:X.A.units+64 < cLine):jU X (af4 .Eq) oEq:=⟨_,Qj hu,λx y a b st H m Q S rx ry p=>by
 unfold oEq at p;cases e1:a_ st 20 x with
 |none=>rw[e1]at p;exact ae p
 |some da=>
  cases e2:a_ st 20 y with
  |none=>rw[e1,e2]at p;exact ae p
  |some db=>rw[e1,e2]at p;exact⟨m,st,x,y,da,db,S,rx,ry,e1,e2,p _ m H Ext.refl S kY⟩⟩
theorem NN(hu:X.A.units+64 < cLine):jU X (af4 .NotEq) vP:=⟨_,Qk hu,λx y a b st H m Q S rx ry p=>by
 unfold vP at p;cases e1:a_ st 20 x with
 |none=>rw[e1]at p;exact ae p
 |some da=>
  cases e2:a_ st 20 y with
  |none=>rw[e1,e2]at p;exact ae p
  |some db=>rw[e1,e2]at p;exact⟨m,st,x,y,da,db,S,rx,ry,e1,e2,p _ m H Ext.refl S kY⟩⟩
def nO:Wv->Bool
 |.bK=>true
 |.bl _=>true
 |.int _=>true
 |.str _=>true
 |_=>false
def Yo:Wv->Wv->Bool
 |.bK,.bK=>true
 |.bl a,.bl b=>a == b
 |.bl a,.int b=>(if a then 1 else 0) == b
 |.int a,.bl b=>a == (if b then 1 else 0)
 |.int a,.int b=>a == b
 |.str a,.str b=>a == b
 |_,_=>false
def nP(st:Hs):Wv->Option (List Wv)
 |.tup ws=>some ws
 |.iY ws=>some ws
 |.ref l=>ao st l
 |_=>none
def Yp:fX:=λx y st=>match nP st y with
 |some ws=>if nO x=true/\ws.all nO=true then .ok (.bl (ws.any λz=>Yo z x)) st else .bad
 |none=> .bad
theorem xK{a:V}(h:ag X.K m H x a)(f:nO x=true):mP a=true:=by
 cases x with
 |bK=>unfold ag at h;subst h;rfl
 |bl b=>unfold ag at h;subst h;rfl
 |int b=>unfold ag at h;subst h;rfl
 |str b=>unfold ag at h;obtain⟨h,_⟩:=h;subst h;rfl
 |_=>cases f
theorem Li{y:Wv}{a b:V}(h:ag X.K m H x a)(k:ag X.K m H y b)(f:nO x=true)(g:nO y=true):KZ a b=Yo x y:=by
 cases x with
 |bK=>
  unfold ag at h;subst h;cases y with
  |str j=>unfold ag at k;obtain⟨k,_⟩:=k;subst k;rfl
  |tup j=>cases g
  |iY j=>cases g
  |ref j=>cases g
  |ty j=>cases g
  |cls j=>cases g
  |DS j=>cases g
  |fn fp j=>cases g
  |_=>unfold ag at k;subst k;rfl
 |bl i=>
  unfold ag at h;subst h;cases y with
  |str j=>unfold ag at k;obtain⟨k,_⟩:=k;subst k;rfl
  |tup j=>cases g
  |iY j=>cases g
  |ref j=>cases g
  |ty j=>cases g
  |cls j=>cases g
  |DS j=>cases g
  |fn fp j=>cases g
  |_=>unfold ag at k;subst k;rfl
 |int i=>
  unfold ag at h;subst h;cases y with
  |str j=>unfold ag at k;obtain⟨k,_⟩:=k;subst k;rfl
  |tup j=>cases g
  |iY j=>cases g
  |ref j=>cases g
  |ty j=>cases g
  |cls j=>cases g
  |DS j=>cases g
  |fn fp j=>cases g
  |_=>unfold ag at k;subst k;rfl
 |str i=>
  unfold ag at h;obtain⟨h,_⟩:=h;subst h;cases y with
  |str j=>unfold ag at k;obtain⟨k,_⟩:=k;subst k;rfl
  |tup j=>cases g
  |iY j=>cases g
  |ref j=>cases g
  |ty j=>cases g
  |cls j=>cases g
  |DS j=>cases g
  |fn fp j=>cases g
  |_=>unfold ag at k;subst k;rfl
 |_=>cases f
theorem uH{m:Mp}{H:Hp}{x:Wv}{a:V}(h:ag X.K m H x a)(f:nO x=true):∀{ws:List Wv}{xs:List V},ai X.K m H ws xs->ws.all nO=true->xs.all mP=true/\WS a xs=ws.any λz=>Yo z x
 |[],xs,r,_=>by unfold ai at r;subst r;exact⟨rfl,rfl⟩
 |w::ws,xs,r,g=>by
  unfold ai at r;obtain⟨y,yr,rfl,r1,r2⟩:=r;rw[de,bN]at g;obtain⟨q1,q2⟩:=uH h f r2 g.2;constructor
  ·rw[de,xK r1 g.1,q1];rfl
  ·unfold WS at q2 ⊢;rw[iz,iz,Li r1 h g.1 f,q2]
theorem vQ{y:Wv}{b:V}(S:bJ X.K m st H)(h:ag X.K m H y b)(e:nP st y=some ws):∃p xs,b= .ref p/\(l5 X.K H p xs\/eO X.K H p xs)/\ai X.K m H ws xs:=by
 cases y with
 |tup zs=>cases e;unfold ag at h;obtain⟨p,xs,e1,e2,e3⟩:=h;exact⟨p,xs,e1,.inr (eO.of e2),e3⟩
 |iY zs=>cases e;unfold ag at h;obtain⟨p,xs,e1,e2,e3⟩:=h;exact⟨p,xs,e1,.inr (.inr e2),e3⟩
 |ref l=>unfold ag at h;obtain⟨p,e1,e2⟩:=h;obtain⟨xs,q1,q2⟩:=S.read e2 e;exact⟨p,xs,e1,.inl q1,q2⟩
 |_=>cases e
theorem U7:jU X (af4 .In) Yp:=⟨_,DM,λx y a b st H m Q S rx ry p=>by
 unfold Yp at p;cases e:nP st y with
 |none=>rw[e]at p;exact ae p
 |some ws=>
  rw[e]at p;by_cases c:nO x=true/\ws.all nO=true
  ·simp only[if_pos c]at p;obtain⟨q,xs,e1,e2,e3⟩:=vQ S ry e;obtain⟨f1,f2⟩:=uH rx c.1 e3 c.2;refine⟨q,xs,e1,e2,xK rx c.1,f1,?_⟩;rw[f2];exact p _ m H Ext.refl S kY
  ·simp only[if_neg c]at p;exact ae p⟩
def aQ:fX
 |.str z,.int i,st=>if z.length<=lim then(match pW z.cps.toList i with |some c=> .ok (.str ⟨#[c]⟩) st |none=> .bad)else .bad
 |x,.int i,st=>match nP st x with
  |some ws=>(match pW ws i with |some w=> .ok w st |none=> .bad)
  |none=> .bad
 |_,_,_=> .bad
theorem Lj{w:Wv}(r:ai X.K m H ws xs)(h:pW ws i=some w):∃x,pW xs i=some x/\ag X.K m H w x:=by
 unfold pW at h ⊢;rw[<-r.length];cases e:E6 ws.length i with
 |none=>rw[e]at h;cases h
 |some j=>rw[e]at h;exact r.get h
theorem Lk{xs:List α}{v:α}(h:pW xs i=some v):v∈xs:=by obtain⟨j,_,h2,_⟩:=qm h;exact l6 h2
theorem DT{c:Nat}(h:bB z=true)(hc:c∈z.cps.toList):bB ⟨#[c]⟩=true:=by unfold bB at h ⊢;rw[U8]at h;have q:=h c (by simpa using hc);simpa using q
theorem U9(ha:JE X a ga)(hb:JE X b gb)(hs:BS b:=by exact λ_ _=>rfl):JE X (.Subscript a b pos) (ah aQ ga gb) :=
 JE.of (UE Py br br hs) λρ st σ H m Q S R p=>BY (op:=aQ) (λx y a b st H m Q S rx ry p=>by
  have seqs:∀(i:Int),y= .int i->(match nP st x with |some ws=>(match pW ws i with |some w=>Re.ok w st |none=> .bad) |none=> .bad)=aQ x y st->rIx X.K a b H Q:=λi hy hp=>by
   subst hy;rw[<-hp]at p;cases e:nP st x with
   |none=>rw[e]at p;exact ae p
   |some ws=>
    rw[e]at p;dsimp only at p;cases e1:pW ws i with
    |none=>rw[e1]at p;exact ae p
    |some w=>
     rw[e1]at p;obtain⟨q,xs,e2,e3,e4⟩:=vQ S rx e;obtain⟨v,f1,f2⟩:=Lj e4 e1;rcases e3 with e3 |e3
     ·exact .inl ⟨q,xs,i,v,e2,aX ry,e3,f1,p v m H Ext.refl S f2⟩
     ·exact .inr (.inl ⟨q,xs,i,v,e2,aX ry,e3,f1,p v m H Ext.refl S f2⟩)
  cases y with
  |int i=>
   cases x with
   |str z=>
    dsimp only[aQ]at p;by_cases c:z.length<=lim
    ·simp only[if_pos c]at p;cases e1:pW z.cps.toList i with
     |none=>rw[e1]at p;exact ae p
     |some ch=>rw[e1]at p;exact .inr (.inr ⟨z,i,ch,(fg rx).1,aX ry,eD c,e1,p _ m H Ext.refl S (mkStr (DT (fg rx).2 (Lk e1)))⟩)
    ·simp only[if_neg c]at p;exact ae p
   |_=>exact seqs i rfl rfl
  |_=>cases x<;>exact ae p) ha hb S R p
abbrev GO:=bX->Hs->Re (Option Int)
def SO(X:Cx)(e:Option Expr):TO:=λσ H Q=>∀(pins:List (afR×Obj))(s:afW),Inv X pins σ H s->aga (model X.prog X.w) X.A (evalPart e X.env) (λu s'=>∃o H',Inv X pins σ H' s'/\IsPart u o/\Q o H') X.xe s
theorem uI{e:Option Expr}:PO X e (SO X e):=λpins s _ _ _ I h=>h pins s I
def okO(K:PySem.W.Frag)(m:Mp)(H:Hp)(Q:Option Int->Hp->Prop)(o:Option Int)(st:Hs):Prop:=∀(m':Mp)(H':Hp),Ext K m H m' H'->bJ K m' st H'->Q o H'
def JO(X:Cx)(e:Option Expr)(g:GO):Prop:=∀(ρ:bX)(st:Hs)(σ:St)(H:Hp)(m:Mp)(Q:Option Int->Hp->Prop),bJ X.K m st H->aG X.K m H ρ σ->aE X σ m H (g ρ st) (okO X.K m H Q)->SO X e σ H Q
def i8:GO:=λ_ st=> .ok none st
def pL(g:GE):GO:=λρ st=>(g ρ st).bind λw st1=>match w with
 |.int i=> .ok (some i) st1
 |_=> .bad
theorem Ll:JO X none i8:=λρ st σ H m Q S R p pins s I=>KQ pins s σ H Q I (p m H Ext.refl S)
theorem Ln(h:JE X e g):JO X (some e) (pL g):=λρ st σ H m Q S R p pins s I=>
 KR br pins s σ H Q I (h.go S R (aE.bind p) λw st1 v m1 H1 p1 e1 S1 r1=>by
  cases w with
  |int i=>exact⟨i,aX r1,p1 m1 H1 e1 S1⟩
  |_=>exact ae p1)
theorem JO.go{e:Option Expr}{g:GO}{T:Option Int->Hp->Prop}{ok:Option Int->Hs->Prop}(h:JO X e g)(S:bJ X.K m st H)(R:aG X.K m H ρ σ)(p:aE X σ m H (g ρ st) ok)
  (k:∀(b:Option Int)(st1:Hs)(m1:Mp)(H1:Hp),ok b st1->Ext X.K m H m1 H1->bJ X.K m1 st1 H1->T b H1):SO X e σ H T :=
 h ρ st σ H m T S R (p.imp Ext.refl λb st1 q m1 H1 e1 s1=>k b st1 m1 H1 q e1 s1)
def xM(xs:List Wv)(lo hi:Option Int):List Wv:=(xs.drop (HT.d_ xs.length 0 lo)).take (HT.d_ xs.length xs.length hi - HT.d_ xs.length 0 lo)
def TQ(x:Wv)(lo hi:Option Int)(st:Hs):Re Wv:=match x with
 |.tup ws=>if HT.d_ ws.length 0 lo=0/\HT.d_ ws.length ws.length hi=ws.length then .bad else .ok (.tup (xM ws lo hi)) st
 |.ref l=>match ao st l with
  |some ws=> .ok (.ref st.length) (st++[.lst (xM ws lo hi)])
  |none=> .bad
 |_=> .bad
theorem vR{lo:Option Int}(r:ai X.K m H ws xs):ai X.K m H (xM ws lo hi) (tW xs lo hi):=by unfold xM tW;rw[<-r.length];exact(r.drop _).take _
def Ay(ga:GE)(gl gh:GO):GE:=λρ st=>(ga ρ st).bind λx st1=>(gl ρ st1).bind λlo st2=>(gh ρ st2).bind λhi st3=>TQ x lo hi st3
theorem xN{lo hi:Option Expr}{gl gh:GO}{p2:Pos}(ha:JE X a ga)(hl:JO X lo gl)(hh:JO X hi gh):JE X (.Subscript a (.Slice lo hi none p2) pos) (Ay ga gl gh):=by
 refine JE.of (qU (FE.or KY) br uI uI) λρ st σ H m Q S R p=>?_;refine ha.go S R (aE.bind p) λx st1 v m1 H1 p1 e1 S1 rx=>?_;refine hl.go S1 (R.mono e1) ((aE.bind p1).imp e1 λ_ _ q=>q) λl st2 m2 H2 p2 e2 S2=>?_;refine hh.go S2 (R.mono (e1.trans e2)) ((aE.bind p2).imp (e1.trans e2) λ_ _ q=>q) λh st3 m3 H3 p3 e3 S3=>?_;have DU:=e1.trans (e2.trans e3);have WX:=ag.mono (e2.trans e3) _ _ rx;cases x with
 |tup ws=>
  have mZ:gE X σ m H (if HT.d_ ws.length 0 l=0/\HT.d_ ws.length ws.length h=ws.length then .bad else .ok (.tup (xM ws l h)) st3) Q:=p3;by_cases c:HT.d_ ws.length 0 l=0/\HT.d_ ws.length ws.length h=ws.length
  ·rw[if_pos c]at mZ;exact ae mZ
  ·rw[if_neg c]at mZ;unfold ag at WX;obtain⟨q,xs,rfl,f1,f2⟩:=WX;refine .inl ⟨q,xs,rfl,eO.of f1,by rw[<-f2.length];exact c,λr hr=>?_⟩;have e4:Ext X.K m3 H3 m3 (upd H3 r (.tup (tW xs l h))):=Ext.upd (.inl hr);exact mZ (.ref r) m3 _ (DU.trans e4) (S3.fresh hr) (by unfold ag;exact⟨r,_,rfl,bq,ai.mono e4 _ _ (vR f2)⟩)
 |ref k=>
  have mZ:gE X σ m H (match ao st3 k with |some ws=> .ok (.ref st3.length) (st3++[.lst (xM ws l h)]) |none=> .bad) Q:=p3
  unfold ag at WX;obtain⟨q,rfl,f1⟩:=WX;cases e:ao st3 k with
  |none=>rw[e]at mZ;exact ae mZ
  |some ws=>rw[e]at mZ;obtain⟨xs,g1,g2⟩:=S3.read f1 e;exact .inr ⟨q,xs,rfl,g1,λr hr=>nN mZ DU S3 (vR g2) r hr⟩
 |_=>exact ae p3
end
variable{x:Str}{gb:GS}{op:List Wv->Hs->Re Wv}{p pos':Pos}{s:Stmt}{go gi ge:GE}
section
variable {X:Cx}
def ef(X:Cx)(f:afX)(op:List Wv->Hs->Re Wv):Prop:=∃r,fu X f r/\∀(ws:List Wv)(vs:List V)(st:Hs)(H:Hp)(m:Mp)(Q:VK),bJ X.K m st H->ai X.K m H ws vs->dC X.K m H (op ws st) Q->r vs H Q
def aY(op:List Wv->Hs->Re Wv)(g:GA):GE:=λρ st=>(g ρ st).bind λws st1=>(op ws st1).oE
theorem Gd{id:String}{g:GA}(hc:ef X (.builtin id) op)(hg:Gl X x)(hm:X.mg x=none)(hv:af1 x=some (.builtin id))(ha:JA X (e::es) g)
  (hn:x≠"__name__":=by decide)(hdb:(x == ("__debug__":Str))=false:=by decide)(he:af9 (e::es) X.env=(false,eval e X.env)::af9 es X.env:=by rfl)(hpl:(backTo pos (af9 es X.env)).any (·.1)=false:=by rfl):
  JE X (.Call (.Name x p) (e::es) [] pos) (aY op g):=by
 obtain⟨r,h1,h2⟩:=hc;refine JE.of (FA h1 hg hm hv jL hn hdb he hpl) λρ st σ H m Q S R p=>?_;exact ha.go S R (aE.bind p) λws st1 vs m1 H1 p1 e1 S1 rs=>h2 ws vs st1 H1 m1 Q S1 rs (dC.shift (aE.oE p1) e1)
theorem DV{g:GA}(hc:ef X (.type T) op)(hg:Gl X x)(hm:X.mg x=none)(hv:af1 x=some (.type T))(ha:JA X (e::es) g)
  (hn:x≠"__name__":=by decide)(hdb:(x == ("__debug__":Str))=false:=by decide)(he:af9 (e::es) X.env=(false,eval e X.env)::af9 es X.env:=by rfl)(hpl:(backTo pos (af9 es X.env)).any (·.1)=false:=by rfl):
  JE X (.Call (.Name x p) (e::es) [] pos) (aY op g):=by
 obtain⟨r,h1,h2⟩:=hc;refine JE.of (DL h1 hg hm hv jL hn hdb he hpl) λρ st σ H m Q S R p=>?_;exact ha.go S R (aE.bind p) λws st1 vs m1 H1 p1 e1 S1 rs=>h2 ws vs st1 H1 m1 Q S1 rs (dC.shift (aE.oE p1) e1)
theorem rp{w:Wv}(r:ai X.K m H [w] vs):∃v,vs=[v]/\ag X.K m H w v:=by unfold ai at r;obtain⟨v,t,rfl,h1,h2⟩:=r;unfold ai at h2;subst h2;exact⟨v,rfl,h1⟩
theorem Az{w w':Wv}(r:ai X.K m H [w,w'] vs):∃v v',vs=[v,v']/\ag X.K m H w v/\ag X.K m H w' v':=by unfold ai at r;obtain⟨v,t,rfl,h1,h2⟩:=r;obtain⟨v',rfl,h3⟩:=rp h2;exact⟨v,v',rfl,h1,h3⟩
def mK:List Wv->Hs->Re Wv
 |[.str z],st=>if z.length<=lim then .ok (.int z.length) st else .bad
 |[x],st=>match nP st x with
  |some ws=> .ok (.int ws.length) st
  |none=> .bad
 |_,_=> .bad
theorem Ql:ef X (.builtin "len") mK:=⟨_,vE.or vF,λws vs st H m Q S r p=>by
 match ws,r,p with
 |[],r,p=>exact ae p
 |x::y::t,r,p=>cases x<;>exact ae p
 |[x],r,p=>
  obtain⟨v,rfl,rx⟩:=rp r;have seqs:(match nP st x with |some ws=>Re.ok (Wv.int ws.length) st |none=> .bad)=mK [x] st->(∃p ys,[v]=[V.ref p]/\(l5 X.K H p ys\/eO X.K H p ys)/\Q (.int ys.length) H):=λhp=>by
   rw[<-hp]at p;cases e:nP st x with
   |none=>rw[e]at p;exact ae p
   |some ws=>rw[e]at p;obtain⟨q,xs,rfl,e2,e3⟩:=vQ S rx e;refine⟨q,xs,rfl,e2,?_⟩;rw[<-e3.length];exact p _ m H Ext.refl S mkInt
  cases x with
  |str z=>
   have p':dC X.K m H (if z.length<=lim then .ok (.int z.length) st else .bad) Q:=p;by_cases c:z.length<=lim
   ·rw[if_pos c]at p';obtain⟨rfl,_⟩:=fg rx;exact .inr ⟨z,rfl,eD c,p' _ m H Ext.refl S mkInt⟩
   ·rw[if_neg c]at p';exact ae p'
  |_=>exact .inl (seqs rfl)⟩
def Yq:List Wv->Hs->Re Wv
 |[.int i],st=> .ok (.int (if i < 0 then -i else i)) st
 |_,_=> .bad
def WY(st:Hs)(T:String):Wv->Option Bool
 |.bK=>some false
 |.bl _=>some (T == "bool"||T == "int")
 |.int _=>some (T == "int")
 |.str _=>some (T == "str")
 |.tup _=>some (T == "tuple")
 |.iY _=>none
 |.ref l=>(ao st l).map λ_=>T == "list"
 |.ty _=>none
 |.cls _=>none
 |.DS _=>none
 |.fn _ _=>none
def oN(T:String):Bool:=T == "int"||T == "str"||T == "bool"||T == "tuple"||T == "list"
def U_:List Wv->Hs->Re Wv
 |[x,.ty T],st=>if oN T=true then(match WY st T x with |some b=> .ok (.bl b) st |none=> .bad)else .bad
 |_,_=> .bad
def Yr(K:PySem.W.Frag):List V->Hp->VK->Prop:=λvs H Q=>∃m st x T v b,vs=[v,.ty T]/\bJ K m st H/\ag K m H x v/\oN T=true/\WY st T x=some b/\Q (.bl b) H
theorem fY(h:oN T=true):T="int"\/T="str"\/T="bool"\/T="tuple"\/T="list":=by unfold oN at h;simp only[AA,beq_iff_eq]at h;rcases h with (((h |h) |h) |h) |h<;>simp[h]
theorem Ge(h:oN T=true):PySem.W.kitOne K (.type "NoneType") (.type T)=some false:=by rcases fY h with rfl |rfl |rfl |rfl |rfl<;>kernel_rfl
theorem Gf(h:oN T=true):PySem.W.kitOne K (.type "bool") (.type T)=some (T == "bool"||T == "int"):=by rcases fY h with rfl |rfl |rfl |rfl |rfl<;>kernel_rfl
theorem Lo(h:oN T=true):PySem.W.kitOne K (.type "int") (.type T)=some (T == "int"):=by rcases fY h with rfl |rfl |rfl |rfl |rfl<;>kernel_rfl
theorem Lq(h:oN T=true):PySem.W.kitOne K (.type "str") (.type T)=some (T == "str"):=by rcases fY h with rfl |rfl |rfl |rfl |rfl<;>kernel_rfl
theorem Lr(h:oN T=true):PySem.W.kitOne K (.type "tuple") (.type T)=some (T == "tuple"):=by rcases fY h with rfl |rfl |rfl |rfl |rfl<;>kernel_rfl
theorem Gg(h:oN T=true):PySem.W.kitOne K (.type "list") (.type T)=some (T == "list"):=by rcases fY h with rfl |rfl |rfl |rfl |rfl<;>kernel_rfl
theorem Gh:fu X (.builtin "isinstance") (Yr X.K):=by
 intro pins s σ H xs us Q I r h;obtain⟨m,st,x,T,v,b,rfl,S,rx,hT,hb,q⟩:=h;obtain⟨u,u',rfl,r1,r2⟩:=vals2 r;cases r2;have fin:∀tk,EP X pins σ Q (.bool b) { s with toks:=tk }:=λtk=>⟨.bl b,H,I.tok tk,rfl,q⟩;cases x with
 |bK=>unfold ag at rx;subst rx;cases r1;cases hb;exact PySem.W.kia_one PySem.W.kitx_none I.vw trivial (Ge hT) (by intro z;cases z) fin
 |bl c=>unfold ag at rx;subst rx;cases r1;cases hb;exact PySem.W.kia_one PySem.W.kitx_bool I.vw trivial (Gf hT) (by intro z;cases z) fin
 |int c=>unfold ag at rx;subst rx;obtain⟨t,rfl⟩:=r1;cases hb;exact PySem.W.kia_one PySem.W.kitx_int I.vw trivial (Lo hT) (by intro z;cases z) fin
 |str c=>obtain⟨rfl,_⟩:=fg rx;obtain⟨t,rfl⟩:=r1;cases hb;exact PySem.W.kia_one PySem.W.kitx_str I.vw trivial (Lq hT) (by intro z;cases z) fin
 |tup ws=>unfold ag at rx;obtain⟨a,xs,rfl,h1,h2⟩:=rx;cases r1;cases hb;obtain⟨its,rv,⟨o,ho,hc,_⟩,hz⟩:=I.tuple (eO.of h1);exact PySem.W.kia_one PySem.W.kitx_tuple I.vw ⟨o,ho,hc⟩ (Lr hT) (by intro z;cases z) fin
 |ref l=>
  unfold ag at rx;obtain⟨a,rfl,h1⟩:=rx;cases r1;have hb':(ao st l).map (λ_=>T == "list")=some b:=hb;cases e:ao st l with
  |none=>rw[e]at hb';cases hb'
  |some ws=>rw[e]at hb';cases hb';obtain⟨xs,hq,h2⟩:=S.read h1 e;obtain⟨its,rv,ht,hz⟩:=I.list hq;obtain⟨o,ho,hc,_⟩:=ht.isList;exact PySem.W.kia_one PySem.W.kitx_list I.vw ⟨o,ho,hc⟩ (Gg hT) (by intro z;cases z) fin
 |_=>cases hb
theorem Qm:ef X (.builtin "isinstance") U_:=⟨_,Gh,λws vs st H m Q S r p=>by
 match ws,r,p with
 |[],r,p=>exact ae p
 |[x],r,p=>cases x<;>exact ae p
 |x::y::z::t,r,p=>cases y<;>exact ae p
 |[x,y],r,p=>
  obtain⟨v,v',rfl,rx,ry⟩:=Az r;cases y with
  |ty T=>
   unfold ag at ry;subst ry;have p':dC X.K m H (if oN T=true then(match WY st T x with |some b=> .ok (.bl b) st |none=> .bad)else .bad) Q:=p
   by_cases c:oN T=true
   ·rw[if_pos c]at p';cases e:WY st T x with
    |none=>rw[e]at p';exact ae p'
    |some b=>rw[e]at p';exact⟨m,st,x,T,v,b,rfl,S,rx,c,e,p' _ m H Ext.refl S kY⟩
   ·rw[if_neg c]at p';exact ae p'
  |_=>exact ae p⟩
def bD:GS:=λρ st=> .nx ρ st
def aO(g h:GS):GS:=λρ st=>match g ρ st with
 |.nx ρ' st'=>h ρ' st'
 |r=>r
theorem Lu:oK X [] bD:=oK.of Kx λρ st σ H m D S R p=>p σ m H Ext.refl S R
theorem Gi{rest:List Stmt}{g h:GS}(h1:JS X s g)(h2:oK X rest h):oK X (s::rest) (aO g h) :=
 oK.of (Fn NF iZ) λρ st σ H m D S R p=>h1 ρ st σ H m _ S R (by
  unfold aO at p;cases e:g ρ st with
  |nx ρ' st'=>rw[e]at p;exact λσ' m' H' e' S' R'=>h2 ρ' st' σ' H' m' D S' R' (aV.shift p e')
  |rt w st'=>rw[e]at p;exact p
  |bk ρ' st'=>rw[e]at p;exact p
  |ct ρ' st'=>rw[e]at p;exact p
  |err c ρ' st'=>rw[e]at p;exact p
  |bad=>rw[e]at p;exact p)
theorem Lw{g:GS}(h1:JS X s g):oK X [s] g:=oK.of (Ky NF) λρ st σ H m D S R p=>h1 ρ st σ H m D S R p
def a8(g:GE):GS:=λρ st=>(g ρ st).bR ρ λw st'=> .rt w st'
theorem Qn(h:JE X e g):JS X (.Return (some e) pos) (a8 g) :=
 JS.of (O8 br) λρ st σ H m D S R p=>h.go S R (aV.df R p) λw st1 v m1 H1 q e1 S1 r1=>q v m1 H1 e1 S1 r1
theorem Lx:JS X (.Pass pos) bD:=JS.of Kz λρ st σ H m D S R p=>p σ m H Ext.refl S R
def mQ(g:GE):GS:=λρ st=>(g ρ st).bR ρ λ_ st'=> .nx ρ st'
theorem Ly(h:JE X e g)(hs:swapsWith e none pos.line X.env=pure false:=by rfl):JS X (.Expr e pos) (mQ g) :=
 JS.of (KC br hs) λρ st σ H m D S R p=>h.go S R (aV.df R p) λw st1 v m1 H1 q e1 S1 r1=>q σ m1 H1 e1 S1 (R.mono e1)
def iB(gt:GT)(ga gb:GS):GS:=λρ st=>(gt ρ st).bR ρ λb st'=>if b=true then ga ρ st' else gb ρ st'
theorem U'{a b:List Stmt}{ga:GS}(hc:JT X c gt)(ha:oK X a ga)(hb:oK X b gb):JS X (.If c a b pos) (iB gt ga gb) :=
 JS.of (Uj rl iZ iZ) λρ st σ H m D S R p=>hc.go S R (aV.df R p) λk st1 m1 H1 q e1 S1=>by
  cases k with
  |true=>rw[if_pos rfl]at q ⊢;exact ha ρ st1 σ H1 m1 D S1 (R.mono e1) (aV.shift q e1)
  |false=>rw[if_neg bF]at q ⊢;exact hb ρ st1 σ H1 m1 D S1 (R.mono e1) (aV.shift q e1)
def bS(i:Nat)(g:GE):GS:=λρ st=>(g ρ st).bR ρ λw st'=> .nx (ρ.set i (some w)) st'
theorem vS(i:Nat)(hN:X.N.Nodup)(h:JE X e g)(hi:X.N[i]? =some x:=by rfl)(hx:Loc X.env.scope x:=by first |exact l9 rfl |exact l_ rfl)(hs:swapsWith e (some (.Name x pos')) pos.line X.env=pure false:=by rfl)
  (hf:X.fn x=true\/X.env.scope.names.lookup x=some .local:=by first |exact .inl rfl |exact .inr rfl |assumption):JS X (.Assign [.Name x pos'] e pos) (bS i g) :=
 JS.of (O_ hN hi hx br hs hf) λρ st σ H m D S R p=>h.go S R (aV.df R p) λw st1 v m1 H1 q e1 S1 r1=>q _ m1 H1 e1 S1 ((R.mono e1).set i r1)
def cF:GS:=λ_ _=> .bad
theorem bp:JS X s cF:=JS.of Fq λρ st σ H m D S R p=>p
theorem DW{s:List Stmt}:oK X s cF:=oK.of DD λρ st σ H m D S R p=>p
def Va(o i v:Wv)(ρ:bX)(st:Hs):Rs:=match o,i with
 |.ref l,.int k=>match st[l]? with
  |some (.lst ws)=>(match E6 ws.length k with |some j=> .nx ρ (st.set l (.lst (ws.set j v))) |none=> .bad)
  |_=> .bad
 |_,_=> .bad
def B4(ge go gi:GE):GS:=λρ st=>(ge ρ st).bR ρ λv st1=>(go ρ st1).bR ρ λo st2=>(gi ρ st2).bR ρ λi st3=>Va o i v ρ st3
theorem Lz{o i:Expr}(he:JE X e ge)(ho:JE X o go)(hi:JE X i gi)(hs:swapsWithSole [.Subscript o i pos'] e pos.line X.env=pure false:=by rfl)(hw:swappedStores [.Subscript o i pos'] e X.env=pure none:=by rfl)
  (h1:(assignEach [.Subscript o i pos'] X.env).map (·.2)=[assign (.Subscript o i pos') X.env]:=by rfl)
  (ha:∀v,assign (.Subscript o i pos') X.env v=(do
   let ov <-holding [v] (eval o X.env)
   let iv <-holding [v,ov] (eval i X.env)
   standAt pos'
   holding [v,ov,iv] (setItem ov iv v)
   release [v,ov,iv] []):=by intro _;rfl):JS X (.Assign [.Subscript o i pos'] e pos) (B4 ge go gi):=by
 refine JS.of (zY br (O9 br br set_list ha) hs hw h1) λρ st σ H m D S R p=>?_;refine he.go S R (aV.df R p) λv st1 vv m1 H1 p1 e1 S1 rv=>?_;refine ho.go S1 (R.mono e1) ((aV.df (m:=m) (H:=H) R p1).imp e1 λ_ _ q=>q) λo' st2 ov m2 H2 p2 e2 S2 ro=>?_;refine hi.go S2 (R.mono (e1.trans e2)) ((aV.df (m:=m) (H:=H) R p2).imp (e1.trans e2) λ_ _ q=>q) λi' st3 iv m3 H3 p3 e3 S3 ri=>?_;have DU:=e1.trans (e2.trans e3);cases o' with
 |ref l=>
  cases i' with
  |int k=>
   have mZ:aV X m H (match st3[l]? with |some (.lst ws)=>(match E6 ws.length k with |some j=> .nx ρ (st3.set l (.lst (ws.set j v))) |none=> .bad) |_=> .bad) D:=p3
   have ro3:=ag.mono e3 _ _ ro;unfold ag at ro3;obtain⟨a,rfl,f1⟩:=ro3;cases e:st3[l]? with
   |none=>rw[e]at mZ;exact ae mZ
   |some ob=>
    cases ob with
    |dct kvs=>rw[e]at mZ;exact ae mZ
    |gM kvs=>rw[e]at mZ;exact ae mZ
    |BW kvs=>rw[e]at mZ;exact ae mZ
    |E7 kvs=>rw[e]at mZ;exact ae mZ
    |FU kvs=>rw[e]at mZ;exact ae mZ
    |ins _ _=>rw[e]at mZ;exact ae mZ
    |xm ns=>rw[e]at mZ;exact ae mZ
    |lst ws=>
     rw[e]at mZ;cases ej:E6 ws.length k with
     |none=>simp only[ej]at mZ;exact ae mZ
     |some j=>simp only[ej]at mZ;obtain⟨xs,g1,g2⟩:=S3.rh f1 e;refine⟨a,xs,k,j,rfl,aX ri,g1,by rw[<-g2.length];exact ej,?_⟩;have rv3:=ag.mono (e2.trans e3) _ _ rv;have e4:Ext X.K m3 H3 m3 (upd H3 a (.lst (xs.set j vv))):=Ext.upd (.inr ⟨xs,g1⟩);exact mZ σ m3 _ (DU.trans e4) (S3.write f1 e (g2.set j rv3)) (R.mono (DU.trans e4))
  |_=>exact ae p3
 |_=>cases i'<;>exact ae p3
open Classical in
def forL(i:Nat)(gb:GS)(l:Nat)(all:List Wv):List Wv->bX->Hs->Rs
 |[],ρ,st=> .nx ρ st
 |w::r,ρ,st=>match gb (ρ.set i (some w)) st with
  |.nx ρ' st'=>if ao st' l=some all then forL i gb l all r ρ' st' else .bad
  |.ct ρ' st'=>if ao st' l=some all then forL i gb l all r ρ' st' else .bad
  |.bk ρ' st'=> .nx ρ' st'
  |.rt w st'=> .rt w st'
  |.err c ρ' st'=> .err c ρ' st'
  |.bad=> .bad
end
def CXJ(P:afV)(w:afY):E5:=λouter H s E e s'=>∃H' C,xF P w outer H s H' (.ref C) e s'/\E (.ref C) none H'
variable{b L C:afR}{o:Obj}{s:afW}{h base h2:Heap}{M:Model}{A:afS}{env:Env}{outer:List Env}{args:List afX}{P:afV}
section
variable {X:Cx}{pins:List (afR×Obj)}{σ:St}{Hc H':Hp}{sc s':afW}{cls e:afX}{E:afX->afW->Prop}{Q:Unit->afW->Prop}
theorem old_ne(I:Inv X pins σ Hc sc)(q:X.s₀.heap.get? b=some o):b≠X.env.locals:=λz=>by have h1:=az q;have h2:=I.ok.above;rw[z]at h1;exact absurd (bT h1 h2) (dz _)
theorem LA(I:Inv X pins σ Hc sc)(hst:X.stack=X.env::X.outer)(hf:X.env.frame=some X.env.locals)(q:X.s₀.heap.get? b=some o)(hb:b∉frs X.outer):b∉frs X.stack:=λz=>by
 rw[hst]at z;unfold frs at z;rw[k7,hf]at z;rcases List.mem_cons.mp z with z |z
 ·exact old_ne I q z
 ·exact hb z
theorem Gj(hst:X.stack=X.env::X.outer)(hf:X.env.frame=some X.env.locals)(hb:b∈frs X.outer):b∈frs X.stack:=by rw[hst];unfold frs;rw[k7,hf];exact av _ hb
theorem xO{e:afR}{a0 nt:afX}(hfr:A.frames=some (env::outer))(hf:env.frame=some L)
  (x:base.StaysIn s.heap/\base.get? e=none/\s.heap.FunFrames base (env::outer)/\WV s.heap base e cls a0 nt)(k:∀h',FR base (env::outer) e cls a0 L h'->s.heap.UpToSlots h'->Q () { s with heap:=h' }):
  aga M A (noteFrame (.ref e) env) Q E s:=by
 obtain⟨x1,x2,x3,x4⟩:=x;by_cases z:nt=rawInt L
 ·subst z;exact PV hf x4 (k s.heap ⟨x1,x2,x3,x4⟩ (Qo _))
 ·obtain⟨ox,us,T,ot,ws,g1,⟨g2,g3⟩,g4,g5,g6,g7,g8,g9,g10⟩:=x4;subst g2;have apart:∀b,b≠T->(s.heap.update T (g_ (·.setIfInBounds 3 bg))).get? b=s.heap.get? b:=λb hb=>qV _ _ (bC hb);have plain:∀b o,s.heap.get? b=some o->(∀vs,o.data≠.fields vs)->b≠T:=λb o hb hd q=>by subst q;rw[g8]at hb;cases hb;exact hd ws g9
  unfold noteFrame;simp only[hf];refine agb (wpAny_field g1 g4 g5 ?_);rw[if_pos (show(aA T != bg)=true from by simp)];refine agb (wpAny_field g8 g9 g10 ?_);rw[if_neg (show ¬((nt == rawInt L)=true) from by simpa using z)];refine agb (wpAny_setField g8 g9 (Array.getElem?_eq_some_iff.mp g10).1 ?_);refine FT (a0:=a0) hfr (x3.of_keeps λb o hb hd=>⟨o,(apart b (plain b o hb hd)).trans hb,rfl⟩) hf ((apart e (bC g7)).trans g1) (λb o hb=>(apart b λq=>by rw[q,g6]at hb;cases hb).trans (x1 b o hb)) x2 g4 (Array.getElem?_eq_some_iff.mp g5).1 g3 λh' y y4=>?_;exact k h' y λb o hb hd=>y4 b o ((apart b (plain b o hb hd)).trans hb) hd
theorem uJ{a:afR}(hfr:A.frames=some (env::outer))(hf:env.frame=some L)
  (st:base.StaysIn h)(fs:h.FunFrames base (env::outer))(mk:vN h s.heap a cls args)(k:∀h' a0,FR base (env::outer) a cls a0 L h'->s.heap.UpToSlots h'->Q () { s with heap:=h' }):
  aga M A (noteFrame (.ref a) env) Q E s:=by
 obtain⟨t,e1,e2,e3⟩:=mk.there;have fresh:∀b,h.get? b=none->base.get? b=none:=λb hb=>by
  cases q:base.get? b with
  |none=>rfl
  |some o'=>have z:=st b o' q;rw[hb]at z;cases z
 have fs':=fs.of_keeps (h':=s.heap) λb o hb _=>⟨o,mk.keeps b o hb,rfl⟩;unfold noteFrame;simp only[hf];refine agb (wpAny_field e1 rfl (x:=.none) rfl ?_);rw[if_neg (by decide)];exact FT hfr fs' hf e1 (λb o hb=>mk.keeps b o (st b o hb)) (fresh a mk.new) rfl (by simp) (a0:=.ref t) rfl λh' l1 l4=>k h' (.ref t) l1 l4
theorem Gk{ch:List afR}(hx:X.ex=[])(hst:X.stack=X.env::X.outer)(hf:X.env.frame=some X.env.locals)(I:Inv X pins σ Hc sc){B:Heap}(hch:∀b∈ch,ff X pins Hc b)(un:Un (frs X.stack) ch Hc H' sc.heap s'.heap)(up:s'.heap.UpToSlots h2)(stay:B.StaysIn h2)
  (xG:∀b o,sc.heap.get? b=some o->b∉frs X.stack->b∉ch->∃o',B.get? b=some o'/\(Hc b=none->o'=o)):
  Un (frs X.outer) [] X.H₀ H' X.s₀.heap h2/\(∀b o,X.s₀.heap.get? b=some o->b∉frs X.outer->∃o',B.get? b=some o'/\(X.H₀ b=none->o'=o)):=by
 have nx:∀b:afR,b∉X.ex:=λb=>by rw[hx];simp
 have nc:∀b o,X.s₀.heap.get? b=some o->b∉ch:=λb o q z=>by
  rcases(hch b z).2.2.2.1 with y |y
  ·exact nx b y
  ·exact absurd (bT (az q) y) (dz _)
 have Qp:∀b o,X.s₀.heap.get? b=some o->b∉frs X.outer->∃o',B.get? b=some o'/\(X.H₀ b=none->o'=o):=λb o q hb=>by obtain⟨o1,q1⟩:=I.base.there b o q (nx b);obtain⟨o2,q2,q3⟩:=xG b o1 q1 (LA I hst hf q hb) (nc b o q);refine⟨o2,q2,λn=>?_⟩;have q4:=I.base.keep b o q n hb (nx b);rw[q4]at q1;cases q1;exact q3 (I.base.free b o q n (nx b))
 have sl:∀b o,X.s₀.heap.get? b=some o->X.H₀ b=none->b∈frs X.outer->∃sl,h2.get? b=some { o with slots:=sl }:=λb o q n hb=>by obtain⟨s1,q1⟩:=I.base.slot b o q n hb (nx b);obtain⟨s2,q2⟩:=un.slot b _ q1 (I.base.free b o q n (nx b)) (Gj hst hf hb) (nc b o q);obtain⟨_,o3,q3,q4⟩:=I.ok.nE.mem hb;rw[q]at q3;cases q3;obtain⟨s3,q5⟩:=up b _ q2 q4;exact⟨s3,q5⟩
 refine⟨⟨λb o q n hb _=>?_,λb o q n hb _=>sl b o q n hb,λb o q n _=>?_,λb o q _=>?_,λb xs h=>un.tups b xs (I.base.tups b xs h),λb o u h=>un.k6 b o u (I.base.k6 b o u h),λb ps h=>?_⟩,Qp⟩
 ·obtain⟨o2,q2,q3⟩:=Qp b o q hb;rw[q3 n]at q2;exact stay b o q2
 ·obtain⟨o1,q1⟩:=I.base.there b o q (nx b);exact un.free b o1 q1 (I.base.free b o q n (nx b)) (nc b o q)
 ·by_cases hb:b∈frs X.outer
  ·obtain⟨s3,q3⟩:=sl b o q (I.ok.Nx b hb) hb;exact⟨_,q3⟩
  ·obtain⟨o2,q2,_⟩:=Qp b o q hb;exact⟨o2,stay b o2 q2⟩
 ·obtain⟨m1,t1⟩:=I.base.mX b ps h;obtain⟨m2,t2⟩:=un.mX b _ t1;exact⟨m1++m2,by rw[<-Array.append_assoc];exact t2⟩
theorem xP(hx:X.ex=[])(hst:X.stack=X.env::X.outer)(hf:X.env.frame=some X.env.locals)(I:Inv X pins σ Hc sc)(F:k_ X pins Hc sc H' cls e s')
  (k:∀s2,xF X.prog X.w X.outer X.H₀ X.s₀ H' cls e s2->Q () s2):aga (model X.prog X.w) X.A (leaving X.env e) Q E s':=by
 obtain⟨a,a0,nt,B,ch,rfl,os,bare,hch,un,hok,fl,xG⟩:=F;have hfr:X.A.frames=some (X.env::X.outer):=by rw[I.ok.frames,hst]
 rw[hst]at fl;unfold leaving;refine agb (xO hfr hf fl λh1 hd1 up1=>?_);refine xD hd1 λh2 E8 Vb=>k _ ?_;obtain⟨k1,k2,⟨_,_,k3⟩,k4⟩:=E8;obtain⟨u2,c2⟩:=Gk hx hst hf I hch un (up1.trans Vb) k1 xG;exact⟨a,a0,B,rfl,os.trans I.os,bare,u2,hok,⟨k1,k2,k3,k4⟩,c2⟩
theorem xQ{w:afY}{l:List afR}(ok:kZ P w H h)(fr:∀b∈l,H b=none):kZ P w H (PySem.W.hideAll h l):=λa o q=>
 (ok a o q).stay (λb u hb r=>PySem.W.hideAll_get _ r λz=>by
  have n:=fr b z;rcases hb with hb |hb
  ·rw[hb,q]at n;cases n
  ·rw[hb]at n;cases n) (λ_ r=>r) λ_ _ r=>r
theorem AB{a:afR}(hx:X.ex=[])(hst:X.stack=X.env::X.outer)(hf:X.env.frame=some X.env.locals)(I:Inv X pins σ Hc sc)(ho:s'.os=sc.os)(hgn:s'.gens=sc.gens)
  (M:vN sc.heap s'.heap a (.ref C) args)(k:∀s2,xF X.prog X.w X.outer X.H₀ X.s₀ Hc (.ref C) (.ref a) s2->Q () s2):aga (model X.prog X.w) X.A (leaving X.env (.ref a)) Q E s':=by
 have hfr:X.A.frames=some (X.env::X.outer):=by rw[I.ok.frames,hst]
 have fs:sc.heap.FunFrames (PySem.W.hideAll sc.heap (frs X.stack)) (X.env::X.outer):=by rw[<-hst];exact PySem.W.funFrames_hide I.stack λenv he b hb=>List.mem_filterMap.mpr ⟨env,he,hb⟩
 unfold leaving;refine agb (uJ (base:=PySem.W.hideAll sc.heap (frs X.stack)) hfr hf (λb o q=>PySem.W.of_hideAll _ q) fs M λh1 t hd1 up1=>?_);refine xD hd1 λh2 E8 Vb=>k _ ?_;have up:=up1.trans Vb
 replace E8:vL (PySem.W.hideAll sc.heap (frs X.stack)) X.outer a (.ref C) t h2:=let ⟨k1,k2,⟨_,_,k3⟩,k4⟩:=E8;⟨k1,k2,k3,k4⟩
 obtain⟨u2,c2⟩:=Gk (H':=Hc) (s':=s') (ch:=[]) hx hst hf I (λb z=>by cases z) (Un.kept M.keeps) up E8.1 λb o q hb _=>⟨o,PySem.W.hideAll_get _ q hb,λ_=>rfl⟩;exact⟨a,t,_,rfl,ho.trans I.os,by rw[show({ s' with heap:=h2 }:afW).gens=sc.gens from hgn];exact I.bare,u2,xQ I.hok I.nG,E8,c2⟩
end
def NO(K:PySem.W.Frag)(m:Mp)(H:Hp)(r:Re Wv)(Q:VK)(E:XK):Prop:=match r with
 |.ok w st=>TN K m H Q w st
 |.err c st=>∀(m':Mp)(H':Hp)(C:afR),Ext K m H m' H'->bJ K m' st H'->ClsAt K c C->E (.ref C) none H'
 |.bad=>False
def spW(K:PySem.W.Frag)(n:Nat)(F:List Wv->Hs->Re Wv):Sp:=λvs H Q E=>∃m st ws,bJ K m st H/\ai K m H ws vs/\ws.length=n/\NO K m H (F ws st) Q E
def au(n:Nat)(F:List Wv->Hs->Re Wv)(g:GA):GE:=λρ st=>(g ρ st).bind λws st1=>if ws.length=n then F ws st1 else .bad
variable{f:afR}{k:Nat}{fd:afT}{ps:List Str}{F:List Wv->Hs->Re Wv}
section
variable {X:Cx}
theorem LB{g:GA}
  (G:FnOk X.prog X.w X.K X.mg X.base (CXJ X.prog X.w) k f fd ps (spW X.K n F))(hr:k9 k X.A)(hm:X.mg x=some (.ref f))(hk:PySem.W.keepIn X.K (.ref f)=true)(hb:Binds X.K fd ps [])(ha:JA X (e::es) g)(hg:Gl X x:=by rfl)
  (hdb:(x == ("__debug__":Str))=false:=by decide)(he:af9 (e::es) X.env=(false,eval e X.env)::af9 es X.env:=by rfl)(hpl:(backTo pos (af9 es X.env)).any (·.1)=false:=by rfl):
  JE X (.Call (.Name x p) (e::es) [] pos) (au n F g):=by
 intro ρ st σ H m Q S R p pins s I;have args:=ha.go (T:=λvs H1=>∃ws st1 m1,gE X σ m H (if ws.length=n then F ws st1 else .bad) Q/\Ext X.K m H m1 H1/\bJ X.K m1 st1 H1/\ai X.K m1 H1 ws vs) S R (aE.bind p)
  λws st1 vs m1 H1 p1 e1 S1 rs=>⟨ws,st1,m1,p1,e1,S1,rs⟩
 refine wpAny_Call_Name_kw (qi I hg hm ?_ hdb);refine PySem.W.callWith_K (h₀:=X.base) I.ok.mod.Nw hk (bR (args pos pins s I) λus s1 ⟨vs,H1,I1,r,ws,st1,m1,p1,e1,S1,rs⟩=>⟨I1.vw,?_⟩) he hpl;by_cases c:ws.length=n
 ·rw[if_pos c]at p1
  let E:XK:=λcl _ H2=>∃c' st2 m2 C,cl= .ref C/\ClsAt X.K c' C/\F ws st1= .err c' st2/\Ext X.K m1 H1 m2 H2/\bJ X.K m2 st2 H2
  have sp:spW X.K n F vs H1 Q E:=by
   refine⟨m1,st1,ws,S1,rs,c,?_⟩;cases er:F ws st1 with
   |ok w st2=>rw[er]at p1;exact gE.shift (r:=.ok w st2) p1 e1
   |err c' st2=>exact λm2 H2 C e2 S2 hC=>⟨c',st2,m2,C,rfl,hC,er,e2,S2⟩
   |bad=>rw[er]at p1;exact ae p1
  have hl:us.length=ps.length:=by rw[<-r.length];exact G.len _ _ _ _ sp
  have bd:=hb s1 us I1.vw (by rw[j8];exact hl);rw[j8]at bd;refine wpAny_call (codeAny_mono (G.run X.A X.stack s1 H1 ⟨us,[]⟩ us vs Q E hr I1.X' bd r sp) λrr s2 hq=>?_);cases rr with
  |error x=>obtain⟨H2,C,fl,c',st2,m2,C',ec,hC,er,e2,S2⟩:=hq;cases ec;rw[er]at p1;exact p1 m2 H2 x s2 (e1.trans e2) S2 ⟨C,pins,H1,s1,hC,I1,.inl fl.any⟩
  |ok fw=>
   cases fw with
   |ret u=>exact I1.after hq
   |next=>exact ae hq
   |brk=>exact ae hq
   |cont=>exact ae hq
 ·rw[if_neg c]at p1;exact ae p1
end
def cA(n:Nat)(g:GS):List Wv->Hs->Re Wv:=λws st=>match g (ws.map some++ay (n - ws.length) none) st with
 |.nx _ st'=> .ok .bK st'
 |.rt w st'=> .ok w st'
 |.err c _ st'=> .err c st'
 |_=> .bad
variable{N:List Str}
theorem Gm(r:ai K m H ws vs)(h:ws.length<=N.length):aG K m H (ws.map some++ay (N.length - ws.length) none) (L2.start N vs):=by
 have hl:=r.length;refine⟨by unfold L2.start;simp[hl],λi w e=>?_⟩;by_cases hi:i < ws.length
 ·rw[dM (by simpa using hi),cM]at e;cases q:ws[i]? with
  |none=>rw[q]at e;cases e
  |some w'=>rw[q]at e;cases e;obtain⟨x,h1,h2⟩:=r.get q;refine⟨x,?_,h2⟩;unfold L2.start;rw[dM (by simp;omega),cM,h1];rfl
 ·rw[fz (by simpa using hi),ql]at e;split at e<;>cases e
variable{qual:Str}{scope:Scope}{cdv:afX}{s':afW}{H':Hp}
section
variable {P:afV}{w:afY}{K:PySem.W.Frag}{mg:Str->Option afX}{base:Heap}
theorem AD{E:XK}{c:PySem.Str}{e:afX}
  (r:Au (tV (CXJ P w) P w K mg base N qual scope f cdv A outer s H E) σ H' c e s')(h:∀C,ClsAt K c C->E (.ref C) none H'):(tV (CXJ P w) P w K mg base N qual scope f cdv A outer s H E).xe e s':=by
 obtain⟨C,pins,Hc,sc,hC,I,r⟩:=r;rcases r with fl |⟨rfl,a,args,rfl,ho,hg,M⟩
 ·exact xP (X:=tV (CXJ P w) P w K mg base N qual scope f cdv A outer s H E) rfl rfl rfl I fl λs2 E8=>⟨H',C,E8,h C hC⟩
 ·exact AB (X:=tV (CXJ P w) P w K mg base N qual scope f cdv A outer s H E) rfl rfl rfl I ho hg M λs2 E8=>⟨H',C,E8,h C hC⟩
def Gn(K:PySem.W.Frag)(f:afR)(cdv:afX):Prop:=∃o,K.lookup f=some o/\∃fd,o.data= .func fd/\fd.code=cdv
theorem NP{st:Stmt}{g:GS}(F:PL K x qual st f fd)(S:FnScope N ps (defScope st))
  (body:∀(cdv:afX),Gn K f cdv->∀(A:afS)(outer:List Env)(s:afW)(H:Hp)(E:XK),k9 k (A.deeper (envOfC qual (defScope st) s.heap.objs.size f cdv))->oK (tV (CXJ P w) P w K mg base N qual (defScope st) f cdv A outer s H E) (defBody st) g):
  FnOk P w K mg base (CXJ P w) (k+1) f fd ps (spW K ps.length (cA N.length g)):=by
 have hpl:ps.length<=N.length:=by have:=congrArg fv S.pre;rw[nI]at this;omega
 obtain⟨oc,od,kV,doc,pm,an,cdv,ct,osl,rfl,lk,hcd⟩:=F.ex;refine UB lk hcd S (λvs H Q E h=>?_) λA outer s H vs Q E hr h=>?_
 ·obtain⟨m,st',ws,_,r,hl,_⟩:=h;rw[<-r.length];exact hl
 ·obtain⟨m,st',ws,S',r,hl,p⟩:=h;refine⟨_,iZ,?_⟩;refine body cdv ⟨_,lk,_,rfl,rfl⟩ A outer s H E hr _ st' _ H m _ S' (Gm r (by omega)) ?_;unfold cA at p;cases e:g (ws.map some++ay (N.length - ws.length) none) st' with
  |nx ρ st2=>rw[e]at p;exact λσ m' H' e' S2 R2=>p _ m' H' e' S2 (by unfold ag;rfl)
  |rt w' st2=>rw[e]at p;exact p
  |bk ρ st2=>rw[e]at p;exact ae p
  |ct ρ st2=>rw[e]at p;exact ae p
  |err c ρ st2=>rw[e]at p;exact λσ m' H' x s' e' S2 R2 rz=>AD rz λC hC=>p m' H' C e' S2 hC
  |bad=>rw[e]at p;exact ae p
end
def OnlyT(H:Hp):Prop:=∀b,H b=none\/(∃o xs,H b=some (.iV o (.lst xs)))\/H b=some (.jG #[])
theorem OnlyT.of(h:K8 H):OnlyT H:=λb=>by
 rcases h b with q |q
 ·exact .inl q
 ·exact .inr (.inl q)
theorem law_sp(h:∀ns:List Int,ns.length<=63->∃st,F [.ref 0] [.xm ns]= .ok (.bl true) st)(H:Hp)(a:afR)(ns:List Int)(hl:ns.length<=63)(hO:OnlyT H)(hS:l5 K H a (ns.map V.int))(hT:vM K H):
  spW K 1 F [.ref a] H (λv _=>v= .bl true) λ_ _ _=>False:=by
 obtain⟨st,e⟩:=h ns hl;refine⟨[a],[.xm ns],[.ref 0],⟨rfl,λl b o h1 h2=>?_,λl l' b ws NQ _ _ h2 _ k _=>?_,hT⟩,ai.cons (by unfold ag;exact⟨a,rfl,rfl⟩) ai.nil,rfl,?_⟩
 ·cases l with
  |zero=>
   simp at h1 h2;subst h1 h2;show xE K H a ns;rcases hS with (q |⟨o',q⟩) |q
   ·rcases hO a with z |⟨o',xs,z⟩ |z
    ·rw[z]at q;cases q
    ·rw[z]at q;cases q
    ·rw[z]at q;cases q
   ·exact .inl ⟨o',q⟩
   ·exact .inr q
  |succ l=>simp at h1
 ·cases l with
  |zero=>simp at h2;subst h2;simp[Ob.mu]at k
  |succ l=>simp at h2
 ·rw[e];intro v m' H' _ _ r;unfold ag at r;exact r
def Qq(w:Wv)(st:Hs):Re Bool:=match w with
 |.bK=> .ok false st
 |.bl b=> .ok b st
 |.int i=> .ok (i != 0) st
 |.str y=>if y.length<=lim then .ok ((y.length:Int) != 0) st else .bad
 |.tup ws=> .ok (!ws.isEmpty) st
 |.iY _=> .bad
 |.ref l=>match ao st l with
  |some ws=> .ok (!ws.isEmpty) st
  |none=> .bad
 |.ty _=> .bad
 |.cls _=> .bad
 |.DS _=> .bad
 |.fn _ _=> .bad
def ll(g:GE):GT:=λρ st=>(g ρ st).bind Qq
variable{x:PySem.Str}
section
variable {X:Cx}
theorem isE(r:ai X.K m H ws xs):(!ws.isEmpty)= !xs.isEmpty:=by have h:=r.length;cases ws<;>cases xs<;>simp_all
theorem rA(h:JE X e g)(he:∀whole,isTrue e X.env whole=(do let v <-whole;standAt e.pos;holding [v] (truthy v))):JT X e (ll g) :=
 JT.of (Fx br he) λρ st σ H m Q S R p=>h.go S R (aE.bind p) λw st1 v m1 H1 p1 e1 S1 r1=>by
  cases w with
  |bK=>unfold ag at r1;subst r1;exact⟨false,rfl,p1 m1 H1 e1 S1⟩
  |bl b=>unfold ag at r1;subst r1;exact⟨b,rfl,p1 m1 H1 e1 S1⟩
  |int i=>unfold ag at r1;subst r1;exact⟨_,rfl,p1 m1 H1 e1 S1⟩
  |str y=>
   obtain⟨rfl,_⟩:=fg r1;have p2:jK X σ m H (if y.length<=lim then .ok ((y.length:Int) != 0) st1 else .bad) Q:=p1;by_cases c:y.length<=lim
   ·rw[if_pos c]at p2;exact⟨_,⟨eD c,rfl⟩,p2 m1 H1 e1 S1⟩
   ·rw[if_neg c]at p2;exact ae p2
  |iY ws=>exact ae p1
  |tup ws=>unfold ag at r1;obtain⟨a,xs,rfl,h1,h2⟩:=r1;refine⟨!xs.isEmpty,.inr (.inl ⟨xs,eO.of h1,rfl⟩),?_⟩;rw[<-isE h2];exact p1 m1 H1 e1 S1
  |ref l=>
   unfold ag at r1;obtain⟨a,rfl,h1⟩:=r1;have p2:jK X σ m H (match ao st1 l with |some ws=> .ok (!ws.isEmpty) st1 |none=> .bad) Q:=p1
   cases el:ao st1 l with
   |none=>rw[el]at p2;exact ae p2
   |some ws=>rw[el]at p2;obtain⟨xs,hq,h2⟩:=S1.read h1 el;refine⟨!xs.isEmpty,.inl ⟨xs,hq,rfl⟩,?_⟩;rw[<-isE h2];exact p2 m1 H1 e1 S1
  |ty T=>exact ae p1
  |cls T=>exact ae p1
  |DS T=>exact ae p1
  |fn fp T=>exact ae p1
theorem xR{p:Nat->Bool}{x:Array Nat}(hx:x.all p=true):∀(n:Nat)(a:Array Nat),a.all p=true->((ay n x).foldl (· ++·) a).all p=true
 | 0,a,h=>h
 |n+1,a,h=>by rw[gZ,oI];refine xR hx n _ ?_;rw[Array.all_append,h,hx];rfl
theorem DX(h:bB x=true):bB (xJ n x)=true:=by unfold bB at h ⊢;unfold xJ;exact xR h n #[] (by simp)
theorem uK{x:Array Nat}:∀(n:Nat)(a:Array Nat),((ay n x).foldl (· ++·) a).size=a.size+x.size * n
 | 0,a=>by simp
 |n+1,a=>by rw[gZ,oI,uK n,Array.size_append,Nat.mul_succ];omega
theorem Gp:(xJ n x).length=x.length * n:=by show((ay n x.cps).foldl (· ++·) #[]).size=x.cps.size * n;rw[uK];simp
def uL(x:PySem.Str)(n:Int):Prop:=1 < n/\n<=100000/\x.length≠0/\x.length * n.toNat<=lim
instance {x n}:Decidable (uL x n):=by unfold uL;infer_instance
theorem LC:fV X (af0 .Mult) (λx y H Q=>∃z n,x= .str z/\y= .int n/\uL z n/\Q (.str (xJ n.toNat z)) H):=by
 intro pins s σ H x y v u Q I rx ry h;obtain⟨z,n,rfl,rfl,⟨h1,h2,h3,h4⟩,q⟩:=h;obtain⟨t,rfl⟩:=rx;obtain⟨t',rfl⟩:=ry;have n1:¬n < 1:=by omega
 have hlen:z.length<=lim:=by refine bZ ?_ h4;exact Nat.le_mul_of_pos_right _ (by omega)
 have hne:(n == 1||z.length == 0)=false:=by
  have e1:(n == 1)=false:=by rw[beq_eq_false_iff_ne];omega
  have e2:(z.length == 0)=false:=by rw[beq_eq_false_iff_ne];exact h3
  rw[e1,e2];rfl
 have hl:PySem.Builtin.Str.tooLong (z.length * n.toNat)=false:=by
  unfold PySem.Builtin.Str.tooLong;have q:=eD h4
  first
   |exact decide_eq_false (by omega)
   |simp only[decide_eq_false_iff_not];omega
 refine PySem.P.mul_str (by
   have e1:¬n < -(2 ^ 63:Int):=by omega
   have e2:¬n >= 2 ^ 63:=by omega
   rw[decide_eq_false e1,decide_eq_false e2];rfl) (λ_ _=>?_) (λ_ _=>hl) ?_
 ·have e:((2:Int) ^ 63 - 1) / 100000<=(2 ^ 63 - 1) / n:=by refine Int.le_ediv_of_mul_le (by omega) ?_;have:((2:Int) ^ 63 - 1) / 100000 * n<=((2:Int) ^ 63 - 1) / 100000 * 100000:=Int.mul_le_mul_of_nonneg_left h2 (by decide);exact Int.le_trans this (by decide)
  have e':(1000000:Int)<=(2 ^ 63 - 1) / 100000:=by decide
  unfold lim at hlen;omega
 ·rw[if_neg n1,if_neg (by rw[hne];exact bF)];exact⟨by show(xJ n.toNat z).length<=_;rw[Gp];exact eD h4,.str (xJ n.toNat z),H,I.tok _,⟨_,rfl⟩,q⟩
def NR:fX
 |.int i,.int j,st=>if IntMulOk i j then .ok (.int (i * j)) st else .bad
 |.str z,.int n,st=>if uL z n then .ok (.str (xJ n.toNat z)) st else .bad
 |_,_,_=> .bad
theorem LD:jU X (af0 .Mult) NR:=⟨_,fV.or Le LC,λx y a b st H m Q S rx ry p=>by
 cases x with
 |int i=>
  cases y with
  |int j=>
   cases aX rx;cases aX ry;have p':dC X.K m H (if IntMulOk i j then .ok (.int (i * j)) st else .bad) Q:=p;by_cases c:IntMulOk i j
   ·rw[if_pos c]at p';exact .inl ⟨i,j,rfl,rfl,c,p' _ m H Ext.refl S mkInt⟩
   ·rw[if_neg c]at p';exact ae p'
  |_=>exact ae p
 |str z=>
  cases y with
  |int n=>
   obtain⟨rfl,hz⟩:=fg rx;cases aX ry;have p':dC X.K m H (if uL z n then .ok (.str (xJ n.toNat z)) st else .bad) Q:=p;by_cases c:uL z n
   ·rw[if_pos c]at p';exact .inr ⟨z,n,rfl,rfl,c,p' _ m H Ext.refl S (mkStr (DX hz))⟩
   ·rw[if_neg c]at p';exact ae p'
  |_=>exact ae p
 |_=>exact ae p⟩
def cb:GE:=λ_ _=> .bad
def nQ:GT:=λ_ _=> .bad
theorem aJ:JE X e cb:=λρ st σ H m Q S R p=>ae p
theorem oO:JT X e nQ:=λρ st σ H m Q S R p=>ae p
end
def fj(P:afV)(w:afY)(K:PySem.W.Frag)(mg:Str->Option afX)(base:Heap)(k:Nat)(x:Str)(n:Nat)(F:List Wv->Hs->Re Wv):Prop :=
 ∃f fd ps,FnOk P w K mg base (CXJ P w) k f fd ps (spW K n F)/\mg x=some (.ref f)/\PySem.W.keepIn K (.ref f)=true/\Binds K fd ps []
variable{x:Str}{mg:Str->Option afX}{j:Nat}
theorem fj.mono{w:afY}(h:fj P w K mg base j x n F)(l:j<=k):fj P w K mg base k x n F:=by obtain⟨f,fd,ps,G,r⟩:=h;exact⟨f,fd,ps,G.mono l,r⟩
def bu(K:PySem.W.Frag)(x:Str)(st:Stmt):Prop:=∃f fd,PySem.W.nsIn K af7 x=some (some (.ref f))/\PL K x x st f fd
theorem Qr{st:Stmt}{oc:afX}{od an:Option afR}{osl:Array (Option afX)}{kV doc pm ct:afX}(a:PySem.W.nsIn K af7 x=some (some (.ref f)))
  (l:K.lookup f=some ⟨oc,od,.func (PySem.W.fnOf x x (defArgs st) (defBody st) (defScope st) .none kV doc pm an cdv ct),osl⟩)(c:PySem.W.codeIn K cdv x=true)(k:PySem.W.keepIn K (.ref f)=true):bu K x st:=⟨f,_,a,PM l c k⟩
theorem Gq:af1 "isinstance"=some (.builtin "isinstance"):=by decide+kernel
theorem uM:af1 "len"=some (.builtin "len"):=by decide+kernel
theorem Gs:af1 "int"=some (.type "int"):=by decide+kernel
theorem Gu:af1 "str"=some (.type "str"):=by decide+kernel
theorem Gv:af1 "bool"=some (.type "bool"):=by decide+kernel
theorem xS:af1 "tuple"=some (.type "tuple"):=by decide+kernel
theorem Gw:af1 "list"=some (.type "list"):=by decide+kernel
def Qs:Wv->Option Int
 |.int i=>some i
 |_=>none
theorem Gx{w:Wv}(h:Qs w=some i):w= .int i:=by cases w<;>cases h<;>rfl
def two:List Wv->Option (Int×Int)
 |[x,y]=>(Qs x).bind λi=>(Qs y).map λj=>(i,j)
 |_=>none
theorem two_eq{j:Int}(h:two ws=some (i,j)):ws=[.int i,.int j]:=by
 cases ws with
 |nil=>cases h
 |cons x r=>
  cases r with
  |nil=>cases h
  |cons y r=>
   cases r with
   |cons _ _=>cases h
   |nil=>
    have h:(Qs x).bind (λi=>(Qs y).map λj=>(i,j))=some (i,j):=h;cases e1:Qs x with
    |none=>rw[e1]at h;cases h
    |some a=>
     cases e2:Qs y with
     |none=>rw[e1,e2]at h;cases h
     |some b=>rw[e1,e2]at h;cases h;rw[Gx e1,Gx e2]
@[simp] theorem two_i{j:Int}:two [.int i,.int j]=some (i,j):=rfl
def c_(i:Nat)(gb:GS):List Wv->bX->Hs->Rs
 |[],ρ,st=> .nx ρ st
 |w::r,ρ,st=>match gb (ρ.set i (some w)) st with
  |.nx ρ' st'=>c_ i gb r ρ' st'
  |.ct ρ' st'=>c_ i gb r ρ' st'
  |.bk ρ' st'=> .nx ρ' st'
  |.rt w st'=> .rt w st'
  |.err c ρ' st'=> .err c ρ' st'
  |.bad=> .bad
variable{ga:GA}{lo:Int}{l tg iter:Expr}{body:List Stmt}{J':It}{D:Ends}{tl:TE}{q:Pos}
section
variable {X:Cx}
theorem nR(i:Nat)(hb:oK X body gb)(S1:bJ X.K m1 st1 H1)(R:aG X.K m1 H1 ρ σ)(p1:aV X m1 H1 (c_ i gb ws ρ st1) D)
  (hgo:∀(k:Nat)(H:Hp)(m':Mp),Ext X.K m1 H1 m' H->k < ws.length->J'.go k H)(hstop:∀(k:Nat)(H:Hp)(m':Mp),Ext X.K m1 H1 m' H->k=ws.length->J'.stop k H)
  (hy:∀(k:Nat)(hk:k < ws.length)(H:Hp)(x:V)(H':Hp)(m':Mp),Ext X.K m1 H1 m' H->J'.xv k H x H'->H'=H/\ag X.K m' H ws[k] x):
  ∃W:Nat->Nat->St->Hp->Prop,(∃m,W 0 m σ H1)/\∀k n σ H,W k n σ H->
   (J'.stop k H/\D.nx σ H)\/(J'.go k H/\∃N:St->Hp->Prop,(∀σ' H',N σ' H'->∃m',m' < n/\W (k+1) m' σ' H')/\∀x H',J'.xv k H x H'->xu i x σ H' λσ2 H2=>WW X body { D with nx:=N,ct:=N,bk:=D.nx } σ2 H2):=by
 let Pv:Nat->St->Hp->Prop:=λk σ H=>∃ρ st m',Ext X.K m1 H1 m' H/\bJ X.K m' st H/\aG X.K m' H ρ σ/\aV X m' H (c_ i gb (ws.drop k) ρ st) D
 refine⟨λk n σ H=>n=ws.length - k/\k<=ws.length/\Pv k σ H,⟨ws.length,by simp,bH _,ρ,st1,m1,Ext.refl,S1,R,p1⟩,?_⟩;rintro k n σ2 H2 ⟨rfl,hk,ρ2,st2,m2,e2,S2,R2,p2⟩;by_cases hlt:k < ws.length
 ·refine .inr ⟨hgo k H2 m2 e2 hlt,Pv (k+1),λσ' H' p'=>⟨ws.length - (k+1),by omega,rfl,hlt,p'⟩,λx H' y=>?_⟩;obtain⟨ee,zS⟩:=hy k hlt H2 x H' m2 e2 y;subst ee;have ed:ws.drop k=ws[k]::ws.drop (k+1):=rB hlt;rw[ed]at p2;refine hb _ st2 _ _ m2 _ S2 (R2.set i zS) ?_;unfold c_ at p2;cases eg:gb (ρ2.set i (some ws[k])) st2 with
  |nx ρ3 st3=>rw[eg]at p2;exact λσ3 m3 H3 e3 S3 R3=>⟨ρ3,st3,m3,e2.trans e3,S3,R3,aV.shift p2 e3⟩
  |ct ρ3 st3=>rw[eg]at p2;exact λσ3 m3 H3 e3 S3 R3=>⟨ρ3,st3,m3,e2.trans e3,S3,R3,aV.shift p2 e3⟩
  |bk ρ3 st3=>rw[eg]at p2;exact p2
  |rt w3 st3=>rw[eg]at p2;exact p2
  |err c3 ρ3 st3=>rw[eg]at p2;exact p2
  |bad=>rw[eg]at p2;exact p2
 ·have e:k=ws.length:=by omega
  subst e;rw[AE]at p2;exact .inl ⟨hstop _ H2 m2 e2 rfl,p2 σ2 m2 H2 Ext.refl S2 R2⟩
def Ys(K:PySem.W.Frag)(tl:TE):TI:=λσ H R=>tl σ H λx H1=>∃a,x= .ref a/\(((∃xs,l5 K H1 a xs)/\R (Itl K a) H1)\/((∃xs,eO K H1 a xs)/\R (Um K a) H1))
theorem Gy(hl:PE X l tl):PI X tg l (Ys X.K tl):=by
 intro pins s σ H R I h;refine bR (hl pins s σ H _ I h) λv s1 ⟨x,H1,I1,r1,q1⟩=>?_;obtain⟨a,e,q1⟩:=q1;subst e;cases r1;have frs:∀b∈[s1.heap.objs.size],ff X pins H1 b:=λb hb=>by
  have e:b=s1.heap.objs.size:=by simpa using hb
  subst e;exact I1.zZ (ar _) (I1.hok.fresh (ar _))
 rcases q1 with ⟨⟨xs,hq⟩,q⟩ |⟨⟨xs,hq⟩,q⟩
 ·obtain⟨its,rv,p,hz⟩:=I1.list hq;refine wpAny_pyIter_list p.isList ?_;exact⟨s1.heap.objs.size,[s1.heap.objs.size],_,_,H1,rfl,I1.kept (t':=s1.toks) λb o e=>aT _ e,DE a _,⟨_,bE _ rfl,rfl,rfl⟩,frs,q⟩
 ·obtain⟨its,rv,p,hz⟩:=I1.tuple hq;refine wpAny_pyIter_tuple (show s1.heap.IsTuple a its.toArray from p) ?_;exact⟨s1.heap.objs.size,[s1.heap.objs.size],_,_,H1,rfl,I1.kept (t':=s1.toks) λb o e=>aT _ e,z_ a _,⟨_,bE _ rfl,rfl,rfl⟩,frs,q⟩
def rC(i:Nat)(gi:GE)(gb:GS):GS:=λρ st=>(gi ρ st).bR ρ λw st1=>match w with
 |.ref l=>(match ao st1 l with |some ws=>forL i gb l ws ws ρ st1 |none=> .bad)
 |.tup ws=>c_ i gb ws ρ st1
 |.iY ws=>c_ i gb ws ρ st1
 |_=> .bad
theorem vT(i:Nat)(hN:X.N.Nodup)(hp:PassesOwn (model X.prog X.w) X.A X.env X.xe)(hc:X.calm=true)(hi:JE X iter gi)(hb:oK X body gb)
  (hx:X.N[i]? =some x)(hlo:Loc X.env.scope x)(Qt:X.fn x=true\/X.env.scope.names.lookup x=some .local)
  (hs:∀x,af5 iter X.env x=pure x):JS X (.For (.Name x pos') iter body [] pos) (rC i gi gb):=by
 refine JS.of (vy hp hc (Gy br) (nH hN hx hlo Qt) iZ hs) λρ st σ H m D S R p=>?_;refine hi.go S R (aV.df R p) λw st1 v m1 H1 p1 e1 S1 rw'=>?_;cases w with
 |ref l=>
  have p1':aV X m H (match ao st1 l with |some ws=>forL i gb l ws ws ρ st1 |none=> .bad) D:=p1
  unfold ag at rw';obtain⟨a,rfl,hla⟩:=rw';cases el:ao st1 l with
  |none=>rw[el]at p1';exact ae p1'
  |some ws=>
   rw[el]at p1';obtain⟨Yt,q0,_⟩:=S1.read hla el;refine⟨a,rfl,.inl ⟨⟨Yt,q0⟩,?_⟩⟩
   let Pv:Nat->St->Hp->Prop:=λk σ H=>∃ρ st m',Ext X.K m1 H1 m' H/\bJ X.K m' st H/\aG X.K m' H ρ σ/\ao st l=some ws/\aV X m' H (forL i gb l ws (ws.drop k) ρ st) D
   refine⟨λk n σ H=>n=ws.length - k/\k<=ws.length/\Pv k σ H,⟨ws.length,by simp,bH _,ρ,st1,m1,Ext.refl,S1,R.mono e1,el,aV.shift p1' e1⟩,?_⟩;rintro k n σ2 H2 ⟨rfl,hk,ρ2,st2,m2,e2,S2,R2,l2,p2⟩;obtain⟨xs,hq,rws⟩:=S2.read (e2.pre _ _ hla) l2;have hlen:=rws.length;by_cases hlt:k < ws.length
   ·have hx':k < xs.length:=by omega
    refine .inr ⟨⟨xs,xs[k],hq,by simp[hx']⟩,Pv (k+1),λσ' H' p'=>⟨ws.length - (k+1),by omega,rfl,hlt,p'⟩,λx H' y=>?_⟩;obtain⟨ee,y⟩:=y;subst ee;have ey:=y xs hq;have ed:ws.drop k=ws[k]::ws.drop (k+1):=rB hlt;obtain⟨x',ex',zS⟩:=rws.get (i:=k) (w:=ws[k]) (bh hlt);rw[ey]at ex';cases ex';rw[ed]at p2;refine hb _ st2 _ _ m2 _ S2 (R2.set i zS) ?_;unfold forL at p2;cases eg:gb (ρ2.set i (some ws[k])) st2 with
    |nx ρ3 st3=>
     rw[eg]at p2;by_cases c:ao st3 l=some ws
     ·simp only[if_pos c]at p2;exact λσ3 m3 H3 e3 S3 R3=>⟨ρ3,st3,m3,e2.trans e3,S3,R3,c,aV.shift p2 e3⟩
     ·simp only[if_neg c]at p2;exact ae p2
    |ct ρ3 st3=>
     rw[eg]at p2;by_cases c:ao st3 l=some ws
     ·simp only[if_pos c]at p2;exact λσ3 m3 H3 e3 S3 R3=>⟨ρ3,st3,m3,e2.trans e3,S3,R3,c,aV.shift p2 e3⟩
     ·simp only[if_neg c]at p2;exact ae p2
    |bk ρ3 st3=>rw[eg]at p2;exact p2
    |rt w3 st3=>rw[eg]at p2;exact p2
    |err c3 ρ3 st3=>rw[eg]at p2;exact p2
    |bad=>rw[eg]at p2;exact p2
   ·have e:k=ws.length:=by omega
    subst e;rw[AE]at p2;exact .inl ⟨⟨xs,hq,by omega⟩,p2 σ2 m2 H2 Ext.refl S2 R2⟩
 |tup ws=>
  unfold ag at rw';obtain⟨a,xs,rfl,hq,rws⟩:=rw';have hlen:=rws.length;refine⟨a,rfl,.inr ⟨⟨xs,eO.of hq⟩,?_⟩⟩;refine nR i hb (ws:=ws) S1 (R.mono e1) (aV.shift p1 e1) (λk H m' e hk=>?_) (λk H m' e hk=>?_) λk hk H x H' m' e y=>?_
  ·have hx':k < xs.length:=by omega
   exact⟨xs,xs[k],eO.of (e.tup _ _ hq),by simp[hx']⟩
  ·exact⟨xs,eO.of (e.tup _ _ hq),by omega⟩
  ·obtain⟨ee,y⟩:=y;refine⟨ee,?_⟩;obtain⟨x',ex',zS⟩:=(ai.mono e _ _ rws).get (i:=k) (w:=ws[k]) (bh hk);rw[y xs (eO.of (e.tup _ _ hq))]at ex';cases ex';exact zS
 |iY ws=>
  unfold ag at rw';obtain⟨a,xs,rfl,hq,rws⟩:=rw';have hlen:=rws.length;refine⟨a,rfl,.inr ⟨⟨xs,.inr hq⟩,?_⟩⟩;refine nR i hb (ws:=ws) S1 (R.mono e1) (aV.shift p1 e1) (λk H m' e hk=>?_) (λk H m' e hk=>?_) λk hk H x H' m' e y=>?_
  ·have hx':k < xs.length:=by omega
   exact⟨xs,xs[k],.inr hq,by simp[hx']⟩
  ·exact⟨xs,.inr hq,by omega⟩
  ·obtain⟨ee,y⟩:=y;refine⟨ee,?_⟩;obtain⟨x',ex',zS⟩:=(ai.mono e _ _ rws).get (i:=k) (w:=ws[k]) (bh hk);rw[y xs (.inr hq)]at ex';cases ex';exact zS
 |_=>exact ae p1
def cg(lo:Int)(n:Nat):List Wv:=(aU n).map λk:Nat=>Wv.int (lo+k)
theorem uN(h:k < n):(cg lo n)[k]? =some (.int (lo+k)):=by unfold cg;rw[cM,List.getElem?_range h];rfl
theorem xT(h:k < (cg lo n).length):(cg lo n)[k]= .int (lo+k):=by have q:=uN (lo:=lo) (n:=n) (k:=k) (by unfold cg at h;simpa using h);rw[bh h]at q;exact Option.some.inj q
theorem dq:(cg lo n).length=n:=by unfold cg;simp
def cW(i:Int):Prop:=-(2 ^ 62)<=i/\i < 2 ^ 62
instance {i}:Decidable (cW i):=Gz _
def rD(i:Nat)(ga:GA)(gb:GS):GS:=λρ st=>(ga ρ st).bR ρ λws st1=>match ws with
 |[.int j]=>if cW j then c_ i gb (cg 0 j.toNat) ρ st1 else .bad
 |_=> .bad
def rE(i:Nat)(ga:GA)(gb:GS):GS:=λρ st=>(ga ρ st).bR ρ λws st1=>match two ws with
 |some (a,j)=>if cW a/\cW j then c_ i gb (cg a (j - a).toNat) ρ st1 else .bad
 |none=> .bad
theorem B5(i:Nat)(hb:oK X body gb)(S1:bJ X.K m1 st1 H1)(R:aG X.K m1 H1 ρ σ)(p1:aV X m1 H1 (c_ i gb (cg lo n) ρ st1) D):
  ∃W:Nat->Nat->St->Hp->Prop,(∃m,W 0 m σ H1)/\∀k n' σ H,W k n' σ H->
   ((Nz lo n).stop k H/\D.nx σ H)\/((Nz lo n).go k H/\∃N:St->Hp->Prop,(∀σ' H',N σ' H'->∃m',m' < n'/\W (k+1) m' σ' H')/\∀x H',(Nz lo n).xv k H x H'->xu i x σ H' λσ2 H2=>WW X body { D with nx:=N,ct:=N,bk:=D.nx } σ2 H2) :=
 nR i hb S1 R p1 (λk H m' e hk=>by rw[dq]at hk;exact hk) (λk H m' e hk=>by rw[dq]at hk;exact nL hk.symm) λk hk H x H' m' e y=>by obtain⟨y1,y2⟩:=y;refine⟨y1,?_⟩;rw[xT,y2];exact mkInt
theorem GB(i:Nat)(hN:X.N.Nodup)(hp:PassesOwn (model X.prog X.w) X.A X.env X.xe)(hc:X.calm=true)(hg:Gl X "range")(hm:X.mg "range"=none)(ha:JA X [a] ga)(hb:oK X body gb)
  (hx:X.N[i]? =some x)(hlo:Loc X.env.scope x)(Qt:X.fn x=true\/X.env.scope.names.lookup x=some .local)(hst:af9 [a] X.env=[(false,eval a X.env)]):JS X (.For (.Name x pos') (.Call (.Name "range" p) [a] [] q) body [] pos) (rD i ga gb):=by
 refine JS.of (vy hp hc (uy hg hm jL hst) (nH hN hx hlo Qt) iZ (λ_=>rfl)) λρ st σ H m D S R p=>?_;refine ha.go S R (aV.df R p) λws st1 vs m1 H1 p1 e1 S1 rs=>?_
 match ws,rs,p1 with
 |[],rs,p1=>exact ae p1
 |x::y::t,rs,p1=>cases x<;>exact ae p1
 |[x],rs,p1=>
  obtain⟨v,rfl,r1⟩:=rp rs;cases x with
  |int j=>
   cases aX r1;have p2:aV X m H (if cW j then c_ i gb (cg 0 j.toNat) ρ st1 else .bad) D:=p1;by_cases c:cW j
   ·rw[if_pos c]at p2;exact⟨j,rfl,c.1,c.2,B5 i hb S1 (R.mono e1) (aV.shift p2 e1)⟩
   ·rw[if_neg c]at p2;exact ae p2
  |_=>exact ae p1
theorem GC(i:Nat){b:Expr}(hN:X.N.Nodup)(hp:PassesOwn (model X.prog X.w) X.A X.env X.xe)(hc:X.calm=true)(hg:Gl X "range")(hm:X.mg "range"=none)(ha:JA X [a,b] ga)(hb:oK X body gb)
  (hx:X.N[i]? =some x)(hlo:Loc X.env.scope x)(Qt:X.fn x=true\/X.env.scope.names.lookup x=some .local)(hst:af9 [a,b] X.env=[(false,eval a X.env),(false,eval b X.env)])(Qu:af9 [b] X.env=[(false,eval b X.env)]):JS X (.For (.Name x pos') (.Call (.Name "range" p) [a,b] [] q) body [] pos) (rE i ga gb):=by
 refine JS.of (vy hp hc (uz hg hm jL hst Qu) (nH hN hx hlo Qt) iZ (λ_=>rfl)) λρ st σ H m D S R p=>?_;refine ha.go S R (aV.df R p) λws st1 vs m1 H1 p1 e1 S1 rs=>?_;cases q:two ws with
 |none=>
  have p2:aV X m H (match two ws with
   |some (a,j)=>if cW a/\cW j then c_ i gb (cg a (j - a).toNat) ρ st1 else .bad
   |none=> .bad) D:=p1
  rw[q]at p2;exact ae p2
 |some t=>
  obtain⟨a,j⟩:=t;obtain rfl:=two_eq q;obtain⟨v,v',rfl,r1,r2⟩:=Az rs;cases aX r1;cases aX r2;have p2:aV X m H (if cW a/\cW j then c_ i gb (cg a (j - a).toNat) ρ st1 else .bad) D:=p1;by_cases c:cW a/\cW j
  ·rw[if_pos c]at p2;exact⟨a,j,rfl,⟨c.1.1,c.1.2,c.2.1,c.2.2⟩,B5 i hb S1 (R.mono e1) (aV.shift p2 e1)⟩
  ·rw[if_neg c]at p2;exact ae p2
theorem LG:JS X (.Return none pos) (a8 (gC .bK)):=JS.of KG λρ st σ H m D S R p=>p .bK m H Ext.refl S B2
end
abbrev AF:List afX:=[.type "ValueError",.type "Exception",.type "BaseException",.type "object"]
abbrev AG:String:="ValueError.__new__"
structure GD(K:PySem.W.Frag)(c:PySem.Str)(C:afR):Prop where
 cls:ClsAt K c C
 exc:PySem.W.excIn K C AF AG=true
theorem vU(KX:K.In h)(q:PySem.W.excIn K C AF AG=true):
  ∃(bm:List afX)(N:afR)(nm qn:Str)(bs:List afX)(hd:Bool)(sn:List Str)(sub:List afX)(ab:Bool)(col:Option Bool)(dd:Option afR)(k0 k1 k2 k3 k5:Option afX)(mN:Str->Option afX),
   h.get? C=some (excClassObj nm qn C N bs bm hd sn sub ab col dd k0 k1 k2 k3 k5 AG)/\h.Ns N mN/\mN "__init__"=none/\OwnTail h AF bm/\(∀v r,PySem.W.mroIn K C v=some r->(aA C::bm).contains v=r):=by
 unfold PySem.W.excIn at q;split at q
 ·rename_i dd cd sl lk;split at q
  ·rename_i C1 bm k0 k1 k2 k3 n1 k5 em es;simp only[bN,beq_iff_eq,Bool.not_eq_true']at q;obtain⟨⟨⟨⟨⟨q1,q2⟩,q3⟩,q4⟩,q5⟩,q6⟩:=q;subst q1 q2;obtain⟨nm,bs,mro,N,qn,hd,sn,sub,ab,col,del⟩:=cd;dsimp only at em q3 q5 q6;subst em q3;have esl:sl=#[k0,k1,k2,k3,some (.builtin AG),k5]:=by
    cases sl with
    |mk l=>exact congrArg Array.mk es
   subst esl;refine⟨bm,N,nm,qn,bs,hd,sn,sub,ab,col,dd,k0,k1,k2,k3,k5,_,KX _ _ lk,.of_isNs (PySem.W.isNs_of_in KX q5),PySem.W.nsMap_none_of_in KX q5 q6,PySem.W.tail_of_in KX q4,λv r e=>?_⟩;unfold PySem.W.mroIn PySem.W.clsIn at e;rw[lk]at e
   first
    |exact Option.some.inj e
    |(simp at e;exact e)
  ·cases q
 ·cases q
variable{cpos:Pos}
section
variable {X:Cx}
def m6(c:PySem.Str)(ga:GA):GS:=λρ st=>(ga ρ st).bR ρ λws st1=>if ws.length<=lim then .err c ρ st1 else .bad
theorem GF{c:Str}{np:Pos}(hc:X.calm=true)(O:GD X.K c C)(hg:Gl X c)(hm:X.mg c=some (.ref C))(ha:JA X (e::es) ga)(hd:(c == ("__debug__":Str))=false)
  (he:af9 (e::es) X.env=(false,eval e X.env)::af9 es X.env)(hpl:(backTo cpos (af9 es X.env)).any (·.1)=false):JS X (.Raise (some (.Call (.Name c np) (e::es) [] cpos)) none pos) (m6 c ga):=by
 intro ρ st σ H m D S R p pins s I;have args:=ha.go (T:=λvs H1=>∃ws st1 m1,aV X m H (if ws.length<=lim then .err c ρ st1 else .bad) D/\Ext X.K m H m1 H1/\bJ X.K m1 st1 H1/\ai X.K m1 H1 ws vs) S R (aV.df R p)
  λws st1 vs m1 H1 p1 e1 S1 rs=>⟨ws,st1,m1,p1,e1,S1,rs⟩
 obtain⟨bm,N,nm,qn,bs,hdd,sn,sub,ab,col,dd,k0,k1,k2,k3,k5,mN,hC,hN,hni,T,_⟩:=vU I.ok.mod.Nw O.exc;refine wpAny_Raise_call_subU (C:=C) (nm:=nm) (q:=qn) (N:=N) (bs:=bs) (bm:=bm) (hdct:=hdd) (sn:=sn) (sub:=sub) (ab:=ab) (col:=col) (dd:=dd) (k0:=k0) (k1:=k1) (k2:=k2) (k3:=k3) (k5:=k5) (bmB:=AF)
  F.excBase_ValueError (by decide) F.excBase_ValueError (mN:=mN) (T.hasType F.excBase_ValueError.hasBase) (I.ok.hd hc) ?_ hni (qi I hg hm ⟨rfl,?_⟩ hd)
 ·rw[he];show(false||(backTo cpos (af9 es X.env)).any (·.1))=false;rw[hpl];rfl
 ·have go:=args cpos pins s I;rw[he]at go ⊢;refine FG (bR go λus s1 ⟨vs,H1,I1,r,ws,st1,m1,p1,e1,S1,rs⟩=>?_);by_cases cl:ws.length<=lim
  ·rw[if_pos cl]at p1;refine⟨rfl,by rw[<-r.length,<-rs.length];exact eD cl,I1.bk _ _ hC,hN.keeps I1.bk,T.keeps I1.bk,λh2 a M=>?_⟩;exact p1 σ m1 H1 _ _ e1 S1 (R.mono e1) ⟨C,pins,H1,s1,O.cls,I1,.inr ⟨rfl,a,us,rfl,rfl,rfl,M⟩⟩
  ·rw[if_neg cl]at p1;exact ae p1
end
structure xU(K:PySem.W.Frag)(C:afR):Prop where
 exc:PySem.W.excIn K C AF AG=true
 ga:PySem.W.findIn K (.ref C) "__getattribute__"=some (some (.builtin "BaseException.__getattribute__"))
 gx:PySem.W.findIn K (.ref C) "__getattr__"=some none
 cl:PySem.W.findIn K (.ref C) "__class__"=some (some (.builtin "object.__class__"))
structure Yu(X:Cx):Prop where
 st:X.stack=X.env::X.outer
 fr:X.env.frame=some X.env.locals
 ex:X.ex=[]
variable{a:afR}
theorem uO{w:afY}{o:HO}(x:dZ P w H h a o):∃u,h.get? a=some u:=by
 cases o with
 |lst xs=>obtain⟨_,_,_,_,e⟩:=x;exact⟨_,e⟩
 |tup xs=>obtain⟨_,_,_,⟨ob,e,_⟩,_⟩:=x;exact⟨_,e⟩
 |dK kvs=>obtain⟨_,_,_,_,ob,_,_,e,_⟩:=x;exact⟨_,e⟩
 |dT kvs=>obtain⟨_,_,_,_,ob,_,_,e,_⟩:=x;exact⟨_,e⟩
 |dN kvs=>obtain⟨_,_,_,_,ob,_,_,e,_⟩:=x;exact⟨_,e⟩
 |set S n=>obtain⟨ob,_,_,_,e,_⟩:=x;exact⟨_,e⟩
 |ins C dx fs=>obtain⟨_,_,_,e,_⟩:=x;exact⟨_,e⟩
 |own y=>exact x
 |xd fs=>obtain⟨_,⟨_,_,_,e,_⟩,_⟩:=x;exact⟨_,e⟩
 |WL lo hi=>obtain⟨_,_,_,e⟩:=x;exact⟨_,e⟩
 |iV ob u=>obtain⟨e,_⟩:=x;exact⟨_,e⟩
 |jG ps=>exact⟨_,x⟩
 |met f y=>exact⟨_,x⟩
 |ext φ=>exact x.2.1
def Qv(X:Cx)(a:afR):Prop:=X.s₀.heap.get? a=none/\(∀xs,X.H₀ a≠some (.tup xs))/\(∀o u,X.H₀ a≠some (.iV o u))/\∀ps,X.H₀ a≠some (.jG ps)
def DY(o:Obj):Prop:=∃vs,o.data= .fields vs/\vs[2]? =some bg
section
variable {X:Cx}{pins:List (afR×Obj)}{σ:St}{Hc H':Hp}{sc s':afW}{B h2:Heap}{a C:afR}{a0:afX}{ch:List afR}
theorem mf(I:Inv X pins σ Hc sc)(os:s'.os=sc.os)(bare:AllBare s'.gens)(hch:∀b∈ch,ff X pins Hc b)(un:Un (frs X.stack) ch Hc H' sc.heap s'.heap)(hok:kZ X.prog X.w H' B)(fl:vL B X.stack a (.ref C) a0 h2)(up:s'.heap.UpToSlots h2)
  (xG:∀b o,sc.heap.get? b=some o->b∉frs X.stack->b∉ch->∃o',B.get? b=some o'/\(Hc b=none->o'=o)){tk:Nat}:
  (∃o,DY o/\Inv X pins σ (upd H' a (.iV o (.ext (pJ a C)))) { s' with heap:=h2,toks:=tk })/\H' a=none/\(X.ex=[]->Qv X a):=by
 have stay:=fl.1;obtain⟨oe,vs,WZ,hcl,hda,hcx⟩:=fl.first;have isx:pJ a C h2:=⟨oe,WZ,hcl,vs,hda⟩;have ha:H' a=none:=by
  cases q:H' a with
  |none=>rfl
  |some u=>obtain⟨z,e⟩:=uO (hok a u q);rw[fl.2.1]at e;cases e
 have nfr:a∉frs X.stack:=λz=>by obtain⟨_,o1,e1,d1⟩:=fl.2.2.1.mem z;rw[WZ]at e1;cases e1;exact d1 vs hda
 have OV:∀b∈frs X.stack,b∉ch:=λb hb z=>by
  rcases List.mem_cons.mp (I.qP b hb)with q |q
  ·exact(hch b z).2.1 q
  ·exact(hch b z).2.2.1 q
 have new:a∉ch->∀o,sc.heap.get? a≠some o:=λhx o e=>by obtain⟨o1,e1,_⟩:=xG a o e nfr hx;rw[fl.2.1]at e1;cases e1
 have ne:∀b u,H' b=some u->b≠a:=λb u e=>cD e ha;have sl:∀b o,sc.heap.get? b=some o->Hc b=none->b∈frs X.stack->∃sl,h2.get? b=some { o with slots:=sl }:=λb o e n hb=>by obtain⟨s1,e1⟩:=un.slot b o e n hb (OV b hb);obtain⟨_,o1,e2,d1⟩:=I.stack.mem hb;rw[e]at e2;cases e2;obtain⟨s2,e3⟩:=up b _ e1 d1;exact⟨s2,e3⟩
 refine⟨⟨oe,⟨vs,hda,hcx⟩,?_⟩,ha,λhex=>?_⟩
 rotate_left
 ·refine⟨?_,λxs q=>?_,λo u q=>?_,λps q=>?_⟩
  rotate_left
  ·have z:=un.tups _ _ (I.base.tups _ _ q);rw[ha]at z;cases z
  ·have z:=un.k6 _ _ _ (I.base.k6 _ _ _ q);rw[ha]at z;cases z
  ·obtain⟨_,z⟩:=I.base.mX _ _ q;obtain⟨_,z⟩:=un.mX _ _ z;rw[ha]at z;cases z
  cases q:X.s₀.heap.get? a with
  |none=>rfl
  |some o0=>
   obtain⟨o1,q1⟩:=I.base.there a o0 q (by rw[hex];simp);refine absurd q1 (new (λz=>?_) o1);rcases(hch a z).2.2.2.1 with y |y
   ·rw[hex]at y;cases y
   ·exact absurd (bT (az q) y) (dz _)
 refine I.xt (s':={ s' with heap:=h2,toks:=tk }) (ch:=ch) os ?_ ?_ bare (λb z=>⟨(hch b z).2.2.2.1,(hch b z).2.1,(hch b z).2.2.2.2.1,(hch b z).2.2.2.2.2⟩)
 ·refine⟨λb o e n hb hx=>?_,λb o e n hb _=>sl b o e n hb,λb o e n hx=>?_,λb o e hx=>?_,λb xs h=>?_,λb o u h=>?_,λb ps h=>?_⟩
  ·obtain⟨o1,e1,e2⟩:=xG b o e hb hx;rw[e2 n]at e1;exact stay b o e1
  ·have ba:b≠a:=λz=>by subst z;exact new hx o e
   rw[aI ba];exact un.free b o e n hx
  ·by_cases hb:b∈frs X.stack
   ·obtain⟨s2,e2⟩:=sl b o e (I.nG b hb) hb;exact⟨_,e2⟩
   ·obtain⟨o1,e1,_⟩:=xG b o e hb hx;exact⟨o1,stay b o1 e1⟩
  ·have q:=un.tups b xs h;rw[aI (ne b _ q)];exact q
  ·have q:=un.k6 b o u h;rw[aI (ne b _ q)];exact q
  ·obtain⟨m1,q⟩:=un.mX b ps h;refine⟨m1,?_⟩;rw[aI (ne b _ q)];exact q
 ·intro b u e;by_cases hb:b=a
  ·subst hb;rw[bq]at e;cases e;exact⟨WZ,isx,⟨oe,WZ⟩,λh3 h4 p k=>let ⟨o1,q1,q2,q3⟩:=p;⟨o1,k o1 q1,q2,q3⟩⟩
  ·rw[aI hb]at e;exact(hok b u e).stay (λc v _ q=>stay c v q) (λc q=>by rw[aI (ne c _ q)];exact q) λc xs q=>by rw[aI (ne c _ q)];exact q
end
variable{E:afX->afW->Prop}
theorem DZ{D:afR}{b:Bool}{Q:Bool->afW->Prop}(Y:K.In s.heap)(ZC:PySem.W.excIn K C AF AG=true)(ZD:PySem.W.excIn K D AF AG=true)
  (hm:PySem.W.mroIn K C (.ref D)=some b)(ha:s.heap.get? a=some o)(hc:o.cls= .ref C)(k:Q b s):aga M A (excMatches (.ref a) (.ref D)) Q E s:=by
 obtain⟨h,g,d,t,os⟩:=s;obtain⟨bm,N,nm,qn,bs,hdd,sn,sub,ab,col,dd,k0,k1,k2,k3,k5,mN,hC,hN,hni,T,mr⟩:=vU Y ZC;obtain⟨bm',N',nm',qn',bs',adG,sn',sub',ab',col',UO,k0',k1',k2',k3',k5',mN',hD,hN',adH,T',mr'⟩:=vU Y ZD;have e1:(aA C::bm).contains (.ref D)=b:=mr _ _ hm;have e2:(aA D::bm').contains (.type "BaseException")=true:=by rw[List.contains_cons,T'.hasType (X:="BaseException") (b:=true) (by decide)];rfl
 have f:=tc_notTuple;unfold excMatches
 repeat (first |(with_reducible refine wpAny_loadPart_at ha ?_;rw[hc]) |with_reducible refine wpAny_loadPart_at hD ?_ |(with_reducible refine wpAny_isSubtype_exc hD ?_;rw[e2]) |(with_reducible refine wpAny_isSubtype_exc hC ?_;rw[e1]) |wp_step)
 cases b<;>(wp_walk;exact k)
abbrev Tab:=List ((PySem.Str×PySem.Str)×Bool)
abbrev vV:=List ((PySem.Str×String)×Bool)
structure TabOk(K:PySem.W.Frag)(tb:Tab)(tt:vV)(tc:Tab):Prop where
 own:∀c d b C D,tb.lookup (c,d)=some b->ClsAt K c C->ClsAt K d D->xU K C/\PySem.W.kitOne K (.ref C) (.ref D)=some b
 cat:∀c d b C D,tc.lookup (c,d)=some b->ClsAt K c C->ClsAt K d D->PySem.W.excIn K C AF AG=true/\PySem.W.excIn K D AF AG=true/\PySem.W.mroIn K C (.ref D)=some b
 typ:∀c T b C,tt.lookup (c,T)=some b->ClsAt K c C->xU K C/\PySem.W.kitOne K (.ref C) (.type T)=some b
def iW(tb:Tab)(tt:vV):List Wv->Hs->Re Wv:=U_
variable{tb tc:Tab}{tt:vV}
section
variable {X:Cx}
theorem GG(O:TabOk X.K tb tt tc):ef X (.builtin "isinstance") (iW tb tt):=Qm
end
variable{A':afS}{iw:List (afR×Obj)}{u:HO}
section
variable {X:Cx}{pins:List (afR×Obj)}{σ:St}{H:Hp}{s:afW}
abbrev LH(X:Cx)(A':afS)(cm:Bool)(pn:List (afR×Obj))(E:afX->afW->Prop):Cx:={ X with A:=A',calm:=cm,pn:=pn,xe:=E }
theorem Vc{cm:Bool}{pn:List (afR×Obj)}(ok:X.Ok)(hf:A'.frames=X.A.frames)(hd:cm=true->A'.handled=none):(LH X A' cm pn E).Ok :=
 ⟨ok.mod,ok.kind,ok.glob,ok.blt,ok.above,ok.inj,ok.has,ok.TF,hd,hf.trans ok.frames,ok.stk,ok.XM,ok.bs,ok.Kt,ok.DC,ok.Fh,ok.nE,ok.Nx⟩
theorem GH{cm:Bool}(I:Inv X pins σ H s)(hf:A'.frames=X.A.frames)(hd:cm=true->A'.handled=none):Inv (LH X A' cm (X.pn++pins) E) [] σ H s :=
 ⟨Vc I.ok hf hd,I.os,I.bare,I.base,I.loc,I.cell,I.free,I.jI,λp hp=>I.pin p (by simpa using hp),I.hok,I.len⟩
theorem rF{cm:Bool}(ok:X.Ok)(I:Inv (LH X A' cm (X.pn++pins) E) iw σ H s):Inv X pins σ H s :=
 ⟨ok,I.os,I.bare,I.base,I.loc,I.cell,I.free,I.jI,λp hp=>I.pin p (gX _ hp),I.hok,I.len⟩
abbrev Vd(X:Cx)(a:afR)(u:HO)(pn:List (afR×Obj))(E:afX->afW->Prop):Cx:={ X with A:=X.A.mark (some (.ref a)),calm:=false,pn:=pn,xe:=E,H₀:=upd X.H₀ a u }
theorem Qw(I:Inv X pins σ H s)(e:H a=some (.iV o u))(n:X.s₀.heap.get? a=none):Inv (Vd X a (.iV o u) (X.pn++pins) E) [] σ H s:=by
 have k:=I.ok;have ne:∀b o,X.s₀.heap.get? b=some o->b≠a:=λb o q z=>by rw[z,n]at q;cases q
 have nf:∀b∈X.fs,b≠a:=λb hb=>let ⟨_,o,q,_⟩:=k.nE.mem hb;ne b o q;have up:∀b,b≠a->upd X.H₀ a (.iV o u) b=X.H₀ b:=λb h=>aI h;have dn:∀{b:afR}{w:Option HO},upd X.H₀ a (.iV o u) b=w->w≠some (.iV o u)->X.H₀ b=w:=λ{b w} q h=>by
  by_cases z:b=a
  ·rw[z,bq]at q;exact absurd q.symm h
  ·rw[up b z]at q;exact q
 have nn:∀{b:afR},upd X.H₀ a (.iV o u) b=none->X.H₀ b=none:=λq=>dn q (by intro z;cases z);refine⟨⟨k.mod,k.kind,k.glob,k.blt,k.above,k.inj,k.has,k.TF,(λz=>by cases z),k.frames,k.stk,k.XM,λb ob q=>⟨(k.bs b ob q).1,(up b (ne b ob (k.bs b ob q).1)).trans (k.bs b ob q).2⟩,k.Kt,k.DC,k.Fh,k.nE,λb hb=>(up b (nf b hb)).trans (k.Nx b hb)⟩,I.os,I.bare,?_,I.loc,I.cell,I.free,I.jI,λp hp=>I.pin p (by simpa using hp),I.hok,I.len⟩;have g:=I.base;exact⟨λb ob q h=>g.keep b ob q (nn h),λb ob q h=>g.slot b ob q (nn h),λb ob q h=>g.free b ob q (nn h),g.there,λb xs q=>g.tups b xs (dn q (by intro z;cases z)),λb ob v q=>by
  by_cases z:b=a
  ·subst z;have q':upd X.H₀ b (.iV o u) b=some (.iV ob v):=q;rw[bq]at q';cases q';exact e
  ·exact g.k6 b ob v ((up b z).symm.trans q),λb ps q=>g.mX b ps (dn q (by intro z;cases z))⟩
theorem GJ(ok:X.Ok)(n:Qv X a)(I:Inv (Vd X a (.iV o u) (X.pn++pins) E) iw σ H s):Inv X pins σ H s:=by
 have ne:∀b o,X.s₀.heap.get? b=some o->b≠a:=λb o q z=>by rw[z,n.1]at q;cases q
 have up:∀b,b≠a->(Vd X a (.iV o u) (X.pn++pins) E).H₀ b=X.H₀ b:=λb h=>aI h;have g:=I.base;exact⟨ok,I.os,I.bare,⟨λb ob q h=>g.keep b ob q ((up b (ne b ob q)).trans h),λb ob q h=>g.slot b ob q ((up b (ne b ob q)).trans h),λb ob q h=>g.free b ob q ((up b (ne b ob q)).trans h),g.there,λb xs q=>g.tups b xs ((up b λz=>n.2.1 xs (z ▸ q)).trans q),λb ob v q=>g.k6 b ob v ((up b λz=>n.2.2.1 ob v (z ▸ q)).trans q),λb ps q=>g.mX b ps ((up b λz=>n.2.2.2 ps (z ▸ q)).trans q)⟩,I.loc,I.cell,I.free,I.jI,λp hp=>I.pin p (gX _ hp),I.hok,I.len⟩
def Qx(X:Cx):Prop:=X.A.handled=none\/∃a o u,X.A.handled=some (.ref a)/\DY o/\X.H₀ a=some (.iV o u)
def D0(A:afS)(H:Hp):Prop:=A.handled=none\/∃a o u,A.handled=some (.ref a)/\DY o/\H a=some (.iV o u)
theorem Qx.at(h:Qx X)(I:Inv X pins σ H s):D0 X.A H:=h.imp id λ⟨a,o,u,h1,h2,h3⟩=>⟨a,o,u,h1,h2,I.base.k6 _ _ _ h3⟩
theorem Ve{cm:Bool}{f:Flow}(ok:X.Ok)(h:SP (LH X A' cm (X.pn++pins) E) [] D f s):SP X pins D f s:=by
 cases f with
 |next=>obtain⟨σ',H',I,q⟩:=h;exact⟨σ',H',rF ok I,q⟩
 |brk=>obtain⟨σ',H',I,q⟩:=h;exact⟨σ',H',rF ok I,q⟩
 |cont=>obtain⟨σ',H',I,q⟩:=h;exact⟨σ',H',rF ok I,q⟩
 |ret u=>obtain⟨v,σ',H',I,r,q⟩:=h;exact⟨v,σ',H',rF ok I,r,q⟩
end
variable{Q:Unit->afW->Prop}{cls:afX}
section
variable {X:Cx}
theorem D3(hfr:A.frames=some (env::outer))(hf:env.frame=some L)
  (st:base.StaysIn h)(fs:h.FunFrames base (env::outer))(mk:vN h s.heap a cls args)(k:∀h' a0,vL base (env::outer) a cls a0 h'->s.heap.UpToSlots h'->Q () { s with heap:=h' }):
  aga M A (noteFrame (.ref a) env) (λ_ s2=>aga M A (setFlight (.ref a) none) Q E s2) E s:=by
 exact uJ hfr hf st fs mk λh1 t hd1 up1=>xD hd1 λh2 E8 Vb=>k h2 t E8 (up1.trans Vb)
theorem k_.er{b:Bool}{pins:List (afR×Obj)}{e:afX}(f:k_ (LH X A b (X.pn++pins) E) iw H s H' cls e s'):k_ X pins H s H' cls e s' :=
 let ⟨a,a0,nt,B,ch,e1,e2,e3,hch,r⟩:=f
 ⟨a,a0,nt,B,ch,e1,e2,e3,λb hb=>let ⟨h1,h2,h3,h4,h5,h6⟩:=hch b hb;⟨h1,h2,h3,h4,h5,λp hp=>h6 p (gX _ hp)⟩,r⟩
theorem land{pins:List (afR×Obj)}{Hc:Hp}{sc:afW}{e:afX}(K0:Yu X)(I:Inv X pins σ Hc sc)
  (r:k_ X pins Hc sc H' (.ref C) e s'\/(H'=Hc/\∃a args,e= .ref a/\s'.os=sc.os/\s'.gens=sc.gens/\vN sc.heap s'.heap a (.ref C) args))
  (k:∀(a:afR)(a0:afX)(B h5:Heap),e= .ref a->vL B X.stack a (.ref C) a0 h5->(∀h6 tk,vL B X.stack a (.ref C) a0 h6->h5.UpToSlots h6->∃o,DY o/\Inv X pins σ (upd H' a (.iV o (.ext (pJ a C)))) { s' with heap:=h6,toks:=tk })->H' a=none->Qv X a->Q () { s' with heap:=h5 }):
  aga (model X.prog X.w) X.A (noteFrame e X.env) (λ_ s2=>aga (model X.prog X.w) X.A (setFlight e none) Q E s2) E s':=by
 have hfr:X.A.frames=some (X.env::X.outer):=by rw[I.ok.frames,K0.st]
 rcases r with ⟨a,a0,nt,B,ch,rfl,os,bare,hch,un,hok,fl,xG⟩ |⟨rfl,a,args,rfl,ho,hg,M⟩
 ·rw[K0.st]at fl;refine xO hfr K0.fr fl λh4 hd4 Yv=>?_;refine xD hd4 λh5 E9 Qy=>?_;rw[<-K0.st]at E9;exact k a a0 B h5 rfl E9 (λh6 tk Vf Vg=>(mf I os bare hch un hok Vf ((Yv.trans Qy).trans Vg) xG).1) (mf (tk:=0) I os bare hch un hok E9 (Yv.trans Qy) xG).2.1 ((mf (tk:=0) I os bare hch un hok E9 (Yv.trans Qy) xG).2.2 K0.ex)
 ·have fs:sc.heap.FunFrames (PySem.W.hideAll sc.heap (frs X.stack)) (X.env::X.outer):=by rw[<-K0.st];exact PySem.W.funFrames_hide I.stack λenv he b hb=>List.mem_filterMap.mpr ⟨env,he,hb⟩
  refine D3 (base:=PySem.W.hideAll sc.heap (frs X.stack)) hfr K0.fr (λb o q=>PySem.W.of_hideAll _ q) fs M λh5 a0 E9 Qy=>?_;rw[<-K0.st]at E9;have bare:AllBare s'.gens:=by rw[hg];exact I.bare
  have hok:kZ X.prog X.w H' (PySem.W.hideAll sc.heap (frs X.stack)):=xQ I.hok I.nG;have xG:∀b o,sc.heap.get? b=some o->b∉frs X.stack->b∉([]:List afR)->∃o',(PySem.W.hideAll sc.heap (frs X.stack)).get? b=some o'/\(H' b=none->o'=o):=λb o q hb _=>⟨o,PySem.W.hideAll_get _ q hb,λ_=>rfl⟩;have nil:∀b∈([]:List afR),ff X pins H' b:=λb z=>by cases z
  exact k a a0 _ h5 rfl E9 (λh6 tk Vf Vg=>(mf I ho bare nil (Un.kept M.keeps) hok Vf (Qy.trans Vg) xG).1) (mf (tk:=0) I ho bare nil (Un.kept M.keeps) hok E9 Qy xG).2.1 ((mf (tk:=0) I ho bare nil (Un.kept M.keeps) hok E9 Qy xG).2.2 K0.ex)
end
section
variable {X:Cx}
def Vh:List Wv->Hs->Re Wv
 |[.int i],st=>if i.natAbs.log2 < 1920 then .ok (.str (toString i:String)) st else .bad
 |_,_=> .bad
def pY(o v:Wv)(st:Hs):Re Wv:=match o with
 |.ref l=>(match st[l]? with
  |some (.lst ws)=>if ws.length < lim then .ok .bK (st.set l (.lst (ws++[v])))else .bad
  |_=> .bad)
 |_=> .bad
def Qz(o v:Wv)(st:Hs):Re Wv:=match o,v with
 |.ref l,.ref k=>(match st[l]?,st[k]? with
  |some (.lst ws),some (.lst zs)=>if ws.length+zs.length<=lim then .ok .bK (st.set l (.lst (ws++zs)))else .bad
  |_,_=> .bad)
 |_,_=> .bad
def uP(mt:Wv->Wv->Hs->Re Wv)(go ga:GE):GE:=λρ st=>(go ρ st).bind λo st1=>match o with
 |.ref l=>(match ao st1 l with
  |some _=>(ga ρ st1).bind λv st2=>(mt o v st2).oE
  |none=> .bad)
 |_=> .bad
def W0(X:Cx)(id:String)(mt:Wv->Wv->Hs->Re Wv):Prop:=∃r,Yc X id r/\∀(o w:Wv)(x v:V)(st:Hs)(H:Hp)(m:Mp)(Q:VK),bJ X.K m st H->ag X.K m H o x->ag X.K m H w v->dC X.K m H (mt o w st) Q->r x [v] H Q
theorem AH:W0 X "list.append" pY:=⟨_,DN,λo w x v st H m Q S ro rw' p=>by
 cases o with
 |ref l=>
  unfold ag at ro;obtain⟨a,rfl,ha⟩:=ro;have p':dC X.K m H (match st[l]? with |some (.lst ws)=>if ws.length < lim then .ok .bK (st.set l (.lst (ws++[w])))else .bad |_=> .bad) Q:=p
  cases e:st[l]? with
  |none=>rw[e]at p';exact ae p'
  |some ob=>
   cases ob with
   |dct kvs=>rw[e]at p';exact ae p'
   |gM kvs=>rw[e]at p';exact ae p'
   |BW kvs=>rw[e]at p';exact ae p'
   |E7 kvs=>rw[e]at p';exact ae p'
   |FU kvs=>rw[e]at p';exact ae p'
   |ins _ _=>rw[e]at p';exact ae p'
   |xm ns=>rw[e]at p';exact ae p'
   |lst ws=>
    rw[e]at p';dsimp only at p';by_cases c:ws.length < lim
    ·rw[if_pos c]at p';obtain⟨xs,h1,h2⟩:=S.rh ha e;have e4:Ext X.K m H m (upd H a (.lst (xs++[v]))):=Ext.upd (.inr ⟨xs,h1⟩);exact⟨a,xs,v,rfl,rfl,h1,by rw[<-h2.length];exact Av c,p' _ m _ e4 (S.write ha e (h2.append (ai.cons rw' ai.nil))) B2⟩
    ·rw[if_neg c]at p';exact ae p'
 |_=>exact ae p⟩
theorem QA:W0 X "list.extend" Qz:=⟨_,DO,λo w x v st H m Q S ro rw' p=>by
 cases o with
 |ref l=>
  cases w with
  |ref k=>
   unfold ag at ro rw';obtain⟨a,rfl,ha⟩:=ro;obtain⟨b,rfl,hb⟩:=rw';have p':dC X.K m H (match st[l]?,st[k]? with |some (.lst ws),some (.lst zs)=>if ws.length+zs.length<=lim then .ok .bK (st.set l (.lst (ws++zs)))else .bad |_,_=> .bad) Q:=p
   cases e:st[l]? with
   |none=>rw[e]at p';exact ae p'
   |some ob=>
    cases ob with
    |dct kvs=>rw[e]at p';exact ae p'
    |gM kvs=>rw[e]at p';exact ae p'
    |BW kvs=>rw[e]at p';exact ae p'
    |E7 kvs=>rw[e]at p';exact ae p'
    |FU kvs=>rw[e]at p';exact ae p'
    |ins _ _=>rw[e]at p';exact ae p'
    |xm ns=>rw[e]at p';exact ae p'
    |lst ws=>
     cases e2:st[k]? with
     |none=>rw[e,e2]at p';exact ae p'
     |some ob2=>
      cases ob2 with
      |dct kvs=>rw[e,e2]at p';exact ae p'
      |gM kvs=>rw[e,e2]at p';exact ae p'
      |BW kvs=>rw[e,e2]at p';exact ae p'
      |E7 kvs=>rw[e,e2]at p';exact ae p'
      |FU kvs=>rw[e,e2]at p';exact ae p'
      |ins _ _=>rw[e,e2]at p';exact ae p'
      |xm ns=>rw[e,e2]at p';exact ae p'
      |lst zs=>
       rw[e,e2]at p';dsimp only at p';by_cases c:ws.length+zs.length<=lim
       ·rw[if_pos c]at p';obtain⟨xs,h1,h2⟩:=S.rh ha e;obtain⟨ys,g1,g2⟩:=S.rh hb e2;have e4:Ext X.K m H m (upd H a (.lst (xs++ys))):=Ext.upd (.inr ⟨xs,h1⟩);exact⟨a,b,xs,ys,rfl,rfl,h1,g1,by rw[<-h2.length,<-g2.length];exact eD c,p' _ m _ e4 (S.write ha e (h2.append g2)) B2⟩
       ·rw[if_neg c]at p';exact ae p'
  |_=>exact ae p
 |_=>exact ae p⟩
theorem B6{name:Str}{id:String}{ga:GE}{apos:Pos}{mt:Wv->Wv->Hs->Re Wv}(hm:W0 X id mt)(slot:Slot "list" name id)(hty:typeOf (.builtin id)=pure (.type "method_descriptor"))(ho:JE X (.Name x p) go)(ha:JE X e ga)
  (hst:af9 [e] X.env=[(false,eval e X.env)])(hline:(apos.endLine == cpos.line)=true):JE X (.Call (.Attribute (.Name x p) name apos) [e] [] cpos) (uP mt go ga):=by
 obtain⟨r,h1,h2⟩:=hm;have hfew:((backTo cpos (af9 [e] X.env)).all (λx=> !x.1)&&(backToKw cpos (keywordEach [] X.env)).all (λx=>x.1.isSome)&&decide ([e].length+([]:List Keyword).length+(if([]:List Keyword).isEmpty then 0 else 1) < 30))=true:=by rw[hst];rfl
 refine JE.of (UK PySem.F.plainAttrs_list slot hty h1 br jL rfl hfew hline hst rfl) λρ st σ H m Q S R p=>?_;refine ho.go S R (aE.bind p) λo st1 v m1 H1 p1 e1 S1 ro=>?_;cases o with
 |ref l=>
  dsimp only at p1;cases el:ao st1 l with
  |none=>rw[el]at p1;exact ae p1
  |some ws0=>
   rw[el]at p1;dsimp only at p1;have ro':=ro;unfold ag at ro';obtain⟨a,rfl,hla⟩:=ro';obtain⟨xs,hq,_⟩:=S1.read hla el;refine⟨.inl ⟨rfl,xs,hq⟩,?_⟩;refine(B1 ha F9 hst).go S1 (R.mono e1) (ok:=λws st2=>aE X σ m H (match ws with |[w]=>(mt (.ref l) w st2).oE |_=> .bad) (TN X.K m H Q)) ?_ λws st2 vs m2 H2 p2 e2 S2 rs=>?_
   ·have p3:=(aE.bind p1).imp e1 (λ_ _ q=>q);show aE X σ m1 H1 ((ga ρ st1).bind λx st1=>(aj ρ st1).bind λxs st2=> .ok (x::xs) st2) _;cases eg:ga ρ st1 with
    |ok w st2=>rw[eg]at p3;exact p3
    |err c st2=>rw[eg]at p3;exact p3
    |bad=>rw[eg]at p3;exact p3
   ·match ws,rs,p2 with
    |[],rs,p2=>exact ae p2
    |[w],rs,p2=>obtain⟨v2,rfl,rw2⟩:=rp rs;exact h2 (.ref l) w (.ref a) v2 st2 H2 m2 Q S2 (ag.mono e2 _ _ ro) rw2 (dC.shift (aE.oE p2) (e1.trans e2))
    |_::_::_,rs,p2=>exact ae p2
 |_=>exact ae p1
end
section
variable {X:Cx}
def Vi:List Wv->Hs->Re Wv
 |[.str z],st=> .ok (.str z) st
 |ws,st=>Vh ws st
def QB(ws:List Wv)(st:Hs):Re Wv:=match two ws with
 |some (i,j)=> .ok (.int (if j > i then j else i)) st
 |none=> .bad
theorem QC(hc:X.calm=true):ef X (.builtin "max") QB:=⟨_,DI hc,λws vs st H m Q S rs p=>by
 unfold QB at p;cases q:two ws with
 |none=>rw[q]at p;exact ae p
 |some t=>obtain⟨i,j⟩:=t;obtain rfl:=two_eq q;rw[q]at p;obtain⟨v,v',rfl,r1,r2⟩:=Az rs;cases aX r1;cases aX r2;exact⟨i,j,rfl,p _ m H Ext.refl S mkInt⟩⟩
def QD(ws:List Wv)(st:Hs):Re Wv:=match two ws with
 |some (i,j)=> .ok (.int (if j < i then j else i)) st
 |none=> .bad
theorem QE(hc:X.calm=true):ef X (.builtin "min") QD:=⟨_,DJ hc,λws vs st H m Q S rs p=>by
 unfold QD at p;cases q:two ws with
 |none=>rw[q]at p;exact ae p
 |some t=>obtain⟨i,j⟩:=t;obtain rfl:=two_eq q;rw[q]at p;obtain⟨v,v',rfl,r1,r2⟩:=Az rs;cases aX r1;cases aX r2;exact⟨i,j,rfl,p _ m H Ext.refl S mkInt⟩⟩
def rG:List Nat->List Wv->bX->Option bX
 |[],[],ρ=>some ρ
 |i::is,w::ws,ρ=>rG is ws (ρ.set i (some w))
 |_,_,_=>none
def bdT(is:List Nat)(w:Wv)(ρ:bX):Option bX:=match w with
 |.tup ws=>rG is ws ρ
 |_=>none
def Yw:List Nat->J4
 |[]=>L2.aj
 |i::is=>L2.aa (xu i) (Yw is)
theorem nU{m:Mp}{H:Hp}{Q:St->Hp->Prop}:∀{is:List Nat}{ws:List Wv}{xs:List V}{ρ ρ':bX}{σ:St},ai X.K m H ws xs->aG X.K m H ρ σ->rG is ws ρ=some ρ'->(∀σ',aG X.K m H ρ' σ'->Q σ' H)->Yw is xs σ H Q
 |[],[],xs,ρ,ρ',σ,r,R,e,k=>by unfold ai at r;subst r;cases e;exact⟨rfl,k σ R⟩
 |i::is,w::ws,xs,ρ,ρ',σ,r,R,e,k=>by unfold ai at r;obtain⟨x,rr,rfl,h1,h2⟩:=r;exact⟨x,rr,rfl,nU (is:=is) h2 (R.set i h1) e k⟩
 |[],_::_,_,_,_,_,_,_,e,_=>by cases e
 |_::_,[],_,_,_,_,_,_,e,_=>by cases e
theorem rH:∀{is:List Nat}{ws:List Wv}{ρ ρ':bX},rG is ws ρ=some ρ'->ws.length=is.length
 |[],[],_,_,_=>rfl
 |_::is,_::ws,_,_,e=>congrArg (· +1) (rH (is:=is) (ws:=ws) e)
 |[],_::_,_,_,e=>by cases e
 |_::_,[],_,_,e=>by cases e
inductive Slots(X:Cx):List Expr->List Nat->Prop
 |nil:Slots X [] []
 |cons {x:Str}{p:Pos}{i:Nat}{es:List Expr}{is:List Nat}:X.N[i]? =some x->(Loc X.env.scope x/\(X.fn x=true\/X.env.scope.names.lookup x=some .local))->Slots X es is->Slots X (.Name x p::es) (i::is)
theorem mh(hN:X.N.Nodup):∀{es:List Expr}{is:List Nat},Slots X es is->TJ X es (Yw is)
 |_,_,.nil=>KI
 |_,_,.cons h1 h2 r=>Fs (nH hN h1 h2.1 h2.2) (mh hN r) rfl
theorem nV:∀{es:List Expr}{is:List Nat},Slots X es is->(assignEach es X.env).length=is.length
 |_,_,.nil=>rfl
 |_,_,.cons _ _ r=>congrArg (· +1) (nV r)
theorem mi:∀{es:List Expr}{is:List Nat},Slots X es is->(assignEach es X.env).findIdx? (·.1)=none
 |_,_,.nil=>rfl
 |_,_,.cons (x:=x) (p:=p) (es:=es) _ _ r=>by have q:=mi r;show List.findIdx? _ ((false,assign (.Name x p) X.env)::assignEach es X.env)=none;rw[List.findIdx?_cons];simp[q]
def NT(is:List Nat)(g:GE):GS:=λρ st=>(g ρ st).bR ρ λw st'=>match bdT is w ρ with
 |some ρ'=> .nx ρ' st'
 |none=> .bad
theorem LI{is:List Nat}(hN:X.N.Nodup)(hc:X.calm=true)(sl:Slots X es is)(h:JE X e g)(hs:swapsWith e (some (.Tuple es k pos')) pos.line X.env=pure false)(hw:swappedStores [.Tuple es k pos'] e X.env=pure none):
  JS X (.Assign [.Tuple es k pos'] e pos) (NT is g) :=
 JS.of (zY br (Ft hc (mh hN sl) (nV sl) (mi sl)) (by unfold swapsWithSole;exact hs) hw rfl) λρ st σ H m D S R p=>h.go S R (aV.df R p) λw st1 v m1 H1 q e1 S1 r1=>by
  cases w with
  |tup ws=>
   have q':aV X m H (match rG is ws ρ with |some ρ'=> .nx ρ' st1 |none=> .bad) D:=q
   cases e2:rG is ws ρ with
   |none=>rw[e2]at q';exact ae q'
   |some ρ'=>rw[e2]at q';unfold ag at r1;obtain⟨a,xs,rfl,f1,f2⟩:=r1;exact⟨a,xs,rfl,eO.of f1,by rw[<-f2.length];exact rH e2,nU f2 (R.mono e1) e2 λσ' R'=>q' σ' m1 H1 e1 S1 R'⟩
  |_=>exact ae q
end
def t7(env:Env):List (Str×afU)->List (Str×afR)->List (Str×afR)
 |[],acc=>acc
 |(n,k)::r,acc=>if k= .free then t7 env r ((n,(env.cells.lookup n).getD 0)::acc)else t7 env r acc
theorem xV(env:Env):∀(names:List (Str×afU))(acc:List (Str×afR)),(∀y∈names,y.2= .free->∃c,env.cells.lookup y.1=some c)->
  (forIn names acc λx r=>match x with
   |(name,kind)=>if(kind == eQ)=true then do let c <-cellOf env name;pure (jl ((name,c)::r))else(pure (jl r):Sem _))=pure (t7 env names acc)
 |[],acc,_=>rfl
 |(n,k)::r,acc,h=>by
  have ih:=λacc=>xV env r acc λy hy=>h y (av _ hy);rw[zV];by_cases hk:k= .free
  ·subst hk;obtain⟨c,e⟩:=h (n,.free) ax rfl;have e':env.cells.lookup n=some c:=e;have cc:cellOf env n=pure c:=by unfold cellOf;rw[e']
   simp only[beq_self_eq_true,if_true,cc];have q:t7 env ((n,.free)::r) acc=t7 env r ((n,c)::acc):=by show(if eQ= .free then t7 env r ((n,(env.cells.lookup n).getD 0)::acc)else _)=_;rw[if_pos rfl,e'];rfl
   rw[q,<-ih];rfl
  ·have hb:(k == eQ)=false:=by simpa using hk
   simp only[hb,aW,if_false];have q:t7 env ((n,k)::r) acc=t7 env r acc:=by show(if k= .free then _ else t7 env r acc)=_;rw[if_neg hk]
   rw[q,<-ih];rfl
theorem B7(h:∀y∈scope.names,y.2= .free->∃c,env.cells.lookup y.1=some c):closureFor scope env=pure (t7 env scope.names []):=by
 have q:=xV env scope.names [] h;unfold closureFor
 first
  |(rw[<-q];rfl)
  |(simp only[bind_pure];exact q)
theorem vW{env:Env}:∀{names:List (Str×afU)}{acc:List (Str×afR)}{y:Str}{c:afR},(∀y∈names,y.2= .free->∃c,env.cells.lookup y.1=some c)->(∀y c,acc.lookup y=some c->env.cells.lookup y=some c)->(t7 env names acc).lookup y=some c->env.cells.lookup y=some c
 |[],acc,y,c,_,ha,e=>ha y c e
 |(n,k)::r,acc,y,c,h,ha,e=>by
  unfold t7 at e;by_cases hk:k= .free
  ·rw[if_pos hk]at e;subst hk;obtain⟨c0,e0⟩:=h (n,.free) ax rfl;have e0':env.cells.lookup n=some c0:=e0;refine vW (λy hy=>h y (av _ hy)) (λy' c' e'=>?_) e;rw[fD]at e';cases q:y' == n with
   |true=>rw[q]at e';have q':=eq_of_beq q;subst q';rw[e0']at e' ⊢;exact e'
   |false=>rw[q]at e';exact ha y' c' e'
  ·rw[if_neg hk]at e;exact vW (λy hy=>h y (av _ hy)) ha e
theorem qu{env:Env}{y:Str}:∀{names:List (Str×afU)}{acc:List (Str×afR)},((∃c,acc.lookup y=some c)\/(y,eQ)∈names)->∃c,(t7 env names acc).lookup y=some c
 |[],acc,h=>by
  rcases h with h |h
  ·exact h
  ·cases h
 |(n,k)::r,acc,h=>by
  unfold t7;by_cases hk:k= .free
  ·rw[if_pos hk];refine qu ?_;rw[fD];cases q:y == n with
   |true=>exact .inl ⟨_,rfl⟩
   |false=>
    rcases h with h |h
    ·exact .inl h
    ·rcases List.mem_cons.mp h with h |h
     ·cases h;simp at q
     ·exact .inr h
  ·rw[if_neg hk];refine qu ?_;rcases h with h |h
   ·exact .inl h
   ·rcases List.mem_cons.mp h with h |h
    ·cases h;exact absurd rfl hk
    ·exact .inr h
theorem lookup_mem{α β:Type}[BEq α][LawfulBEq α]{y:α}{k:β}:∀{names:List (α×β)},names.lookup y=some k->(y,k)∈names
 |[],h=>by cases h
 |(n,j)::r,h=>by
  rw[fD]at h;cases q:y == n with
  |true=>rw[q]at h;cases h;have q':=eq_of_beq q;subst q';exact ax
  |false=>rw[q]at h;exact av _ (lookup_mem h)
theorem nW{env:Env}:∀{names:List (Str×afU)}{y:Str},(names.map λ(n,k)=>if(k == eQ&&env.scope.kind == .function&&env.kindOf n == some .cell)then(n,eR)else(n,k)).lookup y=
  (names.lookup y).map λk=>if(k == eQ&&env.scope.kind == .function&&env.kindOf y == some .cell)=true then eR else k
 |[],y=>rfl
 |(n,k)::r,y=>by
  have ih:=nW (env:=env) (names:=r) (y:=y);show List.lookup y ((if(k == eQ&&env.scope.kind == .function&&env.kindOf n == some .cell)=true then(n,eR)else(n,k))::_)=_;cases q:y == n with
  |true=>
   have q':=eq_of_beq q;subst q';by_cases hc:(k == eQ&&env.scope.kind == .function&&env.kindOf y == some .cell)=true
   ·rw[if_pos hc];simp only[fD,beq_self_eq_true,nD];rw[if_pos hc]
   ·rw[if_neg hc];simp only[fD,beq_self_eq_true,nD];rw[if_neg hc]
  |false=>
   by_cases hc:(k == eQ&&env.scope.kind == .function&&env.kindOf n == some .cell)=true
   ·rw[if_pos hc];simp only[fD,q];exact ih
   ·rw[if_neg hc];simp only[fD,q];exact ih
open Classical in
def iC(ck:Hs->Prop)(gt:Wv->Hs->Re Bool)(ge:Wv->Hs->Re Wv)(l:Nat):List Wv->Hs->Option Hs
 |[],st=>some st
 |w::r,st=>match gt w st with
  |.ok false st1=>if ck st1 then iC ck gt ge l r st1 else none
  |.ok true st1=>(match ge w st1 with
   |.ok v st2=>(match pY (.ref l) v st2 with
    |.ok _ st3=>if ck st3 then iC ck gt ge l r st3 else none
    |_=>none)
   |_=>none)
  |_=>none
open Classical in
def pM(ck:Hs->Prop)(gt:Wv->Hs->Re Bool)(ge:Wv->Hs->Re Wv)(l:Nat):List Wv->Hs->Re Unit
 |[],st=> .ok () st
 |w::r,st=>match gt w st with
  |.ok false st1=>if ck st1 then pM ck gt ge l r st1 else .bad
  |.ok true st1=>(match ge w st1 with
   |.ok v st2=>(match pY (.ref l) v st2 with
    |.ok _ st3=>if ck st3 then pM ck gt ge l r st3 else .bad
    |_=> .bad)
   |.err c st2=> .err c st2
   |.bad=> .bad)
  |.err c st1=> .err c st1
  |.bad=> .bad
theorem rJ{ck:Hs->Prop}{gt:Wv->Hs->Re Bool}{ge:Wv->Hs->Re Wv}{l:Nat}{oF:Hs}:∀(ws:List Wv)(st:Hs),iC ck gt ge l ws st=some oF->pM ck gt ge l ws st= .ok () oF
 |[],st,h=>by cases h;rfl
 |w::r,st,h=>by
  unfold iC at h;unfold pM;cases eg:gt w st with
  |err c st1=>rw[eg]at h;cases h
  |bad=>rw[eg]at h;cases h
  |ok b st1=>
   rw[eg]at h;cases b with
   |false=>
    dsimp only at h ⊢;by_cases c:ck st1
    ·rw[if_pos c]at h ⊢;exact rJ r st1 h
    ·rw[if_neg c]at h;cases h
   |true=>
    dsimp only at h ⊢;cases ee:ge w st1 with
    |err c st2=>rw[ee]at h;cases h
    |bad=>rw[ee]at h;cases h
    |ok v st2=>
     rw[ee]at h;dsimp only at h ⊢;cases ea:pY (.ref l) v st2 with
     |err c st3=>rw[ea]at h;cases h
     |bad=>rw[ea]at h;cases h
     |ok u st3=>
      rw[ea]at h;dsimp only at h ⊢;by_cases c:ck st3
      ·rw[if_pos c]at h ⊢;exact rJ r st3 h
      ·rw[if_neg c]at h;cases h
abbrev dQ:=List (Str×Nat)
def cX(cs:dQ)(ρ:bX):bX:=cs.map λp=>(ρ[p.2]?).getD none
def nX(cs:dQ)(σ:St):St:=cs.map λp=>(σ[p.2]?).getD none
theorem B8(cs:dQ)(R:aG K m H ρ σ):aG K m H (cX cs ρ) (nX cs σ):=by
 refine⟨by unfold cX nX;simp,λi w e=>?_⟩;unfold cX at e;rw[cM]at e;cases q:cs[i]? with
 |none=>rw[q]at e;cases e
 |some p=>
  rw[q]at e;have e':(ρ[p.2]?).getD none=some w:=by simpa using e
  cases q2:ρ[p.2]? with
  |none=>rw[q2]at e';cases e'
  |some o=>rw[q2]at e';have e2:o=some w:=e';subst e2;obtain⟨v,h1,h2⟩:=R.get _ _ q2;refine⟨v,?_,h2⟩;unfold nX;rw[cM,q];simp[h1]
def xW(X:Cx)(scope:Scope)(C:afR):List (Str×afR):=cellsFrom (C+1) scope.names (t7 X.env scope.names [])
theorem nY:∀{names:List (Str×afU)}(n:Nat)(acc:List (Str×afR))(h:Heap),(names.filter λy=>y.2 == .cell)=[]->cellsFrom n names acc=acc/\pushCells h names=h
 |[],_,_,_,_=>⟨rfl,rfl⟩
 |(y,k)::r,n,acc,h,e=>by
  cases q:(k == eR)with
  |true=>rw[GK (by exact q)]at e;cases e
  |false=>rw[GL (by show ¬(k == eR)=true;rw[q];exact bF)]at e;unfold cellsFrom pushCells;rw[q];exact nY n acc h e
theorem jN{x:Str}:∀{names:List (Str×afU)}(n:Nat)(acc:List (Str×afR))(h:Heap),(names.filter λy=>y.2 == .cell)=[(x,.cell)]->cellsFrom n names acc=(x,n)::acc/\pushCells h names=h.push { cls:=.type "cell",data:=.cell none }
 |[],_,_,_,e=>by cases e
 |(y,k)::r,n,acc,h,e=>by
  cases q:(k == eR)with
  |true=>rw[GK (by exact q)]at e;have e1:=(List.cons.inj e).1;have e2:=(List.cons.inj e).2;cases e1;unfold cellsFrom pushCells;rw[q];exact nY _ _ _ e2
  |false=>rw[GL (by show ¬(k == eR)=true;rw[q];exact bF)]at e;unfold cellsFrom pushCells;rw[q];exact jN n acc h e
theorem lr{globals:afR}{closure:List (Str×afR)}{Q:Env->afW->Prop}
  (hQ:Q (newEnv scope s.heap.objs.size globals (cellsFrom (s.heap.objs.size+1) scope.names closure) qual none .none (some env) builtinsNs) { s with heap:=pushCells (s.heap.push { cls:=.type "dict",data:=.dict #[] }) scope.names }):
  aga M A (newFunctionEnv scope globals closure [] qual none .none (some env)) Q E s:=by
 simp only[newFunctionEnv,K9,if_true];refine agb (wpAny_alloc ?_);refine agb (wpAny_layCells _ (λname kind cells=>by cases hkc:kind == eR<;>simp[hkc]) _ _ _ _ ?_);rw[show({ s with heap:=s.heap.push { cls:=.type "dict",data:=.dict #[] } }:afW).heap.objs.size=s.heap.objs.size+1 from m7 ..];rw[GN];exact agb (agh (agh hQ))
def gF(X:Cx)(scope:Scope)(x:Str)(cs:dQ)(C:afR)(s0:afW)(H0:Hp)(fp:List afR)(pn:List (afR×Obj))(E:afX->afW->Prop):Cx where
 prog:=X.prog
 w:=X.w
 K:=X.K
 mg:=X.mg
 base:=X.base
 A:=X.A
 N:=x::cs.map (·.1)
 s₀:=s0
 H₀:=H0
 env:=compEnvC scope (xW X scope C) C X.env
 outer:=X.stack
 stack:=X.stack
 ex:=fp
 fn:=λy=>scope.names.lookup y == some .cell
 calm:=X.calm
 pn:=pn
 xe:=E
structure dh(X:Cx)(scope:Scope)(x:Str)(cs:dQ):Prop where
 kind:scope.kind= .function
 look:∀y∈scope.names,scope.names.lookup y.1=some y.2
 own:(scope.names.filter λy=>y.2 == .cell)=[]\/(scope.names.filter λy=>y.2 == .cell)=[(x,.cell)]
 var:scope.names.lookup x=some .local\/scope.names.lookup x=some .cell
 cap:∀y∈scope.names,y.2= .free->X.env.kindOf y.1=some .cell\/X.env.kindOf y.1=some .free
 at_:∀p∈cs,X.N[p.2]? =some p.1/\scope.names.lookup p.1=some .free
 nd:(x::cs.map (·.1)).Nodup
variable{fp:List afR}{He:Hp}{se:afW}{σ':St}
section
variable {X:Cx}{pins:List (afR×Obj)}{σ:St}{H:Hp}{s:afW}{scope:Scope}{x:Str}{cs:dQ}
theorem rK(I:Inv X pins σ H s)(f:ff X pins H b):b∉frs X.stack:=λz=>by
 rcases List.mem_cons.mp (I.qP b z)with q |q
 ·exact f.2.1 q
 ·exact f.2.2.1 q
theorem dh.has(S:dh X scope x cs)(ok:X.Ok):∀y∈scope.names,y.2= .free->∃c,X.env.cells.lookup y.1=some c:=λy hy e=>ok.has y.1 (S.cap y hy e)
theorem dh.GP(S:dh X scope x cs){y:Str}(e:scope.names.lookup y=some .cell):y=x/\(scope.names.filter λy=>y.2 == .cell)=[(x,.cell)]:=by
 have h:(y,eR)∈scope.names.filter λy=>y.2 == .cell:=List.mem_filter.mpr ⟨lookup_mem e,rfl⟩;rcases S.own with z |z
 ·rw[z]at h;cases h
 ·rw[z]at h;have:=List.mem_singleton.mp h;cases this;exact⟨rfl,z⟩
theorem dh.sub(S:dh X scope x cs)(ok:X.Ok){y:Str}{c:afR}(e:(xW X scope C).lookup y=some c):(c=C+1/\y=x/\(scope.names.filter λy=>y.2 == .cell)=[(x,.cell)])\/(X.env.cells.lookup y=some c/\scope.names.lookup y≠some .cell):=by
 have old:∀{y:Str}{c:afR},(t7 X.env scope.names []).lookup y=some c->X.env.cells.lookup y=some c:=λe=>vW (S.has ok) (λ_ _ z=>by cases z) e;unfold xW at e;rcases S.own with z |z
 ·rw[(nY _ _ X.base z).1]at e;refine .inr ⟨old e,λq=>?_⟩;rw[(S.GP q).2]at z;cases z
 ·rw[(jN _ _ X.base z).1,fD]at e;cases q:(y == x)with
  |true=>rw[q]at e;cases e;exact .inl ⟨rfl,eq_of_beq q,z⟩
  |false=>rw[q]at e;exact .inr ⟨old e,λw=>by rw[(S.GP w).1]at q;simp at q⟩
theorem dh.to(S:dh X scope x cs){y:Str}{c:afR}(e:(t7 X.env scope.names []).lookup y=some c)(n:scope.names.lookup y≠some .cell):(xW X scope C).lookup y=some c:=by
 unfold xW;rcases S.own with z |z
 ·rw[(nY _ _ X.base z).1];exact e
 ·rw[(jN _ _ X.base z).1,fD];have hx:scope.names.lookup x=some .cell:=by
   have hm:(x,eR)∈scope.names.filter λy=>y.2 == .cell:=by rw[z];exact ax
   exact S.look _ (List.mem_filter.mp hm).1
  cases q:(y == x)with
  |true=>exact absurd (by rw[eq_of_beq q];exact hx) n
  |false=>exact e
theorem dh.QF(S:dh X scope x cs){y:Str}(h:(compEnvC scope (xW X scope C) C X.env).kindOf y=some .cell\/(compEnvC scope (xW X scope C) C X.env).kindOf y=some .free):scope.names.lookup y=some .free\/scope.names.lookup y=some .cell:=by
 have q:(compEnvC scope (xW X scope C) C X.env).kindOf y=(scope.names.lookup y).map λk=>if(k == eQ&&X.env.scope.kind == .function&&X.env.kindOf y == some .cell)=true then eR else k:=nW
 rw[q]at h;cases e:scope.names.lookup y with
 |none=>rw[e]at h;simp at h
 |some k=>
  rw[e]at h;simp only[nD,Option.some.injEq]at h;by_cases hk:k= .free
  ·rw[hk];exact .inl rfl
  ·have hb:(k == eQ)=false:=by simpa using hk
   rw[hb]at h;simp only[j6,aW,if_false]at h;rcases h with h |h
   ·rw[h];exact .inr rfl
   ·exact absurd h hk
theorem dh.GQ(S:dh X scope x cs){y:Str}(e:scope.names.lookup y=some .free):(compEnvC scope (xW X scope C) C X.env).kindOf y=some .cell\/(compEnvC scope (xW X scope C) C X.env).kindOf y=some .free:=by
 have q:(compEnvC scope (xW X scope C) C X.env).kindOf y=(scope.names.lookup y).map λk=>if(k == eQ&&X.env.scope.kind == .function&&X.env.kindOf y == some .cell)=true then eR else k:=nW
 rw[q,e];simp only[nD];split
 ·exact .inl rfl
 ·exact .inr rfl
theorem xX{tk:Nat}(S:dh X scope x cs)(I:Inv X pins σ H s)(hf:∀b∈fp,ff X pins H b)(hl:∀b∈fp,b < s.heap.objs.size):
  Inv (gF X scope x cs s.heap.objs.size s H fp (X.pn++pins) E) [] (none::nX cs σ) H { s with heap:=pushCells (s.heap.push { cls:=.type "dict",data:=.dict #[] }) scope.names,toks:=tk }:=by
 have keep:∀b o,s.heap.get? b=some o->(pushCells (s.heap.push { cls:=.type "dict",data:=.dict #[] }) scope.names).get? b=some o:=λb o e=>pushCells_keeps _ _ b o (aT _ e);have ns:(pushCells (s.heap.push { cls:=.type "dict",data:=.dict #[] }) scope.names).Ns s.heap.objs.size λ_=>none:=(Heap.Ns.new s.heap (.type "dict")).keeps (pushCells_keeps _ _);have own:(scope.names.filter λy=>y.2 == .cell)=[(x,.cell)]->(pushCells (s.heap.push { cls:=.type "dict",data:=.dict #[] }) scope.names).IsCell (s.heap.objs.size+1) none:=λz=>by rw[(jN 0 [] _ z).2];have:=bE (s.heap.push { cls:=.type "dict",data:=.dict #[] }) (o:={ cls:=.type "cell",data:=.cell none }) rfl;rw[m7]at this;exact⟨_,this,rfl⟩
 generalize (pushCells (s.heap.push { cls:=.type "dict",data:=.dict #[] }) scope.names)=h2 at keep ns own ⊢;have sub:=λ{y:Str}{c:afR}(e:(xW X scope s.heap.objs.size).lookup y=some c)=>S.sub I.ok e;have cellK:∀y c,X.env.cells.lookup y=some c->∀v,s.heap.IsCell c v->h2.IsCell c v:=λy c _ v ⟨o,ho,hd⟩=>⟨o,keep c o ho,hd⟩;have lt:∀{y:Str}{c:afR},X.env.cells.lookup y=some c->c < s.heap.objs.size:=λ{y c} e=>by obtain⟨v,z⟩:=I.cell y c e;exact z.lt
 refine⟨⟨I.ok.mod,S.kind,I.ok.glob,I.ok.blt,ar _,(λy z c e1 e2=>?_),λy h=>?_,(λy c e1 e2=>?_),I.ok.hd,I.ok.frames,.inl rfl,λb hb=>⟨aN (hl b hb),λy c e=>?_⟩,I.bs,bZ I.ok.Kt I.sz,λb o e hb=>?_,λb hb=>rK I (hf b hb),I.stack,I.nG⟩,rfl,I.bare,Un.kept keep,⟨_,ns,λi y v e1 e2 e3=>?_⟩,(λy c e=>?_),I.fresh,(λy c e=>?_),λp hp=>?_,I.hok.kept keep,by unfold gF nX;simp⟩
 ·rcases sub e1 with ⟨q1,q2,_⟩ |⟨q1,_⟩<;>rcases sub e2 with ⟨q3,q4,_⟩ |⟨q3,_⟩
  ·rw[q2,q4]
  ·exact absurd (lt q3) (by rw[q1];exact Nat.not_lt.mpr (mj _))
  ·exact absurd (lt q1) (by rw[q3];exact Nat.not_lt.mpr (mj _))
  ·exact I.ok.inj y z c q1 q3
 ·rcases S.QF h with k |k
  ·obtain⟨c,e⟩:=qu (env:=X.env) (y:=y) (names:=scope.names) (acc:=[]) (.inr (lookup_mem k));exact⟨c,S.to e (by rw[k];decide)⟩
  ·obtain⟨rfl,z⟩:=S.GP k;refine⟨s.heap.objs.size+1,?_⟩;show(xW X scope s.heap.objs.size).lookup y=_;unfold xW;rw[(jN _ _ s.heap z).1,fD,beq_self_eq_true]
 ·rcases sub e2 with ⟨q1,_,_⟩ |⟨_,q2⟩
  ·rw[q1];exact mj _
  ·exact absurd (eq_of_beq e1) q2
 ·rcases sub e with ⟨q1,_,_⟩ |⟨q1,_⟩
  ·rw[q1];exact eP (mn (hl b hb))
  ·exact(hf b hb).2.2.2.2.1 y c q1
 ·rcases(hf b hb).2.2.2.1 with z |z
  ·exact I.ok.DC b o e z
  ·exact absurd (bT (az e) (bZ I.ok.Kt z)) (dz _)
 ·cases i with
  |zero=>cases e2
  |succ i=>
   have NU:(cs.map (·.1))[i]? =some y:=e1;have TR:(nX cs σ)[i]? =some (some v):=e2;unfold nX at TR;rw[cM]at NU TR;cases q:cs[i]? with
   |none=>rw[q]at NU;cases NU
   |some p=>
    rw[q]at NU TR;have y1:p.1=y:=by simpa using NU
    have e4:(σ[p.2]?).getD none=some v:=by simpa using TR
    have e5:σ[p.2]? =some (some v):=by
     cases q2:σ[p.2]? with
     |none=>rw[q2]at e4;cases e4
     |some o=>rw[q2]at e4;have:o=some v:=e4;rw[this]
    have hp:=S.at_ p (List.mem_iff_getElem?.mpr ⟨i,q⟩);rw[y1]at hp;have kd:=S.cap (y,.free) (lookup_mem hp.2) rfl;obtain⟨m,hn,hl'⟩:=I.loc;obtain⟨u,r,l⟩:=hl' p.2 y v hp.1 e5 (.inr kd);refine⟨u,r,.inr ⟨S.GQ hp.2,?_⟩⟩;rcases l with ⟨l,_⟩ |⟨_,c,e,z⟩
    ·rcases kd with kd |kd
     ·have Yx:X.env.kindOf y=some .cell:=kd;rw[Yx]at l;cases l
     ·have Yx:X.env.kindOf y=some .free:=kd;rw[Yx]at l;cases l
    ·obtain⟨c',e'⟩:=qu (env:=X.env) (y:=y) (names:=scope.names) (acc:=[]) (.inr (lookup_mem hp.2));have e6:=S.to (C:=s.heap.objs.size) e' (by rw[hp.2];decide);rcases sub e6 with ⟨_,w1,w2⟩ |⟨w1,_⟩
     ·have hm:(x,eR)∈scope.names.filter λy=>y.2 == .cell:=by rw[w2];exact ax
      have:=S.look _ (List.mem_filter.mp hm).1;rw[<-w1,hp.2]at this;cases this
     ·rw[e]at w1;cases w1;exact⟨c,e6,cellK y c e _ z⟩
 ·rcases sub e with ⟨rfl,_,q2⟩ |⟨q1,_⟩
  ·exact⟨none,own q2⟩
  ·obtain⟨v,z⟩:=I.cell y c q1;exact⟨v,cellK y c q1 v z⟩
 ·rcases sub e with ⟨rfl,_,_⟩ |⟨q1,_⟩
  ·exact I.hok.fresh (mj _)
  ·exact I.jI y c q1
 ·rw[j8]at hp;obtain⟨e,n,ne,nf,d⟩:=I.pin p hp;refine⟨keep _ _ e,n,aN (az e),λz=>?_,d⟩;rcases List.mem_cons.mp (I.qP p.1 z)with q |q
  ·exact ne q
  ·exact nf q
theorem GR{Hb:Hp}{sb:afW}(I:Inv X pins σ Hb sb)(hf:∀b∈fp,ff X pins Hb b)(J:Inv (gF X scope x cs C sb Hb fp (X.pn++pins) E) iw σ' He se):Inv X pins σ He se:=by have un:Un (frs X.stack) fp Hb He sb.heap se.heap:=J.base;exact I.xt (ch:=fp) J.os un J.hok J.bare λb hb=>⟨(hf b hb).2.2.2.1,(hf b hb).2.1,(hf b hb).2.2.2.2.1,λp hp=>(hf b hb).2.2.2.2.2 p hp⟩
theorem mq(I:Inv X pins σ He se)(f:ff X pins He C)(same:eB C se.heap h2):Inv X pins σ He { se with heap:=h2 } :=
 I.turned (t':=se.toks) (it:=C) (λb o hb e=>(same.2 b hb).trans e) f.1 f.2.1 f.2.2.2.1 f.2.2.2.2.1 f.2.2.2.2.2
end
def GU(X:Cx):Prop:=∃(env:Env)(outer:List Env)(L:afR),X.stack=env::outer/\env.frame=some L/\X.env.frame=some L
structure GV(Y:Cx->Prop)(P:afV)(w:afY)(K:PySem.W.Frag)(tg:Expr)(J:It)(fp:List afR)(it:afR)(tn:Nat->Heap->Prop):Prop where
 obj:∀i h,tn i h->∀b∈fp,∃o,h.get? b=some o/\∀v,o.data≠.cell v
 keep:∀i h h',tn i h->(∀b∈fp,∀o,h.get? b=some o->h'.get? b=some o)->tn i h'
 item:∀(X:Cx),X.prog=P->X.w=w->X.K=K->Y X->∀(i:Nat)(pins:List (afR×Obj))(s:afW)(σ:St)(H:Hp)(E:afX->afW->Prop),Inv X pins σ H s->(∀b∈fp,ff X pins H b)->tn i s.heap->J.go i H->aga (model P w) X.A (pyNext (.ref it)) (λr s1=>∃u,r=some u/\
  aga (model P w) X.A (letOwnedTupleGo tg (.ref it) u) (λ_ s2=>∃x H',Inv X pins σ H' s2/\RelV x u/\J.xv i H x H'/\tn (i+1) s2.heap/\∀b∈fp,H' b=none) E s1) E s
 done:∀(X:Cx),X.prog=P->X.w=w->X.K=K->Y X->∀(i:Nat)(pins:List (afR×Obj))(s:afW)(σ:St)(H:Hp)(E:afX->afW->Prop),Inv X pins σ H s->(∀b∈fp,ff X pins H b)->tn i s.heap->J.stop i H->aga (model P w) X.A (pyNext (.ref it)) (λr s1=>r=none/\Inv X pins σ H s1) E s
 self:∀(A:afS)(i:Nat)(s:afW)(Q:afX->afW->Prop)(E:afX->afW->Prop),tn i s.heap->Q (.ref it) s->aga (model P w) A (pyIter (.ref it)) Q E s
abbrev Calm(X:Cx):Prop:=X.calm=true
variable{it:afR}{tn:Nat->Heap->Prop}
theorem _root_.L2.Turn.y{w:afY}{J:It}(T:Turn P w K tg J fp it tn):GV Calm P w K tg J fp it tn:=⟨T.obj,T.keep,T.item,T.done,T.self⟩
def Vj(Y:Cx->Prop)(X:Cx):Prop:=∀{pins:List (afR×Obj)}{σ:St}{H:Hp}{s:afW}(scope:Scope)(x:Str)(cs:dQ)(C:afR)(s0:afW)(fp:List afR)(pn:List (afR×Obj))(E:afX->afW->Prop),Inv X pins σ H s->Y (gF X scope x cs C s0 H fp pn E)
variable{X:Cx}
theorem xY(hc:X.calm=true):Vj Calm X:=λ_ _ _ _ _ _ _ _ _=>hc
def B9(X:Cx)(ifs:List Expr)(g:GT):Prop:=∀(ρ:bX)(st:Hs)(σ:St)(H:Hp)(m:Mp)(Q:Bool->Hp->Prop),bJ X.K m st H->aG X.K m H ρ σ->jK X σ m H (g ρ st) Q->∀(pins:List (afR×Obj))(s:afW),Inv X pins σ H s->
 aga (model X.prog X.w) X.A (forIn ifs true λc r=>if r=true then do let ok <-isTrue c X.env (eval c X.env);pure (jl ok)else pure (jl r)) (TP X pins σ Q) X.xe s
variable{Q:afX->afW->Prop}{cs:dQ}{px:Pos}{elt:Expr}{ifs:List Expr}{ck:Hs->Prop}{use:Option (afX->Sem Unit)}{H2:Hp}{s2:afW}{Y:Cx->Prop}
section
variable {X:Cx}
theorem B_:B9 X [] (λ_ st=> .ok true st):=λρ st σ H m Q S R p pins s I=>wpAny_tests_nil ⟨H,I,p m H Ext.refl S⟩
theorem Ca{g:GT}(h:JT X c g):B9 X [c] g:=λρ st σ H m Q S R p pins s I=>wpAny_tests_one (h ρ st σ H m Q S R p pins s I)
theorem AI{pins:List (afR×Obj)}
  {res:Re Unit}
  (fr:GU X)(S:dh X scope x cs)(hY:Vj Y X)(hH:Qx X)(I2:Inv X pins σ H2 s2)(T:GV Y X.prog X.w X.K (.Name x px) J' fp it tn)(t0:tn 0 s2.heap)(f2:∀b∈fp,ff X pins H2 b)
  (S1:bJ X.K m1 st1 H2)(R:aG X.K m1 H2 ρ σ)(hck:ck (st1++[.lst []]))(run:pM ck (λw=>gt (some w::cX cs ρ)) (λw=>ge (some w::cX cs ρ)) st1.length ws (st1++[.lst []])=res)(nb:res≠.bad)(hx:∀c stE,res≠.err c stE)
  (hE:∀C s0 H0 pn E,D0 X.A H0->JE (gF X scope x cs C s0 H0 fp pn E) elt ge)(hT:∀C s0 H0 pn E,D0 X.A H0->B9 (gF X scope x cs C s0 H0 fp pn E) ifs gt)
  (hgo:∀(k:Nat)(H:Hp)(m':Mp)(st:Hs),Ext X.K m1 H2 m' H->bJ X.K m' st H->ck st->k < ws.length->J'.go k H)(hstop:∀(k:Nat)(H:Hp)(m':Mp)(st:Hs),Ext X.K m1 H2 m' H->bJ X.K m' st H->ck st->k=ws.length->J'.stop k H)
  (hy:∀(k:Nat)(hk:k < ws.length)(H:Hp)(v:V)(H':Hp)(m':Mp)(st:Hs),Ext X.K m1 H2 m' H->bJ X.K m' st H->ck st->J'.xv k H v H'->H'=H/\ag X.K m' H ws[k] v)
  (fin:∀(oF:Hs),res= .ok () oF->∀(D C:afR)(mm:Str->Option afX)(m':Mp)(H':Hp)(s':afW),Ext X.K m1 H2 m' H'->bJ X.K m' oF H'->m'[st1.length]? =some D->Inv X pins σ H' s'->ff X pins H' C->s'.heap.Ns C mm->(∀y c,X.env.cells.lookup y=some c->c≠C)->af3 (model X.prog X.w) X.A X.xe use Q (.ref D) C (.ok .next) s'):
  aga (model X.prog X.w) X.A (newList []) (λacc s3=>aga (model X.prog X.w) X.A (newFunctionEnv scope X.env.globals (t7 X.env scope.names []) [] X.env.qual none .none (some X.env)) (λcenv s4=>
   af2 (model X.prog X.w) X.A (.compStart (.ListComp elt [⟨.Name x px,iter,ifs,0⟩] scope pos) 0 (.ref it) acc { cenv with scope:=relabel scope X.env }) (af3 (model X.prog X.w) X.A X.xe use Q acc cenv.locals) s4) E s3) E s2:=by
 refine agf ?_;have I3:Inv X pins σ (upd H2 s2.heap.objs.size (.lst [])) { s2 with heap:=s2.heap.push { cls:=.type "list",data:=.seq ([]:List afX).toArray } }:=I2.K4 (ys:=[]) (its:=[]) (t':=s2.toks) .nil (bH _);have Vk:∀b∈fp,b < s2.heap.objs.size:=λb hb=>by obtain⟨o,e,_⟩:=T.obj _ _ t0 b hb;exact az e
 have hD:H2 s2.heap.objs.size=none:=I2.fresh;have f3:∀b∈fp,ff X pins (upd H2 s2.heap.objs.size (.lst [])) b:=λb hb=>⟨by rw[aI (aN (Vk b hb))];exact(f2 b hb).1,(f2 b hb).2⟩;have S3:=S1.alloc (ws:=[]) (xs:=[]) hD ai.nil;have e3:Ext X.K m1 H2 (m1++[s2.heap.objs.size]) (upd H2 s2.heap.objs.size (.lst [])):=Ext.more.trans (Ext.upd (.inl hD));have LJ:(m1++[s2.heap.objs.size])[st1.length]? =some s2.heap.objs.size:=by rw[<-S1.len,fz (ar _),qr];rfl
 generalize QG:({ s2 with heap:=s2.heap.push { cls:=.type "list",data:=.seq ([]:List afX).toArray } }:afW)=s3 at I3;have Vl:∀b o,s2.heap.get? b=some o->s3.heap.get? b=some o:=λb o e=>by rw[<-QG];exact aT _ e
 have QH:∀b∈fp,b < s3.heap.objs.size:=λb hb=>by obtain⟨o,e,_⟩:=T.obj _ _ t0 b hb;exact az (Vl b o e)
 generalize hDD:s2.heap.objs.size=D at *;generalize hH3:upd H2 D (.lst [])=H3 at *;generalize hm3:m1++[D]=m3 at *;have R3:aG X.K m3 H3 (cX cs ρ) (nX cs σ):=(B8 cs R).mono e3;generalize hrr:cX cs ρ=ρc at *;generalize hss:nX cs σ=σc at *;refine lr ?_;have Ic:=λE=>xX (E:=E) (tk:=s3.toks) S I3 f3 QH;have Vm:∀b o,s3.heap.get? b=some o->(pushCells (s3.heap.push { cls:=.type "dict",data:=.dict #[] }) scope.names).get? b=some o:=λb o e=>pushCells_keeps _ _ b o (aT _ e);generalize (pushCells (s3.heap.push { cls:=.type "dict",data:=.dict #[] }) scope.names)=h4 at Ic Vm ⊢;have t4:tn 0 h4:=T.keep _ _ _ t0 λb _ o e=>Vm b o (Vl b o e)
 let EX:afX->afW->Prop:=notedBy (model X.prog X.w) X.A (compEnvC scope (xW X scope s3.heap.objs.size) s3.heap.objs.size X.env) λe s'=>af3 (model X.prog X.w) X.A X.xe use Q (.ref D) s3.heap.objs.size (.error e) s'
 let Xc:=gF X scope x cs s3.heap.objs.size s3 H3 fp (X.pn++pins) EX
 have noted:∀{σ':St}{m:Mp}{H:Hp}{c:Str}{st:Hs},Ext X.K m1 H2 m H->res= .err c st->TM Xc σ' m H c st:=λ_ er=>(hx _ _ er).elim;have vis:Loc Xc.env.scope x/\(Xc.fn x=true\/Xc.env.scope.names.lookup x=some .local):=by
  rcases S.var with v |v
  ·exact⟨.inl (lookup_relabel_local v),.inr (lookup_relabel_local v)⟩
  ·have q:Xc.env.scope.names.lookup x=some .cell:=by show(scope.names.map _).lookup x=_;rw[nW,v];rfl
   exact⟨.inr q,.inl (by show(scope.names.lookup x == some .cell)=true;rw[v];rfl)⟩
 have QI:∀(H':Hp),(∀b∈fp,H' b=none)->∀b∈fp,ff Xc [] H' b:=λH' hn b hb=>⟨hn b hb,aN (QH b hb),rK I3 (f3 b hb),.inl hb,λy c e=>(by
  rcases S.sub I3.ok e with ⟨q1,_,_⟩ |⟨q1,_⟩
  ·rw[q1];exact eP (mn (QH b hb))
  ·exact(f3 b hb).2.2.2.2.1 y c q1),λp hp=>(f2 b hb).2.2.2.2.2 p (by have LK:p∈(X.pn++pins)++[]:=hp;rw[j8]at LK;exact LK)⟩
 let Pv:Nat->afW->Prop:=λk s'=>∃z H' st m',Inv Xc [] (z::σc) H' s'/\tn k s'.heap/\(∀b∈fp,H' b=none)/\Ext X.K m3 H3 m' H'/\bJ X.K m' st H'/\ck st/\pM ck (λw=>gt (some w::ρc)) (λw=>ge (some w::ρc)) st1.length (ws.drop k) st=res
 have loop:∀s4:afW,Pv 0 s4->af2 (model X.prog X.w) X.A (.compLoop (.ListComp elt [⟨.Name x px,iter,ifs,0⟩] scope pos) 0 (.ref it) (.ref D) (compEnvC scope (xW X scope s3.heap.objs.size) s3.heap.objs.size X.env)) (af3 (model X.prog X.w) X.A X.xe use Q (.ref D) s3.heap.objs.size) s4:=λs4 p0=>by
  refine codeAny_compLoop_tests (λn s'=>∃k,n=ws.length - k/\k<=ws.length/\Pv k s') ?_ ws.length ⟨0,by simp,bH _,p0⟩;rintro n s5 ⟨k,rfl,hk,z5,H5,xx,m5,I5,Vn,Pb,e5,S5,c5,bA⟩;have GW:=e3.trans e5;by_cases hlt:k < ws.length
  ·refine bR (T.item Xc rfl rfl rfl (hY _ _ _ _ _ _ _ _ I3) k [] s5 (z5::σc) H5 _ I5 (QI H5 Pb) Vn (hgo k H5 m5 xx GW S5 c5 hlt)) λr s6 h6=>?_;obtain⟨u,rfl,h6⟩:=h6;show aga (model X.prog X.w) X.A (pure () >>= λ_=>assign (.Name x px) Xc.env u) _ _ s6;refine agb (bR h6 λ_ s7 h7=>?_);obtain⟨v,H7,I7,rv,yl,QJ,Yy⟩:=h7;obtain⟨rfl,Vo⟩:=hy k hlt H5 v H7 m5 xx GW S5 c5 yl;have TU:=I7.pinned (QI H7 Yy) (T.obj _ _ QJ);refine wpAny_assign_Name (qQ (i:=0) TU S.nd rfl vis.1 rv (λs8 I8=>?_) vis.2);have W2:Inv Xc ([]++eC fp s7.heap) (some v::σc) H7 s8:=I8;have R8:aG X.K m5 H7 (some ws[k]::ρc) (some v::σc):=by
    have R5:=R3.mono e5;refine⟨by simp[R5.len],λi w e=>?_⟩;cases i with
    |zero=>cases e;exact⟨v,rfl,Vo⟩
    |succ i=>exact R5.get i w e
   have ed:ws.drop k=ws[k]::ws.drop (k+1):=rB hlt;rw[ed]at bA;unfold pM at bA;have back:∀{H':Hp}{s':afW}{m':Mp}{st:Hs},Inv Xc ([]++eC fp s7.heap) (some v::σc) H' s'->Ext X.K m3 H3 m' H'->bJ X.K m' st H'->ck st->pM ck (λw=>gt (some w::ρc)) (λw=>ge (some w::ρc)) st1.length (ws.drop (k+1)) st=res->∃n',n' < ws.length - k/\∃k',n'=ws.length - k'/\k'<=ws.length/\Pv k' s' :=
    λ{H' s' m' st} I' e' S' c' r'=>⟨ws.length - (k+1),by omega,k+1,rfl,hlt,some v,H',st,m',I'.k8,T.keep _ _ _ QJ λb hb o e=>(I'.pin (b,o) (bU _ (bU _ (fW hb e)))).1,λb hb=>by obtain⟨o,e,_⟩:=T.obj _ _ QJ b hb;exact(I'.pin (b,o) (bU _ (bU _ (fW hb e)))).2.1,e',S',c',r'⟩
   cases eg:gt (some ws[k]::ρc) xx with
   |err c E_=>rw[eg]at bA;refine age (hT s3.heap.objs.size s3 H3 (X.pn++pins) EX (hH.at I3) (some ws[k]::ρc) xx (some v::σc) H7 m5 (λ_ _=>False) S5 R8 (by rw[eg];exact noted GW bA.symm) ([]++eC fp s7.heap) s8 W2) (λ_ _ h9=>?_) λ_ _ z=>z;obtain⟨_,_,z⟩:=h9;exact z.elim
   |bad=>rw[eg]at bA;exact absurd bA.symm nb
   |ok b E_=>
    rw[eg]at bA;have NG:=hT s3.heap.objs.size s3 H3 (X.pn++pins) EX (hH.at I3) (some ws[k]::ρc) xx (some v::σc) H7 m5 (λb' H'=>b'=b/\∃m',Ext X.K m5 H7 m' H'/\bJ X.K m' E_ H') S5 R8 (by rw[eg];exact λm' H' e' S'=>⟨rfl,m',e',S'⟩) ([]++eC fp s7.heap) s8 W2;refine age NG (λok s9 h9=>?_) λ_ _ z=>z;obtain⟨H9,I9,rfl,m9,e9,S9⟩:=h9;cases ok with
    |false=>
     dsimp only at bA;by_cases c6:ck E_
     ·rw[if_pos c6]at bA;rw[if_neg bF];exact back I9 (e5.trans e9) S9 c6 bA
     ·rw[if_neg c6]at bA;exact absurd bA.symm nb
    |true=>
     dsimp only at bA;rw[if_pos rfl];cases ee:ge (some ws[k]::ρc) E_ with
     |err c LL=>rw[ee]at bA;refine age (hE s3.heap.objs.size s3 H3 (X.pn++pins) EX (hH.at I3) (some ws[k]::ρc) E_ (some v::σc) H9 m9 (λ_ _=>False) S9 (R8.mono e9) (by rw[ee];exact noted (GW.trans e9) bA.symm) ([]++eC fp s7.heap) s9 I9) (λ_ _ Vp=>?_) λ_ _ z=>z;obtain⟨_,_,_,_,z⟩:=Vp;exact z.elim
     |bad=>rw[ee]at bA;exact absurd bA.symm nb
     |ok w LL=>
      rw[ee]at bA;dsimp only at bA;cases ea:pY (.ref st1.length) w LL with
      |err c QK=>rw[ea]at bA;exact absurd bA.symm nb
      |bad=>rw[ea]at bA;exact absurd bA.symm nb
      |ok w2 QK=>
       rw[ea]at bA;dsimp only at bA;by_cases c8:ck QK
       ·rw[if_pos c8]at bA;have el:=hE s3.heap.objs.size s3 H3 (X.pn++pins) EX (hH.at I3) (some ws[k]::ρc) E_ (some v::σc) H9 m9 (λv' H'=>∃m',Ext X.K m9 H9 m' H'/\bJ X.K m' LL H'/\ag X.K m' H' w v') S9 (R8.mono e9) (by rw[ee];exact λv' m' H' e' S' r'=>⟨m',e',S',r'⟩) ([]++eC fp s7.heap) s9 I9;refine age el (λu2 Yz Vp=>?_) λ_ _ z=>z;obtain⟨v2,GX,YA,r2,QL,W3,YB,QM⟩:=Vp;obtain⟨r,h1,h2⟩:=AH (X:=Xc);have eA:=(e5.trans e9).trans W3;have ro:ag X.K QL GX (.ref st1.length) (.ref D):=by unfold ag;exact⟨D,rfl,eA.pre _ _ LJ⟩
        have rd:=h2 (.ref st1.length) w (.ref D) v2 LL GX QL (λ_ H'=>∃m',Ext X.K QL GX m' H'/\bJ X.K m' QK H') YB ro QM (by rw[ea];exact λv' m' H' e' S' r'=>⟨m',e',S'⟩);refine age (h1 ([]++eC fp s7.heap) Yz (some v::σc) GX (.ref D) [v2] (.ref D) [u2] _ YA rfl (.cons r2 .nil) rd) (λ_ s11 h11=>?_) λ_ _ z=>z;obtain⟨_,YC,YD,_,m11,W4,YE⟩:=h11;exact back YD (eA.trans W4) YE c8 bA
       ·rw[if_neg c8]at bA;exact absurd bA.symm nb
  ·have ek:k=ws.length:=by omega
   subst ek;refine bR (T.done Xc rfl rfl rfl (hY _ _ _ _ _ _ _ _ I3) _ [] s5 (z5::σc) H5 _ I5 (QI H5 Pb) Vn (hstop _ H5 m5 xx GW S5 c5 rfl)) λr s6 h6=>?_;obtain⟨rfl,I6⟩:=h6;rw[AE]at bA;obtain⟨mm,YF,_⟩:=id I6.loc;have fC:=I3.zZ (H':=H5) (ar _) I6.free;exact fin xx bA.symm D _ mm m5 H5 _ GW S5 (e5.pre _ _ LJ) (GR I3 f3 I6) fC YF fC.2.2.2.2.1
 have p0:Pv 0 { s3 with heap:=h4,toks:=s3.toks }:=⟨none,H3,st1++[Ob.lst []],m3,hss ▸ Ic EX,t4,λb hb=>(f3 b hb).1,Ext.refl,S3,hck,by rw[AJ];exact run⟩;exact codeAny_compStart_list (loop _ p0) (T.self X.A 0 _ _ _ t4 (loop _ p0))
end
abbrev Wk:=Option Nat×List Wv
def jn(w:Wk)(st:Hs):Prop:=match w.1 with
 |some l=>ao st l=some w.2
 |none=>True
structure xZ(X:Cx)(w:Wk)(m1:Mp)(H1:Hp)(J':It):Prop where
 go:∀(k:Nat)(H:Hp)(m':Mp)(st:Hs),Ext X.K m1 H1 m' H->bJ X.K m' st H->jn w st->k < w.2.length->J'.go k H
 stop:∀(k:Nat)(H:Hp)(m':Mp)(st:Hs),Ext X.K m1 H1 m' H->bJ X.K m' st H->jn w st->k=w.2.length->J'.stop k H
 xv:∀(k:Nat)(hk:k < w.2.length)(H:Hp)(v:V)(H':Hp)(m':Mp)(st:Hs),Ext X.K m1 H1 m' H->bJ X.K m' st H->jn w st->J'.xv k H v H'->H'=H/\ag X.K m' H w.2[k] v
abbrev GI:=bX->Hs->Re Wk
def YG(Y:Cx->Prop)(X:Cx)(pins:List (afR×Obj))(σ:St)(tg:Expr)(R:It->Hp->Prop)(itv:afX)(s2:afW):Prop :=
 ∃(it:afR)(fp:List afR)(tn:Nat->Heap->Prop)(J:It)(H':Hp),itv= .ref it/\Inv X pins σ H' s2/\GV Y X.prog X.w X.K tg J fp it tn/\tn 0 s2.heap/\(∀b∈fp,ff X pins H' b)/\R J H'
def PIY(Y:Cx->Prop)(X:Cx)(tg iter:Expr)(wi:TI):Prop:=∀(pins:List (afR×Obj))(s:afW)(σ:St)(H:Hp)(R:It->Hp->Prop),Inv X pins σ H s->wi σ H R->
 aga (model X.prog X.w) X.A (eval iter X.env) (λv s1=>aga (model X.prog X.w) X.A (pyIter v) (YG Y X pins σ tg R) X.xe s1) X.xe s
theorem _root_.L2.PI.y{wi:TI}(h:PI X tg iter wi):PIY Calm X tg iter wi:=λpins s σ H R I q=>bR (h pins s σ H R I q) λ_ _ h1=>bR h1 λ_ _ h2=>
 let ⟨it,fp,tn,J,H',e,I',T,r⟩:=h2;⟨it,fp,tn,J,H',e,I',T.y,r⟩
def W5(Y:Cx->Prop)(X:Cx)(tg iter:Expr)(gi:GI):Prop:=∃wi,PIY Y X tg iter wi/\∀(ρ:bX)(st:Hs)(σ:St)(H:Hp)(m:Mp)(R:It->Hp->Prop),bJ X.K m st H->aG X.K m H ρ σ->
 aE X σ m H (gi ρ st) (λw st1=>∀(m1:Mp)(H1:Hp)(J':It),Ext X.K m H m1 H1->bJ X.K m1 st1 H1->jn w st1->xZ X w m1 H1 J'->R J' H1)->wi σ H R
def JI(X:Cx)(tg iter:Expr)(gi:GI):Prop:=∃wi,PI X tg iter wi/\∀(ρ:bX)(st:Hs)(σ:St)(H:Hp)(m:Mp)(R:It->Hp->Prop),bJ X.K m st H->aG X.K m H ρ σ->
 aE X σ m H (gi ρ st) (λw st1=>∀(m1:Mp)(H1:Hp)(J':It),Ext X.K m H m1 H1->bJ X.K m1 st1 H1->jn w st1->xZ X w m1 H1 J'->R J' H1)->wi σ H R
variable{gi:GI}
theorem JI.y(h:JI X tg iter gi):W5 Calm X tg iter gi:=let ⟨wi,h1,h2⟩:=h;⟨wi,h1.y,h2⟩
def QN(w:Wv)(st:Hs):Re Wk:=match w with
 |.ref l=>(match ao st l with |some ws=> .ok (some l,ws) st |none=> .bad)
 |.tup ws=> .ok (none,ws) st
 |.iY ws=> .ok (none,ws) st
 |_=> .bad
def GY(g:GE):GI:=λρ st=>(g ρ st).bind QN
variable{b:Expr}{more:Hs}
section
variable {X:Cx}
theorem QO(h:JE X iter g):JI X tg iter (GY g):=by
 refine⟨_,Gy br,λρ st σ H m Q S R p=>?_⟩;refine h.go S R (aE.bind p) λw st1 v m1 H1 p1 e1 S1 rw'=>?_;cases w with
 |ref l=>
  unfold ag at rw';obtain⟨a,rfl,hla⟩:=rw';unfold QN at p1;cases el:ao st1 l with
  |none=>simp only[el]at p1;exact ae p1
  |some ws=>
   simp only[el]at p1;obtain⟨Yt,q0,_⟩:=S1.read hla el;refine⟨a,rfl,.inl ⟨⟨Yt,q0⟩,p1 m1 H1 _ e1 S1 el ⟨λk H' m' st' e S' c hk=>?_,λk H' m' st' e S' c hk=>?_,λk hk H' v YH m' st' e S' c y=>?_⟩⟩⟩
   ·obtain⟨xs,hq,rws⟩:=S'.read (e.pre _ _ hla) c;have hx':k < xs.length:=by rw[<-rws.length];exact hk
    exact⟨xs,xs[k],hq,by simp[hx']⟩
   ·obtain⟨xs,hq,rws⟩:=S'.read (e.pre _ _ hla) c;exact⟨xs,hq,by rw[<-rws.length,hk];exact ar _⟩
   ·obtain⟨xs,hq,rws⟩:=S'.read (e.pre _ _ hla) c;obtain⟨ee,y⟩:=y;refine⟨ee,?_⟩;obtain⟨x',ex',zS⟩:=rws.get (i:=k) (w:=ws[k]) (bh hk);rw[y xs hq]at ex';cases ex';exact zS
 |tup ws=>
  unfold ag at rw';obtain⟨a,xs,rfl,hq,rws⟩:=rw';refine⟨a,rfl,.inr ⟨⟨xs,eO.of hq⟩,p1 m1 H1 _ e1 S1 trivial ⟨λk H' m' st' e S' c hk=>?_,λk H' m' st' e S' c hk=>?_,λk hk H' v YH m' st' e S' c y=>?_⟩⟩⟩
  ·have hx':k < xs.length:=by rw[<-rws.length];exact hk
   exact⟨xs,xs[k],eO.of (e.tup _ _ hq),by simp[hx']⟩
  ·exact⟨xs,eO.of (e.tup _ _ hq),by rw[<-rws.length,hk];exact ar _⟩
  ·obtain⟨ee,y⟩:=y;refine⟨ee,?_⟩;obtain⟨x',ex',zS⟩:=(ai.mono e _ _ rws).get (i:=k) (w:=ws[k]) (bh hk);rw[y xs (eO.of (e.tup _ _ hq))]at ex';cases ex';exact zS
 |iY ws=>
  unfold ag at rw';obtain⟨a,xs,rfl,hq,rws⟩:=rw';refine⟨a,rfl,.inr ⟨⟨xs,.inr hq⟩,p1 m1 H1 _ e1 S1 trivial ⟨λk H' m' st' e S' c hk=>?_,λk H' m' st' e S' c hk=>?_,λk hk H' v YH m' st' e S' c y=>?_⟩⟩⟩
  ·have hx':k < xs.length:=by rw[<-rws.length];exact hk
   exact⟨xs,xs[k],.inr hq,by simp[hx']⟩
  ·exact⟨xs,.inr hq,by rw[<-rws.length,hk];exact ar _⟩
  ·obtain⟨ee,y⟩:=y;refine⟨ee,?_⟩;obtain⟨x',ex',zS⟩:=(ai.mono e _ _ rws).get (i:=k) (w:=ws[k]) (bh hk);rw[y xs (.inr hq)]at ex';cases ex';exact zS
 |_=>exact ae p1
theorem GZ:xZ X (none,cg lo n) m1 H1 (Nz lo n) where
 go:=λk H m' st e S c hk=>by have:(cg lo n).length=n:=dq;have hk':k < (cg lo n).length:=hk;rw[this]at hk';exact hk'
 stop:=λk H m' st e S c hk=>by have:(cg lo n).length=n:=dq;have hk':k=(cg lo n).length:=hk;rw[this]at hk';exact nL hk'.symm
 xv:=λk hk H v H' m' st e S c y=>by obtain⟨y1,y2⟩:=y;refine⟨y1,?_⟩;have q:(cg lo n)[k]'hk= .int (lo+k):=xT hk;show ag X.K m' H ((cg lo n)[k]'hk) v;rw[q,y2];exact mkInt
def rL(ws:List Wv)(st:Hs):Re Wk:=match ws with
 |[.int j]=>if cW j then .ok (none,cg 0 j.toNat) st else .bad
 |_=> .bad
def Cb(ws:List Wv)(st:Hs):Re Wk:=match two ws with
 |some (a,j)=>if cW a/\cW j then .ok (none,cg a (j - a).toNat) st else .bad
 |none=> .bad
def D4(g:GA):GI:=λρ st=>(g ρ st).bind rL
def G0(g:GA):GI:=λρ st=>(g ρ st).bind Cb
theorem Vq{a:Expr}(hg:Gl X "range")(hm:X.mg "range"=none)(ha:JA X [a] ga)(hst:af9 [a] X.env=[(false,eval a X.env)]):JI X tg (.Call (.Name "range" p) [a] [] q) (D4 ga):=by
 refine⟨_,uy hg hm jL hst,λρ st σ H m Q S R p=>?_⟩;refine ha.go S R (aE.bind p) λws st1 vs m1 H1 p1 e1 S1 rs=>?_
 match ws,rs,p1 with
 |[],rs,p1=>exact ae p1
 |x::y::t,rs,p1=>cases x<;>exact ae p1
 |[x],rs,p1=>
  obtain⟨v,rfl,r1⟩:=rp rs;cases x with
  |int j=>
   cases aX r1;unfold rL at p1;by_cases c:cW j
   ·simp only[if_pos c]at p1;exact⟨j,rfl,c.1,c.2,p1 m1 H1 _ e1 S1 trivial GZ⟩
   ·simp only[if_neg c]at p1;exact ae p1
  |_=>exact ae p1
theorem Vr{a:Expr}(hg:Gl X "range")(hm:X.mg "range"=none)(ha:JA X [a,b] ga)(hst:af9 [a,b] X.env=[(false,eval a X.env),(false,eval b X.env)])(Qu:af9 [b] X.env=[(false,eval b X.env)]):JI X tg (.Call (.Name "range" p) [a,b] [] q) (G0 ga):=by
 refine⟨_,uz hg hm jL hst Qu,λρ st σ H m Q S R p=>?_⟩;refine ha.go S R (aE.bind p) λws st1 vs m1 H1 p1 e1 S1 rs=>?_;unfold Cb at p1;cases q:two ws with
 |none=>rw[q]at p1;exact ae p1
 |some t=>
  obtain⟨a,j⟩:=t;obtain rfl:=two_eq q;obtain⟨v,v',rfl,r1,r2⟩:=Az rs;cases aX r1;cases aX r2;rw[q]at p1;dsimp only at p1;by_cases c:cW a/\cW j
  ·simp only[if_pos c]at p1;exact⟨a,j,rfl,⟨c.1.1,c.1.2,c.2.1,c.2.2⟩,p1 m1 H1 _ e1 S1 trivial GZ⟩
  ·simp only[if_neg c]at p1;exact ae p1
def Cc:GI:=λ_ _=> .bad
theorem x_:PI X tg iter (λ_ _ _=>False):=λ_ _ _ _ _ _ h=>h.elim
theorem AK:JI X tg iter Cc:=⟨_,x_,λρ st σ H m Q S R p=>p⟩
def cZ(cs:dQ)(gt:GT)(ge:GE)(ρ:bX)(w:Wk)(st:Hs):Re Wv:=match iC (jn w) (λv=>gt (some v::cX cs ρ)) (λv=>ge (some v::cX cs ρ)) st.length w.2 (st++[.lst []])with
 |some oF=> .ok (.ref st.length) oF
 |none=> .bad
def iD(cs:dQ)(gi:GI)(gt:GT)(ge:GE):GE:=λρ st=>(gi ρ st).bind λw st1=>cZ cs gt ge ρ w st1
theorem uQ{l:Nat}(h:ao st l=some ws):ao (st++more) l=some ws:=by
 unfold ao at h ⊢;cases e:st[l]? with
 |none=>rw[e]at h;cases h
 |some o=>have hl:=(List.getElem?_eq_some_iff.mp e).1;rw[dM hl,e];rw[e]at h;exact h
theorem rM{w:Wk}(h:jn w st):jn w (st++more):=by
 obtain⟨o,ws⟩:=w;cases o with
 |none=>trivial
 |some l=>exact uQ h
theorem Cd{P:Wv->Hs->Prop}
  {pins:List (afR×Obj)}{ps:Pos}
  (fr:GU X)(CS:dh X scope x cs)(hc:Vj Y X)(hH:Qx X)(hi:W5 Y X (.Name x px) iter gi)(hE:∀C s0 H0 fp pn E,D0 X.A H0->JE (gF X scope x cs C s0 H0 fp pn E) elt ge)(hT:∀C s0 H0 fp pn E,D0 X.A H0->B9 (gF X scope x cs C s0 H0 fp pn E) ifs gt)(hs:∀x,af5 iter X.env x=pure x)
  (S:bJ X.K m st H)(R:aG X.K m H ρ σ)(I:Inv X pins σ H s)(p:aE X σ m H (iD cs gi gt ge ρ st) P)
  (fin:∀(w:Wv)(oF:Hs)(v:V)(D C:afR)(mm:Str->Option afX)(m':Mp)(H':Hp)(s':afW),P w oF->Ext X.K m H m' H'->bJ X.K m' oF H'->ag X.K m' H' w v->v= .ref D->Inv X pins σ H' s'->ff X pins H' C->s'.heap.Ns C mm->af3 (model X.prog X.w) X.A X.xe use Q (.ref D) C (.ok .next) s'):
  aga (model X.prog X.w) X.A (comprehension (.ListComp elt [⟨.Name x px,iter,ifs,0⟩] scope pos) scope X.env ps (newList []) false (eval iter X.env) use) Q X.xe s:=by
 obtain⟨wi,YI,hw⟩:=hi
 let R':It->Hp->Prop:=λJ' H1=>∃(w:Wk)(st1:Hs)(m1:Mp),aE X σ m H (cZ cs gt ge ρ w st1) P/\Ext X.K m H m1 H1/\bJ X.K m1 st1 H1/\jn w st1/\xZ X w m1 H1 J'
 have hr:=hw ρ st σ H m R' S R ((aE.bind p).imp Ext.refl λw st1 q m1 H1 J' e1 S1 c1 AL=>⟨w,st1,m1,q,e1,S1,c1,AL⟩);refine wpAny_comprehension_free (g:=⟨.Name x px,iter,ifs,0⟩) (gs:=[]) (cl:=t7 X.env scope.names []) rfl hs (B7 (CS.has I.ok)) CS.kind (λy hy e=>by rw[CS.look y hy,e]) (bR (YI pins s σ H R' I hr) λv s1 h1=>bR h1 λitv s2 h2=>?_);obtain⟨it,fp,tn,J',H1,rfl,I2,T,t0,f2,w,st1,m1,q,e1,S1,c1,AL⟩:=h2;unfold cZ at q;cases run:iC (jn w) (λv=>gt (some v::cX cs ρ)) (λv=>ge (some v::cX cs ρ)) st1.length w.2 (st1++[.lst []])with
 |none=>rw[run]at q;exact ae q
 |some oF=>rw[run]at q;refine AI (use:=use) (Q:=Q) fr CS hc hH I2 T t0 f2 S1 (R.mono e1) (rM c1) (rJ _ _ run) (by intro z;cases z) (λc' adT z=>by cases z) (λC s0 H0 pn E=>hE C s0 H0 fp pn E) (λC s0 H0 pn E=>hT C s0 H0 fp pn E) AL.go AL.stop AL.xv ?_;intro adU z D C mm m' H' s' e' S' LJ I' fC ns _;cases z;exact fin _ oF (.ref D) D C mm m' H' s' q (e1.trans e') S' (by unfold ag;exact⟨D,rfl,LJ⟩) rfl I' fC ns
theorem Ce
  (fr:GU X)(CS:dh X scope x cs)(hc:Vj Y X)(hH:Qx X)(hi:W5 Y X (.Name x px) iter gi)(hE:∀C s0 H0 fp pn E,D0 X.A H0->JE (gF X scope x cs C s0 H0 fp pn E) elt ge)(hT:∀C s0 H0 fp pn E,D0 X.A H0->B9 (gF X scope x cs C s0 H0 fp pn E) ifs gt)(hs:∀x,af5 iter X.env x=pure x):
  JE X (.ListComp elt [⟨.Name x px,iter,ifs,0⟩] scope pos) (iD cs gi gt ge):=λρ st σ H m Q S R p pins s I=>by
 rw[eval_ListComp];refine Cd (use:=none) fr CS hc hH hi hE hT hs S R I p ?_;intro w oF v D C mm m' H' s' q e' S' rw' ev I' fC ns;exact⟨mm,ns,λh' same=>⟨.ref D,H',mq I' fC same,rfl,ev ▸ q v m' H' e' S' rw'⟩⟩
theorem LM(i:Nat){y:Str}{spos py:Pos}(hN:X.N.Nodup)
  (fr:GU X)(CS:dh X scope x cs)(hc:Vj Y X)(hH:Qx X)(hi:W5 Y X (.Name x px) iter gi)(hE:∀C s0 H0 fp pn E,D0 X.A H0->JE (gF X scope x cs C s0 H0 fp pn E) elt ge)(hT:∀C s0 H0 fp pn E,D0 X.A H0->B9 (gF X scope x cs C s0 H0 fp pn E) ifs gt)(hs:∀x,af5 iter X.env x=pure x)
  (hx:X.N[i]? =some y)(hl:Loc X.env.scope y)(hf:X.fn y=true\/X.env.scope.names.lookup y=some .local):
  JS X (.Assign [.Name y py] (.ListComp elt [⟨.Name x px,iter,ifs,0⟩] scope pos) spos) (bS i (iD cs gi gt ge)):=by
 have sw:∃b,swapsWith (.ListComp elt [⟨.Name x px,iter,ifs,0⟩] scope pos) (some (.Name y py)) spos.line X.env=pure b:=⟨_,rfl⟩;obtain⟨b,sw⟩:=sw;cases b with
 |false=>exact vS i hN (Ce fr CS hc hH hi hE hT hs) hx hl sw hf
 |true=>
  intro ρ st σ H m D S R p pins s I;rw[exec_Assign_Name_used _ _ _ _ sw];refine agb (wpAny_standAt (agb ?_));show aga _ X.A (do let _ <-comprehension (.ListComp elt [⟨.Name x px,iter,ifs,0⟩] scope pos) scope X.env _ (newList []) false (eval iter X.env) (some (assign (.Name y py) X.env))) _ _ s;refine agb (age (Cd (use:=some (assign (.Name y py) X.env)) (Q:=λ_ s'=>SP X pins D .next s') fr CS hc hH hi hE hT hs S R I (aV.df R p) ?_) (λ_ s' hq=>agh (agh hq)) λ_ _ e=>e);intro w oF v D' C mm m' H' s' q e' S' rw' ev I' fC ns;refine wpAny_assign_Name (oG (i:=i) I' hN hx hl (show RelV v (.ref D') by rw[ev];rfl) (λs2 I2 h2=>?_) hf);obtain⟨a,sb,ha⟩:=h2;have hca:C≠a:=by
   rcases ha with z |z
   ·rw[z];exact fC.2.1
   ·exact bC (fC.2.2.2.2.1 y a z)
  exact⟨mm,ns.sameBut sb hca,λh' same=>⟨_,_,mq I2 fC same,q _ m' H' e' S' ((R.mono e').set i rw')⟩⟩
end
section
variable {X:Cx}
def QP(n:Nat)(k:Int):Prop:=-(2 ^ 62)<=k/\k < 2 ^ 62/\n * k.toNat<=lim
instance {n k}:Decidable (QP n k):=Gz _
def rN:fX
 |.ref l,.int n,st=>match st[l]? with
  |some (.lst ws)=>if QP ws.length n then .ok (.ref st.length) (st++[.lst (ay n.toNat ws).flatten])else .bad
  |_=> .bad
 |x,y,st=>NR x y st
theorem oP{K:PySem.W.Frag}{m:Mp}{H:Hp}{ws:List Wv}{xs:List V}(r:ai K m H ws xs):∀n:Nat,ai K m H (ay n ws).flatten (ay n xs).flatten
 | 0=>ai.nil
 |n+1=>by rw[gZ,qX,gZ,qX];exact r.append (oP r n)
theorem LN:jU X (af0 .Mult) rN:=by
 obtain⟨r,h1,h2⟩:=LD (X:=X);refine⟨_,fV.or PH h1,λx y a b st H m Q S rx ry p=>?_⟩;unfold rN at p;split at p
 ·rename_i l n;unfold ag at rx;obtain⟨a1,rfl,hl⟩:=rx;cases aX ry;cases e:st[l]? with
  |none=>rw[e]at p;exact ae p
  |some o=>
   cases o with
   |dct kvs=>rw[e]at p;exact ae p
   |gM kvs=>rw[e]at p;exact ae p
   |BW kvs=>rw[e]at p;exact ae p
   |E7 kvs=>rw[e]at p;exact ae p
   |FU kvs=>rw[e]at p;exact ae p
   |ins _ _=>rw[e]at p;exact ae p
   |xm ns=>rw[e]at p;exact ae p
   |lst ws=>
    rw[e]at p;dsimp only at p;by_cases c:QP ws.length n
    ·rw[if_pos c]at p;obtain⟨xs,q1,q2⟩:=S.rh hl e;refine .inl ⟨a1,n,xs,rfl,rfl,q1,by have:=c.1;omega,by have:=c.2.1;omega,by rw[<-q2.length];exact eD c.2.2,λq hq=>?_⟩;exact nN p Ext.refl S (oP q2 n.toNat) q hq
    ·rw[if_neg c]at p;exact ae p
 ·exact .inr (h2 x y a b st H m Q S rx ry p)
def nZ:List Wv->Option (List Bool)
 |[]=>some []
 |.bl b::r=>(match nZ r with |some l=>some (b::l) |none=>none)
 |_=>none
def rO:List Wv->Hs->Re Wv
 |[.ref l],st=>match ao st l with
  |some ws=>(match nZ ws with |some bs=> .ok (.bl (bs.all id)) st |none=> .bad)
  |none=> .bad
 |_,_=> .bad
theorem uR{K:PySem.W.Frag}{m:Mp}{H:Hp}:∀{ws:List Wv}{xs:List V}{bs:List Bool},ai K m H ws xs->nZ ws=some bs->xs=bs.map V.bl
 |[],xs,bs,r,h=>by unfold ai at r;cases h;exact r
 |w::ws,xs,bs,r,h=>by
  unfold ai at r;obtain⟨x,t,rfl,r1,r2⟩:=r;cases w with
  |bl b=>
   unfold nZ at h;cases e:nZ ws with
   |none=>rw[e]at h;cases h
   |some l=>rw[e]at h;cases h;unfold ag at r1;rw[r1,uR r2 e];rfl
  |_=>cases h
theorem Cf:∀{bs:List Bool}{its:List afX},Vals (bs.map V.bl) its->its=bs.map qf
 |[],its,r=>by cases r;rfl
 |b::bs,its,r=>by
  cases r with
  |cons h t=>cases h;rw[aH,Cf t]
theorem all_range:∀(bs:List Bool),(aU bs.length).all (λi=>bs.getD i true)=bs.all id
 |[]=>rfl
 |b::bs=>by rw[fB,Cg,de,List.all_map,de,<-all_range bs];rfl
theorem D5(hc:X.calm=true):fu X (.builtin "all") (λxs H Q=>∃(p:afR)(bs:List Bool),xs=[.ref p]/\l5 X.K H p (bs.map V.bl)/\Q (.bl (bs.all id)) H):=by
 intro pins s σ H xs us Q I r h;obtain⟨p,bs,rfl,hq,q⟩:=h;obtain⟨u,rfl,rx⟩:=vals1 r;cases rx;obtain⟨its,r',pl,hz⟩:=I.list hq;have hb:=Cf r';subst hb;have hl:=pl.isList;have hlt:p < s.heap.objs.size:=by obtain⟨_,e,_⟩:=hl;exact az e
 refine call_all_walk (wpAny_pyIter_list hl ?_);refine⟨_,_,_,_,_,_,λi=>bs.getD i true,rfl,Walks.list (A:=X.A.in1) (I.ok.hd hc) _ p (aN hlt) (bs.map qf).toArray,⟨⟨_,bE _ rfl,rfl,rfl⟩,hl.push _⟩,?_,λh' tk hk=>?_⟩
 ·intro i v s' Q' E' hP hQ;have TV:(bs.map qf).toArray[i]? =some v:=hP;rw[LO,cM]at TV;cases e:bs[i]? with
  |none=>rw[e]at TV;cases TV
  |some b=>
   rw[e]at TV;cases TV;have:(bs.getD i true)=b:=by rw[qv,e];rfl
   dsimp only at hQ;rw[this]at hQ;exact agi hQ
 ·have hk':∀b o,s.heap.get? b=some o->h'.get? b=some o:=old_kept hk;refine⟨.bl _,H,I.kept (t':=tk) hk',?_,q⟩;rw[<-all_range bs];simp only[aZ,bf];rfl
theorem QQ(hc:X.calm=true):ef X (.builtin "all") rO:=⟨_,D5 hc,λws vs st H m Q S rs p=>by
 match ws,rs,p with
 |[],rs,p=>exact ae p
 |x::y::t,rs,p=>cases x<;>exact ae p
 |[x],rs,p=>
  obtain⟨v,rfl,r1⟩:=rp rs;cases x with
  |ref l=>
   unfold rO at p;unfold ag at r1;obtain⟨a,rfl,hl⟩:=r1;cases e:ao st l with
   |none=>simp only[e]at p;exact ae p
   |some ws=>
    simp only[e]at p;cases e2:nZ ws with
    |none=>simp only[e2]at p;exact ae p
    |some bs=>simp only[e2]at p;obtain⟨xs,q1,q2⟩:=S.read hl e;have q3:=uR q2 e2;subst q3;exact⟨a,bs,rfl,q1,p _ m H Ext.refl S kY⟩
  |_=>exact ae p⟩
def pN:List Wv->Hs->Re Wv
 |[.ref l],st=>match ao st l with
  |some ws=> .ok (.tup ws) st
  |none=> .bad
 |[.tup ws],st=> .ok (.tup ws) st
 |_,_=> .bad
theorem QR:ef X (.type "tuple") pN:=⟨_,tY,λws vs st H m Q S rs p=>by
 match ws,rs,p with
 |[],rs,p=>exact ae p
 |x::y::t,rs,p=>cases x<;>exact ae p
 |[x],rs,p=>
  obtain⟨v,rfl,r1⟩:=rp rs;cases x with
  |ref l=>
   unfold pN at p;unfold ag at r1;obtain⟨a,rfl,hl⟩:=r1;cases e:ao st l with
   |none=>simp only[e]at p;exact ae p
   |some ws=>simp only[e]at p;obtain⟨xs,q1,q2⟩:=S.read hl e;refine⟨a,xs,rfl,.inl ⟨q1,λq hq=>?_⟩⟩;have e2:Ext X.K m H m (upd H q (.tup xs)):=Ext.upd (.inl hq);exact p (.ref q) m _ e2 (S.fresh hq) (by unfold ag;exact⟨q,xs,rfl,bq,ai.mono e2 _ _ q2⟩)
  |tup ws=>have r1':=r1;unfold ag at r1';obtain⟨a,xs,rfl,q1,q2⟩:=r1';exact⟨a,xs,rfl,.inr ⟨eO.of q1,p _ m H Ext.refl S r1⟩⟩
  |_=>exact ae p⟩
end
variable{i:Nat}
section
variable {X:Cx}
def intsOf:List Wv->Option (List Int)
  |[]=>some []
  |.int b::r=>(match intsOf r with |some l=>some (b::l) |none=>none)
  |_=>none
theorem rP:∀ns:List Int,intsOf (ns.map Wv.int)=some ns
  |[]=>rfl
  |n::r=>by rw[aH];unfold intsOf;rw[rP r]
theorem m8{K:PySem.W.Frag}{m:Mp}{H:Hp}:∀{ws:List Wv}{xs:List V}{bs:List Int},ai K m H ws xs->intsOf ws=some bs->xs=bs.map V.int
  |[],xs,bs,r,h=>by unfold ai at r;cases h;exact r
  |w::ws,xs,bs,r,h=>by
    unfold ai at r;obtain⟨x,t,rfl,r1,r2⟩:=r;cases w with
    |int b=>
      unfold intsOf at h;cases e:intsOf ws with
      |none=>rw[e]at h;cases h
      |some l=>rw[e]at h;cases h;unfold ag at r1;rw[r1,m8 r2 e];rfl
    |_=>cases h
theorem rQ:∀{ns:List Int}{its:List afX},Vals (ns.map V.int) its->∃xs:List (Int×Tok),its=xs.map (λp=>jW p.1 p.2)/\xs.map (·.1)=ns
  |[],its,r=>by cases r;exact⟨[],rfl,rfl⟩
  |n::ns,its,r=>by
    cases r with
    |cons h t=>obtain⟨tk,rfl⟩:=h;obtain⟨xs,e1,e2⟩:=rQ t;exact⟨(n,tk)::xs,by rw[e1];rfl,by rw[<-e2];rfl⟩
theorem uS(xs:List (Int×Tok))(i:Nat):numAt xs.toArray i=(xs.map (·.1)).getD i 0:=by unfold numAt;rw[LO,qv,cM]
theorem rR(xs:List (Int×Tok)):∀k,preSum (numAt xs.toArray) k=((xs.map (·.1)).take k).sum
  | 0=>by simp[preSum]
  |k+1=>by unfold preSum;rw[rR xs k,uS];rw[PySem.sum_take_succ]
theorem D6(hc:X.calm=true):fu X (.builtin "sum") (λxs H Q=>∃(p:afR)(ns:List Int),xs=[.ref p]/\l5 X.K H p (ns.map V.int)/\Q (.int ns.sum) H):=by
  intro pins s σ H xs us Q I r h;obtain⟨p,ns,rfl,hq,q⟩:=h;obtain⟨u,rfl,rx⟩:=vals1 r;cases rx;obtain⟨its,r',pl,hz⟩:=I.list hq;obtain⟨xs,rfl,rfl⟩:=rQ r';have hl:=pl.isList;have e:(xs.map λp=>jW p.1 p.2).toArray=intItems xs.toArray:=by unfold intItems;simp
  rw[e]at hl;refine sum_intListG (I.ok.hd hc) hl λh' tk t' hk=>⟨.int _,H,I.kept hk,⟨t',?_⟩,q⟩;rw[rR,Ci (by simp)]
def G6:List Wv->Hs->Re Wv
  |[.ref l],st=>match ao st l with
    |some ws=>(match intsOf ws with |some ns=> .ok (.int ns.sum) st |none=> .bad)
    |none=> .bad
  |_,_=> .bad
theorem QS(hc:X.calm=true):ef X (.builtin "sum") G6:=⟨_,D6 hc,λws vs st H m Q S rs p=>by
  match ws,rs,p with
  |[],rs,p=>exact ae p
  |x::y::t,rs,p=>cases x<;>exact ae p
  |[x],rs,p=>
    obtain⟨v,rfl,r1⟩:=rp rs;cases x with
    |ref l=>
      unfold G6 at p;unfold ag at r1;obtain⟨a,rfl,hl⟩:=r1;cases e:ao st l with
      |none=>simp only[e]at p;exact ae p
      |some ws=>
        simp only[e]at p;cases e2:intsOf ws with
        |none=>simp only[e2]at p;exact ae p
        |some bs=>simp only[e2]at p;obtain⟨xs,q1,q2⟩:=S.read hl e;have q3:=m8 q2 e2;subst q3;exact⟨a,bs,rfl,q1,p _ m H Ext.refl S mkInt⟩
    |_=>exact ae p⟩
def G7(n:Int)(r:List Int):Int:=r.foldl (λa b=>if b > a then b else a) n
theorem G8:∀(r:List Int)(n:Int),G7 n r∈n::r/\∀a∈n::r,a<=G7 n r
  |[],n=>by simp[G7]
  |b::r,n=>by
    have e:G7 n (b::r)=G7 (if b > n then b else n) r:=rfl;obtain⟨h1,h2⟩:=G8 r (if b > n then b else n);rw[e];constructor
    · rcases List.mem_cons.mp h1 with z |z
      · rw[z];split<;>simp
      · simp[z]
    · intro a ha;have hn:n<=G7 (if b > n then b else n) r/\b<=G7 (if b > n then b else n) r:=by have q:=h2 _ ax;revert q;split<;>intro q<;>constructor<;>omega
      rcases List.mem_cons.mp ha with z |z
      · rw[z];exact hn.1
      · rcases List.mem_cons.mp z with z |z
        · rw[z];exact hn.2
        · exact h2 a (av _ z)
theorem Vs{n M:Int}{r:List Int}(h:M∈n::r)(k:∀a∈n::r,a<=M):M=G7 n r:=by obtain⟨h1,h2⟩:=G8 r n;have:=h2 M h;have:=k _ h1;omega
theorem D7{l:List Int}(h:i < l.length):l.getD i 0∈l:=by rw[qv,bh h];exact Cj h
theorem D8(hc:X.calm=true):fu X (.builtin "max") (λxs H Q=>∃(p:afR)(n:Int)(ns:List Int),xs=[.ref p]/\l5 X.K H p ((n::ns).map V.int)/\Q (.int (G7 n ns)) H):=by
  intro pins s σ H xs us Q I r h;obtain⟨p,n,ns,rfl,hq,q⟩:=h;obtain⟨u,rfl,rx⟩:=vals1 r;cases rx;obtain⟨its,r',pl,hz⟩:=I.list hq;obtain⟨xs,rfl,e0⟩:=rQ r';have hl:=pl.isList;have e:(xs.map λp=>jW p.1 p.2).toArray=intItems xs.toArray:=by unfold intItems;simp
  rw[e]at hl;have hsz:xs.length=(n::ns).length:=by rw[<-e0];simp
  have hs0:0 < xs.toArray.size:=by simp[hsz]
  refine max_intList (I.ok.hd hc) hl hs0 λv h' tk hv hk=>?_;obtain⟨t,rfl⟩:=intItems_at hv;obtain⟨h1,h2⟩:=PySem.argBest_gt (numAt xs.toArray) (xs.toArray.size - 1);refine⟨.int _,H,I.kept hk,⟨t,?_⟩,q⟩
  congr 1
  have hn:=λi=>uS xs i;rw[e0]at hn;refine Vs ?_ λa ha=>?_
  · rw[hn];refine D7 ?_;have:xs.toArray.size=(n::ns).length:=by simp[hsz]
    omega
  · obtain⟨j,hj,rfl⟩:=List.mem_iff_getElem.mp ha
    have q2 := h2 j (by have : xs.toArray.size = (n :: ns).length := by simp [hsz]
                        omega)
    rw[hn j,qv,bh hj]at q2;exact q2
def uT:List Wv->Hs->Re Wv
  |[.ref l],st=>match ao st l with
    |some ws=>(match intsOf ws with |some (n::r)=> .ok (.int (G7 n r)) st |_=> .bad)
    |none=> .bad
  |ws,st=>QB ws st
def ya:List Wv->Hs->Re Wv:=λws st=>QD ws st
theorem ef.or{f:afX}{op':List Wv->Hs->Re Wv}(g:List Wv->Hs->Re Wv)(h:ef X f op)(h':ef X f op')(k:∀ws st,g ws st=op ws st\/g ws st=op' ws st):ef X f g:=by
  obtain⟨r,h1,h2⟩:=h;obtain⟨r',J6,h2'⟩:=h';refine⟨_,h1.or J6,λws vs st H m Q S rs p=>?_⟩;rcases k ws st with e |e
  · rw[e]at p;exact .inl (h2 ws vs st H m Q S rs p)
  · rw[e]at p;exact .inr (h2' ws vs st H m Q S rs p)
def G9:List Wv->Hs->Re Wv
  |[.ref l],st=>match ao st l with
    |some ws=>(match intsOf ws with |some (n::r)=> .ok (.int (G7 n r)) st |_=> .bad)
    |none=> .bad
  |_,_=> .bad
theorem LP(hc:X.calm=true):ef X (.builtin "max") G9:=⟨_,D8 hc,λws vs st H m Q S rs p=>by
  match ws,rs,p with
  |[],rs,p=>exact ae p
  |x::y::t,rs,p=>cases x<;>exact ae p
  |[x],rs,p=>
    obtain⟨v,rfl,r1⟩:=rp rs;cases x with
    |ref l=>
      unfold G9 at p;unfold ag at r1;obtain⟨a,rfl,hl⟩:=r1;cases e:ao st l with
      |none=>simp only[e]at p;exact ae p
      |some ws=>
        simp only[e]at p;cases e2:intsOf ws with
        |none=>simp only[e2]at p;exact ae p
        |some bs=>
          cases bs with
          |nil=>simp only[e2]at p;exact ae p
          |cons n bs=>simp only[e2]at p;obtain⟨xs,q1,q2⟩:=S.read hl e;have q3:=m8 q2 e2;subst q3;exact⟨a,n,bs,rfl,q1,p _ m H Ext.refl S mkInt⟩
    |_=>exact ae p⟩
theorem LQ(hc:X.calm=true):ef X (.builtin "max") uT:=ef.or uT (LP hc) (QC hc) λws st=>by
  unfold uT G9;split
  · exact .inl rfl
  · exact .inr rfl
theorem LR(hc:X.calm=true):ef X (.builtin "min") ya:=QE hc
end
section
variable {X:Cx}
theorem uU:bB z=true↔∀c∈z.cps.toList,c < 1114112:=by
 unfold bB;rw[U8];constructor
 ·intro h c hc;simpa using h c (Array.mem_toList_iff.mp hc)
 ·intro h c hc;simpa using h c (Array.mem_toList_iff.mpr hc)
end
variable{c:Nat}
section
variable {X:Cx}
theorem QT:J5 X (λx lo hi H Q=>∃z,x= .str z/\z.length<=af8/\Q (.str (mv z lo hi)) H):=by
 intro pins s σ H x v vl vu lo hi sl Q I rx hs pl pu h;obtain⟨z,rfl,hz,q⟩:=h;obtain⟨t,rfl⟩:=rx;have fin:∀t' k,EP X pins σ Q (.str (mv z lo hi) t') { s with toks:=k }:=λt' k=>⟨.str _,H,I.tok k,⟨t',rfl⟩,q⟩;refine⟨"str",_,PySem.F.slot_str_getitem.lookup,typeIs_str _ _ _,?_⟩;have hl:=bZ (Txt.slice_le z lo hi) hz;cases pl with
 |none=>
  cases pu with
  |none=>exact wpAny_getItem_str_slice (l:=none) (u:=none) (st:=none) hs rfl (post_val_or_str ⟨hl,fin⟩)
  |int j tj=>exact wpAny_getItem_str_slice (l:=none) (u:=some (j,tj)) (st:=none) hs rfl (post_val_or_str ⟨hl,fin⟩)
 |int i ti=>
  cases pu with
  |none=>exact wpAny_getItem_str_slice (l:=some (i,ti)) (u:=none) (st:=none) hs rfl (post_val_or_str ⟨hl,fin⟩)
  |int j tj=>exact wpAny_getItem_str_slice (l:=some (i,ti)) (u:=some (j,tj)) (st:=none) hs rfl (post_val_or_str ⟨hl,fin⟩)
theorem D9{lo:Option Int}(h:c∈(mv z lo hi).cps.toList):c∈z.cps.toList:=by
 unfold mv at h;split at h
 ·exact h
 ·simp only[Ck]at h;obtain⟨i,_,e⟩:=h;rw[Array.getElem?_eq_some_iff]at e;obtain⟨hi,rfl⟩:=e;exact Array.mem_toList_iff.mpr (Array.getElem_mem hi)
theorem yb{lo:Option Int}(h:bB z=true):bB (mv z lo hi)=true:=by rw[uU]at h ⊢;exact λc hc=>h c (D9 hc)
end
variable{prog:afV}
section
open HT
theorem t8{w:afY}{t sl:afR}{us:Array afX}{vl vu:afX}{lo:Option Int}(ht:IsTup s.heap t us)(hs:s.heap.IsSliceOf sl vl vu .none)(pl:IsPart vl lo)(pu:IsPart vu hi)
  (hw:d_ us.size 0 lo=0/\d_ us.size us.size hi=us.size)(h:Q (.ref t) s):aga (model prog w) A (getItem (.ref t) (.ref sl)) Q E s:=by
 obtain⟨os,o1,o2,o3⟩:=id hs;have tys:s.TypeIs (.ref sl) "slice":=⟨os,o1,o2⟩;unfold getItem;try with_reducible refine agd ?_
 first |refine agb (agh ?_) |skip
 refine agb (wpAny_sequenceKey ht.typeIs (by decide) ?_);refine agb (wpAny_callSpecial?_slot (name:=gY "__getitem__") ht.typeIs vA (wpAny_call_entry vA ht.typeIs entry_tuple_getitem ?_ (args_tuple_getitem _ _)));show aga _ _ (zW (.ref t) >>= _) _ _ _;refine agb (tupleItemsOf_ ht ?_);refine agb (wpAny_typeOf tys ?_);rw[if_pos (by decide)];refine agb (jJ hs pl pu ?_);rw[hw.1,hw.2];have yes:((((0:Nat):Int)) == 0&&(1:Int) == 1&&(us.size - 0) == us.size)=true:=by simp
 show aga _ _ (if((((0:Nat):Int)) == 0&&(1:Int) == 1&&(us.size - 0) == us.size)=true then _ else _) _ _ s;rw[if_pos yes];refine agb (m:=QU _) ?_;unfold QU;refine agb (wpAny_typeOf ht.typeIs (agh ?_));rw[if_pos (by decide)];exact agb (wpAny_rule (agh ⟨_,rfl,agh h⟩))
end
section
variable {X:Cx}
def YJ(K:PySem.W.Frag):V->Option Int->Option Int->Hp->VK->Prop:=λx lo hi H Q=>∃a xs,x= .ref a/\eO K H a xs/\(HT.d_ xs.length 0 lo=0/\HT.d_ xs.length xs.length hi=xs.length)/\Q (.ref a) H
theorem G_:J5 X (YJ X.K):=by
 intro pins s σ H x v vl vu lo hi sl Q I rx hs pl pu h;obtain⟨a,xs,rfl,hx,hw,q⟩:=h;cases rx;obtain⟨its,r,ht,hz⟩:=I.tuple hx;have n:its.toArray.size=xs.length:=by rw[aZ];exact r.length.symm
 exact⟨"tuple",_,PyProof.Rows.slot_tuple_getitem.lookup,ht.typeIs,t8 ht hs pl pu (by rw[n];exact hw) ⟨.ref a,H,I,rfl,q⟩⟩
def lx(n:Nat)(lo hi:Option Int):Prop:=HT.d_ n 0 lo=0/\HT.d_ n n hi=n
instance {n:Nat}{lo hi:Option Int}:Decidable (lx n lo hi):=inferInstanceAs (Decidable (HT.d_ n 0 lo=0/\HT.d_ n n hi=n))
def yc(x:Wv)(lo hi:Option Int)(st:Hs):Re Wv:=match x with
 |.str z=>if z.length<=lim then .ok (.str (mv z lo hi)) st else .bad
 |.tup ws=>if lx ws.length lo hi then .ok (.tup ws) st else TQ (.tup ws) lo hi st
 |x=>TQ x lo hi st
def hG(ga:GE)(gl gh:GO):GE:=λρ st=>(ga ρ st).bind λx st1=>(gl ρ st1).bind λlo st2=>(gh ρ st2).bind λhi st3=>yc x lo hi st3
theorem D_{a:Expr}{lo hi:Option Expr}{ga:GE}{gl gh:GO}{p2:Pos}(ha:JE X a ga)(hl:JO X lo gl)(hh:JO X hi gh):JE X (.Subscript a (.Slice lo hi none p2) pos) (hG ga gl gh):=by
 have hS:JE X (.Subscript a (.Slice lo hi none p2) pos) (λρ st=>(ga ρ st).bind λx st1=>(gl ρ st1).bind λlo st2=>(gh ρ st2).bind λhi st3=>match x with |.str z=>if z.length<=lim then .ok (.str (mv z lo hi)) st3 else .bad |_=> .bad):=by
  refine JE.of (qU QT br uI uI) λρ st σ H m Q S R p=>?_;refine ha.go S R (aE.bind p) λx st1 v m1 H1 p1 e1 S1 rx=>?_;refine hl.go S1 (R.mono e1) ((aE.bind p1).imp e1 λ_ _ q=>q) λl st2 m2 H2 p2 e2 S2=>?_;refine hh.go S2 (R.mono (e1.trans e2)) ((aE.bind p2).imp (e1.trans e2) λ_ _ q=>q) λh st3 m3 H3 p3 e3 S3=>?_;have DU:=e1.trans (e2.trans e3);cases x with
  |str z=>
   dsimp only at p3;by_cases c:z.length<=lim
   ·rw[if_pos c]at p3;unfold ag at rx;obtain⟨rfl,hz⟩:=rx;exact⟨z,rfl,eD c,p3 _ m3 H3 DU S3 (mkStr (yb hz))⟩
   ·rw[if_neg c]at p3;exact ae p3
  |_=>exact ae p3
 have hW:JE X (.Subscript a (.Slice lo hi none p2) pos) (λρ st=>(ga ρ st).bind λx st1=>(gl ρ st1).bind λlo st2=>(gh ρ st2).bind λhi st3=>match x with |.tup ws=>if lx ws.length lo hi then .ok (.tup ws) st3 else TQ (.tup ws) lo hi st3 |_=> .bad):=by
  refine JE.of (qU (J5.or G_ FE) br uI uI) λρ st σ H m Q S R p=>?_;refine ha.go S R (aE.bind p) λx st1 v m1 H1 p1 e1 S1 rx=>?_;refine hl.go S1 (R.mono e1) ((aE.bind p1).imp e1 λ_ _ q=>q) λl st2 m2 H2 p2 e2 S2=>?_;refine hh.go S2 (R.mono (e1.trans e2)) ((aE.bind p2).imp (e1.trans e2) λ_ _ q=>q) λh st3 m3 H3 p3 e3 S3=>?_;have DU:=e1.trans (e2.trans e3);cases x with
  |tup ws=>
   dsimp only at p3;have zS:=ag.mono (e2.trans e3) _ _ rx;unfold ag at zS;obtain⟨a',xs,rfl,f1,f2⟩:=zS;by_cases c:lx ws.length l h
   ·rw[if_pos c]at p3;unfold lx at c;rw[f2.length]at c;exact .inl ⟨a',xs,rfl,eO.of f1,c,p3 _ m3 H3 DU S3 (by unfold ag;exact⟨a',xs,rfl,f1,f2⟩)⟩
   ·rw[if_neg c]at p3;unfold TQ at p3;dsimp only at p3;unfold lx at c;rw[if_neg c]at p3;rw[f2.length]at c;refine .inr ⟨a',xs,rfl,eO.of f1,c,λq hq=>?_⟩;have eU:Ext X.K m3 H3 m3 (L2.upd H3 q (.tup (tW xs l h))):=Ext.mJ (.inl hq);exact p3 (.ref q) m3 _ (DU.trans eU) (S3.fresh hq) (by unfold ag;exact⟨q,_,rfl,L2.bq,ai.mono eU _ _ (vR f2)⟩)
  |_=>exact ae p3
 intro ρ st σ H m Q S R p;unfold hG at p;cases e1:ga ρ st with
 |bad=>rw[e1]at p;exact ae p
 |err c st1=>rw[e1]at p;exact xN ha hl hh ρ st σ H m Q S R (by unfold Ay;rw[e1];exact p)
 |ok x st1=>
  rw[e1]at p;cases x with
  |str z=>exact hS ρ st σ H m Q S R (by dsimp only;rw[e1];exact p)
  |tup ws=>exact hW ρ st σ H m Q S R (by dsimp only;rw[e1];exact p)
  |_=>exact xN ha hl hh ρ st σ H m Q S R (by unfold Ay;rw[e1];exact p)
def Ha:fX
 |.str i,.str j,st=> .ok (.bl (!(Pk j i 0 j.length 1).isEmpty)) st
 |x,y,st=>Yp x y st
theorem QV:jU X (af4 .In) Ha:=by
 obtain⟨r,h1,h2⟩:=U7 (X:=X);refine⟨_,fV.or DH h1,λx y a b st H m Q S rx ry p=>?_⟩;unfold Ha at p;split at p
 ·rename_i i j;unfold ag at rx ry;obtain⟨rfl,_⟩:=rx;obtain⟨rfl,_⟩:=ry;exact .inl ⟨i,j,rfl,rfl,p _ m H Ext.refl S kY⟩
 ·exact .inr (h2 x y a b st H m Q S rx ry p)
end
open PySem PySem.Spec PyProof.Rows L2 PySem.W
def Vt(x:Str):It:=⟨λi _=>i < x.cps.size,λi H v H'=>H'=H/\∃c,x.cps[i]? =some c/\v= .str ⟨#[c]⟩,λi _=>x.cps.size<=i⟩
theorem AM{w:afY}(x:Str)(t:Tok)(it:afR):Turn P w K tg (Vt x) [it] it (λi h=>h.IsStrIter it "str_ascii_iterator" x t i) where
 mem:=List.mem_singleton.mpr rfl
 obj:=λi h st b hb=>by cases List.mem_singleton.mp hb;obtain⟨o,e,c,d⟩:=st;exact⟨o,e,λv z=>by rw[d]at z;cases z⟩
 keep:=λi h h' st k=>let ⟨o,e,r⟩:=st;⟨o,k it (List.mem_singleton.mpr rfl) o e,r⟩
 item:=by intro X hP hw hK hc i pins s σ H E I hf st hg;subst hP;subst hw;subst hK;obtain⟨f0,f1,f2,f3,f4,f5⟩:=hf it (List.mem_singleton.mpr rfl);have hi:i < x.cps.size:=hg;refine wpAny_pyNext_ascii_item st (c:=x.cps[i]) (by simp[hi]) λh' st' sb=>?_;have I1:L2.Inv X pins σ H { s with heap:=h',toks:=s.toks+1 }:=I.turned (t':=s.toks+1) (λb o hb e=>sb.extBut b o hb e) f0 f1 f3 f4 f5;obtain⟨o,e,c,d⟩:=id st';exact⟨_,rfl,ux (s:={ s with heap:=h',toks:=s.toks+1 }) e c d (by decide) ⟨.str ⟨#[x.cps[i]]⟩,H,I1,⟨_,rfl⟩,⟨rfl,_,by simp[hi],rfl⟩,st',λb hb=>(hf b hb).1⟩⟩
 done:=by intro X hP hw hK hc i pins s σ H E I hf st hg;subst hP;subst hw;subst hK;obtain⟨f0,f1,f2,f3,f4,f5⟩:=hf it (List.mem_singleton.mpr rfl);have hi:x.cps.size<=i:=hg;exact wpAny_pyNext_ascii_end (I.ok.hd hc) st (by simp[hi]) λh' eb=>⟨rfl,I.turned (t':=s.toks) (λb o hb e=>eb b o hb e) f0 f1 f3 f4 f5⟩
 self:=λ_ _ _ _ _ st h=>wpAny_pyIter_striter_ascii st h
theorem Ea{w:afY}(x:Str)(t:Tok)(it:afR):Turn P w K tg (Vt x) [it] it (λi h=>h.IsStrIter it "str_iterator" x t i) where
 mem:=List.mem_singleton.mpr rfl
 obj:=λi h st b hb=>by cases List.mem_singleton.mp hb;obtain⟨o,e,c,d⟩:=st;exact⟨o,e,λv z=>by rw[d]at z;cases z⟩
 keep:=λi h h' st k=>let ⟨o,e,r⟩:=st;⟨o,k it (List.mem_singleton.mpr rfl) o e,r⟩
 item:=by intro X hP hw hK hc i pins s σ H E I hf st hg;subst hP;subst hw;subst hK;obtain⟨f0,f1,f2,f3,f4,f5⟩:=hf it (List.mem_singleton.mpr rfl);have hi:i < x.cps.size:=hg;refine wpAny_pyNext_wide_item st (c:=x.cps[i]) (by simp[hi]) λh' st' sb=>?_;have I1:L2.Inv X pins σ H { s with heap:=h',toks:=s.toks+1 }:=I.turned (t':=s.toks+1) (λb o hb e=>sb.extBut b o hb e) f0 f1 f3 f4 f5;obtain⟨o,e,c,d⟩:=id st';exact⟨_,rfl,ux (s:={ s with heap:=h',toks:=s.toks+1 }) e c d (by decide) ⟨.str ⟨#[x.cps[i]]⟩,H,I1,⟨_,rfl⟩,⟨rfl,_,by simp[hi],rfl⟩,st',λb hb=>(hf b hb).1⟩⟩
 done:=by intro X hP hw hK hc i pins s σ H E I hf st hg;subst hP;subst hw;subst hK;obtain⟨f0,f1,f2,f3,f4,f5⟩:=hf it (List.mem_singleton.mpr rfl);have hi:x.cps.size<=i:=hg;exact wpAny_pyNext_wide_end (I.ok.hd hc) st (by simp[hi]) λh' eb=>⟨rfl,I.turned (t':=s.toks) (λb o hb e=>eb b o hb e) f0 f1 f3 f4 f5⟩
 self:=λ_ _ _ _ _ st h=>wpAny_pyIter_striter_wide st h
section
variable {X:Cx}
theorem QW(hl:PE X l tl):PI X tg l (λσ H R=>tl σ H λv H1=>∃z,v= .str z/\R (Vt z) H1):=by
 intro pins s σ H R I h;refine bR (hl pins s σ H _ I h) λv s1 ⟨x,H1,I1,r1,z,e,q⟩=>?_;subst e;obtain⟨t,rfl⟩:=r1;have frs:∀b∈[s1.heap.objs.size],ff X pins H1 b:=λb hb=>by cases List.mem_singleton.mp hb;exact I1.zZ (ar _) (I1.hok.fresh (ar _))
 cases ha:z.cps.all (· < 128)
 ·exact wpAny_pyIter_wide ha ⟨s1.heap.objs.size,[s1.heap.objs.size],_,_,H1,rfl,I1.kept (t':=s1.toks) λb o e=>aT _ e,Ea z t _,⟨_,bE _ rfl,rfl,rfl⟩,frs,q⟩
 ·exact wpAny_pyIter_ascii ha ⟨s1.heap.objs.size,[s1.heap.objs.size],_,_,H1,rfl,I1.kept (t':=s1.toks) λb o e=>aT _ e,AM z t _,⟨_,bE _ rfl,rfl,rfl⟩,frs,q⟩
def jo(z:PySem.Str):List Wv:=z.cps.toList.map λc=>Wv.str ⟨#[c]⟩
def yd(w:Wv)(st:Hs):Re Wk:=match w with
 |.str z=> .ok (none,jo z) st
 |w=>QN w st
def iE(g:GE):GI:=λρ st=>(g ρ st).bind yd
theorem QX(hz:bB z=true):xZ X (none,jo z) m1 H1 (Vt z) where
 go:=λk H m' st _ _ _ hk=>by
  have:k < z.cps.size:=by simpa [jo]using hk
  exact this
 stop:=λk H m' st _ _ _ hk=>by
  have:k=z.cps.size:=by simpa [jo]using hk
  exact nL this.symm
 xv:=λk hk H v H' m' st _ _ _ y=>by
  obtain⟨rfl,c,hc,rfl⟩:=y;refine⟨rfl,?_⟩;have hk':k < z.cps.size:=by simpa [jo]using hk
  have e:∀h:k < (jo z).length,(jo z)[k]'h= .str ⟨#[z.cps[k]]⟩:=by intro h;simp[jo]
  have hc':z.cps[k]=c:=by simpa [hk']using hc
  show ag X.K m' H' ((jo z)[k]'hk) _;rw[e hk,hc'];refine mkStr ?_;rw[uU]at hz ⊢;intro d hd;simp at hd;rw[hd,<-hc'];exact hz _ (by simp)
theorem vX(h:JE X iter g):JI X tg iter (iE g):=by
 obtain⟨w1,h1,k1⟩:=QO (tg:=tg) h;refine⟨λσ H R=>w1 σ H R\/(SE X iter σ H λv H1=>∃z,v= .str z/\R (Vt z) H1),λpins s σ H R I q=>?_,λρ st σ H m R S RR p=>?_⟩
 ·rcases q with q |q
  ·exact h1 pins s σ H R I q
  ·exact QW br pins s σ H R I q
 ·unfold iE at p;cases e:g ρ st with
  |bad=>rw[e]at p;exact ae p
  |err c st'=>rw[e]at p;exact .inl (k1 ρ st σ H m R S RR (by unfold GY;rw[e];exact p))
  |ok w st'=>
   rw[e]at p;cases w with
   |str z=>refine .inr ?_;refine h.go (ok:=λw st1=>w= .str z/\st1=st') S RR (by rw[e];exact⟨rfl,rfl⟩) λw st1 v m1 H1 q e1 S1 r1=>?_;obtain⟨rfl,rfl⟩:=q;unfold ag at r1;obtain⟨rfl,hz⟩:=r1;exact⟨z,rfl,p m1 H1 _ e1 S1 trivial (QX hz)⟩
   |_=>exact .inl (k1 ρ st σ H m R S RR (by unfold GY;rw[e];exact p))
end
def keyOf:Wv->Option L2.Key
 |.int i=>some (.inl i)
 |.str x=>some (.inr x)
 |.bK=>some .bK
 |_=>none
theorem uV{w:Wv}{v:V}{k:L2.Key}(r:ag K m H w v)(e:keyOf w=some k):v=kV k:=by
 cases w with
 |int i=>cases e;unfold ag at r;rw[r];rfl
 |str x=>cases e;unfold ag at r;rw[r.1];rfl
 |bK=>cases e;unfold ag at r;rw[r];rfl
 |_=>cases e
def lz{κ:Type}[DecidableEq κ](kvs:List (κ×Wv))(k:κ):Option Wv:=match kvs with
 |[]=>none
 |p::r=>if p.1=k then some p.2 else lz r k
def vY{κ:Type}[DecidableEq κ](kvs:List (κ×Wv))(k:κ)(v:Wv):List (κ×Wv):=if(kvs.any λkv=>decide (kv.1=k))=true then kvs.map (λkv=>if kv.1=k then(kv.1,v)else kv)else kvs++[(k,v)]
section
variable {K:PySem.W.Frag}{m:Mp}{H:Hp}{κ:Type}
theorem RelK.nil:RelK (κ:=κ) K m H [] []:=⟨rfl,ai.nil⟩
theorem RelK.cons{k:κ}{w:Wv}{v:V}{kvs:List (κ×Wv)}{xs:List (κ×V)}(h:ag K m H w v)(t:RelK K m H kvs xs):RelK K m H ((k,w)::kvs) ((k,v)::xs) :=
 ⟨by simp[t.1],by simpa using ai.cons h t.2⟩
theorem RelK.nil_inv{xs:List (κ×V)}(h:RelK K m H [] xs):xs=[]:=by
 have:=h.1;cases xs with
 |nil=>rfl
 |cons a b=>simp at this
theorem RelK.cons_inv{p:κ×Wv}{kvs:List (κ×Wv)}{xs:List (κ×V)}(h:RelK K m H (p::kvs) xs):∃v t,xs=(p.1,v)::t/\ag K m H p.2 v/\RelK K m H kvs t:=by
 obtain⟨h1,h2⟩:=h;cases xs with
 |nil=>simp at h1
 |cons q t=>simp at h1 h2;unfold ai at h2;obtain⟨x,r,e1,e2,e3⟩:=h2;cases e1;exact⟨q.2,t,by rw[h1.1],e2,h1.2,e3⟩
theorem RelK.length{kvs:List (κ×Wv)}{xs:List (κ×V)}(h:RelK K m H kvs xs):kvs.length=xs.length:=by have:=congrArg fv h.1;simpa using this
variable [DecidableEq κ]
theorem RelK.val:∀{kvs:List (κ×Wv)}{xs:List (κ×V)}(k:κ),RelK K m H kvs xs->(lz kvs k=none->vH xs k=none)/\∀w,lz kvs k=some w->∃v,vH xs k=some v/\ag K m H w v
 |[],xs,k,h=>by rw[h.nil_inv];exact⟨λ_=>rfl,(λw e=>by cases e)⟩
 |p::r,xs,k,h=>by
  obtain⟨v,t,rfl,h1,h2⟩:=h.cons_inv;obtain⟨i1,i2⟩:=RelK.val k h2;unfold lz;by_cases e:p.1=k
  ·rw[if_pos e,q_ (by exact e)];exact⟨(λz=>by cases z),λw z=>⟨v,rfl,by cases z;exact h1⟩⟩
  ·rw[if_neg e,rf (by exact e)];exact⟨i1,i2⟩
theorem RelK.any:∀{kvs:List (κ×Wv)}{xs:List (κ×V)}(k:κ),RelK K m H kvs xs->(kvs.any λkv=>decide (kv.1=k))=xs.any λkv=>decide (kv.1=k)
 |[],xs,k,h=>by rw[h.nil_inv];rfl
 |p::r,xs,k,h=>by obtain⟨v,t,rfl,h1,h2⟩:=h.cons_inv;rw[iz,iz,RelK.any k h2]
theorem RelK.repl:∀{kvs:List (κ×Wv)}{xs:List (κ×V)}(k:κ){w:Wv}{v:V},RelK K m H kvs xs->ag K m H w v->RelK K m H (kvs.map λkv=>if kv.1=k then(kv.1,w)else kv) (xs.map λkv=>if kv.1=k then(kv.1,v)else kv)
 |[],xs,k,w,v,h,r=>by rw[h.nil_inv];exact RelK.nil
 |p::kvs,xs,k,w,v,h,r=>by
  obtain⟨u,t,rfl,h1,h2⟩:=h.cons_inv;rw[aH,aH];by_cases e:p.1=k
  ·rw[if_pos e,if_pos (by exact e)];exact RelK.cons r (RelK.repl k h2 r)
  ·rw[if_neg e,if_neg (by exact e)];exact RelK.cons h1 (RelK.repl k h2 r)
theorem RelK.snoc:∀{kvs:List (κ×Wv)}{xs:List (κ×V)}(k:κ){w:Wv}{v:V},RelK K m H kvs xs->ag K m H w v->RelK K m H (kvs++[(k,w)]) (xs++[(k,v)])
 |[],xs,k,w,v,h,r=>by rw[h.nil_inv];exact RelK.cons r RelK.nil
 |p::kvs,xs,k,w,v,h,r=>by obtain⟨u,t,rfl,h1,h2⟩:=h.cons_inv;exact RelK.cons h1 (RelK.snoc k h2 r)
theorem RelK.put{kvs:List (κ×Wv)}{xs:List (κ×V)}(k:κ){w:Wv}{v:V}(h:RelK K m H kvs xs)(r:ag K m H w v):RelK K m H (vY kvs k w) (putK xs k v):=by
 unfold vY putK;rw[h.any k];split
 ·exact h.repl k r
 ·exact h.snoc k r
end
def uW:List Wv->List V->Prop
 |[],[]=>True
 |.int i::r,.int j::t=>i=j/\uW r t
 |.str x::r,.str y::t=>(x=y/\bB x=true)/\uW r t
 |_,_=>False
theorem uW.rel:∀{ws:List Wv}{vs:List V},uW ws vs->ai K m H ws vs
 |[],[],_=>ai.nil
 |.int i::r,.int j::t,h=>by obtain⟨rfl,h⟩:=h;exact ai.cons (by unfold ag;rfl) h.rel
 |.str x::r,.str y::t,h=>by obtain⟨⟨rfl,hx⟩,h⟩:=h;exact ai.cons (by unfold ag;exact⟨rfl,hx⟩) h.rel
 |[],_::_,h=>ae h
 |.int i::r,[],h=>ae h
 |.str i::r,[],h=>ae h
 |.int i::r,.str _::_,h=>ae h
 |.str i::r,.int _::_,h=>ae h
def pO(K:PySem.W.Frag):Wv->afX->Prop
 |.int i,u=>∃t,u= .int i t
 |.str x,u=>(∃t,u= .str x t)/\bB x=true
 |.iY ws,u=>∃(a:afR)(vs:List V),u= .ref a/\UQ K a vs/\uW ws vs
 |_,_=>False
def Vu:Wv->afX->V
 |.int i,_=> .int i
 |.str x,_=> .str x
 |_,.ref a=> .ref a
 |_,_=> .bK
theorem pO.v:∀{w:Wv}{u:afX},pO K w u->RelV (Vu w u) u
 |.int i,u,h=>by obtain⟨t,rfl⟩:=h;exact⟨t,rfl⟩
 |.str x,u,h=>by obtain⟨⟨t,rfl⟩,_⟩:=h;exact⟨t,rfl⟩
 |.iY ws,u,h=>by obtain⟨a,vs,rfl,_⟩:=h;rfl
theorem pO.w{K:PySem.W.Frag}{m:Mp}{H:Hp}:∀{w:Wv}{u:afX},pO K w u->ag K m H w (Vu w u)
 |.int i,u,h=>by unfold ag;rfl
 |.str x,u,h=>by unfold ag;exact⟨rfl,h.2⟩
 |.iY ws,u,h=>by obtain⟨a,vs,rfl,h1,h2⟩:=h;unfold ag;exact⟨a,vs,rfl,h1,h2.rel⟩
abbrev Dc:=List (PySem.Str×Wv)
def vZ(K:PySem.W.Frag)(w:afY):Dc->List DictEntry->Prop
 |[],[]=>True
 |(k,v)::r,e::t=>(e.hash=hashStr w k/\(∃tk,e.key= .str k tk)/\pO K v e.val)/\vZ K w r t
 |_,_=>False
def ye(K:PySem.W.Frag)(w:afY)(mg:Str->Option afX)(x:Str)(kvs:Dc):Prop :=
 ∃(a:afR)(es:Array DictEntry)(ep:Nat),mg x=some (.ref a)/\K.lookup a=some ⟨.type "dict",none,.dict es ep,#[]⟩/\(a == sysModules)=false/\vZ K w kvs es.toList/\(kvs.map (·.1)).Nodup
theorem yf{P:afV}{w:afY}{K:PySem.W.Frag}:∀{kvs:Dc}{l:List DictEntry},vZ K w kvs l->∃vs:List (PySem.Str×afX),vs.map (·.1)=kvs.map (·.1)/\Pairs (PySem.strKind P w) l vs/\(∀e∈l,∃k,(PySem.strKind P w).is k e.key=true/\e.hash=(PySem.strKind P w).hash k)/\
  ∀k,(kvs.lookup k=none->valueAt vs k=none)/\∀v,kvs.lookup k=some v->∃u,valueAt vs k=some u/\pO K v u
 |[],[],_=>⟨[],rfl,.nil,(λ_ z=>by cases z),λk=>⟨λ_=>rfl,(λv z=>by cases z)⟩⟩
 |(k,v)::r,e::t,h=>by
  obtain⟨⟨h1,⟨tk,h2⟩,h3⟩,h4⟩:=h;obtain⟨vs,i1,i2,i3,i4⟩:=yf (P:=P) h4;have his:(PySem.strKind P w).is k e.key=true:=by rw[h2];exact strKind_is P w k tk
  refine⟨(k,e.val)::vs,by simp[i1],.cons his rfl i2,λe' he=>?_,λk'=>?_⟩
  ·rcases List.mem_cons.mp he with z |z
   ·subst z;exact⟨k,his,h1⟩
   ·exact i3 e' z
  ·rw[fD];unfold valueAt;rw[vI];by_cases ek:k=k'
   ·subst ek;have b1:(k == k)=true:=by simp
    rw[b1];simp only[decide_true,nD];exact⟨(λz=>by cases z),λv' z=>⟨e.val,rfl,by cases z;exact h3⟩⟩
   ·have b1:(k' == k)=false:=beq_eq_false_iff_ne.mpr λz=>ek z.symm;rw[b1];simp only[ek,decide_false];exact i4 k'
 |[],_::_,h=>ae h
 |_::_,[],h=>ae h
variable{w:afY}{kvs:Dc}
theorem Cm{es:Array DictEntry}{ep:Nat}(KX:K.In h)(hl:K.lookup a=some ⟨.type "dict",none,.dict es ep,#[]⟩)(he:vZ K w kvs es.toList)(nd:(kvs.map (·.1)).Nodup):
  ∃vs:List (PySem.Str×afX),h.DictOf (PySem.strKind P w) a vs/\∀k,(kvs.lookup k=none->valueAt vs k=none)/\∀v,kvs.lookup k=some v->∃u,valueAt vs k=some u/\pO K v u:=by
 obtain⟨vs,i1,i2,i3,i4⟩:=yf (P:=P) he;exact⟨vs,⟨_,es,ep,KX a _ hl,⟨rfl,rfl,rfl⟩,rfl,λe hm=>i3 e (by simpa using hm),i2,by rw[i1];exact nd⟩,i4⟩
section
variable {X:Cx}
def NV(kvs:Dc)(ga:GE):GE:=λρ st=>(ga ρ st).bind λa st1=>match a with
 |.str k=>(match kvs.lookup k with |some w=> .ok w st1 |none=> .bad)
 |_=> .bad
def Vv(K:PySem.W.Frag)(kvs:Dc)(ty:TE):TE:=λσ H Q=>ty σ H λy H1=>∃z w,y= .str z/\kvs.lookup z=some w/\∀u,pO K w u->Q (Vu w u) H1
theorem LS{ty:TE}(hb:PE X b ty)(hs:PQ b)(hg:Gl X x)(hd:(x == ("__debug__":Str))=false)(D:ye X.K X.w X.mg x kvs):PE X (.Subscript (.Name x p) b pos) (Vv X.K kvs ty):=by intro pins s σ H Q I h;obtain⟨a,es,ep,g1,g2,g3,g4,g5⟩:=D;refine K_ PySem.F.slot_dict_getitem.lookup hs (bR (j5 (v:=.ref a) hg g1 rfl hd pins s σ H (λv H2=>v= .ref a/\H2=H) I ⟨rfl,rfl⟩) λu s1 ⟨v,H1,I1,rv,ev,eH⟩=>?_);subst ev eH;obtain rfl:u=aA a:=rv;refine bR (hb pins s1 σ H1 _ I1 h) λiv s2 ⟨y,H2,I2,ry,z,w,ey,ew,q⟩=>?_;subst ey;obtain⟨t,rfl⟩:=(show ∃t,iv=qb z t from ry);obtain⟨vs,dd,look⟩:=Cm (P:=X.prog) (w:=X.w) I2.vw g2 g4 g5;obtain⟨u,e1,e2⟩:=(look z).2 w ew;exact⟨dd.typeIs,wpAny_getItem_of (strKind_is X.prog X.w z t) dd.mapOf e1 ⟨Vu w u,H2,I2.tok _,e2.v,q u e2⟩⟩
theorem LU{gb:GE}(hb:JE X b gb)(hs:PQ b)(hg:Gl X x)(hd:(x == ("__debug__":Str))=false)(D:ye X.K X.w X.mg x kvs):JE X (.Subscript (.Name x p) b pos) (NV kvs gb) :=
 JE.of (LS br hs hg hd D) λρ st σ H m Q S R p=>by
  refine hb.go S R (aE.bind p) λw st1 v m1 H1 p1 e1 S1 r1=>?_;cases w with
  |str k=>
   dsimp only at p1;cases e:kvs.lookup k with
   |none=>rw[e]at p1;exact ae p1
   |some u=>rw[e]at p1;unfold ag at r1;exact⟨k,u,r1.1,e,λv h=>p1 _ m1 H1 e1 S1 h.w⟩
  |_=>exact ae p1
end
open PySem PySem.Spec PyProof.Rows PySem.W L2
section
variable (lt:Nat->Nat->Bool) (N:Nat)
def Kg{α:Type}:KasT α->(α->Prop)->Prop
 |.ret a,Q=>Q a
 |.ask i j k,Q=>(i < N/\j < N)/\Kg (k (lt i j)) Q
end
variable{p:Array Nat}
section
variable {lt:Nat->Nat->Bool}{N:Nat}
theorem Kg.bind{α β:Type}{f:α->KasT β}{Q:β->Prop}:∀{t:KasT α},Kg lt N t (λa=>Kg lt N (f a) Q)->Kg lt N (t.bind f) Q
 |.ret a,h=>h
 |.ask i j k,h=>⟨h.1,Kg.bind (t:=k (lt i j)) h.2⟩
theorem Kg.imp{α:Type}{Q R:α->Prop}(hq:∀a,Q a->R a):∀{t:KasT α},Kg lt N t Q->Kg lt N t R
 |.ret a,h=>hq a h
 |.ask i j k,h=>⟨h.1,Kg.imp hq (t:=k (lt i j)) h.2⟩
theorem Kg.wp{α:Type}{cmp:Nat->Nat->(Bool->afW->Prop)->afW->Prop}{P:afW->Prop}(hc:∀i j C s,i < N->j < N->P s->(∀s',P s'->C (lt i j) s')->cmp i j C s){G:α->afW->Prop}:
  ∀{t:KasT α}{s:afW},P s->Kg lt N t (λa=>∀s',P s'->G a s')->t.kasWp cmp G s
 |.ret a,s,hs,h=>h s hs
 |.ask i j k,s,hs,h=>hc i j _ s h.1.1 h.1.2 hs λs' hs'=>Kg.wp hc (t:=k (lt i j)) hs' h.2
structure Ord(lt:Nat->Nat->Bool):Prop where
 as:∀a b,lt a b=true->lt b a=false
 tr:∀a b c,lt a b=false->lt b c=false->lt a c=false
theorem Ord.NW(o:Ord lt)(a:Nat):lt a a=false:=by
 cases h:lt a a with
 |false=>rfl
 |true=>have:=o.as a a h;rw[h]at this;cases this
theorem Ord.Vw(o:Ord lt){a b:Nat}(h1:lt a b=true)(h2:lt c b=false):lt a c=true:=by
 cases h:lt a c with
 |true=>rfl
 |false=>have:=o.tr a c b h h2;rw[h1]at this;cases this
abbrev at_(p:Array Nat)(i:Nat):Nat:=p.getD i 0
structure Pm(N:Nat)(p:Array Nat):Prop where
 sz:p.size=N
 pm:p.toList.Perm (aU N)
theorem Pm.bd(h:Pm N p)(hi:i < N):at_ p i < N:=by
 have e:at_ p i=p[i]'(by rw[h.sz];exact hi):=by simp[at_,Cn,h.sz,hi]
 rw[e];have:p[i]'(by rw[h.sz];exact hi)∈p.toList:=by simp
 exact List.mem_range.mp (h.pm.mem_iff.mp this)
theorem n6{q:Array Nat}(h:p[i]? =q[j]?):at_ p i=at_ q j:=by unfold at_;rw[jO,jO,h]
theorem Pm.rev(h:Pm N p)(i j:Nat):Pm N (kas_rev p i j):=⟨by unfold kas_rev;rw[mirror_size];exact h.sz,((Array.perm_iff_toList_perm.mp (mirror_perm _ _ _ _)).trans h.pm)⟩
theorem Pm.bub(h:Pm N p)(k d:Nat):Pm N (bubble p k d):=⟨by rw[bubble_size];exact h.sz,((Array.perm_iff_toList_perm.mp (bubble_perm _ _ _)).trans h.pm)⟩
theorem jq(h:Pm N p)(hj:j<=N)(k:Nat):at_ (kas_rev p i j) k=if i<=k/\k < j then at_ p (i+j - 1 - k)else at_ p k:=by
 have q:=getElem?_mirror_all (xs:=p) (i:=i) (j:=j) (by rw[h.sz];exact hj) k;unfold kas_rev;split
 ·rename_i c;rw[if_pos c]at q;exact n6 q
 ·rename_i c;rw[if_neg c]at q;exact n6 q
theorem Hd(h:Pm N p){l:Nat}(hk:k < N)(hl:l<=k)(i:Nat):at_ (bubble p k (k - l)) i=if i=l then at_ p k else if l < i/\i<=k then at_ p (i - 1)else at_ p i:=by
 have q:=getElem?_bubble (xs:=p) (src:=k) (by rw[h.sz];exact hk) (k - l) (by omega) i;have e:k - (k - l)=l:=by omega
 rw[e]at q;split
 ·rename_i c;rw[if_pos c]at q;exact n6 q
 ·rename_i c;rw[if_neg c]at q;split
  ·rename_i d;rw[if_pos d]at q;exact n6 q
  ·rename_i d;rw[if_neg d]at q;exact n6 q
def Up(lt:Nat->Nat->Bool)(p:Array Nat)(k:Nat):Prop:=∀i j,i<=j->j < k->lt (at_ p j) (at_ p i)=false
def Dn(lt:Nat->Nat->Bool)(p:Array Nat)(k:Nat):Prop:=∀i j,i<=j->j < k->lt (at_ p i) (at_ p j)=false
theorem Up.succ(o:Ord lt)(h:Up lt p k)(hk:1<=k)(e:lt (at_ p k) (at_ p (k - 1))=false):Up lt p (k+1):=by
 intro i j hij hj;by_cases c:j < k
 ·exact h i j hij c
 ·have:j=k:=by omega
  subst this;by_cases c2:i=j
  ·subst c2;exact o.NW _
  ·exact o.tr _ _ _ e (h i (j - 1) (by omega) (by omega))
theorem Dn.succ(o:Ord lt)(h:Dn lt p k)(hk:1<=k)(e:lt (at_ p (k - 1)) (at_ p k)=false):Dn lt p (k+1):=by
 intro i j hij hj;by_cases c:j < k
 ·exact h i j hij c
 ·have:j=k:=by omega
  subst this;by_cases c2:i=j
  ·subst c2;exact o.NW _
  ·exact o.tr _ _ _ (h i (j - 1) (by omega) (by omega)) e
theorem AN(o:Ord lt){p:Array Nat}(hp:Pm N p):∀(f n:Nat),1<=n->n+f<=N->Up lt p n->Kg lt N (kas_asc p f n) (λm=>n<=m/\m<=n+f/\Up lt p m/\(m < n+f->lt (at_ p m) (at_ p (m - 1))=true))
 | 0,n,h1,h2,h3=>⟨ar _,ar _,h3,λz=>absurd z (dz _)⟩
 |f+1,n,h1,h2,h3=>by
  refine⟨⟨hp.bd (by omega),hp.bd (by omega)⟩,?_⟩;cases e:lt (p.getD n 0) (p.getD (n - 1) 0)with
  |true=>dsimp only;rw[if_pos rfl];exact⟨ar _,by omega,h3,λ_=>e⟩
  |false=>dsimp only;rw[if_neg (by simp)];refine(AN o hp f (n+1) (by omega) (by omega) (h3.succ o h1 e)).imp λm ⟨q1,q2,q3,q4⟩=>⟨by omega,by omega,q3,λz=>q4 (by omega)⟩
def Lv(lt:Nat->Nat->Bool)(p:Array Nat)(a n:Nat):Prop:=∀i j,a<=i->i < n->a<=j->j < n->lt (at_ p i) (at_ p j)=false
theorem Dn.rev(o:Ord lt)(hp:Pm N p){a:Nat}(hn:n<=N)(ha:a<=n)(h:Dn lt p n)(hl:Lv lt p a n):Dn lt (kas_rev p a n) n:=by
 intro i j hij hj;rw[jq hp hn,jq hp hn];by_cases ci:a<=i
 ·rw[if_pos ⟨ci,by omega⟩,if_pos ⟨by omega,hj⟩];exact hl _ _ (by omega) (by omega) (by omega) (by omega)
 ·rw[if_neg (by omega)];by_cases cj:a<=j
  ·rw[if_pos ⟨cj,hj⟩];exact h _ _ (by omega) (by omega)
  ·rw[if_neg (by omega)];exact h _ _ hij hj
theorem Dn.up(hp:Pm N p)(hn:n<=N)(h:Dn lt p n):Up lt (kas_rev p 0 n) n:=by intro i j hij hj;rw[jq hp hn,jq hp hn,if_pos ⟨by omega,hj⟩,if_pos ⟨by omega,by omega⟩];exact h _ _ (by omega) (by omega)
theorem qw(o:Ord lt):∀(f:Nat)(p:Array Nat)(n q:Nat),Pm N p->q+1<=n->n+f<=N->Dn lt p n->Lv lt p (n - 1 - q) n->
  Kg lt N (kas_desc f p n q) (λr=>Pm N r.1/\r.2.2+1<=r.2.1/\r.2.1<=N/\Dn lt r.1 r.2.1/\Lv lt r.1 (r.2.1 - 1 - r.2.2) r.2.1)
 | 0,p,n,q,hp,hq,hn,hd,hl=>⟨hp,hq,by omega,hd,hl⟩
 |f+1,p,n,q,hp,hq,hn,hd,hl=>by
  refine⟨⟨hp.bd (by omega),hp.bd (by omega)⟩,?_⟩;cases e:lt (p.getD n 0) (p.getD (n - 1) 0)with
  |true=>
   dsimp only;rw[if_pos rfl];have one:∀p':Array Nat,Lv lt p' (n+1 - 1 - 0) (n+1):=λp' i j h1 h2 h3 h4=>by
    have:i=j:=by omega
    subst this;exact o.NW _
   by_cases hq0:q > 0
   ·rw[if_pos hq0];have z:n - (q+1)=n - 1 - q:=by omega
    have hl2:Lv lt p (n - (q+1)) n:=by rw[z];exact hl
    refine qw o f _ (n+1) 0 (hp.rev _ _) (by omega) (by omega) (Dn.succ o (Dn.rev o hp (by omega) (by omega) hd hl2) (by omega) ?_) (one _);rw[jq hp (by omega),jq hp (by omega),if_pos ⟨by omega,by omega⟩,if_neg (by omega)]
    -- the last of the row stands level with the one Yj was last
    have lv:=hl (n - (q+1)+n - 1 - (n - 1)) (n - 1) (by omega) (by omega) (by omega) (by omega);cases z:lt (at_ p (n - (q+1)+n - 1 - (n - 1))) (at_ p n)with
    |false=>rfl
    |true=>have a1:=o.as _ _ e;have:=o.tr _ _ _ lv a1;rw[z]at this;cases this
   ·rw[if_neg hq0];exact qw o f p (n+1) 0 hp (by omega) (by omega) (hd.succ o (by omega) (o.as _ _ e)) (one _)
  |false=>
   dsimp only;rw[if_neg (by simp)];refine⟨⟨hp.bd (by omega),hp.bd (by omega)⟩,?_⟩;cases e2:lt (p.getD (n - 1) 0) (p.getD n 0)with
   |true=>dsimp only;rw[if_pos rfl];exact⟨hp,hq,by show n<=N;omega,hd,hl⟩
   |false=>
    dsimp only;rw[if_neg (by simp)];refine qw o f p (n+1) (q+1) hp (by omega) (by omega) (hd.succ o (by omega) e2) ?_;intro i j h1 h2 h3 h4;have key:∀i,n - 1 - q<=i->i < n->lt (at_ p i) (at_ p n)=false/\lt (at_ p n) (at_ p i)=false:=λi a b=>
     ⟨o.tr _ _ _ (hl i (n - 1) a b (by omega) (by omega)) e2,o.tr _ _ _ e (hl (n - 1) i (by omega) (by omega) a b)⟩
    by_cases ci:i < n
    ·by_cases cj:j < n
     ·exact hl i j (by omega) ci (by omega) cj
     ·have:j=n:=by omega
      subst this;exact(key i (by omega) ci).1
    ·have:i=n:=by omega
     subst this;by_cases cj:j < i
     ·exact(key j (by omega) cj).2
     ·have:j=i:=by omega
      subst this;exact o.NW _
abbrev Run(lt:Nat->Nat->Bool)(N:Nat)(r:Nat×Array Nat):Prop:=Pm N r.2/\1<=r.1/\r.1<=N/\Up lt r.2 r.1
theorem Cp(o:Ord lt)(hp:Pm N p)(h1:1<=n)(hn:n<=N)(hd:Dn lt p n):Kg lt N (kas_tail3 n N p) (Run lt N):=by unfold kas_tail3;refine Kg.bind ((AN o (hp.rev 0 n) (N - n) n h1 (by omega) (hd.up hp hn)).imp λm ⟨q1,q2,q3,_⟩=>?_);exact⟨hp.rev 0 n,by show 1<=m;omega,by show m<=N;omega,q3⟩
theorem pP(o:Ord lt)(hp:Pm N p)(hn:n+1<=N)(h1:1<=n)(hd:Dn lt p (n+1)):Kg lt N (kas_descPart n N p) (Run lt N):=by
 unfold kas_descPart;have one:Lv lt p (n+1 - 1 - 0) (n+1):=λi j h1 h2 h3 h4=>by
  have:i=j:=by omega
  subst this;exact o.NW _
 refine Kg.bind ((qw o (N - (n+1)) p (n+1) 0 hp (by omega) (by omega) hd one).imp λr ⟨q1,q2,q3,q4,q5⟩=>?_);by_cases c:r.2.2 > 0
 ·rw[if_pos c];refine Cp o (q1.rev _ _) (by omega) q3 (Dn.rev o q1 q3 (by omega) q4 ?_);have z:r.2.1 - (r.2.2+1)=r.2.1 - 1 - r.2.2:=by omega
  rw[z];exact q5
 ·rw[if_neg c];exact Cp o q1 (by omega) q3 q4
theorem Hf(o:Ord lt)(hp:Pm N p)(h1:1<=N):Kg lt N (kas_count N p) (Run lt N):=by
 unfold kas_count;have u1:Up lt p 1:=λi j a b=>by
  have:i=j:=by omega
  subst this;exact o.NW _
 refine Kg.bind ((AN o hp (N - 1) 1 (ar _) (by omega) u1).imp λn ⟨q1,q2,q3,q4⟩=>?_);by_cases c:n=N
 ·rw[if_pos (by simp[c])];exact⟨hp,by show 1<=n;omega,by show n<=N;omega,q3⟩
 ·rw[if_neg (by simp[c])];have hs:=q4 (by omega);by_cases c2:n > 1
  ·rw[if_pos c2];refine⟨⟨hp.bd (by omega),hp.bd (by omega)⟩,?_⟩;cases e:lt (p.getD 0 0) (p.getD (n - 1) 0)with
   |true=>dsimp only;rw[if_pos rfl];exact⟨hp,by show 1<=n;omega,by show n<=N;omega,q3⟩
   |false=>
    dsimp only;rw[if_neg (by simp)]
    -- all level
    have lv:∀i j,i < n->j < n->lt (at_ p i) (at_ p j)=false:=λi j hi hj=>by have a1:=q3 0 i (by omega) hi;have a2:=q3 j (n - 1) (by omega) (by omega);exact o.tr _ _ _ (o.tr _ _ _ a1 e) a2
    refine pP o (hp.rev 0 n) (by omega) (by omega) (Dn.succ o ?_ (by omega) ?_)
    ·intro i j hij hj;rw[jq hp (by omega),jq hp (by omega),if_pos ⟨by omega,by omega⟩,if_pos ⟨by omega,by omega⟩];exact lv _ _ (by omega) (by omega)
    ·rw[jq hp (by omega),jq hp (by omega),if_pos ⟨by omega,by omega⟩,if_neg (by omega)];have a1:=o.as _ _ hs;exact o.tr _ _ _ (lv _ (n - 1) (by omega) (by omega)) a1
  ·rw[if_neg c2];have hn:n=1:=by omega
   subst hn;refine pP o hp (by omega) (by omega) ?_;refine Dn.succ o (λi j a b=>by
    have:i=j:=by omega
    subst this;exact o.NW _) (by omega) (o.as _ _ hs)
theorem rS(o:Ord lt){p:Array Nat}(hp:Pm N p){k:Nat}(hk:k < N):∀(f l r:Nat),l<=r->r<=k->r - l<=f->Up lt p k->(∀i,i < l->lt (at_ p k) (at_ p i)=false)->(∀i,r<=i->i < k->lt (at_ p k) (at_ p i)=true)->
  Kg lt N (kas_place p k f l r) (λm=>m<=k/\(∀i,i < m->lt (at_ p k) (at_ p i)=false)/\∀i,m<=i->i < k->lt (at_ p k) (at_ p i)=true)
 | 0,l,r,h1,h2,h3,u,a,b=>⟨by omega,a,λi h=>b i (by omega)⟩
 |f+1,l,r,h1,h2,h3,u,a,b=>by
  unfold kas_place;by_cases c:l >= r
  ·rw[if_pos c];exact⟨by omega,a,λi h=>b i (by omega)⟩
  ·rw[if_neg c];refine⟨⟨hp.bd hk,hp.bd (by omega)⟩,?_⟩;cases e:lt (p.getD k 0) (p.getD ((l+r) / 2) 0)with
   |true=>dsimp only;rw[if_pos rfl];refine rS o hp hk f l ((l+r) / 2) (by omega) (by omega) (by omega) u a λi hi hk'=>?_;exact o.Vw e (u _ _ hi hk')
   |false=>dsimp only;rw[if_neg (by simp)];refine rS o hp hk f ((l+r) / 2+1) r (by omega) h2 (by omega) u (λi hi=>?_) b;exact o.tr _ _ _ e (u i ((l+r) / 2) (by omega) (by omega))
theorem Hg(o:Ord lt):∀(f:Nat)(p:Array Nat)(k:Nat),Pm N p->k+f=N->Up lt p k->Kg lt N (kas_bin f p k) (λp'=>Pm N p'/\Up lt p' N)
 | 0,p,k,hp,hk,u=>by
  have:k=N:=by omega
  subst this;exact⟨hp,u⟩
 |f+1,p,k,hp,hk,u=>by
  unfold kas_bin;refine Kg.bind ((rS o hp (by omega) k 0 k (by omega) (ar _) (by omega) u (λi h=>absurd h (by omega)) (λi h1 h2=>absurd h2 (by omega))).imp λl ⟨q1,q2,q3⟩=>?_);refine Hg o f _ (k+1) (hp.bub _ _) (by omega) ?_;intro i j hij hj;have bi:=Hd hp (k:=k) (l:=l) (by omega) q1 i;have bj:=Hd hp (k:=k) (l:=l) (by omega) q1 j;rw[bi,bj];by_cases e:j=l
  ·rw[if_pos e];by_cases e':i=l
   ·rw[if_pos e'];exact o.NW _
   ·rw[if_neg e',if_neg (by omega)];exact q2 i (by omega)
  ·rw[if_neg e];by_cases d:l < j/\j<=k
   ·rw[if_pos d];by_cases e':i=l
    ·rw[if_pos e'];exact o.as _ _ (q3 (j - 1) (by omega) (by omega))
    ·rw[if_neg e'];by_cases d':l < i/\i<=k
     ·rw[if_pos d'];exact u _ _ (by omega) (by omega)
     ·rw[if_neg d'];exact u _ _ (by omega) (by omega)
   ·rw[if_neg d,if_neg (by omega),if_neg (by omega)];exact u _ _ hij (by omega)
theorem Cq(o:Ord lt)(h1:1<=N):Kg lt N (kas_sort N) (λp=>Pm N p/\Up lt p N):=by
 have h0:Pm N (List.toArray (aU N)):=⟨by simp,by simp⟩;unfold kas_sort;refine Kg.bind ((Hf o h0 h1).imp λr ⟨q1,q2,q3,q4⟩=>?_);by_cases c:r.1 < N
 ·rw[if_pos c];have z:max r.1 1=r.1:=by omega
  rw[z];exact Hg o _ _ _ q1 (by omega) q4
 ·rw[if_neg c];have z:r.1=N:=by omega
  rw[z]at q4;exact⟨q1,q4⟩
end
def tU(a b:Int×Int):Bool:=decide (a.1 < b.1)||(decide (a.1=b.1)&&decide (a.2 < b.2))
variable{b:Int×Int}
theorem AO{a:Int×Int}(h:tU a b=true):tU b a=false:=by unfold tU at h ⊢;simp at h ⊢;omega
theorem AQ{a c:Int×Int}(h:tU a b=false)(k:tU b c=false):tU a c=false:=by unfold tU at h k ⊢;simp at h k ⊢;omega
theorem QY{a:Int×Int}(h:tU a b=false)(k:tU b a=false):a=b:=by unfold tU at h k;simp at h k;exact l7 (by omega) (by omega)
def AR(n:Int×Int):List (Int×Int)->List (Int×Int)
 |[]=>[n]
 |a::r=>if tU a n=true then a::AR n r else n::a::r
def jP:List (Int×Int)->List (Int×Int)
 |[]=>[]
 |a::r=>AR a (jP r)
theorem oQ(n:Int×Int):∀l,(AR n l).Perm (n::l)
 |[]=> .refl _
 |a::r=>by
  unfold AR;split
  ·exact((oQ n r).cons a).trans (.swap n a r)
  ·exact .refl _
theorem dR:∀l,(jP l).Perm l
 |[]=> .nil
 |a::r=>(oQ a (jP r)).trans ((dR r).cons a)
abbrev Hh(l:List (Int×Int)):Prop:=l.Pairwise λa b=>tU b a=false
theorem Cr(n:Int×Int):∀l,Hh l->Hh (AR n l)
 |[],_=>by simp[AR]
 |a::r,h=>by
  unfold AR;rw[Hh,v_]at h;split
  ·rename_i c;rw[Hh,v_];refine⟨λb hb=>?_,Cr n r h.2⟩;rcases List.mem_cons.mp ((oQ n r).mem_iff.mp hb)with z |z
   ·rw[z];exact AO c
   ·exact h.1 b z
  ·rename_i c;have c':tU a n=false:=by simpa using c
   rw[Hh,v_,v_];refine⟨λb hb=>?_,h⟩;rcases List.mem_cons.mp hb with z |z
   ·rw[z];exact c'
   ·exact AQ (h.1 b z) c'
theorem kc:∀l,Hh (jP l)
 |[]=> .nil
 |a::r=>Cr a _ (kc r)
theorem n8{a b:List (Int×Int)}(h:a.Perm b)(ha:Hh a)(hb:Hh b):a=b :=
 List.Perm.eq_of_pairwise (λ_ _ _ _ h1 h2=>QY h2 h1) ha hb h
section
variable {prog:afV}{w:afY}{A:afS}{E:afX->afW->Prop}{s:afW}
theorem Cs{x y:afR}{ox oy:Obj}{a1 a2 b1 b2:Int}{t1 t2 u1 u2:Tok}{Q:Bool->afW->Prop}(hx:s.heap.get? x=some ox)(dx:ox.data= .seq #[.int a1 t1,.int a2 t2] n)(hy:s.heap.get? y=some oy)(dy:oy.data= .seq #[.int b1 u1,.int b2 u2] k)
  (h:Q (tU (a1,a2) (b1,b2)) s):aga (model prog w) A (keyLt' (tuples' true) (.ref x) (.ref y)) Q E s:=by
 have hq:∀b,b=tU (a1,a2) (b1,b2)->Q b s:=λb e=>by rw[e];exact h
 refine kat_lt hx dx hy dy ?_;refine kat_cons (wpAny_eqBool_int (kat_go (λe=>kat_yes ?_) (λe=>kat_no ?_)))
 ·refine kat_cons (wpAny_eqBool_int (kat_go (λe2=>kat_yes ?_) (λe2=>kat_no ?_)))
  ·refine kat_nil (hq _ ?_);have z1:a1=b1:=by simpa using e
   have z2:a2=b2:=by simpa using e2
   subst z1 z2;simp[tU]
  ·refine kat_one _ _ (PyProof.Rows.lt_int ?_);show Q (decide (a2 < b2)) s;refine hq _ ?_;have z1:a1=b1:=by simpa using e
   subst z1;simp[tU]
 ·refine oneLt_int (hq _ ?_);have z1:¬a1=b1:=by simpa using e
  simp[tU,z1]
end
theorem cN{α β:Type}{F:α->β->Prop}{a:α}{b:β}:∀{l:List α}{k:List β}{i:Nat},Paired F l k->i < k.length->F (l.getD i a) (k.getD i b)
 |_,_,0,.cons h _,_=>by simpa using h
 |_,_,i+1,.cons _ t,hi=>by simpa using cN (i:=i) t (by simpa using hi)
theorem iF{α β:Type}{F:α->β->Prop}{f:Nat->α}{g:Nat->β}:∀{l:List Nat},(∀i∈l,F (f i) (g i))->Paired F (l.map f) (l.map g)
 |[],_=> .nil
 |i::l,h=> .cons (h i (by simp)) (iF λj hj=>h j (by simp[hj]))
def TupAt(h:Heap)(v:afX)(q:Int×Int):Prop:=∃(a:afR)(o:Obj)(t u:Tok)(n:Nat),v= .ref a/\h.get? a=some o/\o.cls= .type "tuple"/\o.data= .seq #[.int q.1 t,.int q.2 u] n
abbrev Cu(H:Hp):List V->List (Int×Int)->Prop:=Paired λv q=>∃a,v= .ref a/\H a=some (.tup [.int q.1,.int q.2])
variable{its:List afX}
theorem Eb{x y:Int}(h:Vals [.int x,.int y] its):∃t u,its=[.int x t,.int y u]:=by
 cases h with
 |cons h1 h2=>
  cases h2 with
  |cons h3 h4=>cases h4;obtain⟨t,rfl⟩:=h1;obtain⟨u,rfl⟩:=h3;exact⟨t,u,rfl⟩
section
variable {X:Cx}{pins:List (afR×Obj)}{σ:St}{H:Hp}{s:afW}
theorem AS(I:Inv X pins σ H s):∀{vs:List V}{ps:List (Int×Int)}{its:List afX},Cu H vs ps->Vals vs its->Paired (TupAt s.heap) its ps
 |_,_,_,.nil,.nil=> .nil
 |_,_,_,.cons h t,.cons r rs=>by obtain⟨a,rfl,hT⟩:=h;cases r;obtain⟨its,rv,⟨o,g1,g2,n,g3⟩,_⟩:=I.tuple (eO.of hT);obtain⟨t1,u1,rfl⟩:=Eb rv;exact .cons ⟨a,o,t1,u1,n,rfl,g1,g2,g3⟩ (AS I t rs)
end
theorem rT{h:Heap}:∀{its:List afX}{ps:List (Int×Int)},Paired (TupAt h) its ps->∃fs:List afX,KatTups h its fs/\fs.length=ps.length/\∀v∈fs,∃i t,v= .int i t
 |_,_,.nil=>⟨[],.nil,rfl,(λ_ z=>by cases z)⟩
 |_,_,.cons (b:=q) hd tl=>by
  obtain⟨fs,k1,k2,k3⟩:=rT tl;obtain⟨a,o,t,u,n,rfl,g1,g2,g3⟩:=hd;refine⟨.int q.1 t::fs,.cons g1 g2 g3 rfl k1,by simp[k2],λv hv=>?_⟩;rcases List.mem_cons.mp hv with z |z
  ·exact⟨_,_,z⟩
  ·exact k3 v z
theorem oR{h h':Heap}(k:∀a o its n,h.get? a=some o->o.data= .seq its n->h'.get? a=some o):∀{its:List afX}{ps:List (Int×Int)},Paired (TupAt h) its ps->Paired (TupAt h') its ps
 |_,_,.nil=> .nil
 |_,_,.cons hd tl=>by obtain⟨a,o,t,u,n,e,g1,g2,g3⟩:=hd;exact .cons ⟨a,o,t,u,n,e,k a o _ _ g1 g3,g2,g3⟩ (oR k tl)
theorem QZ{h':Heap}{m m':Str->Option afX}(a:h.Ns L m)(b:h.Ns L m')(c:h'.Ns L m):h'.Ns L m':=by obtain⟨o,es,ep,e1,e2,_,e4⟩:=a;obtain⟨o',es',TH,f1,f2,_,f4⟩:=b;rw[e1]at f1;cases f1;rw[e2]at f2;cases f2;have:m=m':=funext λx=>(e4 x).symm.trans (f4 x);rw[<-this];exact c
theorem range_getD{d:α}(l:List α):(aU l.length).map (λi=>l.getD i d)=l:=by refine List.ext_getElem (by simp) λi h1 h2=>?_;simp[h2]
section
variable {prog:afV}{w:afY}{A:afS}{E:afX->afW->Prop}{s:afW}
theorem LV:∀{its:List afX},its.length < 2->Array.map (λx:agj=>x.2) (its.toArray.zip its.toArray)=its.toArray
 |[],_=>by simp
 |[v],_=>by simp
theorem uX{P:PySem.Fin->afW->Prop}(h2:its.length < 2)(ho:s.heap.get? a=some (seqObj "list" its.toArray n))(k:P (.done (.ret .none)) { s with heap:=sortedHeap s.heap a its its.toArray }):aga (model prog w) A (Builtin.«list.sort» ⟨[.ref a],[]⟩) P E s:=by
 obtain⟨c,hc⟩:∃c,(s.heap.update a (dO λ_=>(#[]:Array afX))).get? a=some (seqObj "list" #[] c):=⟨_,get?_update_seq ho λ_=>#[]⟩;have big:(((s.heap.update a (dO λ_=>(#[]:Array afX))).push (seqObj "tuple" its.toArray 0)).push (seqObj "list" #[] 0)).get? a=some (seqObj "list" #[] c):=aT _ (aT _ hc);rw[list_sort_plain];refine agb (listItems_at ho rfl (agb (listUpdate_at ho rfl (agb (seqEpoch_at hc rfl (agb (wpAny_newTuple (agb (agf (agd ?_))))))))));show aga (model prog w) A _ P E { s with heap:=((s.heap.update a (dO λ_=>(#[]:Array afX))).push (seqObj "tuple" its.toArray 0)).push (seqObj "list" #[] 0) };have few:its.toArray.size < 2:=by simpa using h2
 dsimp only;rw[if_pos few,if_pos few];refine agb (agh (agb ?_));rw[StateT.run_pure];refine agh ?_;have mp:Array.map (λx:agj=>x.2) (arrOf (SortSt.mk' general' (its.toArray.zip its.toArray) #[] 7 none))=its.toArray:=LV h2;dsimp only;simp only[mp];refine agb (seqEpoch_at big rfl (agb (listUpdate_at big rfl ?_)));simp only[bne_self_eq_false,aW,if_false];exact agh k
end
section
variable {X:Cx}
abbrev pw(p:Int×Int):Wv:=.tup [.int p.1,.int p.2]
theorem m_{K:PySem.W.Frag}{m:Mp}{H:Hp}:∀{vs:List V}{ps:List (Int×Int)},Cu H vs ps->ai K m H (ps.map pw) vs
 |_,_,.nil=>ai.nil
 |_,_,.cons h t=>by obtain⟨a,rfl,hT⟩:=h;refine ai.cons ?_ (m_ t);unfold ag;exact⟨a,_,rfl,hT,ai.cons (by unfold ag;rfl) (ai.cons (by unfold ag;rfl) ai.nil)⟩
end
def keysOf:List Wv->Option (List L2.Key)
 |[]=>some []
 |w::r=>(match keyOf w,keysOf r with |some k,some l=>some (k::l) |_,_=>none)
def mL:Wv->Option (List L2.Key)
 |.tup ws=>keysOf ws
 |_=>none
theorem rV{K:PySem.W.Frag}{m:Mp}{H:Hp}:∀{ws:List Wv}{xs:List V}{ks:List L2.Key},ai K m H ws xs->keysOf ws=some ks->xs=ks.map kV
 |[],xs,ks,r,e=>by unfold ai at r;subst r;cases e;rfl
 |w::ws,xs,ks,r,e=>by
  unfold ai at r;obtain⟨x,t,rfl,r1,r2⟩:=r;unfold keysOf at e;cases e1:keyOf w with
  |none=>rw[e1]at e;cases e
  |some k=>
   cases e2:keysOf ws with
   |none=>rw[e1,e2]at e;cases e
   |some l=>rw[e1,e2]at e;cases e;rw[uV r1 e1,rV r2 e2];rfl
variable{ks:List L2.Key}
theorem yg{w:Wv}{v:V}(r:ag K m H w v)(e:mL w=some ks):∃b,v= .ref b/\H b=some (.tup (ks.map kV)):=by
 cases w with
 |tup ws=>unfold ag at r;obtain⟨a,xs,rfl,h1,h2⟩:=r;rw[rV h2 e]at h1;exact⟨a,rfl,h1⟩
 |_=>cases e
def yh:GE:=λ_ st=> .ok (.ref st.length) (st++[.gM []])
section
variable {X:Cx}
theorem LW:JE X (.Dict [] [] pos) yh:=JE.of FQ λρ st σ H m Q S R p=>λq hq=>
 p (.ref q) (m++[q]) _ (Ext.more.trans (Ext.mJ (.inl hq))) (S.FY hq ⟨[],bq,RelK.nil⟩) (S.newest q _)
def putD(d k v:Wv)(st:Hs):Option Hs:=match d with
 |.ref l=>(match st[l]? with
  |some (.dct kvs)=>(match keyOf k with |some kk=>if kvs.length < lim then some (st.set l (.dct (vY kvs kk v)))else none |none=>none)
  |some (.gM kvs)=>(match mL k with |some kk=>if kvs.length < lim then some (st.set l (.gM (vY kvs kk v)))else none |none=>none)
  |_=>none)
 |_=>none
def uY(gv gd gk:GE):GS:=λρ st=>(gv ρ st).bR ρ λv st1=>(gd ρ st1).bR ρ λd st2=>(gk ρ st2).bR ρ λk st3=>match putD d k v st3 with
 |some BZ=> .nx ρ BZ
 |none=> .bad
theorem LX{st':Hs}{d k v:Wv}{x y z:V}(S:bJ X.K m st H)(rd:ag X.K m H d x)(rk:ag X.K m H k y)(rv:ag X.K m H v z)(e:putD d k v st=some st'):∃a H',x= .ref a/\vJ H a y z H'/\Ext X.K m H m H'/\bJ X.K m st' H':=by
 unfold putD at e;cases d with
 |ref l=>
  dsimp only at e;unfold ag at rd;obtain⟨a,rfl,ha⟩:=rd;cases e1:st[l]? with
  |none=>rw[e1]at e;cases e
  |some o=>
   rw[e1]at e;cases o with
   |dct kvs=>
    dsimp only at e;cases e2:keyOf k with
    |none=>rw[e2]at e;cases e
    |some kk=>
     rw[e2]at e;dsimp only at e;by_cases c:kvs.length < lim
     ·rw[if_pos c]at e;cases e;obtain⟨xs,h1,h2⟩:=(show ∃ys,H a=some (.dK ys)/\RelK X.K m H kvs ys from S.obj _ _ _ ha e1);have ex:Ext X.K m H m (upd H a (.dK (putK xs kk z))):=Ext.mJ (.inr (.inr (.inl ⟨_,h1⟩)));refine⟨a,_,rfl,by rw[uV rk e2];exact vJ.k h1 (by rw[<-h2.length];exact Av c),ex,?_⟩;exact S.As ha e1 rfl ⟨_,bq,(h2.put kk rv).mono ex⟩
     ·rw[if_neg c]at e;cases e
   |gM kvs=>
    dsimp only at e;cases e2:mL k with
    |none=>rw[e2]at e;cases e
    |some kk=>
     rw[e2]at e;dsimp only at e;by_cases c:kvs.length < lim
     ·rw[if_pos c]at e;cases e;obtain⟨xs,h1,h2⟩:=(show ∃ys,H a=some (.dT ys)/\RelK X.K m H kvs ys from S.obj _ _ _ ha e1);obtain⟨b,rfl,hb⟩:=yg rk e2;have ex:Ext X.K m H m (upd H a (.dT (putK xs kk z))):=Ext.mJ (.inr (.inr (.inr (.inl ⟨_,h1⟩))));refine⟨a,_,rfl,vJ.t h1 hb (by rw[<-h2.length];exact Av c),ex,?_⟩;exact S.As ha e1 rfl ⟨_,bq,(h2.put kk rv).mono ex⟩
     ·rw[if_neg c]at e;cases e
   |_=>cases e
 |_=>cases e
theorem LY{o i:Expr}{gi:GE}(hu:X.A.units+1 < cLine)(he:JE X e ge)(ho:JE X o go)(hi:JE X i gi)(hs:swapsWith e (some (.Subscript o i pos')) pos.line X.env=pure false):JS X (.Assign [.Subscript o i pos'] e pos) (uY ge go gi) :=
 JS.of (K' hu br br br hs) λρ st σ H m D S R p=>by
  refine he.go S R (aV.df R p) λv st1 vv m1 H1 p1 e1 S1 rv=>?_;refine ho.go S1 (R.mono e1) ((aV.df (m:=m) (H:=H) R p1).imp e1 λ_ _ q=>q) λd st2 vd m2 H2 p2 e2 S2 rd=>?_;refine hi.go S2 (R.mono (e1.trans e2)) ((aV.df (m:=m) (H:=H) R p2).imp (e1.trans e2) λ_ _ q=>q) λk st3 vk m3 H3 p3 e3 S3 rk=>?_;have DU:=e1.trans (e2.trans e3);cases e4:putD d k v st3 with
  |none=>rw[e4]at p3;exact ae p3
  |some BZ=>rw[e4]at p3;obtain⟨a,H4,f1,f2,f3,f4⟩:=LX (X:=X) S3 (ag.mono e3 _ _ rd) rk (ag.mono (e2.trans e3) _ _ rv) e4;exact⟨a,H4,f1,f2,p3 σ m3 H4 (DU.trans f3) f4 (R.mono (DU.trans f3))⟩
end
def yi(h:Heap)(d:afR)(es:Array DictEntry)(ep:Nat):Prop:=∃o,h.get? d=some o/\o.cls= .type "dict"/\o.data= .dict es ep
section
variable {prog:afV}{w:afY}{A:afS}{E:afX->afW->Prop}{s:afW}{d it:afR}{es:Array DictEntry}{ep i:Nat}
theorem yi.ty(x:yi s.heap d es ep):s.TypeIs (.ref d) "dict":=let ⟨o,h1,h2,_⟩:=x;⟨o,h1,h2⟩
theorem Hi(lo:(d == sysModules)=false)(x:yi s.heap d es ep)
  (k:Q (.ref s.heap.objs.size) { s with heap:=s.heap.push { cls:=.type "dict_keyiterator",data:=.fields #[.ref d,.int 0 0,.int es.size 0,.int ep 0] } }):aga (model prog w) A (pyIter (.ref d)) Q E s:=by
 have ty:=x.ty;obtain⟨o,g1,g2,g3⟩:=x;refine wpAny_pyIter_slot ty PySem.F.slot_dict_iter (wpAny_call_entry PySem.F.slot_dict_iter ty PySem.F.entry_dict_iter ?_ (PySem.F.args_dict_iter_1 _));unfold Builtin.«dict.__iter__» Builtin.Dict.dictSlotNone;refine agb (agb (wpAny_notOrdered_dict ty (agh ?_)));unfold Q0;have nlo:¬(d == sysModules)=true:=by rw[lo];exact bF
 refine agb (show aga _ _ (pure d) _ _ s from agh (agb ?_));rw[if_neg nlo];exact agh (agb (agc g1 g3 (agb (wpAny_dictEpoch g1 g3 (agb (agg (agh ⟨_,rfl,"dict_keyiterator",_,⟨_,bE _ rfl,rfl⟩,PySem.F.slot_dict_keyiterator_next.lookup,by simpa [rawInt]using k⟩)))))))
theorem Hj{Q:Option afX->afW->Prop}(ki:s.heap.IsKeyIter it d i es.size ep)(x:yi s.heap d es ep)(hi:i < es.size)
  (k:∀h',h'.IsKeyIter it d (i+1) es.size ep->eB it s.heap h'->Q (some es[i].key) { s with heap:=h' }):aga (model prog w) A (pyNext (.ref it)) Q E s:=by
 have ty:=ki.typeIs;obtain⟨oi,f1,f2,f3⟩:=id ki;obtain⟨o,g1,g2,g3⟩:=x;have own:Q1 "dict_keyiterator"=false:=by decide
 have nn:¬((aA d == bg)=true):=bF;unfold pyNext;refine agb (wpAny_attempt (wpAny_callSpecial?_slot (name:=gY "__next__") ty PySem.F.slot_dict_keyiterator_next (wpAny_call_entry PySem.F.slot_dict_keyiterator_next ty PySem.F.entry_dict_keyiterator_next ?_ (PySem.F.args_dict_keyiterator_next_1 _))));refine agb (agh (agb (agb ?_)))
 first |refine agb (wpAny_typeNameOfWhole_keyiter ty (agh (agb (wpAny_fieldsOf f1 f3 ?_)))) |refine agb (wpAny_typeNameOf_keyiter ty (agh (agb (wpAny_fieldsOf f1 f3 ?_))))
 simp only[own,aW,if_false];refine(show aga _ _ (if(aA d == bg)=true then _ else _) _ _ s from ?_);rw[if_neg nn];refine agb (agh (agb (agc g1 g3 ?_)));rw[if_neg (by simp)];refine agb (agh (agb (wpAny_dictEpoch g1 g3 ?_)));rw[if_neg (by simp)];refine agh ?_;have n0:¬((i:Int) < 0):=by omega
 simp only[n0,if_false,ke,iG hi];refine agb ?_
 first |refine agb (wpAny_typeNameOfWhole_keyiter ty (agh (agb (wpAny_isOneOf_keyiter ty ?_)))) |refine agb (wpAny_typeNameOf_keyiter ty (agh (agb (wpAny_isOneOf_keyiter ty ?_))))
 refine(show aga _ _ (setField (.ref it) 1 (rawInt ((i:Int)+1)) >>= _) _ _ s from ?_);have ki':(s.heap.update it (g_ (·.setIfInBounds 1 (rawInt ((i:Int)+1))))).IsKeyIter it d (i+1) es.size ep:=⟨_,j_ _ f1 (nM (f9 f3 _)),(qq ..).trans f2,by rw[f9 f3];simp[rawInt]⟩;refine agb (wpAny_setField f1 f3 (by simp) (agb (agd (agb (wpAny_isOneOf_keyiter (s:={ s with heap:=s.heap.update it (g_ (·.setIfInBounds 1 (rawInt ((i:Int)+1)))) }) ki'.typeIs ?_)))));exact(show aga _ _ (pure es[i].key) _ _ _ from agh (agh ⟨_,rfl,agh (k _ ki' (fF ..))⟩))
theorem LZ{Q:Option afX->afW->Prop}(hh:A.handled=none)(ki:s.heap.IsKeyIter it d i es.size ep)(x:yi s.heap d es ep)(hi:es.size<=i)(k:∀h',wa it s.heap h'->Q none { s with heap:=h' }):aga (model prog w) A (pyNext (.ref it)) Q E s:=by
 have ty:=ki.typeIs;obtain⟨oi,f1,f2,f3⟩:=id ki;obtain⟨o,g1,g2,g3⟩:=x;have own:Q1 "dict_keyiterator"=false:=by decide
 have nn:¬((aA d == bg)=true):=bF;unfold pyNext;refine agb (wpAny_attempt (wpAny_callSpecial?_slot (name:=gY "__next__") ty PySem.F.slot_dict_keyiterator_next (wpAny_call_entry PySem.F.slot_dict_keyiterator_next ty PySem.F.entry_dict_keyiterator_next ?_ (PySem.F.args_dict_keyiterator_next_1 _))));refine agb (agh (agb (agb ?_)))
 first |refine agb (wpAny_typeNameOfWhole_keyiter ty (agh (agb (wpAny_fieldsOf f1 f3 ?_)))) |refine agb (wpAny_typeNameOf_keyiter ty (agh (agb (wpAny_fieldsOf f1 f3 ?_))))
 simp only[own,aW,if_false];refine(show aga _ _ (if(aA d == bg)=true then _ else _) _ _ s from ?_);rw[if_neg nn];refine agb (agh (agb (agc g1 g3 ?_)));rw[if_neg (by simp)];refine agb (agh (agb (wpAny_dictEpoch g1 g3 ?_)));rw[if_neg (by simp)];refine agh ?_;have n0:¬((i:Int) < 0):=by omega
 simp only[n0,if_false,ke,NX hi];refine agb ?_
 first |refine agb (wpAny_typeNameOfWhole_keyiter ty (agh ?_)) |refine agb (wpAny_typeNameOf_keyiter ty (agh ?_))
 refine(show aga _ _ (setField (.ref it) 0 .none >>= _) _ _ s from agb (wpAny_setField f1 f3 (by simp) ?_));refine(show aga _ _ (newExc (.type "StopIteration") [] >>= _) _ _ _ from ?_);simp only[newExc,newTuple,raiseNew];refine agb (agb (agg (agb (m:=firstArgMember _ _) (wpAny_of_eq (a:=bg) (by first |rfl |(simp only[firstArgMember];rfl)) (agg ?_ (by size_fits)))) (by size_fits)));refine(agb (wpAny_handled ?_));rw[show A.in1.handled=none by exact hh];refine(agb (agh (wpAny_throw ?_)));refine agb (wpAny_isInstance (b:=true) (T:="StopIteration") ⟨_,bE _ rfl,rfl⟩ isSubtype_stop (agh ?_));refine k _ ?_;exact((fF ..).extBut.push _).push _
theorem Ec(hh:A.handled=none)(I:afR)(hne:d≠I):Walks prog w A I [I,d] [I] es.size (λi v=>∃h:i < es.size,v=es[i].key) (λi h=>h.IsKeyIter I d i es.size ep/\yi h d es ep) where
 sub:=λb hb=>List.mem_cons.mpr (.inl (List.mem_singleton.mp hb))
 frame:=λ_ _ _ st hk=>⟨st.1.at λo e=>hk I (by simp) o e,let ⟨o,e1,e2⟩:=st.2;⟨o,hk d (by simp) o e1,e2⟩⟩
 item:=λi s Q E hi st hQ=>Hj st.1 st.2 hi λh' ki sb=>hQ _ h' s.toks ⟨hi,rfl⟩ ⟨ki,let ⟨o,e1,e2⟩:=st.2;⟨o,sb.extBut d o hne e1,e2⟩⟩ λb o hb e=>sb.extBut b o (λz=>hb (by simp[z])) e
 done:=λs Q E st hQ=>LZ hh st.1 st.2 (ar _) λh' eb=>hQ h' s.toks λb o hb e=>eb b o (λz=>hb (by simp[z])) e
 self:=λ_ _ _ _ st k=>wpAny_pyIter_keyiter st.1 k
theorem Cw(lo:(d == sysModules)=false):KdlSrc prog w "dict" d d es.size (λi v=>∃h:i < es.size,v=es[i].key) (λh=>yi h d es ep) where
 type:=λ_ x=>x.ty
 there:=λ_ x=>let ⟨o,e,_⟩:=x;⟨az e,az e⟩
 keep:=λ_ _ x hk=>let ⟨o,e,r⟩:=x;⟨o,hk d (.inl rfl) o e,r⟩
 notList:=by decide
 notTuple:=by decide
 hint:=λ_ _ _ _ x hq=>kdl_hint_dict x.ty hq
 iter:=λ_ s hh x=>⟨_,_,(λ_ _ hq=>Hi lo x hq),Ec hh _ (by obtain⟨o,e,_⟩:=x;exact aN (az e)),⟨⟨_,bE _ rfl,rfl,rfl⟩,let ⟨o,e,r⟩:=x;⟨o,aT _ e,r⟩⟩⟩
end
abbrev Q2(H:Hp):List V->List (List L2.Key)->Prop:=Paired λv k=>∃b,v= .ref b/\H b=some (.tup (k.map kV))
theorem wb{H:Hp}:∀{kvs:List (List L2.Key×V)}{xs:List (List L2.Key×afR×afX)},KT H kvs xs->Q2 H (xs.map λx=>V.ref x.2.1) (kvs.map (·.1))
 |_,_,.nil=> .nil
 |_,_,.cons h t=> .cons ⟨_,rfl,h.2.1⟩ (wb t)
theorem oS{α:Type}(f:α->afR):∀xs:List α,Vals (xs.map λx=>V.ref (f x)) (xs.map λx=>aA (f x))
 |[]=> .nil
 |x::r=> .cons rfl (oS f r)
def yj:List L2.Key->Option (List Int)
 |[]=>some []
 |.inl i::r=>(match yj r with |some l=>some (i::l) |none=>none)
 |_=>none
open PySem L2 PyProof.Rows
variable {X:Cx}
def oLe:fX:=λx y st=>UZ x y st
theorem Q3(hu:X.A.units+64 < cLine):jU X (af4 .LtE) oLe:=U1
def Vx:fX:=λx y st=>UY x y st
theorem Q4(hu:X.A.units+64 < cLine):jU X (af4 .Lt) Vx:=U0
structure uZ(k:Nat)(A:afS):Prop where
 d:A.depth+3 * k+5 < recursionLimit
 u:A.units+16 * k+200 < cLine
theorem uZ.of(r:k9 k A):uZ k A:=⟨r.dp,r.un⟩
structure Vy(P:afV)(w:afY)(K:PySem.W.Frag)(mg:Str->Option afX)(base:Heap)(k:Nat)(f:afR)(fd:afT)(ps:List Str)(sp:Sp):Prop where
 n:∀vs H Q E,sp vs H Q E->vs.length=ps.length
 go:∀(A:afS)(outer:List Env)(s:afW)(H:Hp)(args:Args)(us:List afX)(vs:List V)(Q:VK)(E:XK),uZ k A->D0 A H->Fz P w K mg base A outer s H->
  BindsTo s fd args (ps.zip us)->Vals vs us->sp vs H Q E->af2 (model P w) A (.call (.ref f) args) (CR (CXJ P w) outer P w H s Q E) s
def L0(P:afV)(w:afY)(K:PySem.W.Frag)(mg:Str->Option afX)(base:Heap)(k:Nat)(x:Str)(n:Nat)(F:List Wv->Hs->Re Wv):Prop :=
 ∃f fd ps,Vy P w K mg base k f fd ps (spW K n F)/\mg x=some (.ref f)/\PySem.W.keepIn K (.ref f)=true/\Binds K fd ps []
abbrev TX:=Option (Nat×List Wv)×List Wv
def Fb(c:Option (Nat×List Wv))(st:Hs):Prop:=match c with
 |some (l,ws)=>ao st l=some ws
 |none=>True
structure Hk(X:Cx)(w:TX)(m1:Mp)(H1:Hp)(J':It):Prop where
 go:∀(k:Nat)(H:Hp)(m':Mp)(st:Hs),Ext X.K m1 H1 m' H->bJ X.K m' st H->Fb w.1 st->k < w.2.length->J'.go k H
 stop:∀(k:Nat)(H:Hp)(m':Mp)(st:Hs),Ext X.K m1 H1 m' H->bJ X.K m' st H->Fb w.1 st->k=w.2.length->J'.stop k H
 xv:∀(k:Nat)(hk:k < w.2.length)(H:Hp)(v:V)(H':Hp)(m':Mp)(st:Hs),Ext X.K m1 H1 m' H->bJ X.K m' st H->Fb w.1 st->J'.xv k H v H'->Ext X.K m' H m' H'/\bJ X.K m' st H'/\ag X.K m' H' w.2[k] v
abbrev L4:=bX->Hs->Re TX
def Q5(X:Cx)(tg iter:Expr)(gi:L4):Prop:=∃wi,PI X tg iter wi/\∀(ρ:bX)(st:Hs)(σ:St)(H:Hp)(m:Mp)(R:It->Hp->Prop),bJ X.K m st H->aG X.K m H ρ σ->
 aE X σ m H (gi ρ st) (λw st1=>∀(m1:Mp)(H1:Hp)(J':It),Ext X.K m H m1 H1->bJ X.K m1 st1 H1->Fb w.1 st1->Hk X w m1 H1 J'->R J' H1)->wi σ H R
def Hl:L4:=λ_ _=> .bad
section
variable {X:Cx}
theorem L6:Q5 X tg iter Hl:=⟨_,x_,λρ st σ H m Q S R p=>p⟩
theorem Hm(h:JI X tg iter gi):Q5 X tg iter (λρ st=>(gi ρ st).bind λw st1=> .ok (w.1.map λl=>(l,w.2),w.2) st1):=by
 obtain⟨wi,hp,hw⟩:=h;refine⟨wi,hp,λρ st σ H m R S r p=>hw ρ st σ H m R S r ((aE.bind p).imp Ext.refl λw st1 q m1 H1 J' e1 S1 c1 AL=>?_)⟩;obtain⟨o,ws⟩:=w;have cc:∀st,Fb (o.map λl=>(l,ws)) st->jn (o,ws) st:=λst c=>by cases o<;>exact c
 have cc':jn (o,ws) st1->Fb (o.map λl=>(l,ws)) st1:=λc=>by cases o<;>exact c
 refine q m1 H1 J' e1 S1 (cc' c1) ⟨λk H2 m' st2 e S2 c=>AL.go k H2 m' st2 e S2 (cc _ c),λk H2 m' st2 e S2 c=>AL.stop k H2 m' st2 e S2 (cc _ c),λk hk H2 v H3 m' st2 e S2 c y=>?_⟩;obtain⟨rfl,rr⟩:=AL.xv k hk H2 v H3 m' st2 e S2 (cc _ c) y;exact⟨Ext.refl,S2,rr⟩
end
def Hn(n:Nat):Wv->Option (List Wv)
 |.tup us=>if us.length=n then some us else none
 |_=>none
open Classical in
def jr(ck:Hs->Prop)(n:Nat)(gt:List Wv->Hs->Re Bool)(ge:List Wv->Hs->Re Wv)(l:Nat):List Wv->Hs->Option Hs
 |[],st=>some st
 |w::r,st=>match Hn n w with
  |none=>none
  |some us=>match gt us st with
   |.ok false st1=>if ck st1 then jr ck n gt ge l r st1 else none
   |.ok true st1=>(match ge us st1 with
    |.ok v st2=>(match pY (.ref l) v st2 with
     |.ok _ st3=>if ck st3 then jr ck n gt ge l r st3 else none
     |_=>none)
    |_=>none)
   |_=>none
def fG(X:Cx)(scope:Scope)(xs:List Str)(cs:dQ)(C:afR)(s0:afW)(H0:Hp)(fp:List afR)(pn:List (afR×Obj)):Cx :=
 { gF X scope "" cs C s0 H0 fp pn (λ_ _=>False)with N:=xs++cs.map (·.1) }
structure mB(X:Cx)(scope:Scope)(x:Str)(xr:List Str)(cs:dQ):Prop where
 one:dh X scope x cs
 var:∀y∈x::xr,scope.names.lookup y=some .local
 nd:((x::xr)++cs.map (·.1)).Nodup
inductive fH:List Expr->List Str->Prop
 |nil:fH [] []
 |cons {x:Str}{p:Pos}{es:List Expr}{xs:List Str}:fH es xs->fH (.Name x p::es) (x::xs)
section
variable {X:Cx}{pins:List (afR×Obj)}{σ:St}{H:Hp}{s:afW}{scope:Scope}{x:Str}{xr:List Str}{cs:dQ}
theorem inv2{tk:Nat}(S:mB X scope x xr cs)(hc:X.calm=true)(I:Inv X pins σ H s)(hf:∀b∈fp,ff X pins H b)(hl:∀b∈fp,b < s.heap.objs.size):
  Inv (fG X scope (x::xr) cs s.heap.objs.size s H fp (X.pn++pins)) [] (ay (x::xr).length none++nX cs σ) H { s with heap:=pushCells (s.heap.push { cls:=.type "dict",data:=.dict #[] }) scope.names,toks:=tk }:=by
 have J:=xX (E:=λ_ _=>False) (tk:=tk) S.one I hf hl;have o:=J.ok;obtain⟨m,hn,hv⟩:=J.loc;refine⟨⟨o.mod,o.kind,o.glob,o.blt,o.above,o.inj,o.has,o.TF,o.hd,o.frames,o.stk,o.XM,o.bs,o.Kt,o.DC,o.Fh,o.nE,o.Nx⟩,J.os,J.bare,J.base,⟨m,hn,λi y v e1 e2 e3=>?_⟩,J.cell,J.free,J.jI,J.pin,J.hok,?_⟩
 ·have NU:((x::xr)++cs.map (·.1))[i]? =some y:=e1;by_cases hi:i < (x::xr).length
  ·rw[dM (by rw[j9];exact hi),ql,if_pos hi]at e2;cases e2
  ·rw[fz (by rw[j9];omega),j9]at e2;rw[fz (by omega)]at NU;exact hv (i - (x::xr).length+1) y v NU e2 e3
 ·show(ay (x::xr).length none++nX cs σ).length=((x::xr)++cs.map (·.1)).length;unfold nX;simp;omega
theorem YK{Hb:Hp}{sb:afW}(I:Inv X pins σ Hb sb)(hf:∀b∈fp,ff X pins Hb b)(J:Inv (fG X scope (x::xr) cs C sb Hb fp (X.pn++pins)) iw σ' He se):Inv X pins σ He se:=by have un:Un (frs X.stack) fp Hb He sb.heap se.heap:=J.base;exact I.xt (ch:=fp) J.os un J.hok J.bare λb hb=>⟨(hf b hb).2.2.2.1,(hf b hb).2.1,(hf b hb).2.2.2.2.1,λp hp=>(hf b hb).2.2.2.2.2 p hp⟩
end
theorem Ho{Y:Cx}:∀{es:List Expr}{xs:List Str}(pre:List Str)(post:List Str),fH es xs->Y.N=pre++(xs++post)->(∀y∈xs,Y.env.scope.names.lookup y=some .local)->Slots Y es (kj pre.length xs.length)
 |_,_,pre,post,.nil,hN,hv=> .nil
 |_,_,pre,post,.cons (x:=x) (xs:=xs) t,hN,hv=>by show Slots Y _ (pre.length::kj (pre.length+1) xs.length);have hx:=hv x ax;refine .cons (by rw[hN];simp) ⟨.inl hx,.inr hx⟩ ?_;have:=Ho (pre++[x]) post t (by rw[hN];simp) λy hy=>hv y (av _ hy);rw[cJ]at this;exact this
theorem NY:∀(us:List Wv)(pre:bX)(zs:bX)(post:bX),zs.length=us.length->rG (kj pre.length us.length) us (pre++(zs++post))=some (pre++(us.map some++post))
 |[],pre,zs,post,h=>by have:zs=[]:=List.length_eq_zero_iff.mp h;subst this;rfl
 |u::us,pre,[],post,h=>by cases h
 |u::us,pre,z::zs,post,h=>by
  show rG (kj (pre.length+1) us.length) us ((pre++(z::zs++post)).set pre.length (some u))=_;have e:(pre++(z::zs++post)).set pre.length (some u)=(pre++[some u])++(zs++post):=by rw[List.set_append_right _ _ (ar _)];simp
  have q:=NY us (pre++[some u]) zs post (by simpa using h);rw[cJ,K6]at q;rw[e,q];simp
theorem YL{us:List Wv}(R:aG K m H (us.map some++ρ) σ):aG K m H (ay us.length none++ρ) σ:=by
 refine⟨by rw[<-R.len];simp,λi w e=>?_⟩;by_cases hi:i < us.length
 ·rw[dM (by simpa using hi),ql,if_pos hi]at e;cases e
 ·refine R.get i w ?_;rw[fz (by simpa using Nat.le_of_not_lt hi)]at e ⊢;simpa using e
section
variable {prog:afV}{w:afY}{A:afS}{R:Result->afW->Prop}{s:afW}
abbrev NB(prog:afV)(w:afY)(A:afS)(env:Env)(R:Result->afW->Prop):afX->afW->Prop:=notedBy (model prog w) A env λe s'=>R (.error e) s'
theorem Q6{it acc:afX}(Iv:Nat->afW->Prop)
  (turn:∀n t,Iv n t->aga (model prog w) A (pyNext it) (λr t1=>match r with
   |none=>R (.ok .next) t1
   |some v=>aga (model prog w) A (letOwnedTupleGo tg it v) (λ_ t2=>aga (model prog w) A (assign tg env v) (λ_ t3=>
     aga (model prog w) A (forIn ifs true λc r=>if r=true then do let ok <-isTrue c env (eval c env);pure (jl ok)else pure (jl r)) (λok t4=>
      if ok=true then aga (model prog w) A (eval elt env) (λx t5=>aga (model prog w) A (call (.builtin "list.append") [acc,x]) (λ_ t6=>∃m,m < n/\Iv m t6) (NB prog w A env R) t5) (NB prog w A env R) t4
      else ∃m,m < n/\Iv m t4) (NB prog w A env R) t3) (NB prog w A env R) t2) (NB prog w A env R) t1) (NB prog w A env R) t)
  (n:Nat) (h:Iv n s):af2 (model prog w) A (.compLoop (.ListComp elt [⟨tg,iter,ifs,0⟩] scope pos) 0 it acc env) R s:=by
 refine codeAny_loop rfl Iv (λn t hI=>?_) n h;show aga _ A ((compTurn (.ListComp elt [⟨tg,iter,ifs,0⟩] scope pos) 0 it acc env).onRaise (λx=>do noteFrame x env;theTreesLotGoes x)) _ _ t;refine wpAny_noted ?_;rw[compTurn_list];refine agb (wpAny_standAt (agb (age (turn n t hI) (λr t1 g1=>?_) λ_ _ z=>z)));cases r with
 |none=>exact agh g1
 |some v=>
  refine agb (age g1 (λ_ t2 g2=>agb (age g2 (λ_ t3 g3=>agb (age g3 (λok t4 g4=>?_) λ_ _ z=>z)) λ_ _ z=>z)) λ_ _ z=>z);cases ok with
  |false=>exact agh ⟨rfl,g4⟩
  |true=>exact agb (agb (age g4 (λx t5 g5=>agb (age g5 (λ_ t6 g6=>agh (agh ⟨rfl,g6⟩)) λ_ _ z=>z)) λ_ _ z=>z))
end
variable{gi:L4}{xr:List Str}{kt:Nat}{pt:Pos}
section
variable {X:Cx}
theorem yk{pins:List (afR×Obj)}
  {RR:afX->afR->Result->afW->Prop}
  {oF:Hs}(S:mB X scope x xr cs)(sl:fH es (x::xr))(hc:X.calm=true)(I2:Inv X pins σ H2 s2)(T:Turn X.prog X.w X.K (.Tuple es kt pt) J' fp it tn)(t0:tn 0 s2.heap)(f2:∀b∈fp,ff X pins H2 b)
  (S1:bJ X.K m1 st1 H2)(R:aG X.K m1 H2 ρ σ)(hck:ck (st1++[.lst []]))(run:jr ck (x::xr).length (λw=>gt (w.map some++cX cs ρ)) (λw=>ge (w.map some++cX cs ρ)) st1.length ws (st1++[.lst []])=some oF)
  (hE:∀C s0 H0 pn,JE (fG X scope (x::xr) cs C s0 H0 fp pn) elt ge)(hT:∀C s0 H0 pn,B9 (fG X scope (x::xr) cs C s0 H0 fp pn) ifs gt)
  (hgo:∀(k:Nat)(H:Hp)(m':Mp)(st:Hs),Ext X.K m1 H2 m' H->bJ X.K m' st H->ck st->k < ws.length->J'.go k H)(hstop:∀(k:Nat)(H:Hp)(m':Mp)(st:Hs),Ext X.K m1 H2 m' H->bJ X.K m' st H->ck st->k=ws.length->J'.stop k H)
  (hy:∀(k:Nat)(hk:k < ws.length)(H:Hp)(v:V)(H':Hp)(m':Mp)(st:Hs),Ext X.K m1 H2 m' H->bJ X.K m' st H->ck st->J'.xv k H v H'->Ext X.K m' H m' H'/\bJ X.K m' st H'/\ag X.K m' H' ws[k] v)
  (fin:∀(D C:afR)(mm:Str->Option afX)(m':Mp)(H':Hp)(s':afW),Ext X.K m1 H2 m' H'->bJ X.K m' oF H'->m'[st1.length]? =some D->Inv X pins σ H' s'->ff X pins H' C->s'.heap.Ns C mm->(∀y c,X.env.cells.lookup y=some c->c≠C)->RR (.ref D) C (.ok .next) s'):
  aga (model X.prog X.w) X.A (newList []) (λacc s3=>aga (model X.prog X.w) X.A (newFunctionEnv scope X.env.globals (t7 X.env scope.names []) [] X.env.qual none .none (some X.env)) (λcenv s4=>
   af2 (model X.prog X.w) X.A (.compStart (.ListComp elt [⟨.Tuple es kt pt,iter,ifs,0⟩] scope pos) 0 (.ref it) acc { cenv with scope:=relabel scope X.env }) (RR acc cenv.locals) s4) E s3) E s2:=by
 refine agf ?_;have I3:Inv X pins σ (upd H2 s2.heap.objs.size (.lst [])) { s2 with heap:=s2.heap.push { cls:=.type "list",data:=.seq ([]:List afX).toArray } }:=I2.K4 (ys:=[]) (its:=[]) (t':=s2.toks) .nil (bH _);have Vk:∀b∈fp,b < s2.heap.objs.size:=λb hb=>by obtain⟨o,e,_⟩:=T.obj _ _ t0 b hb;exact az e
 have hD:H2 s2.heap.objs.size=none:=I2.fresh;have f3:∀b∈fp,ff X pins (upd H2 s2.heap.objs.size (.lst [])) b:=λb hb=>⟨by rw[aI (aN (Vk b hb))];exact(f2 b hb).1,(f2 b hb).2⟩;have S3:=S1.alloc (ws:=[]) (xs:=[]) hD ai.nil;have e3:Ext X.K m1 H2 (m1++[s2.heap.objs.size]) (upd H2 s2.heap.objs.size (.lst [])):=Ext.more.trans (Ext.upd (.inl hD));have LJ:(m1++[s2.heap.objs.size])[st1.length]? =some s2.heap.objs.size:=by rw[<-S1.len,fz (ar _),qr];rfl
 generalize QG:({ s2 with heap:=s2.heap.push { cls:=.type "list",data:=.seq ([]:List afX).toArray } }:afW)=s3 at I3;have Vl:∀b o,s2.heap.get? b=some o->s3.heap.get? b=some o:=λb o e=>by rw[<-QG];exact aT _ e
 have QH:∀b∈fp,b < s3.heap.objs.size:=λb hb=>by obtain⟨o,e,_⟩:=T.obj _ _ t0 b hb;exact az (Vl b o e)
 generalize hDD:s2.heap.objs.size=D at *;generalize hH3:upd H2 D (.lst [])=H3 at *;generalize hm3:m1++[D]=m3 at *;have R3:aG X.K m3 H3 (cX cs ρ) (nX cs σ):=(B8 cs R).mono e3;generalize hrr:cX cs ρ=ρc at *;generalize hss:nX cs σ=σc at *;refine lr ?_;have Ic:=inv2 (tk:=s3.toks) S hc I3 f3 QH;rw[hss]at Ic;have Vm:∀b o,s3.heap.get? b=some o->(pushCells (s3.heap.push { cls:=.type "dict",data:=.dict #[] }) scope.names).get? b=some o:=λb o e=>pushCells_keeps _ _ b o (aT _ e);generalize (pushCells (s3.heap.push { cls:=.type "dict",data:=.dict #[] }) scope.names)=h4 at Ic Vm ⊢;have t4:tn 0 h4:=T.keep _ _ _ t0 λb _ o e=>Vm b o (Vl b o e)
 let Xc:=fG X scope (x::xr) cs s3.heap.objs.size s3 H3 fp (X.pn++pins)
 have vis:∀y∈x::xr,Xc.env.scope.names.lookup y=some .local:=λy hy=>lookup_relabel_local (S.var y hy);have YM:Slots Xc es (kj 0 (x::xr).length):=Ho (Y:=Xc) [] (cs.map (·.1)) sl rfl vis;have QI:∀(H':Hp),(∀b∈fp,H' b=none)->∀b∈fp,ff Xc [] H' b:=λH' hn b hb=>⟨hn b hb,aN (QH b hb),rK I3 (f3 b hb),.inl hb,λy c e=>(by
  rcases S.one.sub I3.ok e with ⟨q1,_,_⟩ |⟨q1,_⟩
  ·rw[q1];exact eP (mn (QH b hb))
  ·exact(f3 b hb).2.2.2.2.1 y c q1),λp hp=>(f2 b hb).2.2.2.2.2 p (by have LK:p∈(X.pn++pins)++[]:=hp;rw[j8]at LK;exact LK)⟩
 let Pv:Nat->afW->Prop:=λk s'=>∃σ' H' st m',Inv Xc [] σ' H' s'/\aG X.K m' H' (ay (x::xr).length none++ρc) σ'/\tn k s'.heap/\(∀b∈fp,H' b=none)/\Ext X.K m3 H3 m' H'/\bJ X.K m' st H'/\ck st/\jr ck (x::xr).length (λw=>gt (w.map some++ρc)) (λw=>ge (w.map some++ρc)) st1.length (ws.drop k) st=some oF
 have loop:∀s4:afW,Pv 0 s4->af2 (model X.prog X.w) X.A (.compLoop (.ListComp elt [⟨.Tuple es kt pt,iter,ifs,0⟩] scope pos) 0 (.ref it) (.ref D) (compEnvC scope (xW X scope s3.heap.objs.size) s3.heap.objs.size X.env)) (RR (.ref D) s3.heap.objs.size) s4:=λs4 p0=>by
  refine Q6 (λn s'=>∃k,n=ws.length - k/\k<=ws.length/\Pv k s') ?_ ws.length ⟨0,by simp,bH _,p0⟩;rintro n s5 ⟨k,rfl,hk,σ5,H5,xx,m5,I5,R5,Vn,Pb,e5,S5,c5,bA⟩;have GW:=e3.trans e5;by_cases hlt:k < ws.length
  ·refine bR (T.item Xc rfl rfl rfl hc k [] s5 σ5 H5 _ I5 (QI H5 Pb) Vn (hgo k H5 m5 xx GW S5 c5 hlt)) λr s6 h6=>?_;obtain⟨u,rfl,h6⟩:=h6;refine bR h6 λ_ s7 h7=>?_;obtain⟨v,H7,I7,rv,yl,QJ,Yy⟩:=h7;obtain⟨eY,S7,Vo⟩:=hy k hlt H5 v H7 m5 xx GW S5 c5 yl;have TU:=I7.pinned (QI H7 Yy) (T.obj _ _ QJ);have e57:=e5.trans eY;have ed:ws.drop k=ws[k]::ws.drop (k+1):=rB hlt;rw[ed]at bA;unfold jr at bA;cases ep:Hn (x::xr).length ws[k]with
   |none=>rw[ep]at bA;cases bA
   |some us=>
   rw[ep]at bA;dsimp only at bA;have ht:ws[k]= .tup us/\us.length=(x::xr).length:=by
    cases eb:ws[k]with
    |tup vs=>
     rw[eb]at ep
     replace ep:(if vs.length=(x::xr).length then some vs else none)=some us:=ep
     by_cases cl:vs.length=(x::xr).length
     ·rw[if_pos cl]at ep;cases ep;exact⟨rfl,cl⟩
     ·rw[if_neg cl]at ep;cases ep
    |_=>rw[eb]at ep;cases ep
   rw[ht.1]at Vo;unfold ag at Vo;obtain⟨tb,ys,rfl,f1,Vz⟩:=Vo;have e5s:rG (kj 0 (x::xr).length) us (ay (x::xr).length none++ρc)=some (us.map some++ρc):=by have q:=NY us [] (ay (x::xr).length none) ρc (by rw[j9];exact ht.2.symm);rw[ht.2]at q;exact q
   have asg:=Ft (X:=Xc) (k:=kt) (pos:=pt) hc (mh S.nd YM) (nV YM) (mi YM) ([]++eC fp s7.heap) s7 σ5 H7 (.ref tb) u (λσ' H'=>H'=H7/\aG X.K m5 H' (us.map some++ρc) σ') TU rv ⟨tb,ys,rfl,eO.of f1,by rw[<-Vz.length,ht.2];simp,nU (X:=Xc) Vz (R5.mono eY) e5s λσ' R'=>⟨rfl,R'⟩⟩;refine age asg (λ_ s8 h8=>?_) λ_ _ z=>ae z;obtain⟨σ8,H8,W2,rfl,R8⟩:=h8;have back:∀{H':Hp}{s':afW}{m':Mp}{st:Hs},Inv Xc ([]++eC fp s7.heap) σ8 H' s'->Ext X.K m3 H3 m' H'->Ext X.K m5 H8 m' H'->bJ X.K m' st H'->ck st->jr ck (x::xr).length (λw=>gt (w.map some++ρc)) (λw=>ge (w.map some++ρc)) st1.length (ws.drop (k+1)) st=some oF->∃n',n' < ws.length - k/\∃k',n'=ws.length - k'/\k'<=ws.length/\Pv k' s' :=
    λ{H' s' m' st} I' e' e8 S' c' r'=>⟨ws.length - (k+1),by omega,k+1,rfl,hlt,σ8,H',st,m',I'.k8,by have q:=YL (R8.mono e8);rw[ht.2]at q;exact q,T.keep _ _ _ QJ λb hb o e=>(I'.pin (b,o) (bU _ (bU _ (fW hb e)))).1,λb hb=>by obtain⟨o,e,_⟩:=T.obj _ _ QJ b hb;exact(I'.pin (b,o) (bU _ (bU _ (fW hb e)))).2.1,e',S',c',r'⟩
   cases eg:gt (us.map some++ρc) xx with
   |err c E_=>rw[eg]at bA;cases bA
   |bad=>rw[eg]at bA;cases bA
   |ok b E_=>
    rw[eg]at bA;have NG:=hT s3.heap.objs.size s3 H3 (X.pn++pins) (us.map some++ρc) xx σ8 H8 m5 (λb' H'=>b'=b/\∃m',Ext X.K m5 H8 m' H'/\bJ X.K m' E_ H') S7 R8 (by rw[eg];exact λm' H' e' S'=>⟨rfl,m',e',S'⟩) ([]++eC fp s7.heap) s8 W2;refine age NG (λok s9 h9=>?_) λ_ _ z=>ae z;obtain⟨H9,I9,rfl,m9,e9,S9⟩:=h9;cases ok with
    |false=>
     dsimp only at bA;by_cases c6:ck E_
     ·rw[if_pos c6]at bA;rw[if_neg bF];exact back I9 (e57.trans e9) e9 S9 c6 bA
     ·rw[if_neg c6]at bA;cases bA
    |true=>
     dsimp only at bA;rw[if_pos rfl];cases ee:ge (us.map some++ρc) E_ with
     |err c LL=>rw[ee]at bA;cases bA
     |bad=>rw[ee]at bA;cases bA
     |ok w LL=>
      rw[ee]at bA;dsimp only at bA;cases ea:pY (.ref st1.length) w LL with
      |err c QK=>rw[ea]at bA;cases bA
      |bad=>rw[ea]at bA;cases bA
      |ok w2 QK=>
       rw[ea]at bA;dsimp only at bA;by_cases c8:ck QK
       ·rw[if_pos c8]at bA;have el:=hE s3.heap.objs.size s3 H3 (X.pn++pins) (us.map some++ρc) E_ σ8 H9 m9 (λv' H'=>∃m',Ext X.K m9 H9 m' H'/\bJ X.K m' LL H'/\ag X.K m' H' w v') S9 (R8.mono e9) (by rw[ee];exact λv' m' H' e' S' r'=>⟨m',e',S',r'⟩) ([]++eC fp s7.heap) s9 I9;refine age el (λu2 Yz Vp=>?_) λ_ _ z=>ae z;obtain⟨v2,GX,YA,r2,QL,W3,YB,QM⟩:=Vp;obtain⟨r,h1,h2⟩:=AH (X:=Xc);have eA:=(e57.trans e9).trans W3;have ro:ag X.K QL GX (.ref st1.length) (.ref D):=by unfold ag;exact⟨D,rfl,eA.pre _ _ LJ⟩
        have rd:=h2 (.ref st1.length) w (.ref D) v2 LL GX QL (λ_ H'=>∃m',Ext X.K QL GX m' H'/\bJ X.K m' QK H') YB ro QM (by rw[ea];exact λv' m' H' e' S' r'=>⟨m',e',S'⟩);refine age (h1 ([]++eC fp s7.heap) Yz σ8 GX (.ref D) [v2] (.ref D) [u2] _ YA rfl (.cons r2 .nil) rd) (λ_ s11 h11=>?_) λ_ _ z=>ae z;obtain⟨_,YC,YD,_,m11,W4,YE⟩:=h11;exact back YD (eA.trans W4) ((e9.trans W3).trans W4) YE c8 bA
       ·rw[if_neg c8]at bA;cases bA
  ·have ek:k=ws.length:=by omega
   subst ek;refine bR (T.done Xc rfl rfl rfl hc _ [] s5 σ5 H5 _ I5 (QI H5 Pb) Vn (hstop _ H5 m5 xx GW S5 c5 rfl)) λr s6 h6=>?_;obtain⟨rfl,I6⟩:=h6;rw[AE]at bA;cases bA;obtain⟨mm,YF,_⟩:=id I6.loc;have fC:=I3.zZ (H':=H5) (ar _) I6.free;exact fin D _ mm m5 H5 _ GW S5 (e5.pre _ _ LJ) (YK I3 f3 I6) fC YF fC.2.2.2.2.1
 have Rn:aG X.K m3 H3 (ay (x::xr).length none++ρc) (ay (x::xr).length none++σc):=by
  refine⟨by rw[cJ,cJ,R3.len];simp,λi w e=>?_⟩;by_cases hi:i < (x::xr).length
  ·rw[dM (by rw[j9];exact hi),ql,if_pos hi]at e;cases e
  ·rw[fz (by rw[j9];omega),j9]at e ⊢;exact R3.get _ w e
 have p0:Pv 0 { s3 with heap:=h4,toks:=s3.toks }:=⟨_,H3,st1++[Ob.lst []],m3,Ic,Rn,t4,λb hb=>(f3 b hb).1,Ext.refl,S3,hck,by rw[AJ];exact run⟩;exact codeAny_compStart_list (loop _ p0) (T.self X.A 0 _ _ _ t4 (loop _ p0))
def lC(n:Nat)(cs:dQ)(gt:GT)(ge:GE)(ρ:bX)(w:TX)(st:Hs):Re Wv:=match jr (Fb w.1) n (λv=>gt (v.map some++cX cs ρ)) (λv=>ge (v.map some++cX cs ρ)) st.length w.2 (st++[.lst []])with
 |some oF=> .ok (.ref st.length) oF
 |none=> .bad
def ng(n:Nat)(cs:dQ)(gi:L4)(gt:GT)(ge:GE):GE:=λρ st=>(gi ρ st).bind λw st1=>lC n cs gt ge ρ w st1
theorem L7{c:Option (Nat×List Wv)}(h:Fb c st):Fb c (st++more):=by
 cases c with
 |none=>trivial
 |some p=>exact uQ h
theorem ym{P:Wv->Hs->Prop}
  {pins:List (afR×Obj)}{ps:Pos}
  (CS:mB X scope x xr cs)(sl:fH es (x::xr))(hc:X.calm=true)(hi:Q5 X (.Tuple es kt pt) iter gi)(hE:∀C s0 H0 fp pn,JE (fG X scope (x::xr) cs C s0 H0 fp pn) elt ge)(hT:∀C s0 H0 fp pn,B9 (fG X scope (x::xr) cs C s0 H0 fp pn) ifs gt)(hs:∀x,af5 iter X.env x=pure x)
  (S:bJ X.K m st H)(R:aG X.K m H ρ σ)(I:Inv X pins σ H s)(p:aE X σ m H (ng (x::xr).length cs gi gt ge ρ st) P)
  (fin:∀(w:Wv)(oF:Hs)(v:V)(D C:afR)(mm:Str->Option afX)(m':Mp)(H':Hp)(s':afW),P w oF->Ext X.K m H m' H'->bJ X.K m' oF H'->ag X.K m' H' w v->v= .ref D->Inv X pins σ H' s'->ff X pins H' C->s'.heap.Ns C mm->af3 (model X.prog X.w) X.A X.xe use Q (.ref D) C (.ok .next) s'):
  aga (model X.prog X.w) X.A (comprehension (.ListComp elt [⟨.Tuple es kt pt,iter,ifs,0⟩] scope pos) scope X.env ps (newList []) false (eval iter X.env) use) Q X.xe s:=by
 obtain⟨wi,YI,hw⟩:=hi
 let R':It->Hp->Prop:=λJ' H1=>∃(w:TX)(st1:Hs)(m1:Mp),aE X σ m H (lC (x::xr).length cs gt ge ρ w st1) P/\Ext X.K m H m1 H1/\bJ X.K m1 st1 H1/\Fb w.1 st1/\Hk X w m1 H1 J'
 have hr:=hw ρ st σ H m R' S R ((aE.bind p).imp Ext.refl λw st1 q m1 H1 J' e1 S1 c1 AL=>⟨w,st1,m1,q,e1,S1,c1,AL⟩);refine wpAny_comprehension_free (g:=⟨.Tuple es kt pt,iter,ifs,0⟩) (gs:=[]) (cl:=t7 X.env scope.names []) rfl hs (B7 (CS.one.has I.ok)) CS.one.kind (λy hy e=>by rw[CS.one.look y hy,e]) (bR (YI pins s σ H R' I hr) λv s1 h1=>bR h1 λitv s2 h2=>?_);obtain⟨it,fp,tn,J',H1,rfl,I2,T,t0,f2,w,st1,m1,q,e1,S1,c1,AL⟩:=h2;unfold lC at q;cases run:jr (Fb w.1) (x::xr).length (λv=>gt (v.map some++cX cs ρ)) (λv=>ge (v.map some++cX cs ρ)) st1.length w.2 (st1++[.lst []])with
 |none=>rw[run]at q;exact ae q
 |some oF=>rw[run]at q;refine yk (RR:=λacc C=>af3 (model X.prog X.w) X.A X.xe use Q acc C) CS sl hc I2 T t0 f2 S1 (R.mono e1) (L7 c1) run (λC s0 H0 pn=>hE C s0 H0 fp pn) (λC s0 H0 pn=>hT C s0 H0 fp pn) AL.go AL.stop AL.xv ?_;intro D C mm m' H' s' e' S' LJ I' fC ns _;exact fin _ oF (.ref D) D C mm m' H' s' q (e1.trans e') S' (by unfold ag;exact⟨D,rfl,LJ⟩) rfl I' fC ns
theorem yn
  (CS:mB X scope x xr cs)(sl:fH es (x::xr))(hc:X.calm=true)(hi:Q5 X (.Tuple es kt pt) iter gi)(hE:∀C s0 H0 fp pn,JE (fG X scope (x::xr) cs C s0 H0 fp pn) elt ge)(hT:∀C s0 H0 fp pn,B9 (fG X scope (x::xr) cs C s0 H0 fp pn) ifs gt)(hs:∀x,af5 iter X.env x=pure x):
  JE X (.ListComp elt [⟨.Tuple es kt pt,iter,ifs,0⟩] scope pos) (ng (x::xr).length cs gi gt ge):=λρ st σ H m Q S R p pins s I=>by
 rw[eval_ListComp];refine ym (use:=none) CS sl hc hi hE hT hs S R I p ?_;intro w oF v D C mm m' H' s' q e' S' rw' ev I' fC ns;exact⟨mm,ns,λh' same=>⟨.ref D,H',mq I' fC same,rfl,ev ▸ q v m' H' e' S' rw'⟩⟩
theorem Hq(i:Nat){y:Str}{spos py:Pos}(hN:X.N.Nodup)
  (CS:mB X scope x xr cs)(sl:fH es (x::xr))(hc:X.calm=true)(hi:Q5 X (.Tuple es kt pt) iter gi)(hE:∀C s0 H0 fp pn,JE (fG X scope (x::xr) cs C s0 H0 fp pn) elt ge)(hT:∀C s0 H0 fp pn,B9 (fG X scope (x::xr) cs C s0 H0 fp pn) ifs gt)(hs:∀x,af5 iter X.env x=pure x)
  (hx:X.N[i]? =some y)(hl:Loc X.env.scope y)(hf:X.fn y=true\/X.env.scope.names.lookup y=some .local):
  JS X (.Assign [.Name y py] (.ListComp elt [⟨.Tuple es kt pt,iter,ifs,0⟩] scope pos) spos) (bS i (ng (x::xr).length cs gi gt ge)):=by
 have sw:∃b,swapsWith (.ListComp elt [⟨.Tuple es kt pt,iter,ifs,0⟩] scope pos) (some (.Name y py)) spos.line X.env=pure b:=⟨_,rfl⟩;obtain⟨b,sw⟩:=sw;cases b with
 |false=>exact vS i hN (yn CS sl hc hi hE hT hs) hx hl sw hf
 |true=>
  intro ρ st σ H m D S R p pins s I;rw[exec_Assign_Name_used _ _ _ _ sw];refine agb (wpAny_standAt (agb ?_));show aga _ X.A (do let _ <-comprehension (.ListComp elt [⟨.Tuple es kt pt,iter,ifs,0⟩] scope pos) scope X.env _ (newList []) false (eval iter X.env) (some (assign (.Name y py) X.env))) _ _ s;refine agb (age (ym (use:=some (assign (.Name y py) X.env)) (Q:=λ_ s'=>SP X pins D .next s') CS sl hc hi hE hT hs S R I (aV.df R p) ?_) (λ_ s' hq=>agh (agh hq)) λ_ _ e=>e);intro w oF v D' C mm m' H' s' q e' S' rw' ev I' fC ns;refine wpAny_assign_Name (oG (i:=i) I' hN hx hl (show RelV v (.ref D') by rw[ev];rfl) (λs2 I2 h2=>?_) hf);obtain⟨a,sb,ha⟩:=h2;have hca:C≠a:=by
   rcases ha with z |z
   ·rw[z];exact fC.2.1
   ·exact bC (fC.2.2.2.2.1 y a z)
  exact⟨mm,ns.sameBut sb hca,λh' same=>⟨_,_,mq I2 fC same,q _ m' H' e' S' ((R.mono e').set i rw')⟩⟩
end
def Hr:List Wv->Hs->Re Wv:=λ_ _=> .bad
theorem qx{st:Stmt}(KX:K.In h)(NS:h.Ns af7 mg)(D:bu K x st)
  (hb:∀(kV doc pm:afX)(an:Option afR)(cdv ct:afX)(us:List afX),us.length=ps.length->bindArgs (PySem.W.fnOf x x (defArgs st) (defBody st) (defScope st) .none kV doc pm an cdv ct) ⟨us,[]⟩=pure (ps.zip us)):
  fj P w K mg base k x ps.length Hr:=by
 obtain⟨f,fd,a,F⟩:=D;exact⟨f,fd,ps,⟨λvs H Q E ⟨_,_,_,_,_,_,p⟩=>ae p,λA outer s H args us vs Q E hr e0 hb r ⟨_,_,_,_,_,_,p⟩=>ae p⟩,PySem.W.mg_of KX NS a,F.kp,F.binds hb⟩
section
variable {X:Cx}
theorem Ht:fV X (af0 .Mult) (λx y H Q=>∃z n,x= .str z/\y= .int n/\(n=0\/n=1)/\Q (.str (if n=0 then PySem.Str.empty else z)) H):=by
 intro pins s σ H x y v u Q I rx ry h;obtain⟨z,n,rfl,rfl,hn,q⟩:=h;obtain⟨t,rfl⟩:=rx;obtain⟨t',rfl⟩:=ry;rcases hn with rfl |rfl
 ·exact PySem.P.mul_str_none (by omega) (by omega) ⟨.str PySem.Str.empty,H,I.tok _,⟨_,rfl⟩,q⟩
 ·refine PySem.P.mul_str (by decide) (λ_ h=>by cases h) (λ_ h=>by cases h) ?_;rw[if_neg (by omega),if_pos (by rfl)];exact⟨.str z,H,I,⟨t,rfl⟩,q⟩
def NZ:fX:=λx y st=>match x,y with
 |.str z,.int n=>if n=0\/n=1 then .ok (.str (if n=0 then PySem.Str.empty else z)) st else rN (.str z) (.int n) st
 |x,y=>rN x y st
theorem L8:jU X (af0 .Mult) NZ:=by
 obtain⟨r,h1,h2⟩:=LN (X:=X);refine⟨_,fV.or Ht h1,λx y a b st H m Q S rx ry p=>?_⟩;cases x with
 |str z=>
  cases y with
  |int n=>
   have p':dC X.K m H (if n=0\/n=1 then .ok (.str (if n=0 then PySem.Str.empty else z)) st else rN (.str z) (.int n) st) Q:=p;by_cases c:n=0\/n=1
   ·rw[if_pos c]at p';obtain⟨rfl,ok⟩:=fg rx;refine .inl ⟨z,n,rfl,aX ry,c,p' _ m H Ext.refl S (mkStr ?_)⟩;by_cases c0:n=0
    ·rw[if_pos c0];decide+kernel
    ·rw[if_neg c0];exact ok
   ·rw[if_neg c]at p';exact .inr (h2 _ _ _ _ st H m Q S rx ry p')
  |_=>exact .inr (h2 _ _ _ _ st H m Q S rx ry p)
 |_=>exact .inr (h2 _ _ _ _ st H m Q S rx ry p)
end
abbrev LF:=List Wv->List Wv->Hs->Re Wv
def spL(K:PySem.W.Frag)(n:Nat)(p:Lm)(L:LF):Sp:=λvs H Q E=>∃m st ws caps,bJ K m st H/\ai K m H ws vs/\ai K m H caps p.xs/\H p.c=some (.ext (FV p.c p.q))/\ws.length=n/\NO K m H (L caps ws st) Q E
def L9(P:afV)(w:afY)(K:PySem.W.Frag)(mg:Str->Option afX)(base:Heap)(k:Nat)(p:Lm)(n:Nat)(L:LF):Prop :=
 ∃fd ps ob,FnOk P w K mg base (CXJ P w) k p.a fd ps (spL K n p L)/\base.get? p.a=some ob/\ob.data= .func fd/\Binds K fd ps []
section
variable {P:afV}{w:afY}{K:PySem.W.Frag}{mg:Str->Option afX}{base:Heap}{p:Lm}{scope:Scope}{x1 x2 x3 y:Str}{cy:afR}
theorem YN(r:ai K m H ws vs)(h:ws.length=3):∃w1 w2 w3 v1 v2 v3,ws=[w1,w2,w3]/\vs=[v1,v2,v3]/\ag K m H w1 v1/\ag K m H w2 v2/\ag K m H w3 v3:=by
 match ws,h with
 |[w1,w2,w3],_=>unfold ai at r;obtain⟨v1,t1,rfl,r1,r⟩:=r;unfold ai at r;obtain⟨v2,t2,rfl,r2,r⟩:=r;unfold ai at r;obtain⟨v3,t3,rfl,r3,r⟩:=r;unfold ai at r;subst r;exact⟨w1,w2,w3,v1,v2,v3,rfl,rfl,r1,r2,r3⟩
end
structure N0(X:Cx)(q:Str)(P:afR):Prop where
 code:∃c,X.env.code= .ref c/\PySem.W.CodeHd X.base c P
 qual:X.env.qual=q++".<locals>."
 tab:ka X.K q=some P
 mem:q∈dA
 uniq:∀q',q'∈dA->ka X.K q'=some P->q'=q
 bm:∃bm ob,X.mg "__builtins__"=some (.ref bm)/\bm≠builtinsNs/\bm≠af7/\X.base.get? bm=some ob/\ob.cls= .type "module"/\ob.dict=some builtinsNs/\ob.data= .plain
abbrev W6:=Lm->LF->List Wv->Hs->Re Wv
def YO(mg:Str->Option afX)(base:Heap):Prop:=∃bm ob,mg "__builtins__"=some (.ref bm)/\bm≠builtinsNs/\bm≠af7/\base.get? bm=some ob/\ob.cls= .type "module"/\ob.dict=some builtinsNs/\ob.data= .plain
def AU(K:PySem.W.Frag)(mg:Str->Option afX)(base:Heap):Prop:=Mod K mg base/\YO mg base
def FnL(P:afV)(w:afY)(K:PySem.W.Frag)(mg:Str->Option afX)(k j:Nat)(x:Str)(FL:W6):Prop :=
 (∃f,mg x=some (.ref f)/\PySem.W.keepIn K (.ref f)=true)/\∀(base:Heap)(p:Lm)(L:LF),AU K mg base->L9 P w K mg base (j+1) p 3 L->fj P w K mg base k x 2 (FL p L)
variable{vs:Array afX}{u:afX}
section
variable {P:afV}{w:afY}{A:afS}{E:afX->afW->Prop}{s:afW}
theorem rW{j t:afR}(hj:s.heap.IsTupleIter j t i)(ht:s.heap.IsTuple t vs)(hu:vs[i]? =some u)
  (k:∀g,g.IsTupleIter j t (i+1)->eB j s.heap g->Q u { s with heap:=g }):aga (model P w) A (oT (.ref j)) Q E s:=by
 obtain⟨oj,ej,cj,dj⟩:=id hj;obtain⟨ot,et,_,nt,dt⟩:=ht;unfold oT;refine agb (wpAny_callSpecial?_slot (name:=gY "__next__") hj.typeIs AV (wpAny_call_entry AV hj.typeIs Q7 ?_ (Q8 _)));show aga _ _ (field (.ref j) 0 >>= _) _ _ s;refine agb (wpAny_field ej dj (x:=.ref t) rfl ?_);show aga _ _ (if(aA t == bg)=true then _ else _) _ _ s;rw[if_neg (by intro z;exact bF z)];show aga _ _ (field (.ref j) 1 >>= _) _ _ s;refine agb (wpAny_field ej dj (x:=.int i 0) rfl ?_);show aga _ _ (seqItems? (.ref t) >>= _) _ _ s;refine agb (wpAny_seqItems et dt ?_);simp only[ke,hu];refine agb (wpAny_setField ej dj (by simp) (agh ⟨u,rfl,agh (k _ ?_ (fF ..))⟩));refine⟨_,j_ _ ej (nM (f9 dj _)),(qq ..).trans cj,?_⟩;rw[f9 dj];simp[rawInt]
theorem Ed{j t:afR}(hh:A.handled=none)(hj:s.heap.IsTupleIter j t i)(ht:s.heap.IsTuple t vs)(hu:vs[i]? =none)
  (k:∀g e,wa j s.heap g->(∃o,g.get? e=some o/\o.cls= .type "StopIteration")->E (.ref e) { s with heap:=g }):aga (model P w) A (oT (.ref j)) Q E s:=by
 obtain⟨oj,ej,cj,dj⟩:=id hj;obtain⟨ot,et,_,nt,dt⟩:=ht;unfold oT;refine agb (wpAny_callSpecial?_slot (name:=gY "__next__") hj.typeIs AV (wpAny_call_entry AV hj.typeIs Q7 ?_ (Q8 _)));show aga _ _ (field (.ref j) 0 >>= _) _ _ s;refine agb (wpAny_field ej dj (x:=.ref t) rfl ?_);show aga _ _ (if(aA t == bg)=true then _ else _) _ _ s;rw[if_neg (by intro z;exact bF z)];show aga _ _ (field (.ref j) 1 >>= _) _ _ s;refine agb (wpAny_field ej dj (x:=.int i 0) rfl ?_);show aga _ _ (seqItems? (.ref t) >>= _) _ _ s;refine agb (wpAny_seqItems et dt ?_);simp only[ke,hu];refine agb (wpAny_rule (agb (wpAny_setField ej dj (by simp) ?_)));show aga _ _ (newExc (.type "StopIteration") [] >>= _) _ _ _;refine agb ?_;simp only[newExc,newTuple];refine agb (agg ?_ (by size_fits));refine agb (m:=firstArgMember _ _) (wpAny_of_eq (a:=bg) (by first |rfl |(simp only[firstArgMember];rfl)) ?_);refine agg ?_ (by size_fits);simp only[raiseNew];refine agb (wpAny_handled ?_)
 first |rw[show A.in1.handled=none from hh] |rw[hh]
 refine agb (agh (wpAny_throw ?_));exact k _ _ (((fF ..).extBut.push _).push _) ⟨_,bE _ rfl,rfl⟩
end
theorem boot_zip:af1 "zip"=some (.type "zip"):=by decide+kernel
theorem YQ(a b c d:afX):argsOk "object.__init__" ⟨[a,b,c,d],[]⟩:=by unfold argsOk;rw[signature?_of (id:="object.__init__") (n:=['_','_','t','i','n','i','_','_']) (o:=['t','c','e','j','b','o']) (by kernel_rfl) F.owner_object];kernel_rfl
abbrev zA(h:Heap)(t1:afR):Heap:=h.push { cls:=.type "tuple_iterator",data:=.fields #[.ref t1,.int 0 0] }
abbrev zB(h:Heap)(t1 t2:afR):Heap:=zA (zA h t1) t2
abbrev zC(h:Heap)(t1 t2 t3:afR):Heap:=zA (zB h t1 t2) t3
abbrev zD(h:Heap)(t1 t2 t3:afR):Heap:=(zC h t1 t2 t3).push { cls:=.type "tuple",data:=.seq #[.ref h.objs.size,.ref (zA h t1).objs.size,.ref (zB h t1 t2).objs.size] }
def YR(lo c:Int)(n:Nat):It:=⟨λi _=>i < n,λi H v H'=>H'=H/\v= .int (lo+i * c),λi _=>n<=i⟩
theorem yo(it:afR)(lo c:Int)(n:Nat):Turn P w K tg (YR lo c n) [it] it (λi h=>IsRangeIter h it (lo+(i:Nat) * c) ((n:Int) - (i:Nat)) c) where
 mem:=by simp
 obj:=λi h st b hb=>by
  have e:b=it:=by simpa using hb
  subst e;exact⟨_,st,λv z=>by cases z⟩
 keep:=λi h h' st k=>k it (by simp) _ st
 item:=by intro X hP hw hK hc i pins s σ H E I hf st hg;subst hP hw hK;obtain⟨f0,f1,f2,f3,f4,f5⟩:=hf it (by simp);have W:=Walks.range (prog:=X.prog) (w:=X.w) (I.ok.hd hc) it lo c n;refine W.item i s _ _ hg st λv h' tk hv st' kk=>?_;obtain⟨t,rfl⟩:=hv;have I1:Inv X pins σ H { s with heap:=h',toks:=tk }:=I.turned (λb o hb e=>kk b o (by simpa using hb) e) f0 f1 f3 f4 f5;exact⟨_,rfl,ux (s:={ s with heap:=h',toks:=tk }) (n:="range_iterator") st' rfl rfl (by decide) ⟨.int (lo+i * c),H,I1,⟨t,rfl⟩,⟨rfl,rfl⟩,st',λb hb=>(hf b hb).1⟩⟩
 done:=by intro X hP hw hK hc i pins s σ H E I hf st hg;subst hP hw hK;obtain⟨f0,f1,f2,f3,f4,f5⟩:=hf it (by simp);exact wpAny_pyNext_range_end (I.ok.hd hc) st (by have:n<=i:=hg;omega) λh' eb=>⟨rfl,I.turned (t':=s.toks) (λb o hb e=>eb b o hb e) f0 f1 f3 f4 f5⟩
 self:=λ_ _ _ _ _ st h=>wpAny_pyIter_rangeiter st h
theorem Ee(a b c:afX):checkTypeCall "range" ⟨[a,b,c],[]⟩=pure ():=by kernel_rfl
theorem Ef(a b c:afX):checkBuiltinCall "range.__new__" ⟨[.type "range",a,b,c],[]⟩=pure ():=by kernel_rfl
def L_(a b c:Int):Prop:=0<=a/\a < 2 ^ 30/\0<=b/\b < 2 ^ 30/\1<=c/\c < 2 ^ 30
instance {a b c}:Decidable (L_ a b c):=Gz _
def n_(a b c:Int):Nat:=(if a < b then(b - a - 1) / c+1 else 0).toNat
variable{b c:Int}
theorem Eg{a:Int}(h:L_ a b c):vx a b c=n_ a b c:=by
 obtain⟨h1,h2,h3,h4,h5,h6⟩:=h;unfold vx n_;rw[if_pos (by omega)];by_cases e:a < b
 ·rw[if_pos e];have:0<=(b - a - 1) / c:=Int.ediv_nonneg (by omega) (by omega);omega
 ·rw[if_neg e];rfl
theorem AW{a:Int}(h:L_ a b c):Q9 a b c=true:=by
 obtain⟨h1,h2,h3,h4,h5,h6⟩:=h;unfold Q9 vx;have d1:0<=(b - a - 1) / c\/¬a < b:=by
  by_cases e:a < b
  ·exact .inl (Int.ediv_nonneg (by omega) (by omega))
  ·exact .inr e
 have d2:a < b->(b - a - 1) / c<=b - a - 1:=λe=>Int.ediv_le_self _ (by omega);simp only[Builtin.Range.rangeFitsLong,bN,AA,decide_eq_true_eq,beq_iff_eq,show c > 0 by omega,if_true];split<;>omega
theorem VA{a:Int}(h:L_ a b c):Q_ (b - a) c=false:=by
 obtain⟨h1,h2,h3,h4,h5,h6⟩:=h;have e0:(c == 0)=false:=by rw[beq_eq_false_iff_ne];omega
 have e1:c.natAbs.log2 < 30:=(Nat.log2_lt (by omega)).mpr (by omega);have e2:c.natAbs.log2 / 30=0:=Nat.div_eq_of_lt e1;simp[Q_,e0,e2]
theorem yp{a:Int}{u v:Tok}(h:L_ a b c)
  (k:Q (.ref s.heap.objs.size) { s with heap:=s.heap.push { cls:=.type "range",data:=.fields #[.int a t,.int b u,.int c v] } }):aga (model P w) A (call (.type "range") [.int a t,.int b u,.int c v]) Q E s:=by
 refine callType_new F.called_range (by decide) (Ee _ _ _) (Ef _ _ _) (λobj=>YQ obj _ _ _) F.entry_range_new (AutoRange.range___new___type_int_int_int_1 a b c t u v F.called_range.sub ?_) ⟨VA h,⟨_,bE _ rfl,rfl⟩,k⟩;have:c≠0:=by have:=h.2.2.2.2.1;omega
 simpa using this
variable{ls:List Expr}
section
variable {X:Cx}{tg:Expr}
def VB(ta:TA):TI:=λσ H R=>ta σ H λvs H1=>∃a b c:Int,vs=[.int a,.int b,.int c]/\L_ a b c/\R (YR a c (n_ a b c)) H1
theorem ints3{a:Int}{us:List afX}(r:Vals [.int a,.int b,.int c] us):∃t u v,us=[.int a t,.int b u,.int c v]:=by
 cases r with
 |cons r1 r=>
  cases r with
  |cons r2 r=>
   cases r with
   |cons r3 r=>cases r;obtain⟨t,rfl⟩:=r1;obtain⟨u,rfl⟩:=r2;obtain⟨v,rfl⟩:=r3;exact⟨t,u,v,rfl⟩
theorem Eh{ta:TA}{p:Pos}(hg:Gl X "range")(hm:X.mg "range"=none)(ha:PA X (l::ls) ta)(hst:af9 (l::ls) X.env=(false,eval l X.env)::af9 ls X.env)(hpl:(backTo pos (af9 ls X.env)).any (·.1)=false):
  PI X tg (.Call (.Name "range" p) (l::ls) [] pos) (VB ta):=by
 intro pins s σ H R I h;refine wpAny_Call_Name_kw (gK I hg hm boot_range ?_);refine j7 (bR (ha pos pins s σ H _ I h) λus s1 ⟨vs,H1,I1,r1,q1⟩=>?_) hst hpl;obtain⟨a,b,c,rfl,hc,q⟩:=q1;obtain⟨t,u,v,rfl⟩:=ints3 r1;refine yp hc ?_;refine wpAny_pyIter_range (IsRange.new ..) (AW hc) ?_;have I2:Inv X pins σ H1 { s1 with heap:=s1.heap.push { cls:=.type "range",data:=.fields #[.int a t,.int b u,.int c v] } }:=I1.kept (t':=s1.toks) λb o e=>aT _ e;refine⟨(s1.heap.push { cls:=.type "range",data:=.fields #[.int a t,.int b u,.int c v] }).objs.size,[(s1.heap.push { cls:=.type "range",data:=.fields #[.int a t,.int b u,.int c v] }).objs.size],_,_,H1,rfl,I2.kept (t':=s1.toks) λb o e=>aT _ e,yo _ a c (n_ a b c),?_,λy hy=>?_,q⟩
 ·have e1:a+((0:Nat):Int) * c=a:=by simp
  have e2:((n_ a b c:Nat):Int) - ((0:Nat):Int)=vx a b c:=by rw[Eg hc];simp
  show IsRangeIter _ _ (a+((0:Nat):Int) * c) (((n_ a b c:Nat):Int) - ((0:Nat):Int)) c;rw[e1,e2];exact bE _ rfl
 ·have e:y=(s1.heap.push { cls:=.type "range",data:=.fields #[.int a t,.int b u,.int c v] }).objs.size:=by simpa using hy
  subst e;exact I2.zZ (ar _) (I2.hok.fresh (ar _))
def yq(lo c:Int)(n:Nat):List Wv:=(aU n).map λk:Nat=>Wv.int (lo+k * c)
theorem rX:(yq lo c n).length=n:=by unfold yq;simp
theorem Ei(h:k < n):(yq lo c n)[k]? =some (.int (lo+k * c)):=by unfold yq;rw[cM,List.getElem?_range h];rfl
theorem Hu(h:k < (yq lo c n).length):(yq lo c n)[k]= .int (lo+k * c):=by have q:=Ei (lo:=lo) (c:=c) (n:=n) (k:=k) (by rw[rX]at h;exact h);rw[bh h]at q;exact Option.some.inj q
def Hv(i:Nat)(ga:GA)(gb:GS):GS:=λρ st=>(ga ρ st).bR ρ λws st1=>match ws with
 |[.int a,.int b,.int c]=>if L_ a b c then c_ i gb (yq a c (n_ a b c)) ρ st1 else .bad
 |_=> .bad
theorem Hw(i:Nat){p:Pos}(hN:X.N.Nodup)(hp:PassesOwn (model X.prog X.w) X.A X.env X.xe)(hc:X.calm=true)(hg:Gl X "range")(hm:X.mg "range"=none)(ha:JA X (l::ls) ga)(hb:oK X body gb)
  (hx:X.N[i]? =some x)(hlo:Loc X.env.scope x)(Qt:X.fn x=true\/X.env.scope.names.lookup x=some .local)(hst:af9 (l::ls) X.env=(false,eval l X.env)::af9 ls X.env)(hpl:(backTo q (af9 ls X.env)).any (·.1)=false):
  JS X (.For (.Name x pos') (.Call (.Name "range" p) (l::ls) [] q) body [] pos) (Hv i ga gb):=by
 refine JS.of (vy hp hc (Eh hg hm jL hst hpl) (nH hN hx hlo Qt) iZ (λ_=>rfl)) λρ st σ H m D S R p=>?_;refine ha.go S R (aV.df R p) λws st1 vs m1 H1 p1 e1 S1 rs=>?_;split at p1
 ·rename_i a b c;by_cases cc:L_ a b c
  ·rw[if_pos cc]at p1;obtain⟨w1,w2,w3,v1,v2,v3,e,rfl,r1,r2,r3⟩:=YN rs rfl;cases e;cases aX r1;cases aX r2;cases aX r3;refine⟨a,b,c,rfl,cc,nR (J':=YR a c (n_ a b c)) i hb S1 (R.mono e1) (aV.shift p1 e1) (λk H m' e hk=>by rw[rX]at hk;exact hk) (λk H m' e hk=>by rw[rX]at hk;exact nL hk.symm) λk hk H x H' m' e y=>?_⟩;obtain⟨y1,y2⟩:=y;refine⟨y1,?_⟩;rw[Hu,y2];exact mkInt
  ·rw[if_neg cc]at p1;exact ae p1
 ·exact ae p1
end
def u4(cat:PySem.Str->Option Bool)(gb gs:GS):GS:=λρ st=>match gb ρ st with
 |.err c ρ' st'=>(match cat c with
  |some true=>(match gs ρ' st' with
   |.nx ρ2 st2=> .nx ρ2 st2
   |.rt w st2=> .rt w st2
   |_=> .bad)
  |_=> .bad)
 |r=>r
variable{D:afR}
section
variable {X:Cx}
theorem Ma{suite:List Stmt}{b₀:Stmt}{gs:GS}{np hp:Pos}(K0:Yu X)(hc:X.calm=true)(O:TabOk X.K tb tt tc)
  (hg:Gl X x)(hm:X.mg x=some (.ref D))(hD:ClsAt X.K x D)(hd:(x == ("__debug__":Str))=false)
  (hb:∀(pn:List (afR×Obj))(E:afX->afW->Prop),oK (LH X X.A true pn E) body gb)(hs:∀(a:afR)(o:Obj)(u:HO)(pn:List (afR×Obj))(E:afX->afW->Prop),DY o->oK (Vd X a (.iV o u) pn E) (b₀::suite) gs):
  JS X (.Try body [.ExceptHandler (some (.Name x np)) none (b₀::suite) hp] [] [] pos) (u4 (λc=>tc.lookup (c,x)) gb gs):=by
 intro ρ st σ H m D' S R p pins s I;refine wpAny_Try_except ?_
 let hx':afX->afW->Prop:=λe s1=>aga (model X.prog X.w) X.A (noteFrame e X.env) (λ_ s2=>aga (model X.prog X.w) X.A (setFlight e none) (λ_ s3=>
  aga (model X.prog X.w) X.A (handleBy e X.env [.ExceptHandler (some (.Name x np)) none (b₀::suite) hp]) (SP X pins D') X.xe s3) X.xe s2) X.xe s1
 have hA:X.A.handled=none:=I.ok.hd hc;have Ib:Inv (LH X X.A true (X.pn++pins) hx') [] σ H s:=GH I rfl λ_=>hA;have post:aV (LH X X.A true (X.pn++pins) hx') m H (gb ρ st) D':=by
  unfold u4 at p;cases eb:gb ρ st with
  |nx ρ1 st1=>rw[eb]at p;exact p
  |rt w1 st1=>rw[eb]at p;exact p
  |bk ρ1 st1=>rw[eb]at p;exact p
  |ct ρ1 st1=>rw[eb]at p;exact p
  |bad=>rw[eb]at p;exact p
  |err c ρ1 st1=>
   rw[eb]at p;dsimp only at p;cases ec:tc.lookup (c,x)with
   |none=>rw[ec]at p;exact ae p
   |some bc=>
    cases bc with
    |false=>rw[ec]at p;exact ae p
    |true=>
     rw[ec]at p;dsimp only at p;intro σ1 m1 H1 e s1 e1 S1 R1 rz;obtain⟨C,iw,Hc,sc,hC,Ic,rz⟩:=rz;obtain⟨zC,zD,VC⟩:=O.cat c x true C D ec hC hD;refine land K0 (rF I.ok Ic) (rz.imp k_.er id) λa a0 B h5 ea E9 inv hn hnew=>?_;subst ea;obtain⟨ox,_,I5⟩:=inv h5 s1.toks E9 (Qo _);obtain⟨o5,ho5,hc5,_⟩:=(I5.hok a _ bq).2.1;have Im:=GH (A':=X.A.mark (some (.ref a))) (cm:=false) (E:=λ_ _=>False) I5 rfl (λz=>by cases z);refine wpAny_handleBy_cons (codeAny_handlers_test (qi Im hg hm ?_ hd)) (by intro q;cases q);refine DZ (b:=true) Im.vw zC zD VC ho5 hc5 ?_;refine codeAny_handlers_suite ?_;refine xD E9 λh6 Vf Vg=>?_;obtain⟨oy,nx,I6⟩:=inv h6 s1.toks Vf Vg;have e6:Ext X.K m1 H1 m1 (upd H1 a (.iV oy (.ext (pJ a C)))):=Ext.upd (.inl hn);have S6:bJ X.K m1 st1 (upd H1 a (.iV oy (.ext (pJ a C)))):=S1.fresh hn;have TU:=Qw (E:=λ_ _=>False) I6 bq hnew.1;cases es:gs ρ1 st1 with
     |nx ρ2 st2=>
      rw[es]at p
      let D2:Ends:={ nx:=D'.nx,rt:=λ_ _=>False,bk:=λ_ _=>False,ct:=λ_ _=>False }
      have go:=hs a oy (.ext (pJ a C)) (X.pn++pins) (λ_ _=>False) nx ρ1 st1 σ1 _ m1 D2 S6 (R1.mono e6) (by rw[es];exact λσ' m' H' e' S' R'=>p σ' m' H' (e1.trans (e6.trans e')) S' R') [] _ TU;refine age go (λf s8 h8=>?_) λ_ _ z=>z.elim;cases f with
      |next=>obtain⟨σ8,H8,I8,q8⟩:=h8;exact⟨_,H8,GJ I.ok hnew I8,q8⟩
      |brk=>obtain⟨_,_,_,q8⟩:=h8;exact q8.elim
      |cont=>obtain⟨_,_,_,q8⟩:=h8;exact q8.elim
      |ret u=>obtain⟨_,_,_,_,_,q8⟩:=h8;exact q8.elim
     |rt w2 st2=>
      rw[es]at p
      let D2:Ends:={ nx:=λ_ _=>False,rt:=D'.rt,bk:=λ_ _=>False,ct:=λ_ _=>False }
      have go:=hs a oy (.ext (pJ a C)) (X.pn++pins) (λ_ _=>False) nx ρ1 st1 σ1 _ m1 D2 S6 (R1.mono e6) (by rw[es];exact λv' m' H' e' S' R'=>p v' m' H' (e1.trans (e6.trans e')) S' R') [] _ TU;refine age go (λf s8 h8=>?_) λ_ _ z=>z.elim;cases f with
      |next=>obtain⟨_,_,_,q8⟩:=h8;exact q8.elim
      |brk=>obtain⟨_,_,_,q8⟩:=h8;exact q8.elim
      |cont=>obtain⟨_,_,_,q8⟩:=h8;exact q8.elim
      |ret u=>obtain⟨v8,σ8,H8,I8,r8,q8⟩:=h8;exact⟨v8,_,H8,GJ I.ok hnew I8,r8,q8⟩
     |bk ρ2 st2=>rw[es]at p;exact ae p
     |ct ρ2 st2=>rw[es]at p;exact ae p
     |err c2 ρ2 st2=>rw[es]at p;exact ae p
     |bad=>rw[es]at p;exact ae p
 refine age (hb (X.pn++pins) hx' ρ st σ H m D' S R post [] s Ib) (λf s1 h1=>?_) λe s1 h1=>h1;have h2:=Ve I.ok h1;cases f with
 |next=>exact wpAny_execs_nil h2
 |brk=>exact h2
 |cont=>exact h2
 |ret u=>exact h2
end
theorem Mb(l:afR)(items:Array afX)(n:Nat)(b:afR)(items2:Array afX)(n2:Nat)(dd:Option afR)(sl:Array (Option afX))(hs0:¬(!items.isEmpty&&q9 (items.size+items2.size))=true)(hs1:items.size<=af8)(hs2:items.size+items2.size<=af8+1):
  Meets (Builtin.«list.extend» ⟨[.ref l,.ref b],[]⟩) (λ_ R s=>s.heap.get? l=some { cls:=.type "list",dict:=none,data:=.seq items n,slots:=#[] }/\s.heap.get? b=some ⟨.type "tuple",dd,.seq items2 n2,sl⟩/\R (.ok (.ret bg)) { s with heap:=s.heap.update l (dO λx=>x++items2),toks:=s.toks }) :=
 .of_wp λprog w A R s h=>by
  obtain⟨hp,g,d,tk,os⟩:=s;obtain⟨hl,hb,h⟩:=h;have f1:=AutoSeq1.idx_int;have f2:=AutoSeq1.sub_tuple_tuple;have f3:=AutoSeq1.sub_list_list;have f4:=AutoSeq1.sub_tuple_list;have f5:=AutoSeq1.sub_list_tuple;have hz':(items++items2).size<=af8+1:=by rw[Array.size_append];exact hs2
  wp_walk using (wpAny_updateSeq hl rfl (hz:=hs1) (_hz':=hz')),wpAny_loadPart' hl,wpAny_loadPart' hb;exact⟨_,rfl,h⟩
def yt(K:PySem.W.Frag):V->List V->Hp->VK->Prop:=λx vs H Q=>∃l b xs zs,x= .ref l/\vs=[.ref b]/\H l=some (.lst xs)/\eO K H b zs/\xs.length+zs.length<=af8/\Q .bK (upd H l (.lst (xs++zs)))
section
variable {X:Cx}
theorem AX:Ye X "list.extend" (yt X.K):=by
 intro pins s σ H x vs v us Q I rx rv h;obtain⟨l,b,xs,zs,rfl,rfl,hH,hB,hz,q⟩:=h;cases rx;obtain⟨u,rfl,ru⟩:=rv.one;cases ru;obtain⟨z,its,n,r,hl,e⟩:=I.FI hH;obtain⟨its2,r2,⟨o,e2,oc,n2,od⟩,z2⟩:=I.tuple hB;obtain⟨oc',dd,od',sl⟩:=o;dsimp only at oc od;subst oc od;have l1:xs.length=its.length:=r.length;have l2:zs.length=its2.length:=r2.length;have hsz:its.toArray.size+its2.toArray.size<=af8:=by rw[aZ,aZ];omega
 have xA:¬(!its.toArray.isEmpty&&q9 (its.toArray.size+its2.toArray.size))=true:=by rw[qZ hsz,Ao];exact bF
 refine call_meets F.slot_list_extend ⟨_,e,rfl⟩ F.entry_list_extend (F.args_list_extend_2 _ _)
  (Mb l its.toArray n b its2.toArray n2 dd sl xA (by rw[aZ];omega) (by omega)) ⟨e,e2,?_⟩
 refine⟨.bK,_,I.PF (its':=its++its2) hH e (by simp) (r.append r2) ?_,rfl,q⟩;rw[cJ];omega
def yu(o v:Wv)(st:Hs):Re Wv:=match v with
 |.tup zs=>(match o with
  |.ref l=>(match st[l]? with
   |some (.lst ws)=>if ws.length+zs.length<=lim then .ok .bK (st.set l (.lst (ws++zs)))else .bad
   |_=> .bad)
  |_=> .bad)
 |v=>Qz o v st
theorem Mc:W0 X "list.extend" yu:=by
 obtain⟨r0,m0,h0⟩:=QA (X:=X);refine⟨λx vs H Q=>r0 x vs H Q\/yt X.K x vs H Q,?_,λo w x v st H m Q S ro rw' p=>?_⟩
 ·intro pins s σ H x vs v us Q I rx rv h;rcases h with h |h
  ·exact m0 pins s σ H x vs v us Q I rx rv h
  ·exact AX pins s σ H x vs v us Q I rx rv h
 ·cases w with
  |tup zs=>
   refine .inr ?_;cases o with
   |ref l=>
    unfold ag at ro rw';obtain⟨a,rfl,ha⟩:=ro;obtain⟨b,ys,rfl,hb,g2⟩:=rw';have p':dC X.K m H (match st[l]? with |some (.lst ws)=>if ws.length+zs.length<=lim then .ok .bK (st.set l (.lst (ws++zs)))else .bad |_=> .bad) Q:=p
    cases e:st[l]? with
    |none=>rw[e]at p';exact ae p'
    |some ob=>
     cases ob with
     |dct kvs=>rw[e]at p';exact ae p'
     |gM kvs=>rw[e]at p';exact ae p'
     |BW kvs=>rw[e]at p';exact ae p'
     |E7 kvs=>rw[e]at p';exact ae p'
     |FU kvs=>rw[e]at p';exact ae p'
     |ins _ _=>rw[e]at p';exact ae p'
     |xm ns=>rw[e]at p';exact ae p'
     |lst ws=>
      rw[e]at p';dsimp only at p';by_cases c:ws.length+zs.length<=lim
      ·rw[if_pos c]at p';obtain⟨xs,h1,h2⟩:=S.rh ha e;have e4:Ext X.K m H m (upd H a (.lst (xs++ys))):=Ext.upd (.inr ⟨xs,h1⟩);exact⟨a,b,xs,ys,rfl,rfl,h1,eO.of hb,by rw[<-h2.length,<-g2.length];exact eD c,p' _ m _ e4 (S.write ha e (h2.append g2)) B2⟩
      ·rw[if_neg c]at p';exact ae p'
   |_=>exact ae p
  |_=>exact .inl (h0 o _ x v st H m Q S ro rw' p)
end
def rY(neg:Bool):fX:=λx y st=>match a_ st 20 y,a_ st 20 x with
 |some (.list ds),some d=> .ok (.bl ((ds.any λz=>bI z d) != neg)) st
 |some (.tuple ds),some d=> .ok (.bl ((ds.any λz=>bI z d) != neg)) st
 |_,_=> .bad
variable{x:Wv}
section
variable {X:Cx}
def Ra(K:PySem.W.Frag)(neg:Bool):R2:=λa b H Q=>∃m st x y d ds c,bJ K m st H/\ag K m H x a/\ag K m H y b/\a_ st 20 y=some c/\(c= .list ds\/c= .tuple ds)/\a_ st 20 x=some d/\Q (.bl ((ds.any λz=>bI z d) != neg)) H
theorem Cy{ds:List PyData}{c:PyData}(h:c= .list ds\/c= .tuple ds)(k:c.canLay0=true):qd ds=true:=by rcases h with rfl |rfl<;>exact k
theorem Rb(hu:X.A.units+64 < cLine):fV X (af4 .In) (Ra X.K false):=by
 intro pins s σ H a b v u Q I rx ry h;obtain⟨m,st,x,y,d,ds,c,S,h1,h2,e1,hc,e2,q⟩:=h;obtain⟨as,q1,q2,q3⟩:=eF I S 20 x a v d h1 rx e2;obtain⟨bs,p1,p2,p3⟩:=eF I S 20 y b u c h2 ry e1;have hd:X.A.units+1+min (jX ds) d.depth < cLine:=by have:=BN (jX ds) d.depth;omega
 have e:∀t:Bool,(t != false)=t:=by decide
 rw[e]at q;have ca:=Cy hc p2;rcases hc with rfl |rfl
 ·exact SeqAt.in_list_reads p1 q1 ca q2 hd ⟨.bl _,H,I,rfl,q⟩
 ·exact SeqAt.in_tuple_reads p1 q1 ca q2 hd ⟨.bl _,H,I,rfl,q⟩
theorem Ej(hu:X.A.units+64 < cLine):fV X (af4 .NotIn) (Ra X.K true):=by
 intro pins s σ H a b v u Q I rx ry h;obtain⟨m,st,x,y,d,ds,c,S,h1,h2,e1,hc,e2,q⟩:=h;obtain⟨as,q1,q2,q3⟩:=eF I S 20 x a v d h1 rx e2;obtain⟨bs,p1,p2,p3⟩:=eF I S 20 y b u c h2 ry e1;have hd:X.A.units+1+min (jX ds) d.depth < cLine:=by have:=BN (jX ds) d.depth;omega
 have e:∀t:Bool,(t != true)= !t:=by decide
 rw[e]at q;have ca:=Cy hc p2;rcases hc with rfl |rfl
 ·exact SeqAt.notIn_list_reads p1 q1 ca q2 hd ⟨.bl _,H,I,rfl,q⟩
 ·exact SeqAt.notIn_tuple_reads p1 q1 ca q2 hd ⟨.bl _,H,I,rfl,q⟩
theorem Hx{neg:Bool}{y:Wv}{a b:V}{Q:VK}(S:bJ X.K m st H)(rx:ag X.K m H x a)(ry:ag X.K m H y b)(p:dC X.K m H (rY neg x y st) Q):Ra X.K neg a b H Q:=by
 unfold rY at p;split at p
 ·rename_i ds d e1 e2;exact⟨m,st,x,y,d,ds,_,S,rx,ry,e1,.inl rfl,e2,p _ m H Ext.refl S kY⟩
 ·rename_i ds d e1 e2;exact⟨m,st,x,y,d,ds,_,S,rx,ry,e1,.inr rfl,e2,p _ m H Ext.refl S kY⟩
 ·exact ae p
theorem Rc(hu:X.A.units+64 < cLine):jU X (af4 .In) (rY false):=⟨_,Rb hu,λx y a b st H m Q S rx ry p=>Hx S rx ry p⟩
theorem Ek(hu:X.A.units+64 < cLine):jU X (af4 .NotIn) (rY true):=⟨_,Ej hu,λx y a b st H m Q S rx ry p=>Hx S rx ry p⟩
end
def getD(d k:Wv)(st:Hs):Option Wv:=match d with
 |.ref l=>(match st[l]? with
  |some (.dct kvs)=>(match keyOf k with |some kk=>lz kvs kk |none=>none)
  |some (.gM kvs)=>(match mL k with |some kk=>lz kvs kk |none=>none)
  |some (.BW kvs)=>(match mL k with |some kk=>lz kvs kk |none=>none)
  |_=>none)
 |_=>none
variable{xs:List (List L2.Key×V)}
section
variable {X:Cx}
theorem Hy(ok:kZ P w H h)(e:Rd H a (.dT xs)):
  ∃es ep ys,xs.length<=af8/\(a == sysModules)=false/\yi h a es ep/\es.size=xs.length/\KT H xs ys/\es.toList=ys.map (entryOfKey (tupleKind (aw P w)))/\(ys.map (·.1)).Nodup:=by
 obtain⟨z,lo,ys,kt,o,es,ep,g1,g2,g3,g4,g5⟩:=(show dZ P w H h a (.dT xs) from FK ok e);have len:es.size=ys.length:=by have:=congrArg fv g4;simpa using this
 exact⟨es,ep,ys,z,lo,⟨o,g1,g2.1,g3⟩,by rw[len];exact(Paired.length kt).symm,kt,g4,g5⟩
def El:Option Ob->Option (List (List L2.Key×Wv))
 |some (.gM kvs)=>some kvs
 |some (.BW kvs)=>some kvs
 |_=>none
theorem Cz{l:Nat}{kvs:List (List L2.Key×Wv)}(S:bJ X.K m st H)(ha:m[l]? =some a)(h:El st[l]? =some kvs):∃xs,Rd H a (.dT xs)/\RelK X.K m H kvs xs:=by
 unfold El at h;split at h
 ·rename_i k' e;cases h;obtain⟨xs,h1,h2⟩:=(show ∃ys,H a=some (.dT ys)/\RelK X.K m H kvs ys from S.obj _ _ _ ha e);exact⟨xs,.inl h1,h2⟩
 ·rename_i k' e;cases h;obtain⟨o,xs,h1,h2⟩:=(show ∃o ys,H a=some (.iV o (.dT ys))/\RelK X.K m H kvs ys from S.obj _ _ _ ha e);exact⟨xs,.inr ⟨o,h1⟩,h2⟩
 ·cases h
def CA(ns:List Int):Int:=reduceHash (zU (ns.map hashInt))
def lD:List (List L2.Key)->Option (List (List Int))
 |[]=>some []
 |k::r=>(match yj k,lD r with |some ns,some l=>some (ns::l) |_,_=>none)
theorem rZ:∀{ks:List L2.Key}{ns:List Int},yj ks=some ns->ks=ns.map L2.Key.inl
 |[],ns,e=>by cases e;rfl
 |.inl i::r,ns,e=>by
  unfold yj at e;cases q:yj r with
  |none=>rw[q]at e;cases e
  |some l=>rw[q]at e;cases e;rw[aH,<-rZ q]
theorem Hz{ns:List Int}(h:yj ks=some ns):(tupleKind (aw P w)).hash ks=CA ns:=by rw[rZ h];show reduceHash (zU ((ns.map L2.Key.inl).map (aw P w).hash))=_;rw[cu];rfl
theorem r6{P:afV}{w:afY}:∀{VD:List (List L2.Key)}{nss:List (List Int)},lD VD=some nss->VD.map (tupleKind (aw P w)).hash=nss.map CA
 |[],nss,e=>by cases e;rfl
 |k::r,nss,e=>by
  unfold lD at e;cases q1:yj k with
  |none=>rw[q1]at e;cases e
  |some ns=>
   cases q2:lD r with
   |none=>rw[q1,q2]at e;cases e
   |some l=>rw[q1,q2]at e;cases e;rw[aH,aH,Hz q1,r6 q2]
def kl(ks:List (List L2.Key)):Bool:=match lD ks with
 |some nss=>decide ((nss.map CA).Nodup)
 |none=>false
end
theorem Em{o:Option V}(r:DA o (some u)):∃v,o=some v/\RelV v u:=by
 cases o with
 |none=>exact(show False from r).elim
 |some v=>exact⟨v,rfl,r⟩
section
variable {prog:afV}{w:afY}{K:Type} [DecidableEq K] {knd:HeapKind prog w K}{A:afS}{E:afX->afW->Prop}{s:afW}{a b:afR}{xs ys:List (K×afR×afX)}
theorem u6{id:String}{f:K->Bool}{Q:Bool->afW->Prop}(hu:knd.room A)(la:(a == sysModules)=false)(lb:(b == sysModules)=false)(hA:s.heap.DictOfH knd a xs)(hB:s.heap.DictOfH knd b ys)
  (hf:∀x∈xs,∀y∈ys,x.1=y.1->∀Q:Bool->afW->Prop,Q (f x.1) s->aga (model prog w) A (eqBool x.2.2 y.2.2) Q E s)
  (hQ:Q (decide (xs.length=ys.length)&&xs.all λx=>(atKey ys x.1).isSome&&f x.1) s):aga (model prog w) A (Rf id a b) Q E s:=by
 obtain⟨oa,ea,epa,a1,a2,a3,a4,a5,a6⟩:=hA;obtain⟨ob,eb,epb,b1,b2,b3,b4,b5,b6⟩:=hB;have za:ea.size=xs.length:=size_of_entries a4;have zb:eb.size=ys.length:=size_of_entries b4;unfold Rf Q0;rw[if_neg (by rw[la];exact bF),if_neg (by rw[lb];exact bF)];refine agb (agh (agb (agh (agb (agc a1 a3 (agb (agc b1 b3 ?_)))))));by_cases hl:xs.length=ys.length
 ·rw[if_neg (by rw[za,zb,hl];simp)];rw[decide_eq_true hl,Bool.true_and]at hQ;refine agb (wpAny_dictEpoch a1 a3 (agb ?_));rw[Std.Legacy.Range.forIn_eq_forIn_range'];simp only[Std.Legacy.Range.size,Nat.sub_zero,wc,Nat.div_one];generalize hg:(λx:K×afR×afX=>(atKey ys x.1).isSome&&f x.1)=g at hQ;refine wpAny_forIn_list _ (λrest st s'=>s'=s/\st=(none,())/\∃i,rest=kj i (xs.length - i)/\i<=xs.length/\xs.all g=(xs.drop i).all g) _ ?_ ?_ _ _ ⟨rfl,rfl,0,by rw[za,Nat.sub_zero],bH _,rfl⟩
  ·rintro x rest st s' ⟨rfl,rfl,i,hr,hi,hall⟩;have hlt:i < xs.length:=by
    rcases Nat.lt_or_ge i xs.length with h |h
    ·exact h
    ·rw[Md h]at hr;simp at hr
   obtain⟨rfl,hrest⟩:x=i/\rest=kj (i+1) (xs.length - (i+1)):=by
    have e:xs.length - i=(xs.length - (i+1))+1:=by omega
    rw[e,List.range'_succ]at hr;injection hr with h1 h2;exact⟨h1,h2⟩
   rw[rB hlt,de]at hall;have hm:xs[x]∈xs:=Cj hlt;refine agb (agc a1 a3 ?_);rw[entry_at a4 x,bh hlt];refine agb (agd ?_);have next:xs.all g=(xs.drop (x+1)).all g->∀Q':ForInStep (Option Bool×Unit)->afW->Prop,Q' (.yield (none,())) s'->aga (model prog w) A (do
     let TH <-dictEpoch a
     if(TH != epa)=true then do
       (unsupported (toString id++toString ":changed-during-callback"):Sem PUnit)
       pure (jl (none,()))
      else pure (jl (none,()))) Q' E s':=λ_ Q' q'=>by
    refine agb (wpAny_dictEpoch a1 a3 ?_);rw[if_neg (by simp)];exact agh q'
   refine agb (wpAny_dictFind_heap (k:=xs[x].1) hu (a5 _ hm) b1 b3 b4 b5 b6 (λno=>agh ?_) λj p hj=>?_)
   ·simp only[we,if_true];have gf:g xs[x]=false:=by rw[<-hg];simp only[atKey_none_of_get no];rfl
    rw[gf,j6]at hall;rw[hall]at hQ;exact agh (agh hQ)
   ·refine agb (agc b1 b3 ?_);rw[entry_at b4 j,hj];refine agd (hf _ hm _ (l6 hj) rfl _ ?_);have gf:g xs[x]=f xs[x].1:=by rw[<-hg];simp only[atKey_of_get b6 hj];rfl
    cases hv:f xs[x].1 with
    |false=>simp only[we,if_true];rw[gf,hv,j6]at hall;rw[hall]at hQ;exact agh (agh hQ)
    |true=>simp only[fc,aW,if_false];rw[gf,hv,Bool.true_and]at hall;exact next hall _ ⟨rfl,rfl,x+1,hrest,hlt,hall⟩
  ·rintro st s' ⟨rfl,rfl,i,hr,hi,hall⟩;have h0:xs.length - i=0:=by have:=congrArg fv hr;simpa using this.symm
   rw[Rg (by omega),List.all_nil]at hall;rw[hall]at hQ;exact agh hQ
 ·rw[if_pos (by rw[za,zb];simpa using hl)];rw[decide_eq_false hl,j6]at hQ;exact agb (wpAny_rule (agh hQ))
end
section
variable {prog:afV}{w:afY}{K:Type} [DecidableEq K] {knd:HeapKind prog w K}{A:afS}{E:afX->afW->Prop}{s:afW}{a b:afR}{xs ys:List (K×afR×afX)}
theorem Me{f:K->Bool}(hr:A.units < cLine)(hu:knd.room A.in1)(la:(a == sysModules)=false)(lb:(b == sysModules)=false)(hA:s.heap.DictOfH knd a xs)(hB:s.heap.DictOfH knd b ys)
  (hf:∀E:afX->afW->Prop,∀x∈xs,∀y∈ys,x.1=y.1->∀Q:Bool->afW->Prop,Q (f x.1) s->aga (model prog w) A.in1 (eqBool x.2.2 y.2.2) Q E s)
  (hQ:Q (.bool (decide (xs.length=ys.length)&&xs.all λx=>(atKey ys x.1).isSome&&f x.1)) s):aga (model prog w) A (af4 .Eq (.ref a) (.ref b)) Q E s:=by
 have tA:s.TypeIs (.ref a) "dict":=hA.typeIs;have tB:s.TypeIs (.ref b) "dict":=hB.typeIs;refine(show aga (model prog w) A (richCompare .Eq (.ref a) (.ref b)) Q E s from wpAny_richCompare_same_room tA tB PySem.F.slot_dict_eq (wpAny_call_entry PySem.F.slot_dict_eq tA PySem.F.entry_dict_eq ?_ (PySem.F.args_dict_eq_2 _ _)) hr);refine(show aga _ _ (AY "__eq__" ⟨[.ref a,.ref b],[]⟩ >>= _) _ _ s from agb ?_);unfold AY;refine agb (wpAny_notOrdered_dict tA (show aga _ _ (pure (aA a,aA b)) _ _ s from agh ?_));refine agb (wpAny_isInstance tB isSubtype_dict_dict ?_);simp only[fc,aW,if_false];refine agb (agh (agb (agh (agb (u6 hu la lb hA hB (hf _) ?_)))));refine agh ⟨_,rfl,(λz=>nomatch z),?_⟩
 rw[show ∀c:Bool,(c == true)=c from by decide];exact hQ
theorem slot_dict_ne:Slot "dict" (cmpInfo .NotEq).2.1 "dict.__ne__" :=
 .of (owner:="dict") (n:="__ne__") (by rw[typeLookup_type,builtinLookup_eq_fast];kernel_rfl) (by decide+kernel) (by decide+kernel) (by decide+kernel) (by first |exact .inl (by decide+kernel) |exact .inr (by decide+kernel)) (by rw[af6];kernel_rfl)
theorem entry_dict_ne:entryFor table "dict.__ne__"=some Builtin.«dict.__ne__»:=entryFor_of_tree (by kernel_rfl)
theorem args_dict_ne_2(a b:afX):argsOk "dict.__ne__" ⟨[a,b],[]⟩:=by unfold argsOk;rw[signature?_of (id:="dict.__ne__") (n:=['_','_','e','n','_','_']) (o:=['t','c','i','d']) (by kernel_rfl) PySem.F.owner_dict];kernel_rfl
theorem Mf{f:K->Bool}(hr:A.units < cLine)(hu:knd.room A.in1)(la:(a == sysModules)=false)(lb:(b == sysModules)=false)(hA:s.heap.DictOfH knd a xs)(hB:s.heap.DictOfH knd b ys)
  (hf:∀E:afX->afW->Prop,∀x∈xs,∀y∈ys,x.1=y.1->∀Q:Bool->afW->Prop,Q (f x.1) s->aga (model prog w) A.in1 (eqBool x.2.2 y.2.2) Q E s)
  (hQ:Q (.bool (!(decide (xs.length=ys.length)&&xs.all λx=>(atKey ys x.1).isSome&&f x.1))) s):aga (model prog w) A (af4 .NotEq (.ref a) (.ref b)) Q E s:=by
 have tA:s.TypeIs (.ref a) "dict":=hA.typeIs;have tB:s.TypeIs (.ref b) "dict":=hB.typeIs;refine(show aga (model prog w) A (richCompare .NotEq (.ref a) (.ref b)) Q E s from wpAny_richCompare_same_room tA tB slot_dict_ne (wpAny_call_entry slot_dict_ne tA entry_dict_ne ?_ (args_dict_ne_2 _ _)) hr);refine(show aga _ _ (AY "__ne__" ⟨[.ref a,.ref b],[]⟩ >>= _) _ _ s from agb ?_);unfold AY;refine agb (wpAny_notOrdered_dict tA (show aga _ _ (pure (aA a,aA b)) _ _ s from agh ?_));refine agb (wpAny_isInstance tB isSubtype_dict_dict ?_);simp only[fc,aW,if_false];refine agb (agh (agb (agh (agb (u6 hu la lb hA hB (hf _) ?_)))));refine agh ⟨_,rfl,(λz=>nomatch z),?_⟩
 rw[show ∀c:Bool,(c == false)= !c from by decide];exact hQ
end
abbrev Rh:=List (List L2.Key×Wv)
def r_(st:Hs)(kvs:Rh):Bool:=kvs.all λkv=>(a_ st 20 kv.2).isSome
def Ri(st:Hs)(k1 k2:Rh)(k:List L2.Key):Bool:=match lz k1 k,lz k2 k with
 |some v,some w=>(match a_ st 20 v,a_ st 20 w with |some a,some b=>bI a b |_,_=>false)
 |_,_=>false
def u7(st:Hs)(k1 k2:Rh):Bool:=decide (k1.length=k2.length)&&(k1.map (·.1)).all λk=>(lz k2 k).isSome&&Ri st k1 k2 k
def YS(K:PySem.W.Frag)(neg:Bool):R2:=λa b H Q=>∃m st p q k1 k2 l1 l2,bJ K m st H/\a= .ref p/\b= .ref q/\Rd H p (.dT l1)/\Rd H q (.dT l2)/\RelK K m H k1 l1/\RelK K m H k2 l2/\r_ st k1=true/\r_ st k2=true/\Q (.bl (if neg then !u7 st k1 k2 else u7 st k1 k2)) H
theorem HA{H:Hp}:∀{xs:List (List L2.Key×V)}{ys:List (List L2.Key×afR×afX)},KT H xs ys->xs.map (·.1)=ys.map (·.1)
 |_,_,.nil=>rfl
 |_,_,.cons h t=>by rw[aH,aH,HA t,h.1]
theorem yv{κ:Type}[DecidableEq κ]{k:κ}{w:Wv}:∀{kvs:List (κ×Wv)},lz kvs k=some w->(k,w)∈kvs
 |[],e=>by cases e
 |p::r,e=>by
  unfold lz at e;by_cases h:p.1=k
  ·rw[if_pos h]at e;cases e;rw[<-h];exact ax
  ·rw[if_neg h]at e;exact av _ (yv e)
variable{kvs:Rh}{ys:List (List L2.Key×afR×afX)}
section
variable {X:Cx}
theorem CB{k:List L2.Key}{p:afR×afX}(r:RelK X.K m H kvs xs)(kt:KT H xs ys)(nd:(ys.map (·.1)).Nodup)(hd:r_ st kvs=true)(h:(k,p)∈ys):
  ∃w v d,lz kvs k=some w/\ag X.K m H w v/\RelV v p.2/\a_ st 20 w=some d:=by
 obtain⟨j,hj⟩:=List.mem_iff_getElem?.mp h;have ak:=atKey_of_get nd hj;have vl:=kt.val k;rw[ak]at vl;obtain⟨v,ev,rv⟩:=Em vl;obtain⟨i1,i2⟩:=r.val k;cases e:lz kvs k with
 |none=>rw[i1 e]at ev;cases ev
 |some w=>obtain⟨u,j1,j2⟩:=i2 w e;rw[ev]at j1;cases j1;obtain⟨d,e2⟩:=Option.isSome_iff_exists.mp (List.all_eq_true.mp hd _ (yv e));exact⟨w,v,d,rfl,j2,rv,e2⟩
theorem yw{k1 k2:Rh}{l1 l2:List (List L2.Key×V)}{y1 y2:List (List L2.Key×afR×afX)}(r1:RelK X.K m H k1 l1)(r2:RelK X.K m H k2 l2)(t1:KT H l1 y1)(t2:KT H l2 y2):
  (decide (y1.length=y2.length)&&y1.all λx=>(atKey y2 x.1).isSome&&Ri st k1 k2 x.1)=u7 st k1 k2:=by
 have e1:y1.length=k1.length:=by rw[<-Paired.length t1,r1.length]
 have e2:y2.length=k2.length:=by rw[<-Paired.length t2,r2.length]
 have ks:k1.map (·.1)=y1.map (·.1):=by rw[r1.1,HA t1]
 have at2:∀k,(atKey y2 k).isSome=(lz k2 k).isSome:=λk=>by
  have q:=(t2.val k).uF;rw[Option.isSome_map]at q;rw[<-q];obtain⟨i1,i2⟩:=r2.val k;cases e:lz k2 k with
  |none=>rw[i1 e];rfl
  |some w=>obtain⟨u,j1,_⟩:=i2 w e;rw[j1];rfl
 unfold u7;rw[e1,e2,ks,List.all_map]
 congr 1
 refine List.all_congr rfl λx=>?_;show((atKey y2 x.1).isSome&&Ri st k1 k2 x.1)=((lz k2 x.1).isSome&&Ri st k1 k2 x.1);rw[at2]
theorem HB(neg:Bool)(hu:X.A.units+64 < cLine):fV X (af4 (if neg then .NotEq else .Eq)) (YS X.K neg):=by
 intro pins s σ H a b v u Q I rx ry h;obtain⟨m,st,p,q,k1,k2,l1,l2,S,rfl,rfl,d1,d2,r1,r2,h1,h2,hq⟩:=h;cases rx;cases ry;obtain⟨z1,lo1,y1,t1,D1⟩:=FO I.hok d1;obtain⟨z2,lo2,y2,t2,D2⟩:=FO I.hok d2;have n1:(y1.map (·.1)).Nodup:=let ⟨_,_,_,_,_,_,_,_,n⟩:=D1;n;have n2:(y2.map (·.1)).Nodup:=let ⟨_,_,_,_,_,_,_,_,n⟩:=D2;n;have hf:∀E:afX->afW->Prop,∀x∈y1,∀y∈y2,x.1=y.1->∀Q:Bool->afW->Prop,Q (Ri st k1 k2 x.1) s->aga (model X.prog X.w) X.A.in1 (eqBool x.2.2 y.2.2) Q E s:=λE x hx y hy e Q' q'=>by
  obtain⟨w,v,dw,a1,a2,a3,a4⟩:=CB (k:=x.1) (p:=x.2) (st:=st) r1 t1 n1 h1 hx;obtain⟨w',v',W7,b1,b2,b3,b4⟩:=CB (k:=y.1) (p:=y.2) (st:=st) r2 t2 n2 h2 hy;rw[<-e]at b1;obtain⟨as,q1,q2,q3⟩:=eF I S 20 w v _ dw a2 a3 a4;obtain⟨bs,p1,p2,p3⟩:=eF I S 20 w' v' _ W7 b2 b3 b4;have ee:Ri st k1 k2 x.1=bI dw W7:=by unfold Ri;rw[a1,b1];dsimp only;rw[a4,b4]
  rw[ee]at q';exact Kq X.prog X.w X.A.in1 E s _ _ dw W7 as bs Q' q1 p1 q2 p2 (by have:X.A.in1.units=X.A.units+1:=rfl;have:min dw.depth W7.depth<=dw.depth:=Nat.min_le_left _ _;omega) q'
 cases neg with
 |false=>refine Me (by omega) (tupleKind_room_in1 (by omega)) lo1 lo2 D1 D2 hf ?_;rw[yw r1 r2 t1 t2];exact⟨.bl _,H,I,rfl,hq⟩
 |true=>refine Mf (by omega) (tupleKind_room_in1 (by omega)) lo1 lo2 D1 D2 hf ?_;rw[yw r1 r2 t1 t2];exact⟨.bl _,H,I,rfl,hq⟩
def wg(st:Hs):Wv->Option Rh
 |.ref l=>El st[l]?
 |_=>none
def Rj:fX:=λx y st=>match wg st x,wg st y with
 |some k1,some k2=>if r_ st k1=true/\r_ st k2=true then .ok (.bl (u7 st k1 k2)) st else .bad
 |_,_=>oEq x y st
def Rk:fX:=λx y st=>match wg st x,wg st y with
 |some k1,some k2=>if r_ st k1=true/\r_ st k2=true then .ok (.bl (!u7 st k1 k2)) st else .bad
 |_,_=>vP x y st
theorem qy{a:V}(S:bJ X.K m st H)(r:ag X.K m H x a)(h:wg st x=some kvs):∃p l,a= .ref p/\Rd H p (.dT l)/\RelK X.K m H kvs l:=by
 cases x with
 |ref j=>unfold ag at r;obtain⟨p,rfl,hp⟩:=r;obtain⟨l,h1,h2⟩:=Cz (X:=X) S hp h;exact⟨p,l,rfl,h1,h2⟩
 |_=>cases h
theorem Rl(hu:X.A.units+64 < cLine):jU X (af4 .Eq) Rj:=by
 obtain⟨r0,c0,k0⟩:=NM (X:=X) hu;refine⟨_,fV.or (HB (X:=X) false hu) c0,λx y a b st H m Q S rx ry p=>?_⟩;unfold Rj at p;cases e1:wg st x with
 |none=>rw[e1]at p;exact .inr (k0 x y a b st H m Q S rx ry p)
 |some k1=>
  cases e2:wg st y with
  |none=>rw[e1,e2]at p;exact .inr (k0 x y a b st H m Q S rx ry p)
  |some k2=>
   rw[e1,e2]at p;dsimp only at p;by_cases c:r_ st k1=true/\r_ st k2=true
   ·rw[if_pos c]at p;obtain⟨p1,l1,rfl,d1,r1⟩:=qy (X:=X) S rx e1;obtain⟨p2,l2,rfl,d2,r2⟩:=qy (X:=X) S ry e2;exact .inl ⟨m,st,p1,p2,k1,k2,l1,l2,S,rfl,rfl,d1,d2,r1,r2,c.1,c.2,p _ m H Ext.refl S kY⟩
   ·rw[if_neg c]at p;exact ae p
theorem Rp(hu:X.A.units+64 < cLine):jU X (af4 .NotEq) Rk:=by
 obtain⟨r0,c0,k0⟩:=NN (X:=X) hu;refine⟨_,fV.or (HB (X:=X) true hu) c0,λx y a b st H m Q S rx ry p=>?_⟩;unfold Rk at p;cases e1:wg st x with
 |none=>rw[e1]at p;exact .inr (k0 x y a b st H m Q S rx ry p)
 |some k1=>
  cases e2:wg st y with
  |none=>rw[e1,e2]at p;exact .inr (k0 x y a b st H m Q S rx ry p)
  |some k2=>
   rw[e1,e2]at p;dsimp only at p;by_cases c:r_ st k1=true/\r_ st k2=true
   ·rw[if_pos c]at p;obtain⟨p1,l1,rfl,d1,r1⟩:=qy (X:=X) S rx e1;obtain⟨p2,l2,rfl,d2,r2⟩:=qy (X:=X) S ry e2;exact .inl ⟨m,st,p1,p2,k1,k2,l1,l2,S,rfl,rfl,d1,d2,r1,r2,c.1,c.2,p _ m H Ext.refl S kY⟩
   ·rw[if_neg c]at p;exact ae p
end
theorem HC{I l1 l2:Nat}(h1:l1 < I)(h2:l2 < I):ZipApart (I+4) (I+2) (I+3) I (I+1) l1 l2:=by constructor<;>first |exact aN (by omega) |exact eP (by omega)
section
variable {X:Cx}
def pQ(as bs:List Wv):List Wv:=List.zipWith (λa b=> .tup [a,b]) as bs
end
section
variable {X:Cx}
abbrev kP(p:Int×Int):List L2.Key:=[L2.Key.inl p.1,L2.Key.inl p.2]
theorem wj{H:Hp}:∀{ps:List (Int×Int)}{vs:List V},Q2 H vs (ps.map kP)->Cu H vs ps
 |[],_,h=>by cases h;exact .nil
 |p::r,_,h=>by
  cases h with
  |cons h t=>exact .cons h (wj t)
theorem yx{es:Array DictEntry}{vs:List afX}(g4:es.toList=ys.map (entryOfKey (tupleKind (aw prog w))))(hlen:vs.length=es.size)(hv:∀(j:Nat)(v:afX),vs[j]? =some v->∃h:j < es.size,v=es[j].key):vs=ys.map λx=>aA x.2.1:=by
 have len:es.size=ys.length:=by have:=congrArg fv g4;simpa using this
 refine List.ext_getElem? λj=>?_;cases e:vs[j]? with
 |none=>
  have hj:vs.length<=j:=by simpa using e
  rw[List.getElem?_eq_none];simp;omega
 |some v=>
  obtain⟨hj,ev⟩:=hv j v e;have hj':j < ys.length:=by omega
  have q1:es.toList[j]'(by simpa using hj)=entryOfKey (tupleKind (aw prog w)) ys[j]:=by
   have:es.toList[j]? =(ys.map (entryOfKey (tupleKind (aw prog w))))[j]?:=by rw[g4]
   rw[bh (by simpa using hj),cM,bh hj']at this;simpa using this
  rw[cM,bh hj',ev];have q2:es[j]=es.toList[j]'(by simpa using hj):=by simp
  rw[q2,q1];rfl
theorem og{pins:List (afR×Obj)}{σ:L2.St}{m:Str->Option afX}{h'':Heap}{vs:List V}{c tk:Nat}(I:Inv X pins σ H s)(hn:s.heap.Ns X.env.locals m)(pR:∀b o,b≠X.env.locals->s.heap.get? b=some o->h''.get? b=some o)(Fc:s.heap.get? D=none)
  (ns:h''.Ns X.env.locals m)(hv:Vals vs its)(hz:vs.length<=af8)(hg:h''.get? D=some (seqObj "list" its.toArray c)):H D=none/\Inv X pins σ (upd H D (.lst vs)) { s with heap:=h'',toks:=tk }:=by
 have J9:H D=none:=by
  cases e:H D with
  |none=>rfl
  |some ob=>obtain⟨z,e'⟩:=uO (I.hok D ob e);rw[Fc]at e';cases e'
 refine⟨J9,?_⟩;have VE:∀b u,H b=some u->b≠D:=λb u e=>cD e J9;have T_:∀b u,H b=some u->b≠X.env.locals:=λb u e=>cD e I.free;refine I.step (g':=s.gens) (d':=s.drawn) (t':=tk) (ch:=[]) (λ_ z=>nomatch z) (λb o n _ _ e _=>pR b o n e) (λb o n _ _ e _=>⟨o.slots,pR b o n e⟩) (λb o _ e n=>?_) (λb o _ e=>?_) (λb xs e=>?_) (λb o u e=>?_) (λb ps e=>?_) (λm' hm=>QZ hn hm ns) (λb ob e=>?_) I.bare
 ·rw[aI (λz=>by subst z;rw[Fc]at e;cases e)];exact n
 ·by_cases z:b=X.env.locals
  ·subst z;obtain⟨o',_,_,e',_⟩:=ns;exact⟨o',e'⟩
  ·exact⟨o,pR b o z e⟩
 ·rw[aI (VE _ _ e)];exact e
 ·rw[aI (VE _ _ e)];exact e
 ·exact⟨#[],by rw[aI (VE _ _ e),e];simp⟩
 ·by_cases z:b=D
  ·subst z;rw[bq]at e;cases e;exact⟨hz,its,c,hv,hg⟩
  ·rw[aI z]at e;refine(I.hok b ob e).stay (λc v hc q=>pR c v ?_ q) (λc q=>by rw[aI (VE _ _ q)];exact q) λc xs q=>by rw[aI (VE _ _ q)];exact q
   rcases hc with y |y
   ·rw[y];exact T_ b ob e
   ·exact T_ c _ y
theorem Eo(hc:X.calm=true):fu X (.builtin "sorted") (λxs H Q=>∃(p:afR)(kvs:List (List L2.Key×V))(ps:List (Int×Int)),xs=[.ref p]/\Rd H p (.dT kvs)/\kvs.map (·.1)=ps.map kP/\2<=ps.length/\ps.length < 64/\∀l vs',H l=none->Cu H vs' (jP ps)->Q (.ref l) (upd H l (.lst vs'))):=by
 intro pins s σ H xs us Q I r h;obtain⟨p,kvs,ps,rfl,hd,hk,h2,h64,q⟩:=h;obtain⟨u,rfl,rx⟩:=vals1 r;cases rx;obtain⟨es,ep,ys,z,lo,raw,sz,kt,g4,g5⟩:=Hy I.hok hd;have ky:=wb kt;rw[hk]at ky;have hp:=wj ky;have r':=oS (λx:List L2.Key×afR×afX=>x.2.1) ys;have tu:=AS I hp r';have lk:kvs.length=ps.length:=by have:=congrArg fv hk;simpa using this
 obtain⟨m,hn,hl⟩:=id I.loc;obtain⟨oL,esL,epL,gL,dL,_⟩:=id hn;refine kdu_sorted (Cw lo) (I.ok.hd hc) (Att.Aq hn) (qO (g:=Att.fA s.heap) (h:=s.heap) (L:=X.env.locals)) raw (by rw[sz];exact z) λD h1 tk vs F1 N1 hD hlen hv=>?_;have VF:=yx g4 hlen hv;subst VF;have l2:(ys.map λx=>aA x.2.1).length=ps.length:=tu.length;have l1:(ys.map λx=>V.ref x.2.1).length=(ys.map λx=>aA x.2.1).length:=r'.length;have hz:(ys.map λx=>V.ref x.2.1).length<=af8:=by rw[l1,l2,<-lk];exact z
 generalize (ys.map λx:List L2.Key×afR×afX=>aA x.2.1)=its at r' tu F1 N1 hlen hv l1 l2;generalize (ys.map λx:List L2.Key×afR×afX=>V.ref x.2.1)=vs at ky hp r' l1 hz;obtain⟨Ep,hDL,wo⟩:=N1 (D,listOf its.toArray 0) ax;refine wpAny_call_entry slot_list_sort ⟨_,Ep,rfl⟩ entry_list_sort ?_ (args_list_sort _);refine kat_list_sort (s:={ s with heap:=h1,toks:=tk }) F1 (λp hp=>N1 p (av _ hp)) Ep hDL wo (λp hp=>aN (hD p hp)) (by omega) (by omega) λe1 h' F' N'=>?_;have keep:∀b o,b≠X.env.locals->s.heap.get? b=some o->h'.get? b=some o:=λb o n e=>(N' (b,o) (av _ (cz n (Att.cE _ _) e))).1;have Rq:Paired (TupAt h') its ps:=oR (λa o its n e d=>keep a o (λz=>by subst z;rw[gL]at e;cases e;rw[dL]at d;cases d) e) tu;obtain⟨fs,k1,k2,k3⟩:=rT Rq;refine kat_kind (T:=.type "int") (s:={ s with heap:=h',toks:=tk }) k1 (by omega) (λv hv=>by obtain⟨i,t,rfl⟩:=k3 v hv;exact Looks.of_pure rfl) (by decide) ?_;have et:(jY "int" != jY "tuple")=true:=by decide
 rw[et,l2];have od:Ord λi j=>tU (ps.getD i (0,0)) (ps.getD j (0,0)):=⟨λa b h=>AO h,λa b c h k=>AQ h k⟩;refine Kg.wp (lt:=λi j=>tU (ps.getD i (0,0)) (ps.getD j (0,0))) (N:=ps.length) (P:=λs''=>s''={ s with heap:=h',toks:=tk }) (λi j C s'' hi hj hs hC=>?_) rfl ((Cq od (by omega)).imp λpm ⟨P1,P2⟩ s'' hs=>?_)
 ·subst hs;obtain⟨a,o,t,u,n,e,g1,g2,g3⟩:=cN (a:=bg) (b:=(0,0)) Rq hi;obtain⟨a',o',t',u',n',e',J7,Yl,YT⟩:=cN (a:=bg) (b:=(0,0)) Rq hj;unfold kas_ask;rw[e,e'];exact Cs (s:={ s with heap:=h',toks:=tk }) g1 g3 J7 YT (hC _ rfl)
 ·subst hs;refine KasFin.intro (s:={ s with heap:=h',toks:=tk }) F' N' (.head λq hq=>aN (hD q hq)) λh'' c YU VG=>?_;have pR:∀b o,b≠X.env.locals->s.heap.get? b=some o->h''.get? b=some o:=λb o n e=>(VG (b,o) (av _ (cz n (Att.cE _ _) e))).1;have Fc:s.heap.get? D=none:=by
   cases e:s.heap.get? D with
   |none=>rfl
   |some o=>exact absurd (hD (D,o) (cz hDL (Att.cE _ _) e)) (dz _)
  have mem:∀i∈pm.toList,i < ps.length:=λi hi=>List.mem_range.mp (P1.pm.mem_iff.mp hi);have hv:Vals (pm.toList.map λi=>vs.getD i .bK) (pm.toList.map λi=>its.getD i bg):=iF λi hi=>cN r' (by have:=mem i hi;omega);have YV:(pm.toList.map λi=>ps.getD i (0,0))=jP ps:=by
   refine n8 ((P1.pm.map _).trans (by rw[range_getD];exact(dR ps).symm)) ?_ (kc _);rw[Hh,CC,Mg];intro i j hi hj hij;have z:=P2 i j (by omega) (by have:=P1.sz;simpa [this]using hj);have ei:at_ pm i=pm.toList[i]:=by
    have:i < pm.size:=by simpa using hi
    simp[at_,Cn,this]
   have ej:at_ pm j=pm.toList[j]:=by
    have:j < pm.size:=by simpa using hj
    simp[at_,Cn,this]
   rw[ei,ej]at z;exact z
  have YW:Cu H (pm.toList.map λi=>vs.getD i .bK) (jP ps):=by rw[<-YV];exact iF λi hi=>cN hp (mem i hi)
  have hlen:pm.toList.length=ps.length:=by have:=P1.sz;simpa using this
  obtain⟨J9,I'⟩:=og (tk:=tk) I hn pR Fc YU.ns hv (by rw[bf,hlen,<-l2,<-l1];exact hz) (VG (D,_) ax).1;exact⟨_,rfl,.ref D,_,I',rfl,q D _ J9 YW⟩
theorem Er(hc:X.calm=true):fu X (.builtin "sorted") (λxs H Q=>∃(p:afR)(kvs:List (List L2.Key×V))(ps:List (Int×Int)),xs=[.ref p]/\Rd H p (.dT kvs)/\kvs.map (·.1)=ps.map kP/\ps.length < 2/\∀l vs',H l=none->Cu H vs' ps->Q (.ref l) (upd H l (.lst vs'))):=by
 intro pins s σ H xs us Q I r h;obtain⟨p,kvs,ps,rfl,hd,hk,h2,q⟩:=h;obtain⟨u,rfl,rx⟩:=vals1 r;cases rx;obtain⟨es,ep,ys,z,lo,raw,sz,kt,g4,g5⟩:=Hy I.hok hd;have ky:=wb kt;rw[hk]at ky;have hp:=wj ky;have r':=oS (λx:List L2.Key×afR×afX=>x.2.1) ys;have lk:kvs.length=ps.length:=by have:=congrArg fv hk;simpa using this
 have ly:kvs.length=ys.length:=kt.length;obtain⟨m,hn,hl⟩:=id I.loc;refine kdu_sorted (Cw lo) (I.ok.hd hc) (Att.Aq hn) (qO (g:=Att.fA s.heap) (h:=s.heap) (L:=X.env.locals)) raw (by rw[sz];exact z) λD h1 tk vs F1 N1 hD hlen hv=>?_;have VF:=yx g4 hlen hv;subst VF;obtain⟨Ep,hDL,wo⟩:=N1 (D,listOf _ 0) ax;refine wpAny_call_entry slot_list_sort ⟨_,Ep,rfl⟩ entry_list_sort ?_ (args_list_sort _);refine uX (s:={ s with heap:=h1,toks:=tk }) (by simp;omega) Ep ?_;obtain⟨c,hc'⟩:=sortedHeap_at (vs:=ys.map λx=>aA x.2.1) (out:=(ys.map λx=>aA x.2.1).toArray) Ep;have old:∀b o,b≠D->h1.get? b=some o->(sortedHeap h1 D (ys.map λx=>aA x.2.1) (ys.map λx=>aA x.2.1).toArray).get? b=some o:=λb o n e=>(sortedHeap_old n (az e)).trans e;have HD:∀b o,b≠X.env.locals->s.heap.get? b=some o->h1.get? b=some o:=λb o n e=>(N1 (b,o) (av _ (cz n (Att.cE _ _) e))).1;have Fc:s.heap.get? D=none:=by
  cases e:s.heap.get? D with
  |none=>rfl
  |some o=>exact absurd (hD (D,o) (cz hDL (Att.cE _ _) e)) (dz _)
 obtain⟨J9,I'⟩:=og (tk:=tk) I hn (λb o n e=>old b o (λz=>by subst z;rw[Fc]at e;cases e) (HD b o n e)) Fc (ksk_fr (((ksk_fr F1 (fF h1 D (dO λ_=>#[])) hDL wo).push (seqObj "tuple" _ 0)).push (seqObj "list" #[] 0)) (fF _ D (dO λ_=>_)) hDL wo).ns r' (by simp;rw[<-ly];exact z) hc';exact⟨_,rfl,.ref D,_,I',rfl,q D _ J9 hp⟩
def mR:List (List L2.Key)->Option (List (Int×Int))
 |[]=>some []
 |[.inl a,.inl b]::r=>(match mR r with |some l=>some ((a,b)::l) |none=>none)
 |_=>none
theorem sd:∀{ks:List (List L2.Key)}{ps:List (Int×Int)},mR ks=some ps->ks=ps.map kP
 |[],ps,e=>by cases e;rfl
 |k::r,ps,e=>by
  unfold mR at e;split at e
  ·cases ‹_::_=[]›
  ·rename_i a b r' he;cases he;cases q:mR r with
   |none=>rw[q]at e;cases e
   |some l=>rw[q]at e;cases e;rw[aH,<-sd q]
  ·cases e
def sf:List Wv->Hs->Re Wv
 |[.ref l],st=>(match El st[l]? with
  |some kvs=>(match mR (kvs.map (·.1))with |some ps=>if ps.length < 64 then .ok (.ref st.length) (st++[.lst ((jP ps).map pw)])else .bad |none=> .bad)
  |none=> .bad)
 |_,_=> .bad
theorem Mh(hc:X.calm=true):ef X (.builtin "sorted") sf:=by
 refine⟨_,(Er hc).or (Eo hc),λws vs st H m Q S rs p=>?_⟩
 match ws,rs,p with
 |[],rs,p=>exact ae p
 |x::y::t,rs,p=>exact ae (by cases x<;>exact p)
 |[x],rs,p=>
  cases x with
  |ref l=>
   unfold sf at p;dsimp only at p;cases e:El st[l]? with
   |none=>rw[e]at p;exact ae p
   |some kvs=>
    rw[e]at p;dsimp only at p;cases e2:mR (kvs.map (·.1))with
    |none=>rw[e2]at p;exact ae p
    |some ps=>
     rw[e2]at p;dsimp only at p;by_cases c:ps.length < 64
     ·rw[if_pos c]at p;obtain⟨v,rfl,r1⟩:=rp rs;unfold ag at r1;obtain⟨a,rfl,ha⟩:=r1;obtain⟨xs,g1,g2⟩:=Cz (X:=X) S ha e;have ek:xs.map (·.1)=ps.map kP:=by rw[<-g2.1];exact sd e2
      have fin:∀k vs',H k=none->Cu H vs' (jP ps)->Q (.ref k) (upd H k (.lst vs')):=λk vs' hk hp=>p (.ref k) (m++[k]) _ (Ext.more.trans (Ext.upd (.inl hk))) (S.alloc hk (m_ hp)) (S.newest k _);by_cases c2:ps.length < 2
      ·refine .inl ⟨a,xs,ps,rfl,g1,ek,c2,λk vs' hk hp=>fin k vs' hk ?_⟩;have:jP ps=ps:=by
        match ps,c2 with
        |[],_=>rfl
        |[p],_=>rfl
       rw[this];exact hp
      ·exact .inr ⟨a,xs,ps,rfl,g1,ek,by omega,c,fin⟩
     ·rw[if_neg c]at p;exact ae p
  |_=>exact ae p
end
section
variable {X:Cx}
def N2(ws:List Wv)(st:Hs):Re Wk:=match ws with
 |[.int a,.int b,.int c]=>if L_ a b c then .ok (none,yq a c (n_ a b c)) st else .bad
 |_=> .bad
def YX(g:GA):GI:=λρ st=>(g ρ st).bind N2
end
section
variable {prog:afV}{w:afY}{A:afS}{E:afX->afW->Prop}{s:afW}
abbrev cR(led:Bool):Obj:={ cls:=.type "set",dict:=none,data:=.set #[] 0 (.fresh 0 0 led) }
end
section
variable {X:Cx}
theorem oU:af1 "set"=some (.type "set"):=by decide+kernel
end
abbrev Kw:=Int×(Int ⊕ Str)
def kd:Kw:=(0,.inl 0)
variable {X:Cx}
def oLt:fX:=λx y st=>Vx x y st
theorem Rr(hu:X.A.units+64 < cLine):jU X (af4 .Lt) oLt:=Q4 hu
section
variable {X:Cx}
theorem Mi:fV X (af4 .IsNot) (λx y H Q=>∃a b,x= .bl a/\y= .bl b/\Q (.bl (a != b)) H):=by intro pins s σ H x y v u Q I rx ry h;obtain⟨a,b,rfl,rfl,q⟩:=h;cases rx;cases ry;exact isnot_bool ⟨.bl (a != b),H,I,rfl,q⟩
def N3:fX:=λx y st=>match x,y with
 |.bl a,.bl b=> .ok (.bl (a != b)) st
 |x,y=>Ga x y st
theorem Mj:jU X (af4 .IsNot) N3:=by
 obtain⟨r,h1,h2⟩:=Gb (X:=X);refine⟨_,fV.or h1 Mi,λx y a b st H m Q S rx ry p=>?_⟩;cases x with
 |bl c=>
  cases y with
  |bl d=>
   have e1:a= .bl c:=by unfold ag at rx;exact rx
   have e2:b= .bl d:=by unfold ag at ry;exact ry
   exact .inr ⟨c,d,e1,e2,p _ m H Ext.refl S kY⟩
  |_=>exact .inl (h2 _ _ _ _ st H m Q S rx ry p)
 |_=>exact .inl (h2 _ _ _ _ st H m Q S rx ry p)
end
end J
namespace TB
open PySem PySem.SetTable
def stp(M i:Nat):Nat:=(i * 5+1) % M
def Mk(M:Nat):Nat->Nat->Nat
 | 0,i=>i
 |n+1,i=>Mk M n (stp M i)
def Rt(M:Nat):Nat->Nat->List Nat
 | 0,_=>[]
 |n+1,i=>i::Rt M n (stp M i)
def Ru(M:Nat):Bool:=((aU M).all λb=>(Rt M M 0).contains b)&&Mk M M 0 == 0
theorem qz(M:Nat):∀(m n i:Nat),Mk M (m+n) i=Mk M n (Mk M m i)
 | 0,n,i=>by rw[qA];rfl
 |m+1,n,i=>by rw[show m+1+n=(m+n)+1 from by omega];exact qz M m n (stp M i)
theorem wq{M b:Nat}:∀{n i:Nat},b∈Rt M n i->∃k,k < n/\Mk M k i=b
 | 0,i,h=>by cases h
 |n+1,i,h=>by
  rcases List.mem_cons.mp h with e |e
  ·exact⟨0,by omega,e.symm⟩
  ·obtain⟨k,h1,h2⟩:=wq e;exact⟨k+1,by omega,h2⟩
theorem orb{M:Nat}(hc:Ru M=true){a b:Nat}(ha:a < M)(hb:b < M):∃m,m < M/\Mk M m a=b:=by
 unfold Ru at hc;rw[bN,HE]at hc;obtain⟨h1,h2⟩:=hc;have h2:Mk M M 0=0:=by simpa using h2
 obtain⟨u,u1,u2⟩:=wq (M:=M) (n:=M) (i:=0) (by simpa using h1 a (List.mem_range.mpr ha));obtain⟨v,v1,v2⟩:=wq (M:=M) (n:=M) (i:=0) (by simpa using h1 b (List.mem_range.mpr hb));by_cases c:u<=v
 ·refine⟨v - u,by omega,?_⟩;rw[<-u2,<-qz,show u+(v - u)=v from by omega,v2]
 ·refine⟨M - u+v,by omega,?_⟩;rw[<-u2,<-qz,show u+(M - u+v)=M+v from by omega,qz,h2,v2]
def Lp(mask:Nat):Nat->Nat->Nat->Nat×Nat
 | 0,i,p=>(i,p)
 |n+1,i,p=>Lp mask n (leap mask i p).1 (leap mask i p).2
theorem CD(mask:Nat):∀(n i:Nat),Lp mask n i 0=(Mk (mask+1) n i,0)
 | 0,i=>rfl
 |n+1,i=>by show Lp mask n ((i * 5+1+0 / 32) % (mask+1)) (0 / 32)=_;rw[Nat.zero_div,CF];exact CD mask n _
theorem HF(mask:Nat):∀(m n i p:Nat),Lp mask (m+n) i p=Lp mask n (Lp mask m i p).1 (Lp mask m i p).2
 | 0,n,i,p=>by rw[qA];rfl
 |m+1,n,i,p=>by rw[show m+1+n=(m+n)+1 from by omega];exact HF mask m n _ _
theorem HG(mask:Nat):∀(n i p:Nat),(Lp mask n i p).2=p / 32 ^ n
 | 0,i,p=>by rw[Nat.pow_zero,Nat.div_one];rfl
 |n+1,i,p=>by show(Lp mask n _ (p / 32)).2=_;rw[HG mask n,Nat.div_div_eq_div_mul,Nat.pow_succ,vG]
theorem N4(mask:Nat):∀(n i p:Nat),i < mask+1->(Lp mask n i p).1 < mask+1
 | 0,i,p,h=>h
 |n+1,i,p,h=>N4 mask n _ _ (oh _ (by omega))
theorem CG{mask:Nat}(hc:Ru (mask+1)=true){i p b:Nat}(hi:i < mask+1)(hp:p < 2 ^ 64)(hb:b < mask+1):∃n,n<=mask+13/\(Lp mask n i p).1=b:=by
 have e:(Lp mask 13 i p).2=0:=by rw[HG];exact Nat.div_eq_of_lt (vK hp (by decide))
 obtain⟨m,m1,m2⟩:=orb hc (N4 mask 13 i p hi) hb;refine⟨13+m,by omega,?_⟩;rw[HF,e,CD];exact m2
section
variable {t:SetTable}{hashAt:Nat->Int}{h:Int}
theorem Ml(fuel:Nat)(p:Probe):probe.go t hashAt h (fuel+1) p=(match t.slot p.j with
   |.empty=>some (.empty p.j p.dummy)
   |.dummy=>probe.go t hashAt h fuel (t.advance { p with dummy:=some p.j })
   |.live i=>if hashAt i == h then some (.candidate p.j i (t.advance p))else probe.go t hashAt h fuel (t.advance p)):=rfl
def YY(t:SetTable)(i p:Nat):Probe:=⟨i,runEnd t.mask i - i,i,p,none⟩
theorem HH(hl:∀j i,t.slot j= .live i->(hashAt i == h)=false)(hd:∀j,t.slot j≠.dummy)(i p:Nat):∀(more j fuel:Nat),(∃j',probe.go t hashAt h (fuel+more+1) ⟨j,more,i,p,none⟩=some (.empty j' none))\/probe.go t hashAt h (fuel+more+1) ⟨j,more,i,p,none⟩=probe.go t hashAt h fuel (YY t (leap t.mask i p).1 (leap t.mask i p).2)
 | 0,j,fuel=>by
  rw[CF];rw[Ml];dsimp only;cases e:t.slot j with
  |empty=>exact .inl ⟨j,rfl⟩
  |dummy=>exact absurd e (hd j)
  |live k=>dsimp only;rw[hl j k e,if_neg bF];exact .inr rfl
 |more+1,j,fuel=>by
  rw[show fuel+(more+1)+1=(fuel+more+1)+1 from by omega];rw[Ml];dsimp only;cases e:t.slot j with
  |empty=>exact .inl ⟨j,rfl⟩
  |dummy=>exact absurd e (hd j)
  |live k=>dsimp only;rw[hl j k e,if_neg bF];exact HH hl hd i p more (j+1) fuel
theorem HI(mask i:Nat):runEnd mask i - i<=9:=by unfold runEnd;split<;>omega
theorem HJ(hl:∀j i,t.slot j= .live i->(hashAt i == h)=false)(hd:∀j,t.slot j≠.dummy):∀(n fuel i p:Nat),10 * (n+1)<=fuel->t.slot (Lp t.mask n i p).1= .empty->∃j',probe.go t hashAt h fuel (YY t i p)=some (.empty j' none)
 | 0,fuel,i,p,hf,hs=>by obtain⟨f,rfl⟩:∃f,fuel=f+1:=⟨fuel - 1,by omega⟩;refine⟨i,?_⟩;have hs:t.slot i= .empty:=hs;unfold probe.go YY;dsimp only;rw[hs]
 |n+1,fuel,i,p,hf,hs=>by
  have r:=HI t.mask i;obtain⟨f,hf',hf2⟩:∃f,fuel=f+(runEnd t.mask i - i)+1/\10 * (n+1)<=f:=⟨fuel - (runEnd t.mask i - i) - 1,by omega,by omega⟩;rw[hf'];rcases HH hl hd i p (runEnd t.mask i - i) i f with q |q
  ·exact q
  ·show ∃j',probe.go t hashAt h _ ⟨i,runEnd t.mask i - i,i,p,none⟩=_;rw[q];exact HJ hl hd n f _ _ hf2 hs
end
theorem CH(h:Int):bits h < 2 ^ 64:=by unfold bits;have h1:=Int.emod_nonneg h (show(2 ^ 64:Int)≠0 from by decide);have h2:=Int.emod_lt_of_pos h (show(0:Int) < 2 ^ 64 from by decide);omega
theorem HK:∀(n:Nat)(l:List Nat),(∀j,j < n->j∈l)->n<=l.length
 | 0,l,_=>bH _
 |n+1,l,h=>by have hm:=h n (by omega);have:=HK n (l.erase n) λj hj=>(Mm (by omega)).mpr (h j (by omega));rw[Mn hm]at this;have:=Mo hm;omega
variable{n:Nat}
theorem gap{l:List Nat}(h:l.length < n):∃j,j < n/\j∉l:=by apply AZ;intro c;have:=HK n l λj hj=>AZ λk=>c ⟨j,hj,k⟩;omega
variable{t:SetTable}
theorem mC(hd:t.dummies=#[])(j:Nat):t.slot j≠.dummy/\(j∉t.place.toList->t.slot j= .empty)/\∀i,t.slot j= .live i->i < t.place.size:=by
 have e:has t.dummies j=false:=by rw[hd];unfold has;simp
 unfold slot;dsimp only;rw[e];by_cases c:(t.place[below t.place j]? == some j)=true
 ·rw[if_pos c];have c':t.place[below t.place j]? =some j:=by simpa using c
  refine⟨nofun,λz=>absurd ?_ z,λi q=>?_⟩
  ·exact Array.mem_toList_iff.mpr (A0 c')
  ·cases q;exact(Array.getElem?_eq_some_iff.mp c').1
 ·rw[if_neg c];refine⟨by simp,λ_=>by simp,λi q=>by simp at q⟩
theorem sg{es:Array (Int×afX)}{h:Int}(hc:Ru (t.mask+1)=true)(hd:t.dummies=#[])(hs:t.place.size=es.size)(hm:es.size<=t.mask)(hn:∀(i:Nat)(v:Int×afX),es[i]? =some v->v.1≠h):
  ∃j,t.probe (λi=>(es[i]?.map (·.1)).getD 0) h (t.probeStart h)=some (.empty j none):=by
 obtain⟨j0,j1,j2⟩:=gap (l:=t.place.toList) (n:=t.mask+1) (by simp;omega);obtain⟨n,n1,n2⟩:=CG hc (i:=bits h % (t.mask+1)) (p:=bits h) (oh _ (by omega)) (CH h) j1;refine HJ (t:=t) (λj i e=>?_) (λj=>(mC hd j).1) n _ _ _ ?_ ?_
 ·have hi:=(mC hd j).2.2 i e;rw[hs]at hi;rw[iG hi];have:=hn i _ (iG hi);simpa using this
 ·show 10 * (n+1)<=10 * (t.mask+15);omega
 ·rw[n2];exact(mC hd j0).2.1 j2
theorem yz{k:Nat}:∀{l:List (Option Nat)}{j:Nat},l[j]? =some none->((l.set j (some k)).filterMap id).Perm (k::l.filterMap id)
 |[],j,h=>by cases h
 |x::r,0,h=>by simp at h;subst h;simp
 |x::r,j+1,h=>by
  have ih:=yz (k:=k) (l:=r) (j:=j) (by simpa using h);rw[qB];cases x with
  |none=>simpa using ih
  |some y=>simp;exact(ih.cons y).trans (.swap _ _ _)
theorem yA:∀{l:List (Option Nat)},none∉l->(l.filterMap id).length=l.length
 |[],_=>rfl
 |none::r,h=>absurd ax h
 |some y::r,h=>by have:=yA (l:=r) λz=>h (av _ z);show((y::r.filterMap id:List Nat)).length=_;rw[fB,fB,this]
theorem yB{mask:Nat}{owner:Array (Option Nat)}:∀(n fuel i p:Nat),n < fuel->(owner.getD (Lp mask n i p).1 (some 0)).isNone=true->∃j,layClean.free mask owner fuel i p=some j/\(owner.getD j (some 0)).isNone=true
 |n,0,i,p,h,_=>by omega
 |n,fuel+1,i,p,h,hs=>by
  unfold layClean.free;cases e:(aU (runEnd mask i+1 - i)).find? λk=>(owner.getD (i+k) (some 0)).isNone with
  |some k=>exact⟨i+k,rfl,by simpa using List.find?_some e⟩
  |none=>
   dsimp only;cases n with
   |zero=>have:=List.find?_eq_none.mp e 0 (List.mem_range.mpr (by unfold runEnd;split<;>omega));exact absurd hs this
   |succ n=>exact yB n fuel _ _ (by omega) hs
theorem sh{α β:Type}{f g:α->Option β}:∀{l:List α},(∀x∈l,f x=g x)->l.filterMap f=l.filterMap g
 |[],_=>rfl
 |x::r,h=>by rw[k7,k7,h x ax,sh (l:=r) λy hy=>h y (av _ hy)]
theorem u9:∀(l:List (Option Nat)),(aU l.length).filterMap (λj=>l.getD j none)=l.filterMap id
 |[]=>rfl
 |x::r=>by
  rw[fB,Cg,k7,Aj];have e:(aU r.length).filterMap ((λj=>(x::r).getD j none) ∘ Nat.succ)=r.filterMap id:=by rw[<-u9 r];rfl
  rw[e];cases x<;>rfl
variable{m:Nat}
theorem A1(h:m=7\/m=31\/m=127\/m=511):Ru (m+1)=true:=by rcases h with rfl |rfl |rfl |rfl<;>decide+kernel
def KH(h:Heap)(a:afR)(l:List (Int×afX)):Prop:=∃o es ep t,h.get? a=some o/\o.ExactSet/\o.data= .set es ep t/\es.toList.Perm l/\t.place.size=es.size/\t.dummies=#[]/\(t.mask=7\/t.mask=31\/t.mask=127\/t.mask=511)/\es.size * 5 < t.mask * 3
theorem si{xs:Array Nat}{j:Nat}:∀(fuel lo hi:Nat),lo<=hi->below.go xs j fuel lo hi<=hi
 | 0,lo,hi,h=>h
 |fuel+1,lo,hi,h=>by
  unfold below.go;by_cases c:lo < hi
  ·rw[if_pos c];dsimp only;split
   ·exact si fuel _ _ (by omega)
   ·exact bZ (si fuel lo _ (by omega)) (by omega)
  ·rw[if_neg c];exact h
theorem HL(xs:Array Nat)(j:Nat):below xs j<=xs.size:=si _ _ _ (bH _)
theorem fits_of(h1:t.place.size=n)(h2:t.dummies=#[])(h3:n<=t.mask):t.fits n=true:=by unfold fits fill;rw[h2,h1];simp;exact h3
theorem A2{α:Type}{es:Array α}{order:Array Nat}(h:order.toList.Perm (aU es.size)):(order.filterMap (es[·]?)).toList.Perm es.toList:=by
 rw[Rv];refine(h.filterMap _).trans ?_;have:∀l:List α,(aU l.length).filterMap (λi=>l[i]?)=l:=by
  intro l
  induction l with
  |nil=>rfl
  |cons x r ih=>rw[fB,Cg,k7,Aj];show x::(aU r.length).filterMap ((λi=>(x::r)[i]?) ∘ Nat.succ)=_;rw[show((λi=>(x::r)[i]?) ∘ Nat.succ)=λi=>r[i]? from by funext i;simp,ih]
 have e:=this es.toList;rw[qR]at e;rw[show(λx=>es[x]?)=λi=>es.toList[i]? from by funext i;simp];rw[e]
section
variable {prog:afV}{w:afY}{A:afS}{E:afX->afW->Prop}{s:afW}
theorem grow(hm:m=7\/m=31\/m=127\/m=511)(h1:n * 5 < m * 3)(h2:(n+1) * 5 >= m * 3)(h3:n<=300):∃m',(m'=7\/m'=31\/m'=127\/m'=511)/\sizeAbove (grown (n+1))=m'+1/\(n+1) * 5 < m' * 3:=by
 rcases hm with rfl |rfl |rfl |rfl
 ·obtain rfl:n=4:=by omega
  exact⟨31,.inr (.inl rfl),by decide+kernel,by decide⟩
 ·obtain rfl:n=18:=by omega
  exact⟨127,.inr (.inr (.inl rfl)),by decide+kernel,by decide⟩
 ·obtain rfl:n=76:=by omega
  exact⟨511,.inr (.inr (.inr rfl)),by decide+kernel,by decide⟩
 ·omega
end
end TB
namespace J
open PySem PySem.Spec PyProof.Rows L2 TB
section
variable {prog:afV}{w:afY}{A:afS}{R:Result->afW->Prop}{I:afR}{fp wr:List afR}{n:Nat}{P:Nat->afX->Prop}{St:Nat->Heap->Prop}
def HM(prog:afV)(w:afY)(A:afS)(S:afR)(P:Nat->afX->Prop)(SP:Nat->Heap->Prop):Prop:=∀(i:Nat)(v:afX)(E:afX->afW->Prop)(s:afW)(Q:Bool->afW->Prop),P i v->SP i s.heap->(∀b h' tk,eB S s.heap h'->SP (i+1) h'->Q b { s with heap:=h',toks:=tk })->aga (model prog w) A (setAdd S v) Q E s
theorem u_(W:Walks prog w A.in1 I fp wr n P St)(S:afR)(hf:S∉fp){SP:Nat->Heap->Prop}(keep:∀i h h',SP i h->(∀b o,b∉wr->h.get? b=some o->h'.get? b=some o)->SP i h')(step:HM prog w A.in1 S P SP):
  ∀(k i:Nat)(s:afW),n - i=k->i<=n->St i s.heap->SP i s.heap->
   (∀h' tk,(∀b o,b∉S::wr->s.heap.get? b=some o->h'.get? b=some o)->SP n h'->R (.ok (.ret .none)) { s with heap:=h',toks:=tk })->
   af2 (model prog w) A (.builtin "set.update.loop" ⟨[.ref S,.ref I],[]⟩) R s
 | 0,i,s,hk,hi,st,z,q=>by
  have e:i=n:=by omega
  subst e;refine codeAny_builtin Rw ?_;rw[N5 HN _];refine agb (m:=pyNext (.ref I)) (W.done s _ _ st λh' tk kp=>?_);exact agh (q h' tk (λb o nb eo=>kp b o (λm=>nb (av _ m)) eo) (keep _ _ _ z λb o nb eo=>kp b o nb eo))
 |k+1,i,s,hk,hi,st,z,q=>by
  refine codeAny_builtin Rw ?_;rw[N5 HN _];refine agb (m:=pyNext (.ref I)) (W.item i s _ _ (by omega) st λv h1 tk hP st1 kp=>?_);refine agb (m:=holding [v] (setAdd S v)) (agd (step i v _ _ _ hP (keep _ _ _ z λb o nb eo=>kp b o nb eo) λbb h2 Rx sb z2=>?_));refine agh ⟨plainId_quiet HN _,u_ W S hf keep step k (i+1) _ (by omega) (by omega) (W.frame _ h1 _ st1 λb hb o eo=>?_) z2 λh' tk' kp' z'=>?_⟩
  ·rw[sb.2 b (λy:b=S=>hf (y ▸ hb))];exact eo
  ·refine q h' tk' (λb o nb eo=>kp' b o nb ?_) z';have nS:b≠S:=λy=>nb (by rw[y];exact ax);show h2.get? b=some o;rw[sb.2 b nS];exact kp b o (λm=>nb (av _ m)) eo
end
section
variable {prog:afV}{w:afY}{A:afS}{E:afX->afW->Prop}{s:afW}
abbrev gS(w:afY):Bool:=w.params.followText "set-order"
theorem t9(a:afX){Q₁:afX->afW->Prop}(h:Q₁ (.ref s.heap.objs.size) { s with heap:=s.heap.push (cR (!gS w)) }):
  af2 (model prog w) A (.call (.builtin "set.__new__") ⟨[.type "set",a],[]⟩) (wants Q₁ E) s:=by
 refine codeAny_of_tree (show aga _ A.in1 (do checkBuiltinCall "set.__new__" ⟨[.type "set",a],[]⟩;again (.builtin "set.__new__" ⟨[.type "set",a],[]⟩)) _ _ s from ?_);refine agb (wpAny_of_eq (F.newCall_set_1 a) (agh ⟨plainId_quiet F.plain_set_new _,codeAny_builtin F.entry_set_new ?_⟩));rw[N5 F.plain_set_new _];unfold Builtin.«set.__new__» Builtin.Frozenset.newClass;have hsub:=sub_set_self;obtain⟨hp,g,d,tk,os⟩:=s;dsimp only
 wp_walk
 refine wpAny_askSetting (agh ?_);dsimp only;simp only[newObj];refine agb (wpAny_alloc (agh ?_));exact agh h
theorem Es{l:afR}{items:Array afX}{Q:afX->afW->Prop}{SP:Nat->Heap->Prop}(hh:A.handled=none)(hl:s.heap.IsList l items)
  (keep:∀i h h',SP i h->(∀b o,b≠s.heap.objs.size+1->h.get? b=some o->h'.get? b=some o)->SP i h')(step:HM prog w A.in1.in1.in1 s.heap.objs.size (λi v=>items[i]? =some v) SP)
  (init:∀h led,led=(!gS w)->h.get? s.heap.objs.size=some (cR led)->(∀b o,s.heap.get? b=some o->h.get? b=some o)->SP 0 h)
  (h:∀h' tk,SP items.size h'->(∀b o,b < s.heap.objs.size->s.heap.get? b=some o->h'.get? b=some o)->Q (.ref s.heap.objs.size) { s with heap:=h',toks:=tk }):
  aga (model prog w) A (call (.type "set") [.ref l]) Q E s:=by
 have hmade:=F.called_set.made;have hsub:=F.called_set.sub;have h1:=F.called_set.notType;have h2:=F.called_set.canCreate;have hct:=F.typeCall_set_1 (.ref l);obtain⟨c,tl,VC⟩:=F.called_set.mro;refine wpAny_call (codeAny_of_tree (show aga _ _ (callAny (.type "set") _) _ _ _ from agh ⟨Code.quiet_builtin _ (by decide+kernel),codeAny_builtin F.entry_type_call ?_⟩));rw[Around.under_plain (weight_type_call_type "set" [aA l] []) rfl]
 repeat (any_goals (first |assumption |wp_step))
 refine codeAny_mono (t9 (aA l) (E:=E) (Q₁:=λv t=>∃led,led=(!gS w)/\v= .ref s.heap.objs.size/\t={ s with heap:=s.heap.push (cR led) }) ⟨_,rfl,rfl,rfl⟩) λr t hr=>?_;cases r with
 |error e=>exact hr
 |ok fl=>
  cases fl with
  |ret obj=>
   obtain⟨led,YZ,rfl,rfl⟩:=hr;have hS:(s.heap.push (cR led)).get? s.heap.objs.size=some (cR led):=bE _ rfl;have hT:Shared.TypeIs { s with heap:=s.heap.push (cR led) } (.ref s.heap.objs.size) "set":=⟨_,hS,rfl⟩;have hli:=F.called_set.init.lookup;have hbi:=F.called_set.init.bind (aA s.heap.objs.size)
   repeat (any_goals (first |assumption |wp_step))
   refine codeAny_mono (codeAny_call_builtin (R:=wants (λr t=>r= .none/\∃h' tk,t={ s with heap:=h',toks:=tk }/\SP items.size h'/\∀b o,b < s.heap.objs.size->s.heap.get? b=some o->h'.get? b=some o) E) F.called_set.init.plain F.entry_set_init (check_set_init_1 hT ?_)) λr₂ s₂ HP=>?_
   ·obtain⟨ol,hol,hcl,nl,hdl⟩:=hl;obtain⟨ad7,VH,abX,Ry⟩:=ol;simp only at hcl hdl;subst hcl;subst hdl;have Y0:(s.heap.push (cR led)).get? l=some { cls:=.type "list",dict:=VH,data:=.seq items nl,slots:=Ry }:=aT _ hol;have n1:=F.sub_list_set;have n2:=F.sub_list_frozenset;have n3:(jY "list" == jY "dict")=false:=by decide
    have ht:(s.heap.push (cR led)).IsList l items:=⟨_,Y0,rfl,nl,rfl⟩;unfold Builtin.«set.__init__» noKeywords Builtin.Frozenset.updateFrom;generalize hPI:pyIter=PI
    wp_walk
    subst hPI;refine wpAny_pyIter_list ht (agb (wpAny_runValue ?_));have lt:l < s.heap.objs.size:=az hol;have zp:(s.heap.push (cR led)).objs.size=s.heap.objs.size+1:=m7 ..;refine u_ (Walks.list (by simp[hh]) _ l (by rw[zp];exact aN (mn lt)) items) s.heap.objs.size ?nf (λi g g' z k=>keep i g g' z λb o nb e=>k b o (by rw[zp];simpa using nb) e) step (items.size - 0) 0 _ rfl (bH _) ⟨⟨_,bE _ rfl,rfl,rfl⟩,ht.push _⟩ ?z0 ?fin
    case nf=>
     rw[zp];simp only[dB,hJ,or_false,not_or];exact⟨aN (wt _),eP lt⟩
    case z0=>exact init _ led YZ (aT _ hS) λb o e=>aT _ (aT _ e)
    case fin=>
     intro h' tk kp z;refine agh (agh ⟨rfl,h',tk,rfl,z,λb o b1 e=>kp b o ?_ (aT _ (aT _ e))⟩);rw[zp];simp only[dB,hJ,or_false,not_or];exact⟨aN b1,aN (mn b1)⟩
   ·cases r₂ with
    |error e=>exact HP
    |ok VI=>
     cases VI with
     |ret r=>
      obtain⟨rfl,h',tk,rfl,z,kp⟩:=HP
      repeat (any_goals (first |assumption |wp_step))
      exact h _ _ z kp
     |_=>exact ae HP
  |_=>exact ae hr
end
section
variable {prog:afV}{w:afY}{A:afS}{E:afX->afW->Prop}{s:afW}
theorem ko{h h':Heap}{b:afR}{k:List L2.Key}(x:IsTupleKey (aw prog w) h k b)(kp:∀o,h.get? b=some o->h'.get? b=some o):IsTupleKey (aw prog w) h' k b:=by obtain⟨o,it,n,h1,r⟩:=x;exact⟨o,it,n,kp o h1,r⟩
end
theorem wu{H:Hp}:∀{vs:List V}{ks:List (List L2.Key)},Q2 H vs ks->∃bs:List afR,vs=bs.map V.ref/\ks.length=bs.length/\∀(j:Nat)(b:afR)(k:List L2.Key),bs[j]? =some b->ks[j]? =some k->H b=some (.tup (k.map kV))
 |_,_,.nil=>⟨[],rfl,rfl,λj b k e=>by cases e⟩
 |_,_,.cons h t=>by
  obtain⟨b,rfl,hb⟩:=h;obtain⟨bs,rfl,h1,h2⟩:=wu t;refine⟨b::bs,rfl,by simp[h1],λj c k e1 e2=>?_⟩;cases j with
  |zero=>cases e1;cases e2;exact hb
  |succ j=>exact h2 j c k e1 e2
theorem qC:∀{bs:List afR}{its:List afX},Vals (bs.map V.ref) its->its=bs.map aA
 |[],_,.nil=>rfl
 |b::bs,_,.cons h t=>by rw[qC t,show _=aA b from h];rfl
section
variable {X:Cx}
theorem wz{K:PySem.W.Frag}{m:Mp}{H:Hp}:∀{ws:List Wv}{xs:List V}{ks:List (List L2.Key)},ai K m H ws xs->dD mL ws=some ks->Q2 H xs ks
 |[],xs,ks,r,h=>by unfold ai at r;subst r;cases h;exact .nil
 |w::ws,xs,ks,r,h=>by
  unfold ai at r;obtain⟨x,t,rfl,r1,r2⟩:=r;unfold dD at h;cases e1:mL w with
  |none=>rw[e1]at h;cases h
  |some k=>
   cases e2:dD mL ws with
   |none=>rw[e1,e2]at h;cases h
   |some kr=>rw[e1,e2]at h;cases h;exact .cons (yg r1 e1) (wz r2 e2)
end
end J
namespace JT
open PySem PyProof.Rows
class Od where
 kd:SortKind
 ik:agj->Prop
 kn:agj->Int
abbrev Kd[Od]:SortKind:=Od.kd
abbrev Ik[Od](p:agj):Prop:=Od.ik p
def kn[Od](p:agj):Int:=Od.kn p
def K[Od](xs:Array agj)(i:Nat):Int:=match xs[i]? with
 |some p=>kn p
 |none=>0
class Oa [Od] (prog:afV) (w:afY) (A:afS) (E:afX->afW->Prop) (s:afW):Prop where
 lt:∀{st:SortSt}{x y:agj}{Q:Option Bool->SortSt->Prop},kindOf st=Kd->Ik x->Ik y->Q (some (decide (kn x < kn y))) st->wpS (model prog w) A E s (lt' x y) Q st
section
variable [Od] {prog:afV}{w:afY}{A:afS}{E:afX->afW->Prop}{s:afW} [Oa prog w A E s]
def gp(left:Bool)(key:agj)(arr:Array agj)(base i:Nat):Bool:=if left then decide (K arr (base+i) < kn key)else !decide (kn key < K arr (base+i))
end
section
variable [Od]
def Up(l:List agj):Prop:=l.Pairwise (kn · <=kn ·)
section
variable {α:Type}{f:α->Int}{A B:List α}
theorem drop_take{i n:Nat}(h:i<=n):A.drop i=(A.take n).drop i++A.drop n:=by
 have h1:=wA n A;have h2:=congrArg (List.drop i) h1;rw[List.drop_append]at h2;rw[<-h2];by_cases c:n<=A.length
 ·rw[nI,Nat.min_eq_left c,Md h,AJ]
 ·rw[Rg (show A.length<=n by exact Nat.le_of_not_le ‹_›),List.drop_nil]
end
theorem CI{a:Array agj}(i n:Nat):(a.extract i n).toList=(a.toList.take n).drop i:=by rw[Array.toList_extract,List.extract_eq_take_drop,List.drop_take]
def Sm(lo:Nat)(xs ys:Array agj):Prop:=ys.Perm xs/\∀i,i < lo->ys[i]? =xs[i]?
inductive Rn:Nat->List (Nat×Nat×Nat)->List agj->Prop
 |nil {s:Nat}:Rn s [] []
 |cons {s n p:Nat}{P:List (Nat×Nat×Nat)}{A X:List agj}:A.length=n->1<=n->Up A->Rn (s+n) P X->Rn s ((s,n,p)::P) (A++X)
end
end JT
namespace J
open PySem PySem.Spec PyProof.Rows PySem.W L2
theorem yC{α β:Type}{F:α->β->Prop}{l l':List α}(h:l'.Perm l):∀{k:List β},Paired F l k->∃k',k'.Perm k/\Paired F l' k':=by
 induction h with
 |nil=>intro k p;cases p;exact⟨[],.nil,.nil⟩
 |cons x _ ih=>
  intro k p;cases p with
  |cons a b=>obtain⟨k',q1,q2⟩:=ih b;exact⟨_,q1.cons _,.cons a q2⟩
 |swap x y l=>
  intro k p;cases p with
  |cons a b=>
   cases b with
   |cons c d=>exact⟨_,.swap _ _ _,.cons c (.cons a d)⟩
 |trans _ _ i1 i2=>intro k p;obtain⟨k1,q1,q2⟩:=i2 p;obtain⟨k2,q3,q4⟩:=i1 q2;exact⟨k2,q3.trans q1,q4⟩
open PySem PySem.Spec PyProof.Rows L2
theorem oV:fillsNumberSlot (.type "tuple") "mul"=pure false :=
 PySem.fillsNumberSlot_seq (id:="tuple.__mul__") (r:=some (.builtin "tuple.__rmul__")) F.slot_tuple_mul.lookup (by decide+kernel) F.slot_tuple_rmul.lookup (by decide+kernel)
theorem wB:seqRepeat? (.type "tuple")=pure (some (.builtin "tuple.__mul__")):=by unfold seqRepeat?;rw[PySem.seqSlot_of (T:="tuple") (name:="__mul__") (id:="tuple.__mul__") F.slot_tuple_mul.lookup (by decide+kernel),PySem.seqSlot_of (T:="tuple") (name:="__rmul__") (id:="tuple.__rmul__") F.slot_tuple_rmul.lookup (by decide+kernel)];rfl
theorem wC(a:Int)(t:Tok)(l:afR)(o:Obj)(its:Array afX)(n:Nat):
  Meets (Builtin.«int.__rmul__» ⟨[.int a t,.ref l],[]⟩) (λ_ R s=>s.heap.get? l=some o/\o.cls= .type "tuple"/\o.data= .seq its n/\R (.ok (.ret Value.notImplemented)) s) :=
 .of_wp λprog w A R s h=>by
  obtain⟨hp,g,d,tk,os⟩:=s;obtain⟨hl,hc,hd,h⟩:=h;have hT:(⟨hp,g,d,tk,os⟩:afW).TypeIs (.ref l) "tuple":=⟨o,hl,hc⟩
  wp_walk
  rw[hd];refine agh ?_
  wp_walk
  exact⟨_,rfl,h⟩
theorem Et(l:afR)(o:Obj)(its:Array afX)(n:Nat)(x:Int)(u:Tok)(h0:its.isEmpty=false)(h1:2<=x)(h2:x < 2 ^ 63)(h3:its.size * x.toNat<=af8):
  Meets (Builtin.«tuple.__mul__» ⟨[.ref l,.int x u],[]⟩) (λ_ R s=>s.heap.get? l=some o/\o.cls= .type "tuple"/\o.data= .seq its n/\R (.ok (.ret (aA s.heap.objs.size))) { s with heap:=s.heap.push { cls:=jY "tuple",data:=Data.seq (qY (λx1 x2=>x1++x2) #[] (ay x.toNat its)) } }) :=
 .of_wp λprog w A R s h=>by
  obtain⟨hl,hc,hd,h⟩:=h;show aga _ _ (asIndex (.int x u) >>= _) _ _ _;have hT:s.TypeIs (.ref l) "tuple":=⟨o,hl,hc⟩;have c1:(decide (x < -(2 ^ 63))||decide (x >= 2 ^ 63))=false:=by simp;omega
  have c2:(decide (x<=0)||its.isEmpty)=false:=by rw[h0];simp;omega
  have c3:(its.isEmpty||x == 1)=false:=by rw[h0];simp;omega
  have hm:(its.size:Int) * x<=af8:=by
   have e:x=(x.toNat:Int):=by omega
   rw[e]
   exact_mod_cast h3
  have c4:¬(its.size:Int) * x > (2 ^ 63 - 1) / 8:=by
   have:(af8:Int)<=(2 ^ 63 - 1) / 8:=by decide
   omega
  have c5:Builtin.Tuple.tupleTooMany ((its.size:Int) * x)=false:=decide_eq_false (by omega);refine agb (show aga _ _ (asIndex (.int x u)) _ _ _ from agh ?_);rw[c1];refine(show aga _ _ (zW (.ref l) >>= _) _ _ _ from agb (wpAny_tupleItemsOf hl hd ?_));rw[c3];simp only[aW,if_false];rw[c2];simp only[aW,if_false];rw[if_neg c4,c5];simp only[aW,if_false];refine agb (show aga _ _ (newObj (.type "tuple") (.seq _)) _ _ _ from agg (agh ⟨_,rfl,h⟩) ?_);show(qY (λx1 x2=>x1++x2) #[] (ay x.toNat its)).size<=af8;have f0:=foldl_rep its.toList x.toNat [];rw[nK]at f0;have f1:its.toList.toArray=its:=by simp
  rw[f1]at f0;rw[f0,aZ,len_rep,qR,vG];exact h3
section
variable {X:Cx}
def VJ(K:PySem.W.Frag):R2:=λx y H Q=>∃a k xs,x= .ref a/\y= .int k/\eO K H a xs/\xs≠[]/\2<=k/\k < 2 ^ 63/\xs.length * k.toNat<=af8/\∀p,H p=none->Q (.ref p) (upd H p (.tup (ay k.toNat xs).flatten))
theorem Mq:fV X (af0 .Mult) (VJ X.K):=by
 intro pins s σ H x y v u Q I rx ry h;obtain⟨a,k,xs,rfl,rfl,hH,h0,h1,h2,hz,q⟩:=h;cases rx;obtain⟨t,rfl⟩:=ry;obtain⟨its,r,⟨o,g1,g2,n,g3⟩,_⟩:=I.tuple hH;have hl:=r.length;have hlen:its.toArray.size * k.toNat<=af8:=by rw[aZ,<-hl];exact hz
 have hne:its.toArray.isEmpty=false:=by
  cases r with
  |nil=>exact absurd rfl h0
  |cons _ _=>rfl
 have hnew:qY (λx1 x2=>x1++x2) #[] (ay k.toNat its.toArray)=(ay k.toNat its).flatten.toArray:=by have:=foldl_rep its k.toNat [];rw[nK]at this;exact this
 refine wpAny_binaryOp_repeat_ref (T:="tuple") (U:="int") (by decide) ⟨o,g1,g2⟩ (λs'=>typeIs_int s' k t) oV F.fills_int_mul Ap wB F.slot_int_index.lookup
  (call_meets Ap (typeIs_int s k t) F.entry_int_rmul (F.args_int_rmul_2 _ _) (wC k t a o its.toArray n)
   ⟨g1,g2,g3,rfl,⟨o,g1,g2⟩,call_meets F.slot_tuple_mul ⟨o,g1,g2⟩ F.entry_tuple_mul (F.args_tuple_mul_2 _ _) (Et a o its.toArray n k t hne h1 h2 hlen) ⟨g1,g2,g3,?_⟩⟩)
 rw[hnew];refine⟨.ref s.heap.objs.size,_,I.laid (t':=s.toks) (o:=.tup (ay k.toNat xs).flatten) (λb ob q=>aT _ q) (ar _) ?_,rfl,q _ (I.hok.fresh (ar _))⟩;exact⟨by rw[len_rep,vG];exact hz,_,r.rep k.toNat,Al _ _,xp.new _ _⟩
def eG:fX:=λx y st=>match x,y with
 |.tup ws,.int n=>if ws≠[]/\2<=n/\n < 2 ^ 62/\ws.length * n.toNat<=lim then .ok (.tup (ay n.toNat ws).flatten) st else .bad
 |x,y=>NZ x y st
theorem HQ:jU X (af0 .Mult) eG:=by
 obtain⟨r,h1,h2⟩:=L8 (X:=X);refine⟨_,fV.or Mq h1,λx y a b st H m Q S rx ry p=>?_⟩;cases x with
 |tup ws=>
  cases y with
  |int n=>
   have p':dC X.K m H (if ws≠[]/\2<=n/\n < 2 ^ 62/\ws.length * n.toNat<=lim then .ok (.tup (ay n.toNat ws).flatten) st else .bad) Q:=p;by_cases c:ws≠[]/\2<=n/\n < 2 ^ 62/\ws.length * n.toNat<=lim
   ·rw[if_pos c]at p';cases aX ry;unfold ag at rx;obtain⟨d,xs,rfl,hd,rs⟩:=rx;refine .inl ⟨d,n,xs,rfl,rfl,eO.of hd,λe=>?_,c.2.1,by have:=c.2.2.1;omega,by rw[<-rs.length];exact eD c.2.2.2,λq hq=>?_⟩
    ·subst e;exact c.1 (Ax rs.length)
    ·have eY:Ext X.K m H m (upd H q (.tup (ay n.toNat xs).flatten)):=Ext.mJ (.inl hq);refine p' (.ref q) m _ eY (S.fresh hq) ?_;unfold ag;exact⟨q,_,rfl,bq,(oP rs n.toNat).mono eY⟩
   ·rw[if_neg c]at p';exact ae p'
  |_=>exact .inr (h2 _ _ _ _ st H m Q S rx ry p)
 |_=>exact .inr (h2 _ _ _ _ st H m Q S rx ry p)
end
def jQ(f:Expr->GE):List Expr->GA
 |[]=>aj
 |e::es=>aa (f e) (jQ f es)
def Y1(x:Str):Nat:=if x="reached_from" then 2 else 3
def Y2(P:afV)(w:afY)(K:PySem.W.Frag)(mg:Str->Option afX)(k j n:Nat)(x:Str)(FL:W6):Prop :=
 (∃f,mg x=some (.ref f)/\PySem.W.keepIn K (.ref f)=true)/\∀(base:Heap)(p:Lm)(L:LF),AU K mg base->L9 P w K mg base (j+1) p 1 L->fj P w K mg base k x n (FL p L)
def FnQ(lp:Nat)(P:afV)(w:afY)(K:PySem.W.Frag)(mg:Str->Option afX)(k j:Nat)(x:Str)(FL:W6):Prop:=match lp with
 | 1=>Y2 P w K mg k j (Y1 x) x FL
 |_=>FnL P w K mg k j x FL
--PARTB
end J
namespace TB
open PySem PySem.SetTable
def Y3(m:Nat)(p:Probe):Probe:=advance { fresh 0 0 false with mask:=m } p
def Rz(m:Nat)(h:Int):Probe:=⟨bits h % (m+1),runEnd m (bits h % (m+1)) - bits h % (m+1),bits h % (m+1),bits h,none⟩
def Way(m:Nat)(F:Nat->Prop):Nat->Probe->Nat->Prop
 | 0,p,j=>p.j=j
 |n+1,p,j=>F p.j/\Way m F n (Y3 m p) j
variable{m:Nat}
theorem Way.mono{F G:Nat->Prop}(h:∀j,F j->G j):∀{n:Nat}{p:Probe}{j:Nat},Way m F n p j->Way m G n p j
 | 0,_,_,w=>w
 |n+1,_,_,w=>⟨h _ w.1,w.2.mono h⟩
theorem below_at{xs:Array Nat}{j:Nat}(hs:xs.toList.Pairwise (· < ·)):∀(fuel lo hi:Nat),lo<=hi->hi<=xs.size->hi - lo<=fuel->(∀i v,i < lo->xs[i]? =some v->v < j)->(∀i v,hi<=i->xs[i]? =some v->j<=v)->
  (∀i v,i < below.go xs j fuel lo hi->xs[i]? =some v->v < j)/\∀i v,below.go xs j fuel lo hi<=i->xs[i]? =some v->j<=v
 | 0,lo,hi,h1,h2,h3,a,b=>by
  obtain rfl:lo=hi:=by omega
  exact⟨a,b⟩
 |fuel+1,lo,hi,h1,h2,h3,a,b=>by
  unfold below.go;by_cases c:lo < hi
  ·rw[if_pos c];dsimp only;have hm:(lo+hi) / 2 < xs.size:=by omega
   have em:xs[(lo+hi) / 2]? =some (xs[(lo+hi) / 2]):=iG hm;have ord:∀i k u v,i < k->xs[i]? =some u->xs[k]? =some v->u < v:=λi k u v hik e1 e2=>by rw[<-kW]at e1 e2;obtain⟨l1,rfl⟩:=List.getElem?_eq_some_iff.mp e1;obtain⟨l2,rfl⟩:=List.getElem?_eq_some_iff.mp e2;exact List.pairwise_iff_getElem.mp hs i k l1 l2 hik
   have eg:xs.getD ((lo+hi) / 2) j=xs[(lo+hi) / 2]:=by simp[jO,em]
   rw[eg];by_cases d:xs[(lo+hi) / 2] < j
   ·rw[if_pos d];have h4:hi - ((lo+hi) / 2+1)<=fuel:=by omega
    refine below_at hs fuel _ _ (by omega) h2 h4 (λi v hi' e=>?_) b;by_cases z:i=(lo+hi) / 2
    ·subst z;rw[em]at e;cases e;exact d
    ·exact vK (ord i _ _ _ (by omega) e em) d
   ·rw[if_neg d];have h4:(lo+hi) / 2 - lo<=fuel:=by omega
    refine below_at hs fuel _ _ (by omega) (by omega) h4 a λi v hi' e=>?_;by_cases z:i=(lo+hi) / 2
    ·subst z;rw[em]at e;cases e;omega
    ·exact qg (Nat.lt_of_le_of_lt (Nat.not_lt.mp d) (ord _ i _ _ (by omega) em e))
  ·rw[if_neg c];obtain rfl:lo=hi:=by omega
   exact⟨a,b⟩
variable{j:Nat}
theorem sj{xs:Array Nat}(hs:xs.toList.Pairwise (· < ·)):(∀i v,i < below xs j->xs[i]? =some v->v < j)/\∀i v,below xs j<=i->xs[i]? =some v->j<=v :=
 below_at hs _ _ _ (bH _) (ar _) (by omega) (λi v h _=>by omega) λi v h e=>by have:=(Array.getElem?_eq_some_iff.mp e).1;omega
variable{t:SetTable}
theorem slot_of(hd:t.dummies=#[])(hs:t.place.toList.Pairwise (· < ·)):
  (∀i,t.place[i]? =some j->t.slot j= .live i)/\(∀i,t.slot j= .live i->t.place[i]? =some j)/\(j∈t.place.toList↔t.slot j≠.empty):=by
 have nd:=mC hd j;have b:=sj (j:=j) hs;have k1:∀i,t.place[i]? =some j->t.slot j= .live i:=λi e=>by
  have e2:below t.place j=i:=by
   rcases Nat.lt_trichotomy (below t.place j) i with q |q |q
   ·have hl:=(Array.getElem?_eq_some_iff.mp e).1;have e3:t.place[below t.place j]? =some (t.place[below t.place j]):=iG (by omega);have:=b.2 _ _ (ar _) e3;rw[<-kW]at e e3;obtain⟨l1,y1⟩:=List.getElem?_eq_some_iff.mp e;obtain⟨l2,y2⟩:=List.getElem?_eq_some_iff.mp e3;have:=List.pairwise_iff_getElem.mp hs _ _ l2 l1 q;omega
   ·exact q
   ·have:=b.1 _ _ q e;omega
  unfold slot;dsimp only;rw[e2,e];simp
 have k2:∀i,t.slot j= .live i->t.place[i]? =some j:=λi e=>by
  unfold slot at e;dsimp only at e;by_cases c:(t.place[below t.place j]? == some j)=true
  ·rw[if_pos c]at e;cases e;simpa using c
  ·rw[if_neg c]at e;split at e<;>cases e
 refine⟨k1,k2,λm=>?_,λm=>AZ λz=>m (nd.2.1 z)⟩;obtain⟨i,hi,e⟩:=i9 m;rw[k1 i (by rw[<-kW,bh hi,e])]
 nofun
theorem va{t:SetTable}{hashAt:Nat->Int}{h:Int}(hd:t.dummies=#[])(hs:t.place.toList.Pairwise (· < ·)){j:Nat}{d:Option Nat}:∀(fuel:Nat)(p:Probe),probe.go t hashAt h fuel p=some (.empty j d)->∃n,n < fuel/\Way t.mask (· ∈t.place.toList) n p j/\j∉t.place.toList
 | 0,p,e=>by cases e
 |fuel+1,p,e=>by
  rw[Ml]at e;have so:=slot_of hd hs (j:=p.j);cases q:t.slot p.j with
  |empty=>rw[q]at e;cases e;exact⟨0,by omega,rfl,λm=>so.2.2.mp m q⟩
  |dummy=>exact absurd q (mC hd _).1
  |live i=>
   rw[q]at e;dsimp only at e;split at e
   ·cases e
   ·obtain⟨n,h1,h2,h3⟩:=va hd hs fuel _ e;exact⟨n+1,by omega,⟨so.2.2.mpr (by rw[q];nofun),h2⟩,h3⟩
theorem pS{t:SetTable}{hashAt:Nat->Int}{h:Int}(hd:t.dummies=#[])(hs:t.place.toList.Pairwise (· < ·)){i j:Nat}(ei:t.place[i]? =some j)(hi:hashAt i=h)(ho:∀k,k < t.place.size->hashAt k=h->k=i):
  ∀(n fuel:Nat)(p:Probe),n < fuel->Way t.mask (· ∈t.place.toList) n p j->∃nx,probe.go t hashAt h fuel p=some (.candidate j i nx)
 |n,0,p,hf,w=>by omega
 |n,fuel+1,p,hf,w=>by
  rw[Ml];have so:=slot_of hd hs (j:=p.j);have hit:∀k,t.slot p.j= .live k->hashAt k=h->∃nx,(if(hashAt k == h)=true then some (Met.candidate p.j k (t.advance p))else probe.go t hashAt h fuel (t.advance p))=some (.candidate j i nx):=λk e1 e2=>by have e3:=so.2.1 k e1;obtain rfl:=ho k (Array.getElem?_eq_some_iff.mp e3).1 e2;rw[ei]at e3;cases e3;rw[if_pos (by simpa using e2)];exact⟨_,rfl⟩
  cases n with
  |zero=>have e:p.j=j:=w;have q:t.slot p.j= .live i:=so.1 i (by rw[e];exact ei);rw[q];exact hit i q hi
  |succ n=>
   obtain⟨w1,w2⟩:=w;have ne:=so.2.2.mp w1;cases q:t.slot p.j with
   |empty=>exact absurd q ne
   |dummy=>exact absurd q (mC hd _).1
   |live k=>
    dsimp only;by_cases c:hashAt k=h
    ·exact hit k q c
    ·rw[if_neg (by simpa using c)];exact pS hd hs ei hi ho n fuel _ (by omega) w2
theorem CJ(m j more i p:Nat)(d:Option Nat):Y3 m ⟨j,more+1,i,p,d⟩=⟨j+1,more,i,p,d⟩:=rfl
theorem HR(m j i p:Nat)(d:Option Nat):Y3 m ⟨j,0,i,p,d⟩=⟨(leap m i p).1,runEnd m (leap m i p).1 - (leap m i p).1,(leap m i p).1,(leap m i p).2,d⟩:=rfl
theorem CK{m:Nat}{F:Nat->Prop}{i p:Nat}{d:Option Nat}:∀{k more j:Nat},k<=more->(∀x,x < k->F (j+x))->Way m F k ⟨j,more,i,p,d⟩ (j+k)
 | 0,more,j,_,_=>rfl
 |k+1,0,j,h,_=>by omega
 |k+1,more+1,j,h,f=>by
  refine⟨f 0 (by omega),?_⟩;rw[CJ,show j+(k+1)=j+1+k from by omega];exact CK (by omega) λx hx=>by
   have:=f (x+1) (by omega)
   rwa [show j+(x+1)=j+1+x from by omega]at this
theorem CL{m:Nat}{F:Nat->Prop}{i p:Nat}{d:Option Nat}{n z:Nat}:∀{more j:Nat},(∀x,x<=more->F (j+x))->Way m F n ⟨(leap m i p).1,runEnd m (leap m i p).1 - (leap m i p).1,(leap m i p).1,(leap m i p).2,d⟩ z->Way m F (more+1+n) ⟨j,more,i,p,d⟩ z
 | 0,j,f,w=>by rw[show 0+1+n=n+1 from by omega];exact⟨f 0 (by omega),by rw[HR];exact w⟩
 |more+1,j,f,w=>by
  rw[show more+1+1+n=(more+1+n)+1 from by omega];refine⟨f 0 (by omega),?_⟩;rw[CJ];exact CL (λx hx=>by
   have:=f (x+1) (by omega)
   rwa [show j+(x+1)=j+1+x from by omega]at this) w
def Fo(m:Nat)(owner:Array (Option Nat))(j:Nat):Prop:=j < m+1/\(owner.getD j (some 0)).isNone=false
theorem Eu{i:Nat}(h:i < m+1):i<=runEnd m i/\runEnd m i < m+1:=by unfold runEnd;split<;>omega
theorem yG{m:Nat}{owner:Array (Option Nat)}{j:Nat}:∀(fuel i p:Nat),i < m+1->layClean.free m owner fuel i p=some j->∃n,n < 10 * fuel/\Way m (Fo m owner) n ⟨i,runEnd m i - i,i,p,none⟩ j
 | 0,i,p,hi,e=>by cases e
 |fuel+1,i,p,hi,e=>by
  unfold layClean.free at e;have r:=Eu hi;have r9:=HI m i;cases q:(aU (runEnd m i+1 - i)).find? λk=>(owner.getD (i+k) (some 0)).isNone with
  |some k=>
   rw[q]at e;cases e;rw[List.find?_range_eq_some]at q;have hk:k < runEnd m i+1 - i:=by simpa using q.2.1
   refine⟨k,by omega,CK (by omega) λx hx=>⟨by omega,?_⟩⟩;simpa using q.2.2 x hx
  |none=>
   rw[q]at e;dsimp only at e;obtain⟨n,h1,h2⟩:=yG fuel _ _ (oh _ (by omega)) e;have al:=List.find?_eq_none.mp q;refine⟨runEnd m i - i+1+n,by omega,CL (λx hx=>⟨by omega,?_⟩) h2⟩;have:=al x (List.mem_range.mpr (by omega));cases z:(owner.getD (i+x) (some 0)).isNone with
   |false=>rfl
   |true=>exact absurd z this
theorem CM{m:Nat}(hc:Ru (m+1)=true)(H:Nat->Int):∀(hs:List Int)(owner:Array (Option Nat))(k:Nat),(∀i h,hs[i]? =some h->H (k+i)=h)->owner.size=m+1->(owner.toList.filterMap id).Perm (aU k)->k+hs.length<=m->
  (∀j c,owner[j]? =some (some c)->∃n,n < 10 * turns m/\Way m (Fo m owner) n (Rz m (H c)) j)->
  ∃owner',hs.foldl (init:=some (owner,k)) (λacc h=>do
   let (owner,k) <-acc
   let j <-layClean.free m owner (turns m) (bits h % (m+1)) (bits h)
   pure (owner.setIfInBounds j (some k),k+1))=some (owner',k+hs.length)/\owner'.size=m+1/\(owner'.toList.filterMap id).Perm (aU (k+hs.length))/\
   ∀j c,owner'[j]? =some (some c)->∃n,n < 10 * turns m/\Way m (Fo m owner') n (Rz m (H c)) j
 |[],owner,k,h0,h1,h2,_,h4=>⟨owner,rfl,h1,h2,h4⟩
 |h::hs,owner,k,h0,h1,h2,h3,h4=>by
  have hn:none∈owner.toList:=AZ λc=>by have e:=yA c;have:=h2.length_eq;simp at e this;simp at h3;omega
  obtain⟨j0,g0,g1⟩:=i9 hn;have g0':j0 < m+1:=by simpa [h1]using g0
  obtain⟨n,n1,n2⟩:=CG hc (i:=bits h % (m+1)) (p:=bits h) (oh _ (by omega)) (CH h) g0';obtain⟨j,e1,e2⟩:=yB (mask:=m) (owner:=owner) n (turns m) (bits h % (m+1)) (bits h) (by unfold turns;omega) (by
   rw[n2,jO,iG (by omega)];have:owner[j0]'(by omega)=none:=by simpa using g1
   rw[this];rfl)
  have ej:owner.toList[j]? =some none:=by
   rw[jO]at e2;rw[kW];cases q:owner[j]? with
   |none=>rw[q]at e2;cases e2
   |some x=>
    rw[q]at e2;cases x with
    |none=>rfl
    |some y=>cases e2
  have hp:((owner.setIfInBounds j (some k)).toList.filterMap id).Perm (aU (k+1)):=by rw[Array.toList_setIfInBounds];refine(yz ej).trans ?_;rw[CN];exact(h2.cons k).trans (List.perm_append_comm (l₁:=[k]) (l₂:=aU k))
  have hj:j < owner.size:=(Array.getElem?_eq_some_iff.mp (by rw[<-kW];exact ej)).1;have mono:∀x,Fo m owner x->Fo m (owner.setIfInBounds j (some k)) x:=λx ⟨x1,x2⟩=>⟨x1,by
   rw[jO,VL];by_cases z:j=x
   ·rw[if_pos z,if_pos hj];rfl
   ·rw[if_neg z,<-jO];exact x2⟩
  have hw:∀x c,(owner.setIfInBounds j (some k))[x]? =some (some c)->∃n,n < 10 * turns m/\Way m (Fo m (owner.setIfInBounds j (some k))) n (Rz m (H c)) x:=λx c e=>by
   rw[VL]at e;by_cases z:j=x
   ·rw[if_pos z,if_pos hj]at e;cases e;subst z;obtain⟨a,a1,a2⟩:=yG _ _ _ (oh _ (by omega)) e1;have:=h0 0 h rfl;rw[CF]at this;rw[this];exact⟨a,a1,a2.mono mono⟩
   ·rw[if_neg z]at e;obtain⟨a,a1,a2⟩:=h4 x c e;exact⟨a,a1,a2.mono mono⟩
  obtain⟨o',f1,f2,f3,f4⟩:=CM hc H hs (owner.setIfInBounds j (some k)) (k+1) (λi v e=>by have:=h0 (i+1) v (by simpa using e);rwa [show k+(i+1)=k+1+i from by omega]at this) (by simpa using h1) hp (by simp at h3;omega) hw;refine⟨o',?_,f2,?_,f4⟩
  ·rw[oI];have e3:(do
    let (owner,k) <-some (owner,k)
    let j <-layClean.free m owner (turns m) (bits h % (m+1)) (bits h)
    pure (owner.setIfInBounds j (some k),k+1))=some (owner.setIfInBounds j (some k),k+1):=by
    show(layClean.free m owner (turns m) (bits h % (m+1)) (bits h)).bind _=_;rw[e1];rfl
   rw[e3,f1];simp;omega
  ·rw[fB,show k+(hs.length+1)=k+1+hs.length from by omega];exact f3
structure Tb(t:SetTable)(es:Array (Int×afX))(L:List (Nat×Int×afX)):Prop where
 pl:t.place.toList=L.map (·.1)
 en:es.toList=L.map (·.2)
 so:(L.map (·.1)).Pairwise (· < ·)
 du:t.dummies=#[]
 wy:∀q∈L,∃n,n < 10 * turns t.mask/\Way t.mask (· ∈L.map (·.1)) n (Rz t.mask q.2.1) q.1
variable{es:Array (Int×afX)}
theorem HS{finger moves:Nat}{led plain:Bool}(hc:Ru (m+1)=true)(hn:es.size<=m):
  ∃t order L,laid m finger moves led plain (es.map (·.1))=some (t,order)/\t.mask=m/\Tb t (order.filterMap (es[·]?)) L/\(L.map (·.2)).Perm es.toList:=by
 obtain⟨o,e,h1,h2,h3⟩:=CM hc (λc=>(es.toList[c]?.map (·.1)).getD 0) (es.map (·.1)).toList (Array.replicate (m+1) none) 0 (λi h e=>by
  rw[qA];rw[Array.toList_map,cM]at e;rw[e];rfl) (by simp) (by simp[List.filterMap_replicate]) (by simpa using hn) (λj c e=>by
  rw[Array.getElem?_replicate]at e;split at e<;>cases e)
 have lc:layClean m (es.map (·.1))=some o:=by unfold layClean;rw[<-Array.foldl_toList,e];rfl
 have hz:∀j c,o[j]? =some (some c)->c < es.size:=λj c e=>by
  have:c∈o.toList.filterMap id:=by rw[Ck];refine⟨some c,?_,rfl⟩;exact Array.mem_toList_iff.mpr (A0 e)
  have:=(h2.mem_iff.mp this);rw[List.mem_range]at this;simpa using this
 have key:((aU (m+1)).filterMap λj=>(o.getD j none).map (j,·)).map (·.2)=o.toList.filterMap id:=by
  rw[List.map_filterMap,<-u9];have:o.toList.length=m+1:=by simpa using h1
  rw[this];refine sh λj _=>?_;have:o.toList.getD j none=o.getD j none:=by simp[jO,qv]
  rw[this];cases o.getD j none<;>rfl
 have mem:∀q,q∈((aU (m+1)).filterMap λj=>(o.getD j none).map (j,·))↔o[q.1]? =some (some q.2):=λq=>by
  rw[Ck];constructor
  ·rintro⟨j,hj,e⟩;rw[jO]at e;cases z:o[j]? with
   |none=>rw[z]at e;cases e
   |some x=>
    rw[z]at e;cases x with
    |none=>cases e
    |some c=>cases e;exact z
  ·intro e;have:=(Array.getElem?_eq_some_iff.mp e).1;refine⟨q.1,List.mem_range.mpr (by omega),?_⟩;rw[jO,e];rfl
 have srt:(((aU (m+1)).filterMap λj=>(o.getD j none).map (j,·)).map (·.1)).Pairwise (· < ·):=by
  rw[CC,List.pairwise_filterMap];refine List.Pairwise.imp ?_ List.pairwise_lt_range;intro a b hab x hx y hy;cases za:o.getD a none with
  |none=>rw[za]at hx;cases hx
  |some u=>
   cases zb:o.getD b none with
   |none=>rw[zb]at hy;cases hy
   |some v=>rw[za]at hx;rw[zb]at hy;cases hx;cases hy;exact hab
 generalize hL:((aU (m+1)).filterMap λj=>(o.getD j none).map (j,·))=L at key mem srt;have pm:(L.map (·.2)).Perm (aU es.size):=by rw[key];simpa using h2
 have lt:∀q∈L,q.2 < es.size:=λq hq=>hz _ _ ((mem q).mp hq);have dflt:∀q∈L,es[q.2]? =some (es.getD q.2 default):=λq hq=>by have:=lt q hq;rw[jO,iG this];rfl
 have fmm:(((L.map (·.2)).toArray).filterMap (es[·]?)).toList=(L.map λq=>(q.1,es.getD q.2 default)).map (·.2):=by rw[Rv,Aj,cu];rw[show L.map ((λq:Nat×Int×afX=>q.2) ∘ λq=>(q.1,es.getD q.2 default))=L.filterMap λq=>some (es.getD q.2 default) from by rw[List.filterMap_eq_map'];rfl];exact sh λq hq=>dflt q hq
 have Y4:(L.map λq=>(q.1,es.getD q.2 default)).map (·.1)=L.map (·.1):=by rw[cu];rfl
 refine⟨_,_,L.map λq=>(q.1,es.getD q.2 default),by unfold laid;rw[lc];rfl,rfl,⟨?_,?_,?_,rfl,?_⟩,?_⟩
 ·rw[Y4,<-hL]
 ·rw[hL];exact fmm
 ·rw[Y4];exact srt
 ·intro q hq;obtain⟨q',hq',rfl⟩:=List.mem_map.mp hq;obtain⟨n,n1,n2⟩:=h3 _ _ ((mem q').mp hq');refine⟨n,n1,?_⟩;have e0:((es.toList[q'.2]?.map (·.1)).getD 0)=(es.getD q'.2 default).1:=by rw[kW,dflt q' hq'];rfl
  rw[e0]at n2;refine n2.mono λx ⟨x1,x2⟩=>?_;rw[Y4];rw[jO,iG (by omega)]at x2;cases z:o[x]'(by omega)with
  |none=>rw[z]at x2;cases x2
  |some c=>exact List.mem_map.mpr ⟨(x,c),(mem (x,c)).mpr (by rw[iG (by omega),z]),rfl⟩
 ·rw[<-fmm];refine A2 (es:=es) (order:=(L.map (·.2)).toArray) (by simpa using pm)
variable{L:List (Nat×Int×afX)}
theorem Tb.size(B:Tb t es L):t.place.size=L.length/\es.size=L.length:=by have h1:=congrArg fv B.pl;have h2:=congrArg fv B.en;rw[qR,bf]at h1 h2;exact⟨h1,h2⟩
theorem Tb.sorted(B:Tb t es L):t.place.toList.Pairwise (· < ·):=by rw[B.pl];exact B.so
variable{h:Int}{x:afX}
theorem RA(B:Tb t es L){n:Nat}(hn:n < 10 * turns t.mask)(hw:Way t.mask (· ∈t.place.toList) n (Rz t.mask h) j)(hj:j∉t.place.toList):
  ∃L',Tb (t.put j).1 (insertAt es (t.put j).2 (h,x)) L'/\L'.Perm ((j,h,x)::L):=by
 have bo:=sj (j:=j) B.sorted;have dm:(t.put j).1.dummies=#[]:=by
  show(if has t.dummies j then eraseAt t.dummies (below t.dummies j)else t.dummies)=_;have:has t.dummies j=false:=by rw[B.du];unfold has;simp
  rw[this,if_neg bF,B.du]
 have e1:((t.put j).1).place.toList=t.place.toList.take (below t.place j)++j::t.place.toList.drop (below t.place j):=by show(insertAt t.place (below t.place j) j).toList=_;rw[Mr]
 have e2:(insertAt es (t.put j).2 (h,x)).toList=es.toList.take (below t.place j)++(h,x)::es.toList.drop (below t.place j):=by show(insertAt es (below t.place j) (h,x)).toList=_;rw[Mr]
 have e3:((L.take (below t.place j)++(j,h,x)::L.drop (below t.place j))).map (·.1)=t.place.toList.take (below t.place j)++j::t.place.toList.drop (below t.place j):=by rw[B.pl,hU,aH,List.map_take,List.map_drop]
 have mem:∀a,a∈t.place.toList->a∈((L.take (below t.place j)++(j,h,x)::L.drop (below t.place j))).map (·.1):=λa ha=>by
  rw[e3];rw[<-wA (below t.place j) t.place.toList]at ha;rcases List.mem_append.mp ha with q |q
  ·exact gX _ q
  ·exact bU _ (av _ q)
 refine⟨L.take (below t.place j)++(j,h,x)::L.drop (below t.place j),⟨by rw[e1,e3],?_,?_,dm,?_⟩,?_⟩
 ·rw[e2,B.en,hU,aH,List.map_take,List.map_drop]
 ·rw[e3];have s0:=B.sorted;rw[<-wA (below t.place j) t.place.toList]at s0;obtain⟨s1,s2,s3⟩:=List.pairwise_append.mp s0;have lo:∀a∈t.place.toList.take (below t.place j),a < j:=λa ha=>by obtain⟨i,hi,e⟩:=i9 ha;rw[nI]at hi;refine bo.1 i a (by omega) ?_;rw[<-kW,bh (by omega),<-e,List.getElem_take]
  have hi:∀b∈t.place.toList.drop (below t.place j),j < b:=λb hb=>by have hb':=Ms hb;obtain⟨i,hi,e⟩:=i9 hb;rw[BQ]at hi;have:=bo.2 (below t.place j+i) b (by omega) (by rw[<-kW,bh (by omega),<-e,List.getElem_drop]);have ne:j≠b:=λz=>hj (z ▸ hb');omega
  refine List.pairwise_append.mpr ⟨s1,List.pairwise_cons.mpr ⟨hi,s2⟩,λa ha b hb=>?_⟩;rcases List.mem_cons.mp hb with rfl |hb
  ·exact lo a ha
  ·exact s3 a ha b hb
 ·intro q hq;show ∃n,n < 10 * turns t.mask/\Way t.mask _ n (Rz t.mask q.2.1) q.1;rcases List.mem_append.mp hq with hq |hq
  ·obtain⟨a,a1,a2⟩:=B.wy q (List.mem_of_mem_take hq);exact⟨a,a1,a2.mono λy hy=>mem y (by rw[B.pl];exact hy)⟩
  ·rcases List.mem_cons.mp hq with rfl |hq
   ·exact⟨n,hn,hw.mono λy hy=>mem y hy⟩
   ·obtain⟨a,a1,a2⟩:=B.wy q (Ms hq);exact⟨a,a1,a2.mono λy hy=>mem y (by rw[B.pl];exact hy)⟩
 ·exact List.perm_middle.trans (by rw[wA])
def jR(g:Bool)(h:Heap)(a:afR)(l:List (Int×afX)):Prop:=∃o es ep t L,h.get? a=some o/\o.ExactSet/\o.data= .set es ep t/\Tb t es L/\(L.map (·.2)).Perm l/\(t.mask=7\/t.mask=31\/t.mask=127\/t.mask=511)/\l.length * 5 < t.mask * 3/\t.led= !g/\t.plain=true
variable{b:afR}{g:Bool}{l:List (Int×afX)}{Q:Bool->afW->Prop}
section
variable {prog:afV}{w:afY}{A:afS}{E:afX->afW->Prop}{s:afW}
theorem wD{t t2:SetTable}{hs:Array Int}{order:Array Nat}{f v:Nat}{a b:Bool}(e:laid m f v a b hs=some (t2,order)):t2.led=a/\t2.plain=b:=by
 unfold laid at e;cases q:layClean m hs with
 |none=>rw[q]at e;cases e
 |some o=>rw[q]at e;cases e;exact⟨rfl,rfl⟩
theorem Ew{S:afR}{o:Obj}{es1:Array (Int×afX)}{ep n:Nat}{t1:SetTable}{L1:List (Nat×Int×afX)}(ho:s.heap.get? S=some o)(hex:o.ExactSet)(hd:o.data= .set es ep t)
  (B:Tb t1 es1 L1)(hp:(L1.map (·.2)).Perm l)(hn:l.length=n+1)(hm:t1.mask=7\/t1.mask=31\/t1.mask=127\/t1.mask=511)(h5:n * 5 < t1.mask * 3)(hl:n<=300)(gl:t1.led= !g)(gp:t1.plain=true)
  (hq:∀h',eB S s.heap h'->jR g h' S l->Q true { s with heap:=h' }):
  aga (model prog w) A (do storeSet S es1 t1;if(!false&&t1.tooFull)=true then do { setRelay S (grown (n+1));pure true } else pure true) Q E s:=by
 have hsl:af8=16777216:=sizeLine_eq;have hsz:=B.size;have hlen:L1.length=n+1:=by have:=hp.length_eq;rw[bf]at this;omega
 have hf:t1.fits es1.size=true:=fits_of (by omega) B.du (by omega);have g1:(s.heap.update S (qD es1 t1)).get? S=some { o with data:=.set es1 (ep+1) t1 }:=by have:=j_ (qD es1 t1) ho (by rw[putSet_of es1 t1 hd];rfl);rw[putSet_of es1 t1 hd]at this;exact this
 refine agb (wpAny_storeSet_of ho hd ?_ (by omega));have hfill:t1.fill=n+1:=by unfold fill;rw[B.du,hsz.1,hlen];rfl
 by_cases c:t1.tooFull=true
 ·rw[c];simp only[we,Bool.and_self,if_true];unfold tooFull at c;rw[hfill]at c;obtain⟨m',k1,k2,k3⟩:=grow hm h5 (by simpa using c) hl;refine agb ?_;unfold setRelay;refine agb (wpAny_setState_of g1 rfl hf ?_);dsimp only;rw[k2];rw[if_neg (by omega)];obtain⟨t2,order,L2,e2,a1,a2,a3⟩:=HS (m:=m') (finger:=t1.finger) (moves:=t1.movedTo m') (led:=t1.led) (plain:=t1.plain) (es:=es1) (A1 k1) (by omega);have er:t1.relaid (es1.map (·.1)) (grown (n+1))=some (t2,order):=by unfold relaid;rw[k2,wc];exact e2
  have kk:=wD (t:=t1) e2;have ln:L2.length=n+1:=by have h9:=a3.length_eq;rw[B.en,bf,bf]at h9;exact h9.trans hlen
  have sz:(order.filterMap (es1[·]?)).size=es1.size:=by have:=a2.size;omega
  refine agb (show aga _ _ (match t1.relaid (es1.map (·.1)) (grown (n+1))with
   |some (t,order)=>(if((order.filterMap (es1[·]?)).size != es1.size)=true then(do { let y <-unsupported "internal:set-table-lost-an-element";pure (order.filterMap (es1[·]?),t) })else pure (order.filterMap (es1[·]?),t))
   |_=>unsupported "internal:set-table-without-room") _ _ _ from ?_)
  rw[er];dsimp only;rw[if_neg (by rw[sz];simp)];refine agh ?_;dsimp only;refine wpAny_storeSet_of g1 rfl ?_ (by rw[sz];omega);have g2:((s.heap.update S (qD es1 t1)).update S (qD (order.filterMap (es1[·]?)) t2)).get? S=some { o with data:=.set (order.filterMap (es1[·]?)) (ep+1+1) t2 }:=by have:=j_ (qD (order.filterMap (es1[·]?)) t2) g1 (by rw[putSet_of _ t2 rfl];rfl);rw[putSet_of _ t2 rfl]at this;exact this
  refine agh (hq _ ((fF _ S _).trans (fF _ S _)) ⟨_,_,_,_,L2,g2,hex,rfl,a2,(a3.trans (by rw[B.en])).trans hp,by rw[a1];exact k1,by rw[a1,hn];exact k3,by rw[kk.1];exact gl,by rw[kk.2];exact gp⟩)
 ·have c':t1.tooFull=false:=by simpa using c
  rw[c'];simp only[Ao,aW,if_false];refine agh (hq _ (fF _ S _) ⟨_,_,_,_,L1,g1,hex,rfl,B,hp,hm,?_,gl,gp⟩);rw[hn];unfold tooFull at c';rw[hfill]at c';simpa using c'
theorem yH{S:afR}{hsh:Int}(hs:jR g s.heap S l)(hn:∀e∈l,e.1≠hsh)(hl:l.length<=300)
  (hv:∀Q':Bool->afW->Prop,Q' true s->aga (model prog w) A (hashByValue 8 (.ref b)) Q' E s)
  (hq:∀h',eB S s.heap h'->jR g h' S ((hsh,.ref b)::l)->Q true { s with heap:=h' }):aga (model prog w) A (setAddHashed S (.ref b) hsh) Q E s:=by
 obtain⟨o,es,ep,t,L,ho,hex,hd,B,hp,hm,h5,gl,gp⟩:=hs;have hsz:=B.size;have hz:L.length=l.length:=by have:=hp.length_eq;simpa using this
 have hle:es.size<=t.mask:=by omega
 have hf:=fits_of (t:=t) (n:=es.size) (by omega) B.du hle;have pe:es.toList.Perm l:=by rw[B.en];exact hp
 unfold setAddHashed setAddHashedIn;refine agd (agb (wpAny_setState_of ho hd hf ?_));dsimp only;rw[show byScan (.ref b) es=false from rfl];simp only[aW,if_false];refine agb ?_;unfold setSearch setSearchFrom;refine agb (wpAny_setState_of ho hd hf ?_);dsimp only;have gw:t.gaveWay=false:=by unfold gaveWay;rcases hm with e |e |e |e<;>rw[e]<;>rfl
 rw[gw];simp only[aW,if_false];obtain⟨j,ej⟩:=sg (es:=es) (h:=hsh) (A1 hm) B.du (by omega) hle (λi v e=>hn v (pe.mem_iff.mp (Array.mem_toList_iff.mpr (A0 e))));obtain⟨n,w1,w2,w3⟩:=va B.du B.sorted _ _ ej;obtain⟨L',B',pm⟩:=RA B (x:=.ref b) w1 w2 w3;split
 ·rename_i met em;have e2:met= .empty j none:=Option.some.inj (em.symm.trans ej);subst e2;dsimp only;refine agh ?_;dsimp only;refine agb (wpAny_setState_of ho hd hf ?_);dsimp only;have mk1:(t.put j).1.mask=t.mask:=rfl;have Y5:(t.put j).1.plain=true:=gp;have ld1:(t.put j).1.led= !g:=gl;have pp:(L'.map (·.2)).Perm ((hsh,aA b)::l):=(pm.map _).trans (hp.cons _);generalize t.put j=tp at B' mk1 Y5 ld1;rw[Y5];simp only[if_true];refine agb (hv _ ?_);simp only[if_true];rw[show es.size=l.length from by omega];exact Ew ho hex hd B' pp (by simp) (by rw[mk1];exact hm) (by rw[mk1];exact h5) hl ld1 Y5 hq
 ·rename_i em;exact absurd ej (em _)
end
open PySem PySem.SetTable PyProof.Rows L2
variable{k:List L2.Key}
section
variable {prog:afV}{w:afY}{A:afS}{E:afX->afW->Prop}{s:afW}
theorem HU(hk:IsTupleKey (aw prog w) s.heap k b):∃o items n,s.heap.get? b=some o/\o.data= .seq items n/\s.TypeIs (.ref b) "tuple"/\∀v∈items.toList,∀c,v≠.ref c:=by
 obtain⟨o,items,n,h1,h2,h3,h4⟩:=hk;refine⟨o,items,n,h1,h3,⟨o,h1,h2⟩,?_⟩;clear h1 h2 h3;generalize items.toList=vs at h4
 induction h4 with
 |nil=>intro v hv;cases hv
 | @cons k v ks vs hk _ ih=>
  intro u hu;rcases List.mem_cons.mp hu with e |hu
  ·subst e;intro c;rcases cL hk with ⟨i,t,rfl,rfl⟩ |⟨x,t,rfl,rfl⟩ |⟨rfl,rfl⟩<;>nofun
  ·exact ih u hu
theorem CO(hk:IsTupleKey (aw prog w) s.heap k b)(hq:Q false s):aga (model prog w) A (ofAClassStatement 8 (.ref b)) Q E s:=by
 obtain⟨o,items,n,h1,h2,hT,h4⟩:=HU hk;unfold ofAClassStatement;refine agb (wpAny_typeOf hT ?_);dsimp only;rw[if_pos (by decide)];refine agb (agh ?_);simp only[fc,aW,if_false];refine agb (wpAny_seqItems h1 h2 ?_);dsimp only;refine agb ?_;show aga _ _ (forIn items _ _) _ _ s;rw[<-BI];refine wpAny_forIn_list _ (λrest r s'=>r.1=none/\s'=s/\∀v∈rest,∀c,v≠.ref c) _ ?_ ?_ _ _ ⟨rfl,rfl,h4⟩
 ·rintro v rest r s' ⟨hr,rfl,hall⟩;have e:ofAClassStatement 7 v=pure false:=by
   have:=hall v ax;cases v with
   |ref c=>exact absurd rfl (this c)
   |_=>rfl
  rw[e];refine agb (agh ?_);simp only[aW,if_false];exact agh ⟨rfl,rfl,λu Tz=>hall u (av _ Tz)⟩
 ·rintro⟨r1,r2⟩ s' ⟨hr,rfl,_⟩;simp only at hr;subst hr;exact agh hq
theorem RB(hk:IsTupleKey (aw prog w) s.heap k b){vs:List afX}(hv:∀v∈vs,∃c k',v= .ref c/\IsTupleKey (aw prog w) s.heap k' c)(hq:Q false s):
  aga (model prog w) A (searchCouldBeSeen (.ref b) vs) Q E s:=by
 unfold searchCouldBeSeen;refine agb ?_;refine wpAny_forIn_list _ (λrest r s'=>r.1=none/\s'=s/\∀v∈rest,∃c k',v= .ref c/\IsTupleKey (aw prog w) s.heap k' c) _ ?_ ?_ _ _ ⟨rfl,rfl,hv⟩
 ·rintro v rest r s' ⟨hr,rfl,hall⟩;obtain⟨c,k',rfl,hc⟩:=hall v ax;have nx:(none:Option Bool)=none/\s'=s'/\∀v∈rest,∃c k',v= .ref c/\IsTupleKey (aw prog w) s'.heap k' c:=⟨rfl,rfl,λu Tz=>hall u (av _ Tz)⟩;dsimp only;split
  ·exact agh nx
  ·refine agb ((tupleKind (aw prog w)).quiet hk ?_);simp only[fc,aW,if_false];refine agb ((tupleKind (aw prog w)).quiet hc ?_);simp only[fc,aW,if_false];refine agb (CO hk ?_);simp only[aW,if_false];refine agb (CO hc ?_);simp only[aW,if_false];exact agh nx
 ·rintro⟨r1,r2⟩ s' ⟨hr,rfl,_⟩;simp only at hr;subst hr;exact agh hq
theorem VM{is:List Int}(hk:IsTupleKey (aw prog w) s.heap (is.map Key.inl) b)(hq:Q true s):aga (model prog w) A (hashByValue 8 (.ref b)) Q E s:=by
 obtain⟨o,items,n,h1,h2,h3,h4⟩:=hk;have hT:s.TypeIs (.ref b) "tuple":=⟨o,h1,h2⟩;unfold hashByValue;refine agb (wpAny_specialOf hT PySem.F.slot_tuple_hash.lookup ?_);dsimp only;show aga _ _ (seqItems? (aA b) >>= _) _ _ s;refine agb (wpAny_seqItems h1 h3 ?_);refine agb ?_;show aga _ _ (forIn items _ _) _ _ s;rw[<-BI];have all:∀v∈items.toList,∃i t,v=jW i t:=by
  clear hT h1 h2 h3;generalize items.toList=vs at h4;generalize hks:is.map Key.inl=ks at h4
  induction h4 generalizing is with
  |nil=>intro v hv;cases hv
  | @cons k v ks vs hk _ ih=>
   cases is with
   |nil=>cases hks
   |cons i is=>
    cases hks;intro u hu;rcases List.mem_cons.mp hu with e |hu
    ·subst e;rcases cL (show pG (Key.inl _) u=true from hk)with ⟨i,t,q,e⟩ |⟨x,t,q,e⟩ |⟨q,e⟩
     ·exact⟨i,t,e⟩
     ·cases q
     ·cases q
    ·exact ih rfl u hu
 refine wpAny_forIn_list _ (λrest r s'=>r.1=none/\s'=s/\∀v∈rest,∃i t,v=jW i t) _ ?_ ?_ _ _ ⟨rfl,rfl,all⟩
 ·rintro v rest r s' ⟨hr,rfl,hall⟩;obtain⟨i,t,rfl⟩:=hall v ax;refine agb (show aga _ _ (pure true) _ _ _ from agh ?_);simp only[fc,aW,if_false];exact agh ⟨rfl,rfl,λu hu=>hall u (av _ hu)⟩
 ·rintro⟨r1,r2⟩ s' ⟨hr,rfl,_⟩;simp only at hr;subst hr;exact agh hq
theorem HV(B:Tb t es L)(hn:(L.map (·.2.1)).Nodup)(hm:(h,x)∈L.map (·.2)):
  ∃i j nx,t.probe (λi=>(es[i]?.map (·.1)).getD 0) h (t.probeStart h)=some (.candidate j i nx)/\es[i]? =some (h,x)/\t.place[i]? =some j:=by
 obtain⟨q,hq,e⟩:=List.mem_map.mp hm;obtain⟨i,hi,ei⟩:=i9 hq;have e1:es[i]? =some (h,x):=by rw[<-kW,B.en,cM,bh hi,ei];exact congrArg some e
 have e2:t.place[i]? =some q.1:=by rw[<-kW,B.pl,cM,bh hi,ei];rfl
 have hh:q.2.1=h:=by rw[e]
 obtain⟨n,n1,n2⟩:=B.wy q hq;rw[hh]at n2;have sz:=B.size;obtain⟨nx,ex⟩:=pS (hashAt:=λi=>(es[i]?.map (·.1)).getD 0) (h:=h) B.du B.sorted e2 (by rw[e1];rfl) (λk hk ek=>by
  have ek2:es[k]? =some (es[k]'(by omega)):=iG (by omega);rw[ek2]at ek;have ek:(es[k]'(by omega)).1=h:=ek;have a1:(L.map (·.2.1))[k]? =some h:=by
   have:(L.map (·.2.1))=es.toList.map (·.1):=by rw[B.en,cu];rfl
   rw[this,cM,kW,ek2];exact congrArg some ek
  have a2:(L.map (·.2.1))[i]? =some h:=by rw[cM,bh hi,ei];exact congrArg some hh
  exact(List.getElem?_inj (by rw[bf];omega) hn).mp (a1.trans a2.symm)) n (10 * turns t.mask) (Rz t.mask h) n1 (by rw[B.pl];exact n2)
 exact⟨i,q.1,nx,ex,e1,e2⟩
end
variable{Q:Option Nat->afW->Prop}{k:List Key}
section
variable {prog:afV}{w:afY}{A:afS}{E:afX->afW->Prop}{s:afW}
def Kn(prog:afV)(w:afY)(h:Heap)(l:List (Int×afX)):Prop:=∀e∈l,∃c k,e.2= .ref c/\IsTupleKey (aw prog w) h k c/\e.1=(tupleKind (aw prog w)).hash k
theorem pT{adding:Bool}{S c:afR}{Q:SetFound->afW->Prop}(hs:jR g s.heap S l)(hu:A.units < cLine)(hn:(l.map (·.1)).Nodup)(kn:Kn prog w s.heap l)(hk:IsTupleKey (aw prog w) s.heap k b)
  (hc:IsTupleKey (aw prog w) s.heap k c)(hm:((tupleKind (aw prog w)).hash k,aA c)∈l)(hq:∀i,(adding=false->i.isSome=true)->Q (.there i) s):aga (model prog w) A (setSearch S (.ref b) ((tupleKind (aw prog w)).hash k) adding) Q E s:=by
 obtain⟨o,es,ep,t,L,ho,hex,hd,B,hp,Y6,h5,gl,gp⟩:=hs;have hsz:=B.size;have hz:L.length=l.length:=by have:=hp.length_eq;simpa using this
 have hle:es.size<=t.mask:=by omega
 have hf:=fits_of (t:=t) (n:=es.size) (by omega) B.du hle;have pe:es.toList.Perm l:=by rw[B.en];exact hp
 have nd:(L.map (·.2.1)).Nodup:=by
  have e:L.map (·.2.1)=(L.map (·.2)).map (·.1):=by rw[cu];rfl
  rw[e];exact(hp.map _).nodup_iff.mpr hn
 obtain⟨i,j,nx,ej,ei,ep2⟩:=HV B nd (hp.mem_iff.mpr hm);unfold setSearch setSearchFrom;refine agb (wpAny_setState_of ho hd hf ?_);dsimp only;have gw:t.gaveWay=false:=by unfold gaveWay;rcases Y6 with e |e |e |e<;>rw[e]<;>rfl
 rw[gw];simp only[aW,if_false];split
 ·rename_i met em;have e2:met= .candidate j i nx:=Option.some.inj (em.symm.trans ej);subst e2;dsimp only;have rest:aga (model prog w) A (do
    let some (_,y):=es[i]? |unsupported "internal:set-entry"
    let equal <-holding [y] (eqBool y (.ref b))
    let (es',_,t') <-setState S
    if adding&&equal then return .there none
    let some same:=t'.sameMemory t.moves t.mask |unsupported "set.changed-during-lookup:is-the-new-block-at-the-old-address"
    let VN <-match(if same then t'.slot j else .empty)with
     |.live i'=>match es'[i']? with
      |some (_,y')=>do pure (if <-isSame y' y then some i' else none)
      |none=>pure none
     |_=>pure none
    match VN with
    |none=>rule "set.search.anew";setSearchFrom S (.ref b) ((tupleKind (aw prog w)).hash k) adding 99999 none
    |some i'=>if equal then return .there (some i')else setSearchFrom S (.ref b) ((tupleKind (aw prog w)).hash k) adding 99999 (some nx)) Q E s:=by
   rw[ei];dsimp only;refine agb (agd ((tupleKind (aw prog w)).eqBool hu hc hk ?_));refine agb (wpAny_setState_of ho hd hf ?_);dsimp only;rw[decide_eq_true rfl,Bool.and_true];cases adding with
   |true=>simp only[if_true];exact agh (hq none nofun)
   |false=>
    simp only[aW,if_false];have sm:t.sameMemory t.moves t.mask=some true:=by unfold sameMemory;rw[if_pos (by simp)]
    rw[sm];dsimp only;simp only[if_true];rw[(slot_of B.du B.sorted).1 i ep2];dsimp only;rw[ei];dsimp only;refine agb (wpAny_isSame_ref_self ?_);refine agb (agh ?_);simp only[if_true];exact agh (hq (some i) λ_=>rfl)
  cases hl:t.led with
  |true=>simp only[fc,aW,if_false];exact rest
  |false=>
   simp only[we,if_true];refine agb (RB hk (λv hv=>?_) ?_)
   ·obtain⟨e,he,rfl⟩:=List.mem_map.mp hv;obtain⟨c',k',e1,e2,_⟩:=kn e (pe.mem_iff.mp (Array.mem_toList_iff.mpr (Array.mem_filter.mp (Array.mem_toList_iff.mp he)).1));exact⟨c',k',e1,e2⟩
   ·simp only[aW,if_false];exact rest
 ·rename_i em;exact absurd ej (em _)
theorem HW{S c:afR}{Q:Bool->afW->Prop}(hs:jR g s.heap S l)(hu:A.units < cLine)(hn:(l.map (·.1)).Nodup)(kn:Kn prog w s.heap l)(hk:IsTupleKey (aw prog w) s.heap k b)
  (hc:IsTupleKey (aw prog w) s.heap k c)(hm:((tupleKind (aw prog w)).hash k,aA c)∈l)(hq:Q false s):aga (model prog w) A (setAddHashed S (.ref b) ((tupleKind (aw prog w)).hash k)) Q E s:=by
 have hs':=hs;obtain⟨o,es,ep,t,L,ho,hex,hd,B,hp,Y6,h5,gl,gp⟩:=hs;have hsz:=B.size;have hz:L.length=l.length:=by have:=hp.length_eq;simpa using this
 have hf:=fits_of (t:=t) (n:=es.size) (by omega) B.du (by omega);unfold setAddHashed setAddHashedIn;refine agd (agb (wpAny_setState_of ho hd hf ?_));dsimp only;rw[show byScan (.ref b) es=false from rfl];simp only[aW,if_false];refine agb (pT hs' hu hn kn hk hc hm λi _=>?_);exact agh hq
theorem Ex{S c:afR}(hs:jR g s.heap S l)(hu:A.units < cLine)(hn:(l.map (·.1)).Nodup)(kn:Kn prog w s.heap l)(hk:IsTupleKey (aw prog w) s.heap k b)
  (hc:IsTupleKey (aw prog w) s.heap k c)(hm:((tupleKind (aw prog w)).hash k,aA c)∈l)(hq:∀i,i.isSome=true->Q i s):aga (model prog w) A (setFind S (.ref b) ((tupleKind (aw prog w)).hash k)) Q E s:=by
 have hs':=hs;obtain⟨o,es,ep,t,L,ho,hex,hd,B,hp,Y6,h5,gl,gp⟩:=hs;have hsz:=B.size;have hz:L.length=l.length:=by have:=hp.length_eq;simpa using this
 have hf:=fits_of (t:=t) (n:=es.size) (by omega) B.du (by omega);unfold setFind setFindIn;refine agb (wpAny_setState_of ho hd hf ?_);dsimp only;rw[show byScan (.ref b) es=false from rfl];simp only[aW,if_false];refine agb (pT hs' hu hn kn hk hc hm λi hi=>?_);exact agh (hq i (hi rfl))
theorem Ey{S:afR}{hsh:Int}(hs:jR g s.heap S l)(hn:∀e∈l,e.1≠hsh)(hq:Q none s):aga (model prog w) A (setFind S (.ref b) hsh) Q E s:=by
 obtain⟨o,es,ep,t,L,ho,hex,hd,B,hp,hm,h5,gl,gp⟩:=hs;have hsz:=B.size;have hz:L.length=l.length:=by have:=hp.length_eq;simpa using this
 have hle:es.size<=t.mask:=by omega
 have hf:=fits_of (t:=t) (n:=es.size) (by omega) B.du hle;have pe:es.toList.Perm l:=by rw[B.en];exact hp
 unfold setFind setFindIn;refine agb (wpAny_setState_of ho hd hf ?_);dsimp only;rw[show byScan (.ref b) es=false from rfl];simp only[aW,if_false];refine agb ?_;unfold setSearch setSearchFrom;refine agb (wpAny_setState_of ho hd hf ?_);dsimp only;have gw:t.gaveWay=false:=by unfold gaveWay;rcases hm with e |e |e |e<;>rw[e]<;>rfl
 rw[gw];simp only[aW,if_false];obtain⟨j,ej⟩:=sg (es:=es) (h:=hsh) (A1 hm) B.du (by omega) hle (λi v e=>hn v (pe.mem_iff.mp (Array.mem_toList_iff.mpr (A0 e))));split
 ·rename_i met em;have e2:met= .empty j none:=Option.some.inj (em.symm.trans ej);subst e2;dsimp only;refine agh ?_;exact agh hq
 ·rename_i em;exact absurd ej (em _)
end
end TB
namespace J
open PySem PySem.Spec PyProof.Rows L2 TB
variable{h:Heap}{m:List (List L2.Key×afR)}{ks:List (List L2.Key)}{g:Bool}{l:List (Int×afX)}{items:Array afX}{bs:List afR}
section
variable {prog:afV}{w:afY}{A:afS}{E:afX->afW->Prop}{s:afW}
abbrev hsh(prog:afV)(w:afY)(k:List L2.Key):Int:=(tupleKind (aw prog w)).hash k
abbrev su(prog:afV)(w:afY)(p:List L2.Key×afR):Int×afX:=(hsh prog w p.1,aA p.2)
theorem sv{α β:Type}{f:α->β}:∀{l:List α},l.Nodup->(∀x∈l,∀y∈l,f x=f y->x=y)->(l.map f).Nodup
 |[],_,_=>l8
 |x::r,h,g=>by rw[hV]at h;rw[aH,hV];refine⟨λm=>?_,sv h.2 λa ha b hb=>g a (av _ ha) b (av _ hb)⟩;obtain⟨y,hy,e⟩:=List.mem_map.mp m;exact h.1 (g y (av _ hy) x ax e ▸ hy)
def fI(prog:afV)(w:afY)(h:Heap)(S:afR)(m:List (List L2.Key×afR)):Prop:=jR (gS w) h S (m.map (su prog w))/\(m.map (·.1)).Nodup/\∀p∈m,IsTupleKey (aw prog w) h p.1 p.2
def wF(prog:afV)(w:afY)(ks:List (List L2.Key)):Prop:=∀x∈ks,∀y∈ks,hsh prog w x=hsh prog w y->x=y
theorem fI.nodup{S:afR}(x:fI prog w h S m)(hi:wF prog w ks)(hs:∀p∈m,p.1∈ks):((m.map (su prog w)).map (·.1)).Nodup:=by
 have e:(m.map (su prog w)).map (·.1)=(m.map (·.1)).map (hsh prog w):=by rw[cu,cu];rfl
 rw[e];refine sv x.2.1 λa ha b hb=>?_;obtain⟨p,hp,rfl⟩:=List.mem_map.mp ha;obtain⟨q,hq,rfl⟩:=List.mem_map.mp hb;exact hi _ (hs p hp) _ (hs q hq)
theorem fI.kn{S:afR}(x:fI prog w h S m):Kn prog w h (m.map (su prog w)):=λe he=>by obtain⟨p,hp,rfl⟩:=List.mem_map.mp he;exact⟨p.2,p.1,rfl,x.2.2 p hp,rfl⟩
def SPd(prog:afV)(w:afY)(S:afR)(ks:List (List L2.Key))(bs:List afR)(i:Nat)(h:Heap):Prop :=
 (∃m,fI prog w h S m/\(∀p∈m,p∈ks.zip bs)/\(∀k,k∈m.map (·.1)↔k∈ks.take i)/\m.length<=i)/\∀(j:Nat)(b:afR)(k:List L2.Key),bs[j]? =some b->ks[j]? =some k->IsTupleKey (aw prog w) h k b
theorem jR.at'{h':Heap}{S:afR}(x:jR g h S l)(k:∀o,h.get? S=some o->h'.get? S=some o):jR g h' S l:=by obtain⟨o,es,ep,t,L,ho,r⟩:=x;exact⟨o,es,ep,t,L,k o ho,r⟩
theorem HX{S:afR}(hu:A.units < cLine)(hk:ks.length=bs.length)(hi:items.toList=bs.map aA)(hb:∀b∈bs,b≠S)(hn:wF prog w ks)(hks:∀k∈ks,∃is:List Int,k=is.map Key.inl)(hl:bs.length<=300):
  HM prog w A S (λi v=>items[i]? =some v) (SPd prog w S ks bs):=by
 intro i v E s Q hv hs hq;obtain⟨⟨m,mS,mz,mk,ml⟩,keys⟩:=hs;have hb':∃b,bs[i]? =some b/\v= .ref b:=by
  rw[<-kW,hi,cM]at hv;cases e:bs[i]? with
  |none=>rw[e]at hv;cases hv
  |some b=>rw[e]at hv;cases hv;exact⟨b,rfl,rfl⟩
 obtain⟨b,eb,rfl⟩:=hb';have hib:i < bs.length:=(List.getElem?_eq_some_iff.mp eb).1;obtain⟨k,ek⟩:∃k,ks[i]? =some k:=⟨ks[i]'(by omega),bh (by omega)⟩;have key:=keys i b k eb ek;have Nw:k∈ks:=l6 ek;have mks:∀p∈m,p.1∈ks:=λp hp=>(qj (mz p hp)).1;have tk:∀k',k'∈ks.take (i+1)↔k'∈ks.take i\/k'=k:=λk'=>by rw[List.take_add_one,ek,Option.toList_some,CP,List.mem_singleton]
 unfold setAdd;refine agd (agb ((tupleKind (aw prog w)).pyHash (k:=k) hu key ?_));by_cases c:k∈m.map (·.1)
 ·obtain⟨p,hp,rfl⟩:=List.mem_map.mp c;refine HW (s:={ s with toks:=s.toks+(tupleKind (aw prog w)).draws p.1 }) (c:=p.2) mS.1 hu (mS.nodup hn mks) mS.kn key (mS.2.2 p hp) (List.mem_map.mpr ⟨p,hp,rfl⟩) ?_;refine hq false s.heap _ (A3 _ _) ⟨⟨m,mS,mz,λk'=>?_,by omega⟩,keys⟩;rw[tk,mk];constructor
  ·exact .inl
  ·rintro(z |rfl)
   ·exact z
   ·exact(mk _).mp c
 ·obtain⟨is,rfl⟩:=hks k Nw;refine yH (s:={ s with toks:=s.toks+(tupleKind (aw prog w)).draws _ }) mS.1 (λe he=>?_) (by rw[bf];omega) (λQ' hq'=>VM (s:={ s with toks:=s.toks+(tupleKind (aw prog w)).draws _ }) key hq') λh' sb z=>?_
  ·obtain⟨p,hp,rfl⟩:=List.mem_map.mp he;intro ee;exact c (List.mem_map.mpr ⟨p,hp,hn _ (mks p hp) _ Nw ee⟩)
  ·have fr:∀j q kk,bs[j]? =some q->ks[j]? =some kk->IsTupleKey (aw prog w) h' kk q:=λj q kk e1 e2=>ko (keys j q kk e1 e2) λo eo=>by rw[sb.2 q (hb q (l6 e1))];exact eo
   have mz':∀p∈(is.map Key.inl,b)::m,p∈ks.zip bs:=λp hp=>by
    rcases List.mem_cons.mp hp with rfl |hp
    ·exact l6 (List.getElem?_zip_eq_some.mpr ⟨ek,eb⟩)
    ·exact mz p hp
   refine hq true h' _ sb ⟨⟨(is.map Key.inl,b)::m,⟨z,by rw[aH,hV];exact⟨c,mS.2.1⟩,λp hp=>?_⟩,mz',λk'=>?_,by rw[fB];omega⟩,fr⟩
   ·obtain⟨j,hj,ej⟩:=i9 (mz' p hp);have:=List.getElem?_zip_eq_some.mp (by rw[bh hj,ej]:(ks.zip bs)[j]? =some (p.1,p.2));exact fr j p.2 p.1 this.2 this.1
   ·rw[tk,aH,dB,mk];constructor
    ·rintro(z |z)
     ·exact .inr z
     ·exact .inl z
    ·rintro(z |z)
     ·exact .inr z
     ·exact .inl z
theorem CQ{S:afR}{led:Bool}(e:led=(!g))(hg:h.get? S=some (cR led)):jR g h S []:=by subst e;exact⟨_,_,_,_,[],hg,⟨rfl,rfl,rfl⟩,rfl,⟨rfl,rfl,.nil,rfl,nofun⟩,.refl _,.inl rfl,(show(0:Nat) * 5 < 7 * 3 from by decide),rfl,rfl⟩
theorem oW{l:afR}{Q:afX->afW->Prop}(hh:A.handled=none)(hl:s.heap.IsList l (bs.map aA).toArray)(hu:A.units+64 < cLine)(hk:ks.length=bs.length)(hn:wF prog w ks)(hks:∀k∈ks,∃is:List Int,k=is.map Key.inl)(hz:bs.length<=300)
  (keys:∀(j:Nat)(b:afR)(k:List L2.Key),bs[j]? =some b->ks[j]? =some k->IsTupleKey (aw prog w) s.heap k b)
  (h:∀h' tk m,fI prog w h' s.heap.objs.size m->(∀p∈m,p∈ks.zip bs)->(∀k,k∈m.map (·.1)↔k∈ks)->(∀b o,b < s.heap.objs.size->s.heap.get? b=some o->h'.get? b=some o)->Q (.ref s.heap.objs.size) { s with heap:=h',toks:=tk }):
  aga (model prog w) A (call (.type "set") [.ref l]) Q E s:=by
 have lt:∀b∈bs,b < s.heap.objs.size:=λb hb=>by obtain⟨j,hj,ej⟩:=i9 hb;obtain⟨o,_,_,h1,_⟩:=keys j b (ks[j]'(by omega)) (by rw[<-ej];exact bh hj) (bh _);exact az h1
 refine Es (SP:=SPd prog w s.heap.objs.size ks bs) hh hl (λi g g' z k=>⟨?_,λj b kk e1 e2=>ko (z.2 j b kk e1 e2) λo eo=>k b o (aN (mn (lt b (l6 e1)))) eo⟩)
  (HX (by simp only[Nv];omega) hk rfl (λb hb=>aN (lt b hb)) hn hks hz) ?_ λh' tk z kp=>?_
 ·obtain⟨⟨m,mS,mz,mk,ml⟩,keys'⟩:=z;refine⟨m,⟨jR.at' mS.1 λo eo=>k _ o (by omega) eo,mS.2.1,λp hp=>ko (mS.2.2 p hp) λo eo=>k _ o (aN (mn (lt _ (qj (mz p hp)).2))) eo⟩,mz,mk,ml⟩
 ·intro g led e hg kp;exact⟨⟨[],⟨CQ e hg,l8,nofun⟩,nofun,λk=>by simp,ar _⟩,λj b k e1 e2=>ko (keys j b k e1 e2) λo eo=>kp b o eo⟩
 ·obtain⟨⟨m,mS,mz,mk,ml⟩,_⟩:=z;refine h h' tk m mS mz (λk=>?_) kp;rw[mk,Ci (by simp;omega)]
end
theorem yI{α:Type}:∀{l:List α}{i:Nat}(h:i < l.length),(l[i]::l.eraseIdx i).Perm l
 |[],i,h=>by cases h
 |x::r,0,h=> .refl _
 |x::r,i+1,h=>by show(r[i]'(by simpa using h)::x::r.eraseIdx i).Perm (x::r);exact(List.Perm.swap _ _ _).trans ((yI (l:=r) (by simpa using h)).cons x)
theorem CT{α:Type}(next:Nat->Nat):∀(n k:Nat)(left:List α)(out:Array α),left.length=n->(pickOrder.go next n k left out).toList.Perm (out.toList++left)
 | 0,k,left,out,h=>by rw[List.length_eq_zero_iff.mp h,j8];exact .refl _
 |n+1,k,left,out,h=>by
  unfold pickOrder.go;have hl:next k % left.length < left.length:=oh _ (by omega)
  rw[bh hl];dsimp only;refine(CT next n (k+1) _ _ (by rw[List.length_eraseIdx];simp only[hl,if_true];omega)).trans ?_;rw[Array.toList_push,An];exact List.Perm.append_left _ (yI hl)
variable{α:Type}
theorem vb(next:Nat->Nat)(xs:Array α):(pickOrder next xs).toList.Perm xs.toList:=by
 have:=CT next xs.size 0 xs.toList #[] (by simp)
 simpa [pickOrder]using this
variable{Q:Array (Int×afX)->afW->Prop}
section
variable {prog:afV}{w:afY}{A:afS}{E:afX->afW->Prop}{s:afW}
theorem VO{S:afR}(hs:jR (gS w) s.heap S l)(hq:∀es,es.toList.Perm l->Q es s):aga (model prog w) A (setWalk S) Q E s:=by
 obtain⟨o,es,ep,t,L,ho,hex,hd,B,hp,hm,h5,gl,gp⟩:=hs;have hsz:=B.size;have hz:L.length=l.length:=by have:=hp.length_eq;simpa using this
 have hf:=fits_of (t:=t) (n:=es.size) (by omega) B.du (by omega);have pe:es.toList.Perm l:=by rw[B.en];exact hp
 unfold setWalk;refine agb (wpAny_setState_of ho hd hf ?_);dsimp only;unfold setsByText;refine agb (agb (wpAny_askSetting (agh ?_)));dsimp only;show aga _ _ (if gS w=true then _ else _) _ _ _;by_cases c:gS w=true
 ·rw[if_pos c];refine agb (wpAny_askSetting ?_);exact agh (hq _ ((vb _ _).trans pe))
 ·rw[if_neg c];have gl':t.led=true:=by rw[gl];simpa using c
  show aga _ _ (if(!t.plain&&decide (es.size > 1))=true then _ else _) _ _ _;rw[gp];simp only[fc,j6,aW,if_false];refine agb (show aga _ _ (if(!t.led&&decide (es.size > 1))=true then unsupported "set:maker-not-led" else pure ()) _ _ _ from ?_);rw[gl'];simp only[fc,j6,aW,if_false];exact agh (agh (hq _ pe))
theorem VP{S:afR}{others:List afR}{f:Option afR}(hs:jR (gS w) s.heap S l)(hq:∀es,es.toList.Perm l->Q es s):aga (model prog w) A (setWalkUnseen S others f) Q E s:=by
 have hs':=hs;obtain⟨o,es,ep,t,L,ho,hex,hd,B,hp,hm,h5,gl,gp⟩:=hs;have hsz:=B.size;have hz:L.length=l.length:=by have:=hp.length_eq;simpa using this
 have hf:=fits_of (t:=t) (n:=es.size) (by omega) B.du (by omega);unfold setWalkUnseen;refine agb (wpAny_setState_of ho hd hf ?_);dsimp only;unfold setsByText;refine agb (agb (wpAny_askSetting (agh ?_)));dsimp only;have e:(gS w||(t.led&&t.plain)||decide (es.size<=1))=true:=by rw[gl,gp];cases gS w<;>rfl
 show aga _ _ (if(gS w||(t.led&&t.plain)||decide (es.size<=1))=true then _ else _) _ _ _;rw[if_pos e];exact VO hs' hq
theorem RC{S:afR}(hs:jR g s.heap S l):∃n,∀(s2:afW)(Q:Nat->afW->Prop),s2.heap.get? S=s.heap.get? S->Q n s2->aga (model prog w) A (setEpoch S) Q E s2:=by
 obtain⟨o,es,ep,t,L,ho,hex,hd,B,hp,hm,h5,gl,gp⟩:=hs;have hsz:=B.size;have hz:L.length=l.length:=by have:=hp.length_eq;simpa using this
 have hf:=fits_of (t:=t) (n:=es.size) (by omega) B.du (by omega);refine⟨ep,λs2 Q e q=>?_⟩;unfold setEpoch;exact agb (wpAny_setState_of (e.trans ho) hd hf (agh q))
theorem N6{S:afR}{Q:Nat->afW->Prop}(hs:jR g s.heap S l)(hq:Q l.length s):aga (model prog w) A (HY S) Q E s:=by
 obtain⟨o,es,ep,t,L,ho,hex,hd,B,hp,hm,h5,gl,gp⟩:=hs;have hsz:=B.size;have hz:L.length=l.length:=by have:=hp.length_eq;simpa using this
 have hf:=fits_of (t:=t) (n:=es.size) (by omega) B.du (by omega);unfold HY setEntries;refine agb (agb (wpAny_setState_of ho hd hf (agh (agh ?_))));rw[show es.size=l.length from by omega];exact hq
theorem sA{S:afR}(hs:jR g s.heap S l):s.TypeIs (.ref S) "set":=by obtain⟨o,es,ep,t,L,ho,hex,_⟩:=hs;exact⟨o,ho,hex.1⟩
end
variable{a:afR}{ma:List (List L2.Key×afR)}
section
variable {prog:afV}{w:afY}{A:afS}{E:afX->afW->Prop}{s:afW}
theorem fI.at'{h':Heap}{S:afR}(x:fI prog w h S m)(k:∀b,b=S\/b∈m.map (·.2)->∀o,h.get? b=some o->h'.get? b=some o):fI prog w h' S m :=
 ⟨jR.at' x.1 (k S (.inl rfl)),x.2.1,λp hp=>ko (x.2.2 p hp) (k p.2 (.inr (List.mem_map.mpr ⟨p,hp,rfl⟩)))⟩
theorem HZ{id:String}{wk r:afR}{mw:List (List L2.Key×afR)}{Q:Unit->afW->Prop}(ra:r≠a)(rw':r≠wk)(hu:A.units < cLine)(hn:wF prog w ks)(hks:∀k∈ks,∃is:List Int,k=is.map Key.inl)
  (RD:∀p∈ma,p.1∈ks/\p.2≠r)(Mt:∀p∈mw,p.1∈ks/\p.2≠r)(hl:mw.length<=300){was:Nat}(Y7:∀(s2:afW)(Q:Nat->afW->Prop),s2.heap.get? wk=s.heap.get? wk->Q was s2->aga (model prog w) A (setEpoch wk) Q E s2)
  {es:List (Int×afX)}(hes:es.Perm (mw.map (su prog w)))(sa:fI prog w s.heap a ma)(sw:fI prog w s.heap wk mw)(sr:fI prog w s.heap r [])
  (hq:∀h' mr,fI prog w h' r mr->(∀k,k∈mr.map (·.1)↔k∈mw.map (·.1)/\k∈ma.map (·.1))->eB r s.heap h'->Q () { s with heap:=h' }):
  aga (model prog w) A (forIn es () λ(p:Int×afX) _=>do
   holding [p.2] (do
    if(<-setFind a p.2 p.1).isSome then
     let _ <-setAddHashed r p.2 p.1)
   A4 id wk was
   pure (jl ())) Q E s:=by
 have hen:(es.map (·.1)).Nodup:=(hes.map _).nodup_iff.mpr (sw.nodup hn λp hp=>(Mt p hp).1);refine wpAny_forIn_list _ (λrest _ s'=>∃h' mr,s'={ s with heap:=h' }/\eB r s.heap h'/\fI prog w h' r mr/\(∀p∈mr,p∈mw/\p.1∈ma.map (·.1))/\(∀e∈rest,∃p∈mw,e=su prog w p)/\(rest.map (·.1)).Nodup/\
  (∀p∈mr,∀e∈rest,e.1≠hsh prog w p.1)/\(∀p∈mw,p.1∈ma.map (·.1)->p∈mr\/su prog w p∈rest)/\mr.length+rest.length<=300) _ ?_ ?_ _ _
  ⟨s.heap,[],rfl,A3 _ _,sr,nofun,λe he=>?_,hen,nofun,λp hp _=> .inr (hes.mem_iff.mpr (List.mem_map.mpr ⟨p,hp,rfl⟩)),?_⟩
 ·rintro e rest _ s' ⟨h',mr,rfl,sb,sR,i1,i2,i3,i4,i5,i6⟩;obtain⟨p,hp,rfl⟩:=i2 e ax;have at_:∀{b:afR},b≠r->∀o,s.heap.get? b=some o->h'.get? b=some o:=λhb o eo=>by rw[sb.2 _ hb];exact eo
  have sa':fI prog w h' a ma:=sa.at' λb hb=>at_ (by
   rcases hb with rfl |hb
   ·exact ra.symm
   ·obtain⟨q,hq,rfl⟩:=List.mem_map.mp hb;exact(RD q hq).2)
  have sw':fI prog w h' wk mw:=sw.at' λb hb=>at_ (by
   rcases hb with rfl |hb
   ·exact rw'.symm
   ·obtain⟨q,hq,rfl⟩:=List.mem_map.mp hb;exact(Mt q hq).2)
  have key:=sw'.2.2 p hp;rw[aH,hV]at i3;have fin:∀(h2:Heap)(RE:List (List L2.Key×afR)),eB r h' h2->fI prog w h2 r RE->(∀q∈RE,q∈mw/\q.1∈ma.map (·.1))->(∀q∈RE,∀e∈rest,e.1≠hsh prog w q.1)->(∀q∈mw,q.1∈ma.map (·.1)->q∈RE\/su prog w q∈rest)->RE.length+rest.length<=300->
    ∀R:ForInStep Unit->afW->Prop,((∃h' mr,({ s with heap:=h2 }:afW)={ s with heap:=h' }/\eB r s.heap h'/\fI prog w h' r mr/\(∀p∈mr,p∈mw/\p.1∈ma.map (·.1))/\(∀e∈rest,∃p∈mw,e=su prog w p)/\(rest.map (·.1)).Nodup/\
  (∀p∈mr,∀e∈rest,e.1≠hsh prog w p.1)/\(∀p∈mw,p.1∈ma.map (·.1)->p∈mr\/su prog w p∈rest)/\mr.length+rest.length<=300)->R (.yield ()) { s with heap:=h2 })->
    aga (model prog w) A (do A4 id wk was;pure (jl ())) R E { s with heap:=h2 }:=λh2 RE W8 j0 j1 j2 j3 j4 R hR=>by
   have sbb:=sb.trans W8;refine agb ?_;unfold A4;refine agb (Y7 { s with heap:=h2 } _ (sbb.2 _ rw'.symm) ?_);simp only[bne_self_eq_false,aW,if_false];exact agh (agh (hR ⟨h2,RE,rfl,sbb,j0,j1,λe he=>i2 e (av _ he),i3.2,j2,j3,j4⟩))
  refine agb (agd ?_);by_cases c:p.1∈ma.map (·.1)
  ·obtain⟨q,hq1,hq2⟩:=List.mem_map.mp c;have qk:=sa'.2.2 q hq1;rw[hq2]at qk;refine agb (Ex (s:={ s with heap:=h' }) (c:=q.2) sa'.1 hu (sa'.nodup hn λx hx=>(RD x hx).1) sa'.kn key qk (List.mem_map.mpr ⟨q,hq1,by rw[<-hq2]⟩) λi hi=>?_);rw[hi];simp only[if_true];obtain⟨is,eis⟩:=hks p.1 (Mt p hp).1;refine agb (yH (s:={ s with heap:=h' }) sR.1 (λe he=>?_) (by rw[bf];simp at i6;omega) (λQ' hq'=>VM (s:={ s with heap:=h' }) (is:=is) (by rw[<-eis];exact key) hq') λh2 W8 z=>agh ?_)
   ·obtain⟨x,hx,rfl⟩:=List.mem_map.mp he;exact(i4 x hx _ ax).symm
   ·have k2:∀x∈p::mr,x∈mw/\x.1∈ma.map (·.1):=λx hx=>by
     rcases List.mem_cons.mp hx with rfl |hx
     ·exact⟨hp,c⟩
     ·exact i1 x hx
    refine fin h2 (p::mr) W8 ⟨z,?_,λx hx=>ko (sw'.2.2 x (k2 x hx).1) λo eo=>by rw[W8.2 _ (Mt x (k2 x hx).1).2];exact eo⟩ k2 (λx hx e he=>?_) (λx hx hc=>?_) (by simp at i6 ⊢;omega) _ (λz=>z)
    ·rw[aH,hV];refine⟨λm=>?_,sR.2.1⟩;obtain⟨x,hx,ex⟩:=List.mem_map.mp m;exact i4 x hx _ ax (by rw[ex])
    ·rcases List.mem_cons.mp hx with rfl |hx
     ·exact λee=>i3.1 (List.mem_map.mpr ⟨e,he,ee⟩)
     ·exact i4 x hx e (av _ he)
    ·rcases i5 x hx hc with z1 |z1
     ·exact .inl (av _ z1)
     ·rcases List.mem_cons.mp z1 with z2 |z2
      ·have:x.1=p.1:=hn _ (Mt x hx).1 _ (Mt p hp).1 (congrArg Prod.fst z2);have:x.2=p.2:=by have:=congrArg Prod.snd z2;injection this
       exact .inl (by rw[show x=p from l7 ‹_› ‹_›];exact ax)
      ·exact .inr z2
  ·refine agb (Ey (s:={ s with heap:=h' }) sa'.1 (λe he=>?_) ?_)
   ·obtain⟨x,hx,rfl⟩:=List.mem_map.mp he;intro ee;exact c (List.mem_map.mpr ⟨x,hx,hn _ (RD x hx).1 _ (Mt p hp).1 ee⟩)
   ·simp only[Mu,aW,if_false];refine agh ?_;refine fin h' mr (A3 _ _) sR i1 (λx hx e he=>i4 x hx e (av _ he)) (λx hx hc=>?_) (by simp at i6;omega) _ (λz=>z);rcases i5 x hx hc with z1 |z1
    ·exact .inl z1
    ·rcases List.mem_cons.mp z1 with z2 |z2
     ·have:x.1=p.1:=hn _ (Mt x hx).1 _ (Mt p hp).1 (congrArg Prod.fst z2);exact absurd (this ▸ hc) c
     ·exact .inr z2
 ·rintro _ s' ⟨h',mr,rfl,sb,sR,i1,i2,i3,i4,i5,i6⟩;refine hq h' mr sR (λk=>⟨λm=>?_,λ⟨m1,m2⟩=>?_⟩) sb
  ·obtain⟨p,hp,rfl⟩:=List.mem_map.mp m;exact⟨List.mem_map.mpr ⟨p,(i1 p hp).1,rfl⟩,(i1 p hp).2⟩
  ·obtain⟨p,hp,rfl⟩:=List.mem_map.mp m1;rcases i5 p hp m2 with z |z
   ·exact List.mem_map.mpr ⟨p,z,rfl⟩
   ·cases z
 ·obtain⟨p,hp,rfl⟩:=List.mem_map.mp (hes.mem_iff.mp he);exact⟨p,hp,rfl⟩
 ·have:=hes.length_eq;simp at this ⊢;omega
end
theorem t_:entryFor table "set.__and__"=some Builtin.«frozenset.__and__»:=entryFor_alias (id':="frozenset.__and__") (by kernel_rfl) rfl (by decide+kernel) (by kernel_rfl)
variable{Q:afX->afW->Prop}{v:afX}
section
variable {prog:afV}{w:afY}{A:afS}{E:afX->afW->Prop}{s:afW}
theorem RF{Q:Bool->afW->Prop}(hT:s.TypeIs v "set")(hq:Q true s):aga (model prog w) A (H_ v) Q E s:=by unfold H_;show aga _ _ (isInstance v (.type "set") >>= _) _ _ s;refine agb (wpAny_isInstance hT sub_set_self ?_);exact agh hq
theorem wG{id:String}{b:afR}{mb:List (List L2.Key×afR)}(hab:a≠b)(hu:A.units < cLine)(hn:wF prog w ks)(hks:∀k∈ks,∃is:List Int,k=is.map Key.inl)
  (RD:∀p∈ma,p.1∈ks)(Y8:∀p∈mb,p.1∈ks)(hla:ma.length<=300)(hlb:mb.length<=300)(sa:fI prog w s.heap a ma)(sb:fI prog w s.heap b mb)
  (hq:∀h' r mr,r=s.heap.objs.size->fI prog w h' r mr->(∀k,k∈mr.map (·.1)↔k∈ma.map (·.1)/\k∈mb.map (·.1))->(∀c o,s.heap.get? c=some o->h'.get? c=some o)->Q (.ref r) { s with heap:=h' }):
  aga (model prog w) A (RG id a (.ref b)) Q E s:=by
 have lt:∀{S:afR}{m:List (List L2.Key×afR)},fI prog w s.heap S m->S < s.heap.objs.size/\∀p∈m,p.2 < s.heap.objs.size:=λx=>by obtain⟨⟨o,_,_,_,_,ho,_⟩,_,x3⟩:=x;exact⟨az ho,λp hp=>by obtain⟨o,_,_,h1,_⟩:=x3 p hp;exact az h1⟩
 have la:=lt sa;have lb:=lt sb;unfold RG;rw[if_neg (by simp;exact hab.symm)];unfold Builtin.Frozenset.baseOf;refine agb (agb (wpAny_isInstance (sA sa.1) sub_set_self ?_));simp only[if_true];refine agh ?_;refine agb ?_;unfold newSet setsByText;refine agb (agb (wpAny_askSetting (agh ?_)));dsimp only;simp only[newObj];refine agb (wpAny_alloc (agh ?_));have sr:fI prog w (s.heap.push (cR (!gS w))) s.heap.objs.size []:=⟨CQ rfl (bE _ rfl),l8,nofun⟩;have up:∀c o,s.heap.get? c=some o->(s.heap.push (cR (!gS w))).get? c=some o:=λc o e=>aT _ e;have sa':=sa.at' (h':=s.heap.push (cR (!gS w))) λc _ o e=>up c o e;have sb':=sb.at' (h':=s.heap.push (cR (!gS w))) λc _ o e=>up c o e;show aga _ _ (do
  let r <-Builtin.Frozenset.addrOf (.ref s.heap.objs.size)
  holding [aA s.heap.objs.size] _
  pure (aA s.heap.objs.size)) _ _ { s with heap:=s.heap.push (cR (!gS w)) }
 refine agb (agh ?_);refine agb (agd ?_);refine agb (RF (sA sb'.1) ?_);simp only[if_true];refine agb (agh ?_);refine agb (N6 sb'.1 ?_);refine agb (N6 sa'.1 ?_);have fin:∀(x y:afR)(mx my:List (List L2.Key×afR)),fI prog w (s.heap.push (cR (!gS w))) x mx->fI prog w (s.heap.push (cR (!gS w))) y my->(∀p∈mx,p.1∈ks/\p.2≠s.heap.objs.size)->(∀p∈my,p.1∈ks/\p.2≠s.heap.objs.size)->my.length<=300->s.heap.objs.size≠x->s.heap.objs.size≠y->
   (∀k,(k∈my.map (·.1)/\k∈mx.map (·.1))↔k∈ma.map (·.1)/\k∈mb.map (·.1))->
   aga (model prog w) A (do
    let was <-setEpoch y
    for (h,x') in <-setWalkUnseen y [x,s.heap.objs.size] (some s.heap.objs.size) do
     holding [x'] do
      if(<-setFind x x' h).isSome then
       let _ <-setAddHashed s.heap.objs.size x' h
     A4 id y was) (λ_ s'=>aga (model prog w) A (pure (aA s.heap.objs.size)) Q E s') E { s with heap:=s.heap.push (cR (!gS w)) }:=λx y mx my sx sy ix iy hl nx ny hk=>by
  obtain⟨n,hw⟩:=RC (A:=A) (E:=E) (prog:=prog) (w:=w) (s:={ s with heap:=s.heap.push (cR (!gS w)) }) sy.1;refine agb (hw _ _ rfl ?_);refine agb (VP (s:={ s with heap:=s.heap.push (cR (!gS w)) }) sy.1 λes pe=>?_);dsimp only;rw[<-BI];refine agb (HZ (s:={ s with heap:=s.heap.push (cR (!gS w)) }) nx ny hu hn hks ix iy hl hw pe sx sy sr λh' mr s1 s2 s3=>?_);refine agh (agh (hq h' _ mr rfl s1 (λk=>(s2 k).trans (hk k)) λc o e=>?_));rw[s3.2 c (aN (az e))];exact up c o e
 have ia:∀p∈ma,p.1∈ks/\p.2≠s.heap.objs.size:=λp hp=>⟨RD p hp,aN (la.2 p hp)⟩;have ib:∀p∈mb,p.1∈ks/\p.2≠s.heap.objs.size:=λp hp=>⟨Y8 p hp,aN (lb.2 p hp)⟩;split
 ·exact fin b a mb ma sb' sa' ib ia hla (eP lb.1) (eP la.1) λk=>Iff.rfl
 ·exact fin a b ma mb sa' sb' ia ib hlb (eP la.1) (eP lb.1) λk=>And.comm
theorem Ia{b:afR}{mb:List (List L2.Key×afR)}(hab:a≠b)(hu:A.units+64 < cLine)(hn:wF prog w ks)(hks:∀k∈ks,∃is:List Int,k=is.map Key.inl)
  (RD:∀p∈ma,p.1∈ks)(Y8:∀p∈mb,p.1∈ks)(hla:ma.length<=300)(hlb:mb.length<=300)(sa:fI prog w s.heap a ma)(sb:fI prog w s.heap b mb)
  (hq:∀h' r mr,r=s.heap.objs.size->fI prog w h' r mr->(∀k,k∈mr.map (·.1)↔k∈ma.map (·.1)/\k∈mb.map (·.1))->(∀c o,s.heap.get? c=some o->h'.get? c=some o)->Q (.ref r) { s with heap:=h' }):
  aga (model prog w) A (af0 .BitAnd (.ref a) (.ref b)) Q E s:=by
 refine wpAny_binaryOp_same (op:=.BitAnd) (sA sa.1) (sA sb.1) F.fills_set_and F.slot_set_and
  (wpAny_call_entry F.slot_set_and (sA sa.1) t_ ?_ (F.args_set_and_2 _ _))
 unfold Builtin.«frozenset.__and__»;show aga _ _ (Builtin.Frozenset.slot1 "__and__" ⟨[.ref a,.ref b],[]⟩ >>= _) _ _ s;refine agb (agh ?_);dsimp only;refine agb (show aga _ _ (H_ (.ref a) >>= _) _ _ s from ?_);refine agb (RF (sA sa.1) ?_);refine RF (sA sb.1) ?_;simp only[fc,aW,if_false];refine agb (agh ?_);refine agb (wG hab (by simp only[Nv];omega) hn hks RD Y8 hla hlb sa sb λh' r mr e s1 s2 s3=>?_);exact agh ⟨_,rfl,nofun,hq h' r mr e s1 s2 s3⟩
end
def cq{α:Type}[DecidableEq α]:List α->List α
 |[]=>[]
 |x::r=>if x∈r then cq r else x::cq r
theorem cC{α:Type}[DecidableEq α]{a:α}:∀{l:List α},a∈cq l↔a∈l
 |[]=>Iff.rfl
 |x::r=>by
  unfold cq;by_cases c:x∈r
  ·rw[if_pos c,cC,dB];exact⟨.inr,λz=>z.elim (λe=>e ▸ c) id⟩
  ·rw[if_neg c,dB,dB,cC]
theorem fk{α:Type}[DecidableEq α]:∀{l:List α},(cq l).Nodup
 |[]=>l8
 |x::r=>by
  unfold cq;by_cases c:x∈r
  ·rw[if_pos c];exact fk
  ·rw[if_neg c,hV];exact⟨λm=>c (cC.mp m),fk⟩
theorem len_sub{α:Type}[DecidableEq α]:∀{l l':List α},l.Nodup->(∀a∈l,a∈l')->l.length<=l'.length
 |[],l',_,_=>bH _
 |x::r,l',h,s=>by rw[hV]at h;have hx:=s x ax;have:=len_sub (l:=r) (l':=l'.erase x) h.2 λa ha=>(Mm (λe:a=x=>h.1 (e ▸ ha))).mpr (s a (av _ ha));rw[Mn hx]at this;have:=Mo hx;rw[fB];omega
def Ie(a b:List (List L2.Key)):Nat:=((cq a).filter (· ∈b)).length
theorem RH{m a b:List (List L2.Key)}(hn:m.Nodup)(h:∀k,k∈m↔k∈a/\k∈b):m.length=Ie a b:=by
 have hm:∀k,k∈(cq a).filter (· ∈b)↔k∈a/\k∈b:=λk=>by rw[CU,cC,decide_eq_true_iff]
 have nd:((cq a).filter (· ∈b)).Nodup:=List.Pairwise.filter _ fk;exact Nat.le_antisymm (len_sub hn λk hk=>(hm k).mpr ((h k).mp hk)) (len_sub nd λk hk=>(h k).mpr ((hm k).mp hk))
variable{i:Nat}{p1 q1 p2 q2:Pos}
section
variable {X:Cx}
def Ig(i:Nat):TA:=λσ H Q=>∃v,σ[i]? =some (some v)/\Q [v] H
def VQ(X:Cx)(i j:Nat):TE:=λσ H Q=>∃(p q:afR)(xs ys:List V)(k1 k2:List (List L2.Key)),σ[i]? =some (some (.ref p))/\σ[j]? =some (some (.ref q))/\l5 X.K H p xs/\l5 X.K H q ys/\Q2 H xs k1/\Q2 H ys k2/\
 wF X.prog X.w (k1++k2)/\(∀k∈k1++k2,∃is:List Int,k=is.map L2.Key.inl)/\xs.length<=300/\ys.length<=300/\Q (.int (Ie k1 k2:Nat)) H
theorem Mv{e1 e2:Expr}{j:Nat}{p3 q3 pb:Pos}(hu:X.A.units+64 < cLine)(hc:X.calm=true)(Ez:Gl X "len")(hm1:X.mg "len"=none)(N7:Gl X "set")(hm2:X.mg "set"=none)
  (ha1:PA X [e1] (Ig i))(Y9:af9 [e1] X.env=[(false,eval e1 X.env)])(ha2:PA X [e2] (Ig j))(Y_:af9 [e2] X.env=[(false,eval e2 X.env)]):
  PE X (.Call (.Name "len" p1) [.BinOp (.Call (.Name "set" p2) [e1] [] q2) .BitAnd (.Call (.Name "set" p3) [e2] [] q3) pb] [] q1) (VQ X i j):=by
 intro pins s σ H Q I h;obtain⟨p,q,xs,ys,k1,k2,ex,ey,hp,hq,ky1,ky2,hn,hi,z1,z2,hQ⟩:=h;refine wpAny_Call_Name_kw (gK I Ez hm1 uM ?_ (by decide) (by decide));refine BM ?_ rfl rfl;show aga _ _ (spliced ((false,eval (.BinOp (.Call (.Name "set" p2) [e1] [] q2) .BitAnd (.Call (.Name "set" p3) [e2] [] q3) pb) X.env)::[])) _ _ s;refine Af (wpAny_BinOp ?_);refine wpAny_Call_Name_kw (gK I N7 hm2 oU ?_ (by decide) (by decide));refine j7 (bR (ha1 q2 pins s σ H (λvs H1=>vs=[.ref p]/\H1=H) I ⟨_,ex,rfl,rfl⟩) λus s1 ⟨vs,H1,I1,r1,ev,eh⟩=>?_) Y9 rfl;subst ev;subst eh;obtain⟨u,rfl,rx⟩:=vals1 r1;cases rx;obtain⟨its,r',pl,hz⟩:=I1.list hp;obtain⟨bs,rfl,hkb,VR⟩:=wu ky1;have Y':=qC r';subst Y';have hl1:bs.length<=300:=by simpa using z1
 refine oW (I1.ok.hd hc) pl.isList hu hkb (λx hx y hy=>hn x (gX _ hx) y (gX _ hy)) (λk hk=>hi k (gX _ hk)) hl1 (λj b k e1 e2=>oJ I1.hok (VR j b k e1 e2)) λh1 tk m mS mz mk kp=>?_;have I2:=I1.kept (h':=h1) (t':=tk) (λb o e=>kp b o (az e) e);obtain⟨o1,es1,ep1,t1,L1,ho1,aee,hd1,ab9⟩:=id mS.1;have I3:=I2.qh (iw:=(s1.heap.objs.size,o1)::pins) (λc hc'=>by
  rcases List.mem_cons.mp hc' with rfl |hc'
  ·exact⟨ho1,I1.hok.fresh (ar _),eP I1.lt,I1.T9 (ar _),λv e=>by rw[hd1]at e;cases e⟩
  ·exact I2.pin c (bU _ hc'))
 refine wpAny_Call_Name_kw (gK I3 N7 hm2 oU ?_ (by decide) (by decide));refine j7 (bR (ha2 q3 _ _ σ H1 (λvs H2=>vs=[.ref q]/\H2=H1) I3 ⟨_,ey,rfl,rfl⟩) λus s2 ⟨vs,H2,I4,r2,ev,eh⟩=>?_) Y_ rfl;subst ev;subst eh;obtain⟨u,rfl,rx⟩:=vals1 r2;cases rx;have hS:=(I4.pin (s1.heap.objs.size,o1) (bU _ ax)).1;obtain⟨its2,r2',Yn,hz2⟩:=I4.list hq;obtain⟨cs,rfl,hkc,hcs⟩:=wu ky2;have Za:=qC r2';subst Za;have hl2:cs.length<=300:=by simpa using z2
 refine oW (I4.ok.hd hc) Yn.isList hu hkc (λx hx y hy=>hn x (bU _ hx) y (bU _ hy)) (λk hk=>hi k (bU _ hk)) hl2 (λj b k e1 e2=>oJ I4.hok (hcs j b k e1 e2)) λh2 Rx m2 mS2 mz2 mk2 kp2=>?_;have RI:∀c o,s2.heap.get? c=some o->h2.get? c=some o:=λc o e=>kp2 c o (az e) e;have mS':fI X.prog X.w h2 s1.heap.objs.size m:=⟨jR.at' mS.1 λo e=>by rw[ho1]at e;cases e;exact RI _ _ hS,mS.2.1,λx hx=>by obtain⟨n,hn',en⟩:=i9 (mz x hx);have:=List.getElem?_zip_eq_some.mp (by rw[bh hn',en]:(k1.zip bs)[n]? =some (x.1,x.2));exact ko (oJ I4.hok (VR n x.2 x.1 this.2 this.1)) λo e=>RI _ o e⟩;have Ih:∀{ks:List (List L2.Key)}{ds:List afR}{mm:List (List L2.Key×afR)},(mm.map (·.1)).Nodup->(∀k,k∈mm.map (·.1)↔k∈ks)->ks.length=ds.length->ds.length<=300->mm.length<=300:=λa b c d=>by have:=len_sub a λk hk=>(b k).mp hk;rw[bf]at this;omega
 refine Ia (s:={ s2 with heap:=h2,toks:=Rx }) (ks:=k1++k2) (aN (az hS)) hu hn hi
  (λx hx=>gX _ ((mk _).mp (List.mem_map.mpr ⟨x,hx,rfl⟩))) (λx hx=>bU _ ((mk2 _).mp (List.mem_map.mpr ⟨x,hx,rfl⟩)))
  (Ih mS.2.1 mk hkb hl1) (Ih mS2.2.1 mk2 hkc hl2) mS' mS2 λh3 r mr er w1 w2 w3=>?_
 refine Ae ?_;have cm:mr.length=Ie k1 k2:=by rw[<-RH w1.2.1 λk=>(w2 k).trans (and_congr (mk k) (mk2 k)),bf]
 obtain⟨⟨o,es,ep,t,L,ho,hex,hd,B,W9,hm,h5,_⟩,_⟩:=w1;have hsz:=B.size;have hz':L.length=mr.length:=by have:=W9.length_eq;simpa using this
 rw[bf]at h5;refine call_len_set (s:={ s2 with heap:=h3,toks:=Rx }) ho hex hd (fits_of (by omega) B.du (by omega)) (by omega) ?_;rw[show es.size=Ie k1 k2 from by omega];have I5:=I4.qh (iw:=pins) λc hc'=>I4.pin c (bU _ (av _ hc'));exact⟨.int _,H2,I5.kept (h':=h3) (t':=Rx+1+1) (λb o e=>w3 b o (RI b o e)),⟨_,rfl⟩,hQ⟩
end
def N8(st:Hs):Wv->Wv->Re Wv
 |.ref l,.ref l'=>(match ao st l,ao st l' with
  |some ws,some NQ=>(match dD mL ws,dD mL NQ with
   |some k1,some k2=>if kl (cq (k1++k2))=true/\ws.length<=300/\NQ.length<=300 then .ok (.int (Ie k1 k2:Nat)) st else .bad
   |_,_=> .bad)
  |_,_=> .bad)
 |_,_=> .bad
def yJ(i j:Nat):GE:=λρ st=>match ρ[i]?,ρ[j]? with
 |some (some a),some (some b)=>N8 st a b
 |_,_=> .bad
theorem sC:∀{VD:List (List L2.Key)}{nss:List (List Int)},lD VD=some nss->∀k∈VD,∃is:List Int,k=is.map L2.Key.inl
 |[],nss,e=>nofun
 |k::r,nss,e=>by
  unfold lD at e;cases q1:yj k with
  |none=>rw[q1]at e;cases e
  |some ns=>
   cases q2:lD r with
   |none=>rw[q1,q2]at e;cases e
   |some l=>
    intro k' hk;rcases List.mem_cons.mp hk with rfl |hk
    ·exact⟨ns,rZ q1⟩
    ·exact sC q2 k' hk
variable{P:afV}{w:afY}
theorem sD(h:kl (cq ks)=true):wF P w ks/\∀k∈ks,∃is:List Int,k=is.map L2.Key.inl:=by
 unfold kl at h;cases e:lD (cq ks)with
 |none=>rw[e]at h;cases h
 |some nss=>
  rw[e]at h;have nd:=of_decide_eq_true h;rw[<-r6 (P:=P) (w:=w) e]at nd;refine⟨λx hx y hy q=>?_,λk hk=>sC e k (cC.mpr hk)⟩;have key:∀{l:List (List L2.Key)},(l.map (tupleKind (aw P w)).hash).Nodup->∀x∈l,∀y∈l,hsh P w x=hsh P w y->x=y:=by
   intro l
   induction l with
   |nil=>intro _ x hx;cases hx
   |cons a r ih=>
    intro n x hx y hy q;rw[aH,hV]at n;rcases List.mem_cons.mp hx with a1 |a1<;>rcases List.mem_cons.mp hy with a2 |a2
    ·rw[a1,a2]
    ·exact absurd (List.mem_map.mpr ⟨y,a2,by rw[<-a1];exact q.symm⟩) n.1
    ·exact absurd (List.mem_map.mpr ⟨x,a1,by rw[<-a2];exact q⟩) n.1
    ·exact ih n.2 x a1 y a2 q
  exact key nd x (cC.mpr hx) y (cC.mpr hy) q
variable{x:Str}{pos:Pos}
section
variable {X:Cx}
theorem Ii(hN:X.N[i]? =some x)(hv:WN X.env.scope x)(hd:(x == ("__debug__":Str))=false)(hcd:(x == ("__classdict__":Str))=false):PA X [.Name x pos] (Ig i):=BL (Fj hN hv hd hcd) Fy
theorem Mw{e1 e2:Expr}{j:Nat}{p3 q3 pb:Pos}(hu:X.A.units+64 < cLine)(hc:X.calm=true)(Ez:Gl X "len")(hm1:X.mg "len"=none)(N7:Gl X "set")(hm2:X.mg "set"=none)
  (ha1:PA X [e1] (Ig i))(Y9:af9 [e1] X.env=[(false,eval e1 X.env)])(ha2:PA X [e2] (Ig j))(Y_:af9 [e2] X.env=[(false,eval e2 X.env)]):
  JE X (.Call (.Name "len" p1) [.BinOp (.Call (.Name "set" p2) [e1] [] q2) .BitAnd (.Call (.Name "set" p3) [e2] [] q3) pb] [] q1) (yJ i j) :=
 JE.of (Mv hu hc Ez hm1 N7 hm2 ha1 Y9 ha2 Y_) λρ st σ H m Q S R p=>by
 unfold yJ at p;cases e1:ρ[i]? with
 |none=>rw[e1]at p;exact ae p
 |some o1=>
  cases o1 with
  |none=>rw[e1]at p;exact ae p
  |some a=>
   cases e2:ρ[j]? with
   |none=>rw[e1,e2]at p;exact ae p
   |some o2=>
    cases o2 with
    |none=>rw[e1,e2]at p;exact ae p
    |some b=>
     rw[e1,e2]at p;dsimp only at p;obtain⟨u,u1,u2⟩:=R.get i a e1;obtain⟨v,v1,v2⟩:=R.get j b e2;unfold N8 at p;split at p
     ·rename_i l l';unfold ag at u2 v2;obtain⟨x,rfl,hx⟩:=u2;obtain⟨y,rfl,hy⟩:=v2;split at p
      ·rename_i ws NQ f1 f2;obtain⟨xs,hq,rx⟩:=S.read hx f1;obtain⟨ys,hq',ry⟩:=S.read hy f2;split at p
       ·rename_i k1 k2 g1 g2;by_cases c:kl (cq (k1++k2))=true/\ws.length<=300/\NQ.length<=300
        ·rw[if_pos c]at p;have hh:=sD (P:=X.prog) (w:=X.w) c.1;exact⟨x,y,xs,ys,k1,k2,u1,v1,hq,hq',wz rx g1,wz ry g2,hh.1,hh.2,by rw[<-rx.length];exact c.2.1,by rw[<-ry.length];exact c.2.2,p _ m H Ext.refl S mkInt⟩
        ·rw[if_neg c]at p;exact ae p
       ·exact ae p
      ·exact ae p
     ·exact ae p
end
open PySem PySem.Spec PyProof.Rows PySem.W L2 TB
theorem dS:Slot "set_iterator" "__next__" "set_iterator.__next__" :=
 .of (owner:="set_iterator") (n:="__next__") (by rw[typeLookup_type,builtinLookup_eq_fast];kernel_rfl) (by decide+kernel) (by decide+kernel) (by decide+kernel)
  (by first |exact .inl (by decide+kernel) |exact .inr (by decide+kernel)) (by rw[af6];kernel_rfl)
theorem mT:entryFor table "set_iterator.__next__"=some Builtin.«set_iterator.__next__»:=entryFor_of_tree (by kernel_rfl)
theorem om(a:afX):argsOk "set_iterator.__next__" ⟨[a],[]⟩:=by unfold argsOk;kernel_rfl
theorem oo:Slot "set_iterator" "__iter__" "set_iterator.__iter__" :=
 .of (owner:="set_iterator") (n:="__iter__") (by rw[typeLookup_type,builtinLookup_eq_fast];kernel_rfl) (by decide+kernel) (by decide+kernel) (by decide+kernel)
  (by first |exact .inl (by decide+kernel) |exact .inr (by decide+kernel)) (by rw[af6];kernel_rfl)
theorem ua:entryFor table "set_iterator.__iter__"=some Builtin.«dict_keyiterator.__iter__»:=entryFor_alias (id':="dict_keyiterator.__iter__") (by kernel_rfl) rfl (by decide+kernel) (by kernel_rfl)
theorem wH(a:afX):argsOk "set_iterator.__iter__" ⟨[a],[]⟩:=by unfold argsOk;kernel_rfl
theorem sE:entryFor table "set.__iter__"=some Builtin.«frozenset.__iter__»:=entryFor_alias (id':="frozenset.__iter__") (by kernel_rfl) rfl (by decide+kernel) (by kernel_rfl)
def mM(w:afY)(S:afR)(es:Array (Int×afX))(ep:Nat):Array (Int×afX):=if gS w=true then pickOrder (w.params.setOrder S ep) es else es
theorem mD(w:afY)(S:afR)(es:Array (Int×afX))(ep:Nat):(mM w S es ep).toList.Perm es.toList:=by
 unfold mM;split
 ·exact vb _ _
 ·exact .refl _
def slotAt(t:SetTable)(i:Nat):Nat:=if i=0 then 0 else t.place.getD (i - 1) 0+1
def RJ(w:afY)(h:Heap)(it S:afR)(t:SetTable)(i n ep:Nat):Prop:=∃o sl,h.get? it=some o/\o.cls= .type "set_iterator"/\o.data= .fields #[.int (sl:Nat) 0,.int (i:Nat) 0,.ref S,.int (n:Nat) 0,.int (ep:Nat) 0]/\(gS w=false->sl=slotAt t i)
def yK(h:Heap)(S:afR)(es:Array (Int×afX))(ep:Nat)(t:SetTable):Prop:=∃o,h.get? S=some o/\o.ExactSet/\o.data= .set es ep t
variable{n:Nat}
section
variable {prog:afV}{w:afY}{A:afS}{E:afX->afW->Prop}{s:afW}{S it:afR}{es:Array (Int×afX)}{ep i:Nat}{t:SetTable}{L:List (Nat×Int×afX)}
theorem yK.ty(x:yK s.heap S es ep t):s.TypeIs (.ref S) "set":=let ⟨o,h1,h2,_⟩:=x;⟨o,h1,h2.1⟩
theorem RJ.ty(x:RJ w s.heap it S t i n ep):s.TypeIs (.ref it) "set_iterator":=let ⟨o,_,h1,h2,_⟩:=x;⟨o,h1,h2⟩
theorem A5(B:Tb t es L)(hi:i<=t.place.size):SetTable.below t.place (slotAt t i)=i:=by
 have b:=sj (j:=slotAt t i) B.sorted;have bl:=HL t.place (slotAt t i);have ord:∀x y u v,x < y->t.place[x]? =some u->t.place[y]? =some v->u < v:=λx y u v hxy e1 e2=>by rw[<-kW]at e1 e2;obtain⟨l1,rfl⟩:=List.getElem?_eq_some_iff.mp e1;obtain⟨l2,rfl⟩:=List.getElem?_eq_some_iff.mp e2;exact List.pairwise_iff_getElem.mp B.sorted x y l1 l2 hxy
 generalize hb:SetTable.below t.place (slotAt t i)=k at b bl;cases i with
 |zero=>
  cases k with
  |zero=>rfl
  |succ k=>have:=b.1 0 _ (by omega) (iG (by omega));exact absurd this (Nat.not_lt_zero _)
 |succ i=>
  have ei:t.place[i]? =some (t.place[i]'(by omega)):=iG (by omega);have es':slotAt t (i+1)=t.place[i]'(by omega)+1:=by unfold slotAt;rw[if_neg (by omega),wc,jO,ei];rfl
  rw[es']at b;rcases Nat.lt_trichotomy k (i+1)with q |q |q
  ·have:=b.2 i _ (by omega) ei;omega
  ·exact q
  ·have e2:t.place[i+1]? =some (t.place[i+1]'(by omega)):=iG (by omega);have a1:=b.1 (i+1) _ q e2;have a2:=ord i (i+1) _ _ (by omega) ei e2;omega
end
variable{Q:Option afX->afW->Prop}
section
variable {prog:afV}{w:afY}{A:afS}{E:afX->afW->Prop}{s:afW}{S it:afR}{es:Array (Int×afX)}{ep i:Nat}{t:SetTable}{L:List (Nat×Int×afX)}
theorem Ij{Q:afX->afW->Prop}(x:yK s.heap S es ep t)(B:Tb t es L)(hf:t.fits es.size=true)(gp:t.plain=true)
  (k:Q (.ref s.heap.objs.size) { s with heap:=s.heap.push { cls:=.type "set_iterator",data:=.fields #[.int 0 0,.int 0 0,.ref S,.int es.size 0,.int ep 0] } }):aga (model prog w) A (pyIter (.ref S)) Q E s:=by
 have ty:=x.ty;obtain⟨o,g1,g2,g3⟩:=x;refine wpAny_pyIter_slot ty PySem.F.slot_set_iter (wpAny_call_entry PySem.F.slot_set_iter ty sE ?_ (PySem.F.args_set_iter_1 _));unfold Builtin.«frozenset.__iter__» Builtin.Frozenset.slot0;refine agb (agb (agh (agh ?_)));unfold HY setEntries;refine agb (agb (agb (wpAny_setState_of g1 g3 hf (agh (agh ?_)))));unfold setDrawn setsByText;refine agb (agb (wpAny_setState_of g1 g3 hf (agb (agb (wpAny_askSetting (agh (agh ?_)))))));show aga _ _ (if(!gS w&&(!t.plain&&decide (es.size > 1)))=true then _ else _) _ _ _;rw[gp];simp only[fc,j6,Ao,aW,if_false];refine agb (agh ?_);unfold setEpoch newFields;refine agb (agb (wpAny_setState_of g1 g3 hf (agh ?_)));refine agb (agg (agh ⟨_,rfl,"set_iterator",_,⟨_,bE _ rfl,rfl⟩,dS.lookup,by simpa [rawInt]using k⟩))
theorem yL{sl:Nat}{Q:Option (afX×Nat)->afW->Prop}(x:yK s.heap S es ep t)(B:Tb t es L)(hf:t.fits es.size=true)(gp:t.plain=true)(gl:t.led= !gS w)(hi:i<=es.size)(hs:gS w=false->sl=slotAt t i)
  (k1:∀v nx,(∃hj:i < (mM w S es ep).size,v=(mM w S es ep)[i].2)->(gS w=false->nx=slotAt t (i+1))->Q (some (v,nx)) s)(k2:i=es.size->Q none s):aga (model prog w) A (setNext S sl i ep) Q E s:=by
 obtain⟨o,g1,g2,g3⟩:=x;have oz:(mM w S es ep).size=es.size:=by have:=(mD w S es ep).length_eq;simpa using this
 unfold setNext;refine agb (wpAny_setState_of g1 g3 hf ?_);dsimp only;unfold setsByText;refine agb (agb (wpAny_askSetting (agh ?_)));dsimp only;show aga _ _ (if gS w=true then _ else _) _ _ _;by_cases c:gS w=true
 ·rw[if_pos c,if_neg (by simp)];refine agb ?_;unfold setWalk;refine agb (wpAny_setState_of g1 g3 hf ?_);dsimp only;unfold setsByText;refine agb (agb (wpAny_askSetting (agh ?_)));dsimp only;refine(show aga _ _ (if gS w=true then _ else _) _ _ _ from ?_);rw[if_pos c];refine agb (wpAny_askSetting (agh (agh ?_)));have eo:mM w S es ep=pickOrder (w.params.setOrder S ep) es:=if_pos c;show Q (((pickOrder (w.params.setOrder S ep) es)[i]?).map λe=>(e.2,sl)) s;rw[<-eo];by_cases h:i < es.size
  ·rw[iG (by omega)];exact k1 _ _ ⟨by omega,rfl⟩ λz=>by rw[c]at z;cases z
  ·rw[NX (by omega)];exact k2 (by omega)
 ·rw[if_neg c];have c':gS w=false:=by simpa using c
  have eo:mM w S es ep=es:=if_neg c;show aga _ _ (if(!t.plain&&decide (es.size > 1))=true then _ else _) _ _ _;rw[gp];simp only[fc,j6,aW,if_false];refine agb (show aga _ _ (if(!t.led&& !es.isEmpty)=true then unsupported "set:maker-not-led" else pure ()) _ _ _ from ?_);rw[gl,c'];simp only[we,fc,j6,aW,if_false];refine agh ?_;have sz:=B.size;rw[hs c',A5 B (by omega)];refine agh ?_;by_cases h:i < es.size
  ·have e1:es[i]? =some es[i]:=iG h;have e2:t.place[i]? =some (t.place[i]'(by omega)):=iG (by omega);rw[e1,e2];refine k1 _ _ ⟨by omega,?_⟩ λ_=>?_
   ·simp only[eo];rfl
   ·unfold slotAt;rw[if_neg (by omega),wc,jO,e2];rfl
  ·rw[NX (by omega)];exact k2 (by omega)
theorem Il(ki:RJ w s.heap it S t i es.size ep)(x:yK s.heap S es ep t)(B:Tb t es L)(hf:t.fits es.size=true)(gp:t.plain=true)(gl:t.led= !gS w)(hi:i < es.size)
  (k:∀h' v,(∃hj:i < (mM w S es ep).size,v=(mM w S es ep)[i].2)->RJ w h' it S t (i+1) es.size ep->eB it s.heap h'->Q (some v) { s with heap:=h' }):aga (model prog w) A (pyNext (.ref it)) Q E s:=by
 have ty:=ki.ty;obtain⟨oi,sl,f1,f2,f3,f4⟩:=id ki;obtain⟨o,g1,g2,g3⟩:=x;unfold pyNext;refine agb (wpAny_attempt (wpAny_callSpecial?_slot (name:=gY "__next__") ty dS (wpAny_call_entry dS ty mT ?_ (om _))));unfold Builtin.«set_iterator.__next__»;refine agb (agh ?_);refine agb (wpAny_fieldsOf f1 f3 ?_);dsimp only;unfold setEntries;refine agb (agb (wpAny_setState_of g1 g3 hf (agh ?_)));rw[if_neg (by simp)];rw[ke,ke,ke];refine agb (yL ⟨o,g1,g2,g3⟩ B hf gp gl (qg hi) f4 (λv nx hv hx=>?_) λe=>by omega);dsimp only;have u1:(s.heap.update it (g_ (·.setIfInBounds 0 (rawInt (nx:Int))))).get? it=some (g_ (·.setIfInBounds 0 (rawInt (nx:Int))) oi):=j_ _ f1 (nM (f9 f3 _));refine agb (wpAny_setField f1 f3 (by simp) ?_);have d1:=f9 f3 (·.setIfInBounds 0 (rawInt (nx:Int)));refine agb (wpAny_setField u1 d1 (by simp) ?_);refine agh ⟨_,rfl,agh (k _ v hv ⟨_,nx,j_ _ u1 (nM (f9 d1 _)),(qq ..).trans ((qq ..).trans f2),by rw[f9 d1];simp[rawInt],hx⟩ ((fF ..).trans (fF ..)))⟩
end
section
variable {prog:afV}{w:afY}{A:afS}{E:afX->afW->Prop}{s:afW}{S it:afR}{es:Array (Int×afX)}{ep i:Nat}{t:SetTable}{L:List (Nat×Int×afX)}
theorem Mx(hh:A.handled=none)(ki:RJ w s.heap it S t es.size es.size ep)(x:yK s.heap S es ep t)(B:Tb t es L)(hf:t.fits es.size=true)(gp:t.plain=true)(gl:t.led= !gS w)
  (k:∀h',wa it s.heap h'->Q none { s with heap:=h' }):aga (model prog w) A (pyNext (.ref it)) Q E s:=by
 have ty:=ki.ty;obtain⟨oi,sl,f1,f2,f3,f4⟩:=id ki;obtain⟨o,g1,g2,g3⟩:=x;have oz:(mM w S es ep).size=es.size:=by have:=(mD w S es ep).length_eq;simpa using this
 unfold pyNext;refine agb (wpAny_attempt (wpAny_callSpecial?_slot (name:=gY "__next__") ty dS (wpAny_call_entry dS ty mT ?_ (om _))));unfold Builtin.«set_iterator.__next__»;refine agb (agh ?_);refine agb (wpAny_fieldsOf f1 f3 ?_);dsimp only;unfold setEntries;refine agb (agb (wpAny_setState_of g1 g3 hf (agh ?_)));rw[if_neg (by simp)];rw[ke,ke,ke];refine agb (yL ⟨o,g1,g2,g3⟩ B hf gp gl (ar _) f4 (λv nx hv hx=>by obtain⟨hj,_⟩:=hv;omega) λ_=>?_);dsimp only;refine(show aga _ _ (setField (.ref it) 2 .none >>= _) _ _ s from agb (wpAny_setField f1 f3 (by simp) ?_));refine(show aga _ _ (newExc (.type "StopIteration") [] >>= _) _ _ _ from ?_);simp only[newExc,newTuple,raiseNew];refine agb (agb (agg (agb (m:=firstArgMember _ _) (wpAny_of_eq (a:=bg) (by first |rfl |(simp only[firstArgMember];rfl)) (agg ?_ (by size_fits)))) (by size_fits)));refine(agb (wpAny_handled ?_));rw[show A.in1.handled=none by exact hh];refine(agb (agh (wpAny_throw ?_)));refine agb (wpAny_isInstance (b:=true) (T:="StopIteration") ⟨_,bE _ rfl,rfl⟩ isSubtype_stop (agh ?_));refine k _ ?_;exact((fF ..).extBut.push _).push _
theorem Mz{Q:afX->afW->Prop}(ki:RJ w s.heap it S t i n ep)(h:Q (.ref it) s):aga (model prog w) A (pyIter (.ref it)) Q E s:=by refine wpAny_pyIter_slot ki.ty oo (wpAny_call_entry oo ki.ty ua ?_ (wH _));show aga _ _ (ret (.ref it)) _ _ s;exact agh ⟨_,rfl,"set_iterator",_,ki.ty,dS.lookup,h⟩
theorem EA(hh:A.handled=none)(I:afR)(hne:S≠I)(B:Tb t es L)(hf:t.fits es.size=true)(gp:t.plain=true)(gl:t.led= !gS w):
  Walks prog w A I [I,S] [I] es.size (λi v=>∃h:i < (mM w S es ep).size,v=(mM w S es ep)[i].2) (λi h=>RJ w h I S t i es.size ep/\yK h S es ep t) where
 sub:=λb hb=>List.mem_cons.mpr (.inl (List.mem_singleton.mp hb))
 frame:=λ_ _ _ st hk=>⟨let ⟨o,sl,e1,e2⟩:=st.1;⟨o,sl,hk I (by simp) o e1,e2⟩,let ⟨o,e1,e2⟩:=st.2;⟨o,hk S (by simp) o e1,e2⟩⟩
 item:=λi s Q E hi st hQ=>Il st.1 st.2 B hf gp gl hi λh' v hv ki sb=>hQ v h' s.toks hv ⟨ki,let ⟨o,e1,e2⟩:=st.2;⟨o,sb.extBut S o hne e1,e2⟩⟩ λb o hb e=>sb.extBut b o (λz=>hb (by simp[z])) e
 done:=λs Q E st hQ=>Mx hh st.1 st.2 B hf gp gl λh' eb=>hQ h' s.toks λb o hb e=>eb b o (λz=>hb (by simp[z])) e
 self:=λ_ _ _ _ st k=>Mz st.1 k
end
section
variable {prog:afV}{w:afY}{A:afS}{E:afX->afW->Prop}{s:afW}{S r:afR}{es:Array (Int×afX)}{ep:Nat}{t:SetTable}{L:List (Nat×Int×afX)}
theorem Io{Q:Bool->afW->Prop}(hT:s.TypeIs (.ref r) "set")(h:Q false s):aga (model prog w) A (RK (.ref r)) Q E s:=by
 unfold RK;refine agb (wpAny_specialOf hT PySem.F.slot_set_len.lookup ?_);generalize hid:("set.__len__":String)=id0
 wp_delta
 rw[show splitId id0=some ("set","__len__") from by subst hid;decide+kernel];subst hid;refine agb (wpAny_isInstance (T:="set") (b:=true) hT sub_set_self ?_);refine wpAny_ite_split (λhab=>absurd hab (by decide)) (λ_=>?_);refine wpAny_ite_split (λ_=>?_) (λhab=>absurd (by decide+kernel) hab);refine agb (wpAny_typeOf hT ?_);exact agh h
theorem MA(B:Tb t es L)(hf:t.fits es.size=true)(gp:t.plain=true)(gl:t.led= !gS w):KdlSrc prog w "set" S S es.size (λi v=>∃h:i < (mM w S es ep).size,v=(mM w S es ep)[i].2) (λh=>yK h S es ep t) where
 type:=λ_ x=>x.ty
 there:=λ_ x=>let ⟨o,e,_⟩:=x;⟨az e,az e⟩
 keep:=λ_ _ x hk=>let ⟨o,e,r⟩:=x;⟨o,hk S (.inl rfl) o e,r⟩
 notList:=by decide
 notTuple:=by decide
 hint:=λ_ _ _ _ x hq=>Io x.ty hq
 iter:=λ_ s hh x=>⟨_,_,(λ_ _ hq=>Ij x B hf gp hq),EA hh _ (by obtain⟨o,e,_⟩:=x;exact aN (az e)) B hf gp gl,⟨⟨_,0,bE _ rfl,rfl,rfl,λ_=>rfl⟩,let ⟨o,e,r⟩:=x;⟨o,aT _ e,r⟩⟩⟩
end
variable{m:Str->Option afX}{σ:L2.St}{H:Hp}{s:afW}{E:afX->afW->Prop}{D:afR}{h1:Heap}{its:List afX}{vs:List V}{ps:List (Int×Int)}
section
variable {X:Cx}
theorem Ip{pins:List (afR×Obj)}{Q:VK}{tk:Nat}(I:Inv X pins σ H s)(hn:s.heap.Ns X.env.locals m)
  (hp:Cu H vs ps)(r':Vals vs its)(tu:Paired (TupAt s.heap) its ps)(h2:2<=ps.length)(h64:ps.length < 64)(hz:vs.length<=af8)
  (F1:Fr (Att.fA s.heap) X.env.locals h1 m)(N1:News (Att.fA s.heap) X.env.locals h1 ((D,listOf its.toArray 0)::jZ (Att.fA s.heap) s.heap X.env.locals))(hD:∀q∈jZ (Att.fA s.heap) s.heap X.env.locals,q.1 < D)
  (q:∀l vs',H l=none->Cu H vs' (jP ps)->Q (.ref l) (upd H l (.lst vs'))):
  aga (model X.prog X.w) X.A.in1 (call (.builtin "list.sort") [.ref D]) (λ_ s'=>EP X pins σ Q (.ref D) s') E { s with heap:=h1,toks:=tk }:=by
 obtain⟨oL,esL,epL,gL,dL,_⟩:=id hn;have l2:its.length=ps.length:=tu.length;have l1:vs.length=its.length:=r'.length;obtain⟨Ep,hDL,wo⟩:=N1 (D,listOf its.toArray 0) ax;refine wpAny_call_entry slot_list_sort ⟨_,Ep,rfl⟩ entry_list_sort ?_ (args_list_sort _);refine kat_list_sort (s:={ s with heap:=h1,toks:=tk }) F1 (λp hp=>N1 p (av _ hp)) Ep hDL wo (λp hp=>aN (hD p hp)) (by omega) (by omega) λe1 h' F' N'=>?_;have keep:∀b o,b≠X.env.locals->s.heap.get? b=some o->h'.get? b=some o:=λb o n e=>(N' (b,o) (av _ (cz n (Att.cE _ _) e))).1;have Rq:Paired (TupAt h') its ps:=oR (λa o its n e d=>keep a o (λz=>by subst z;rw[gL]at e;cases e;rw[dL]at d;cases d) e) tu;obtain⟨fs,k1,k2,k3⟩:=rT Rq;refine kat_kind (T:=.type "int") (s:={ s with heap:=h',toks:=tk }) k1 (by omega) (λv hv=>by obtain⟨i,t,rfl⟩:=k3 v hv;exact Looks.of_pure rfl) (by decide) ?_;have et:(jY "int" != jY "tuple")=true:=by decide
 rw[et,l2];have od:Ord λi j=>tU (ps.getD i (0,0)) (ps.getD j (0,0)):=⟨λa b h=>AO h,λa b c h k=>AQ h k⟩;refine Kg.wp (lt:=λi j=>tU (ps.getD i (0,0)) (ps.getD j (0,0))) (N:=ps.length) (P:=λs''=>s''={ s with heap:=h',toks:=tk }) (λi j C s'' hi hj hs hC=>?_) rfl ((Cq od (by omega)).imp λpm ⟨P1,P2⟩ s'' hs=>?_)
 ·subst hs;obtain⟨a,o,t,u,n,e,g1,g2,g3⟩:=cN (a:=bg) (b:=(0,0)) Rq hi;obtain⟨a',o',t',u',n',e',J7,Yl,YT⟩:=cN (a:=bg) (b:=(0,0)) Rq hj;unfold kas_ask;rw[e,e'];exact Cs (s:={ s with heap:=h',toks:=tk }) g1 g3 J7 YT (hC _ rfl)
 ·subst hs;refine KasFin.intro (s:={ s with heap:=h',toks:=tk }) F' N' (.head λq hq=>aN (hD q hq)) λh'' c YU VG=>?_;have pR:∀b o,b≠X.env.locals->s.heap.get? b=some o->h''.get? b=some o:=λb o n e=>(VG (b,o) (av _ (cz n (Att.cE _ _) e))).1;have Fc:s.heap.get? D=none:=by
   cases e:s.heap.get? D with
   |none=>rfl
   |some o=>exact absurd (hD (D,o) (cz hDL (Att.cE _ _) e)) (dz _)
  have mem:∀i∈pm.toList,i < ps.length:=λi hi=>List.mem_range.mp (P1.pm.mem_iff.mp hi);have hv:Vals (pm.toList.map λi=>vs.getD i .bK) (pm.toList.map λi=>its.getD i bg):=iF λi hi=>cN r' (by have:=mem i hi;omega);have YV:(pm.toList.map λi=>ps.getD i (0,0))=jP ps:=by
   refine n8 ((P1.pm.map _).trans (by rw[range_getD];exact(dR ps).symm)) ?_ (kc _);rw[Hh,CC,Mg];intro i j hi hj hij;have z:=P2 i j (by omega) (by have:=P1.sz;simpa [this]using hj);have ei:at_ pm i=pm.toList[i]:=by
    have:i < pm.size:=by simpa using hi
    simp[at_,Cn,this]
   have ej:at_ pm j=pm.toList[j]:=by
    have:j < pm.size:=by simpa using hj
    simp[at_,Cn,this]
   rw[ei,ej]at z;exact z
  have YW:Cu H (pm.toList.map λi=>vs.getD i .bK) (jP ps):=by rw[<-YV];exact iF λi hi=>cN hp (mem i hi)
  have hlen:pm.toList.length=ps.length:=by have:=P1.sz;simpa using this
  obtain⟨J9,I'⟩:=og (tk:=tk) I hn pR Fc YU.ns hv (by rw[bf,hlen,<-l2,<-l1];exact hz) (VG (D,_) ax).1;exact⟨_,rfl,.ref D,_,I',rfl,q D _ J9 YW⟩
theorem Iq{pins:List (afR×Obj)}{Q:VK}{tk:Nat}(I:Inv X pins σ H s)(hn:s.heap.Ns X.env.locals m)
  (hp:Cu H vs ps)(r':Vals vs its)(h2:its.length < 2)(hz:vs.length<=af8)
  (F1:Fr (Att.fA s.heap) X.env.locals h1 m)(N1:News (Att.fA s.heap) X.env.locals h1 ((D,listOf its.toArray 0)::jZ (Att.fA s.heap) s.heap X.env.locals))(hD:∀q∈jZ (Att.fA s.heap) s.heap X.env.locals,q.1 < D)
  (q:∀l vs',H l=none->Cu H vs' ps->Q (.ref l) (upd H l (.lst vs'))):
  aga (model X.prog X.w) X.A.in1 (call (.builtin "list.sort") [.ref D]) (λ_ s'=>EP X pins σ Q (.ref D) s') E { s with heap:=h1,toks:=tk }:=by
 obtain⟨Ep,hDL,wo⟩:=N1 (D,listOf _ 0) ax;refine wpAny_call_entry slot_list_sort ⟨_,Ep,rfl⟩ entry_list_sort ?_ (args_list_sort _);refine uX (s:={ s with heap:=h1,toks:=tk }) (by simpa using h2) Ep ?_;obtain⟨c,hc'⟩:=sortedHeap_at (vs:=its) (out:=its.toArray) Ep;have old:∀b o,b≠D->h1.get? b=some o->(sortedHeap h1 D its its.toArray).get? b=some o:=λb o n e=>(sortedHeap_old n (az e)).trans e;have HD:∀b o,b≠X.env.locals->s.heap.get? b=some o->h1.get? b=some o:=λb o n e=>(N1 (b,o) (av _ (cz n (Att.cE _ _) e))).1;have Fc:s.heap.get? D=none:=by
  cases e:s.heap.get? D with
  |none=>rfl
  |some o=>exact absurd (hD (D,o) (cz hDL (Att.cE _ _) e)) (dz _)
 obtain⟨J9,I'⟩:=og (tk:=tk) I hn (λb o n e=>old b o (λz=>by subst z;rw[Fc]at e;cases e) (HD b o n e)) Fc (ksk_fr (((ksk_fr F1 (fF h1 D (dO λ_=>#[])) hDL wo).push (seqObj "tuple" _ 0)).push (seqObj "list" #[] 0)) (fF _ D (dO λ_=>_)) hDL wo).ns r' hz hc';exact⟨_,rfl,.ref D,_,I',rfl,q D _ J9 hp⟩
end
theorem EB:af1 "sorted"=some (.builtin "sorted"):=by decide+kernel
def pk:List L2.Key->Int×Int
 |[.inl a,.inl b]=>(a,b)
 |_=>(0,0)
theorem yM(p:Int×Int):pk (kP p)=p:=rfl
theorem yN{H:Hp}:∀{its:List afX}{qs:List (Int×Int)},Paired (λ(v:afX)(q:Int×Int)=>∃c,v= .ref c/\H c=some (.tup [.int q.1,.int q.2])) its qs->∃vs,Vals vs its/\Cu H vs qs
 |_,_,.nil=>⟨[],.nil,.nil⟩
 |_,_,.cons h t=>by obtain⟨c,rfl,hc⟩:=h;obtain⟨vs,h1,h2⟩:=yN t;exact⟨V.ref c::vs,.cons rfl h1,.cons ⟨c,rfl,hc⟩ h2⟩
theorem vc{α β γ:Type}{F:β->γ->Prop}{f:α->β}{g:α->γ}:∀{l:List α},(∀x∈l,F (f x) (g x))->Paired F (l.map f) (l.map g)
 |[],_=> .nil
 |x::r,h=> .cons (h x ax) (vc λy hy=>h y (av _ hy))
variable{e:Expr}
section
variable {X:Cx}
def VS(X:Cx)(t:TA):TE:=λσ H Q=>t σ H λvs H1=>∃(p:afR)(xs:List V)(ps:List (Int×Int)),vs=[.ref p]/\l5 X.K H1 p xs/\Q2 H1 xs (ps.map kP)/\wF X.prog X.w (ps.map kP)/\xs.length<=300/\(cq ps).length < 64/\
 ∀l vs',H1 l=none->Cu H1 vs' (jP (cq ps))->Q (.ref l) (upd H1 l (.lst vs'))
theorem MB{t:TA}(hu:X.A.units+64 < cLine)(hc:X.calm=true)(Ez:Gl X "sorted")(hm1:X.mg "sorted"=none)(N7:Gl X "set")(hm2:X.mg "set"=none)(ha:PA X [e] t)(he:af9 [e] X.env=[(false,eval e X.env)]):
  PE X (.Call (.Name "sorted" p1) [.Call (.Name "set" p2) [e] [] q2] [] q1) (VS X t):=by
 intro pins s σ H Q I h;refine wpAny_Call_Name_kw (gK I Ez hm1 EB ?_ (by decide) (by decide));refine BM ?_ rfl rfl;show aga _ _ (spliced ((false,eval (.Call (.Name "set" p2) [e] [] q2) X.env)::[])) _ _ s;refine Af (wpAny_Call_Name_kw (gK I N7 hm2 oU ?_ (by decide) (by decide)));refine j7 (bR (ha q2 pins s σ H _ I h) λus s1 ⟨vs,H1,I1,r1,p,xs,ps,ev,hq,ky,hn,hl,h64,q⟩=>?_) he rfl;subst ev;obtain⟨u,rfl,rx⟩:=vals1 r1;cases rx;obtain⟨its,r',pl,hz⟩:=I1.list hq;obtain⟨bs,rfl,hkb,VR⟩:=wu ky;have Y':=qC r';subst Y';have hlb:bs.length<=300:=by simpa using hl
 refine oW (I1.ok.hd hc) pl.isList hu hkb hn (λk hk=>by obtain⟨x,_,rfl⟩:=List.mem_map.mp hk;exact⟨[x.1,x.2],rfl⟩) hlb (λj b k e1 e2=>oJ I1.hok (VR j b k e1 e2)) λh' tk m mS mz mk kp=>?_;refine Ae ?_;have I2:=I1.kept (h':=h') (t':=tk) (λb o e=>kp b o (az e) e);have MC:∀x∈m,∃pr∈ps,x.1=kP pr:=λx hx=>by obtain⟨pr,h1,h2⟩:=List.mem_map.mp ((mk _).mp (List.mem_map.mpr ⟨x,hx,rfl⟩));exact⟨pr,h1,h2.symm⟩
 have nd:(m.map λx=>pk x.1).Nodup:=by
  have e:(m.map λx=>pk x.1)=(m.map (·.1)).map pk:=by rw[cu];rfl
  rw[e];refine sv mS.2.1 λa ha b hb z=>?_;obtain⟨x,hx,rfl⟩:=List.mem_map.mp ha;obtain⟨y,hy,rfl⟩:=List.mem_map.mp hb;obtain⟨u,_,eu⟩:=MC x hx;obtain⟨v,_,ev⟩:=MC y hy;rw[eu,ev,yM,yM]at z;rw[eu,ev,z]
 have qp:(m.map λx=>pk x.1).Perm (cq ps):=(MD nd fk).mpr λa=>by
  rw[cC];constructor
  ·intro z;obtain⟨x,hx,rfl⟩:=List.mem_map.mp z;obtain⟨u,Tz,eu⟩:=MC x hx;rw[eu,yM];exact Tz
  ·intro z;obtain⟨x,hx,ex⟩:=List.mem_map.mp ((mk (kP a)).mpr (List.mem_map.mpr ⟨a,z,rfl⟩));exact List.mem_map.mpr ⟨x,hx,by rw[ex,yM]⟩
 have prd:Paired (λ(v:afX)(q:Int×Int)=>∃c,v= .ref c/\H1 c=some (.tup [.int q.1,.int q.2])) (m.map λx=>aA x.2) (m.map λx=>pk x.1):=vc λx hx=>by obtain⟨u,_,eu⟩:=MC x hx;obtain⟨n,hn',en⟩:=i9 (mz x hx);have:=List.getElem?_zip_eq_some.mp (by rw[bh hn',en]:((ps.map kP).zip bs)[n]? =some (x.1,x.2));refine⟨x.2,rfl,?_⟩;rw[VR n x.2 x.1 this.2 this.1,eu,yM];rfl
 obtain⟨o,es,ep,t,L,ho,hex,hd,B,W9,hm,h5,gl,gp⟩:=mS.1;have hsz:=B.size;have ml:m.length=(cq ps).length:=by have:=qp.length_eq;simpa using this
 have hz':L.length=m.length:=by have:=W9.length_eq;simpa using this
 obtain⟨mm,hnn,hll⟩:=id I2.loc;refine kdu_sorted (s:={ s1 with heap:=h',toks:=tk }) (MA (prog:=X.prog) B (fits_of (by omega) B.du (by rw[bf]at h5;omega)) gp gl) (I2.ok.hd hc) (Att.Aq hnn) (qO (g:=Att.fA h') (h:=h') (L:=X.env.locals)) ⟨o,ho,hex,hd⟩ (by have:=sizeLine_eq;omega) λD h1 Rx vs F1 N1 hD hlen hv=>?_;have oz:(mM X.w s1.heap.objs.size es ep).size=es.size:=by have:=(mD X.w s1.heap.objs.size es ep).length_eq;simpa using this
 have VF:vs=(mM X.w s1.heap.objs.size es ep).toList.map (·.2):=by refine List.ext_getElem (by simp;omega) λn a1 a2=>?_;obtain⟨hj,ev⟩:=hv n _ (bh a1);rw[ev];simp
 have pm:vs.Perm (m.map λx=>aA x.2):=by
  rw[VF];have e2:(m.map λx=>aA x.2)=(m.map (su X.prog X.w)).map (·.2):=by rw[cu];rfl
  rw[e2];exact((mD ..).trans (by rw[B.en];exact W9)).map _
 obtain⟨qs,qs1,qs2⟩:=yC pm prd;obtain⟨us,W_,Zb⟩:=yN qs2;have tu:=AS I2 Zb W_;have lq:qs.length=(cq ps).length:=(qs1.trans qp).length_eq;have lu:us.length<=af8:=by have a1:=W_.length;have a2:vs.length=qs.length:=tu.length;have:=sizeLine_eq;omega
 have sq:∀zs:List (Int×Int),zs.Perm qs->Hh zs->zs=jP (cq ps):=λzs z1 z2=>n8 (z1.trans ((qs1.trans qp).trans (dR _).symm)) z2 (kc _);by_cases c:2<=qs.length
 ·refine Ip I2 hnn Zb W_ tu c (by omega) lu F1 N1 hD λl vs' hl' LK=>q l vs' hl' ?_;rw[<-sq _ (dR qs) (kc _)];exact LK
 ·refine Iq I2 hnn Zb W_ (by have a2:vs.length=qs.length:=tu.length;omega) lu F1 N1 hD λl vs' hl' LK=>q l vs' hl' ?_;rw[<-sq qs (.refl _) (by
   match qs,c with
   |[],_=>exact .nil
   |[x],_=>exact List.pairwise_singleton ..
   |x::y::r,c=>exact absurd (by simp) c)]
  exact LK
end
def sF:List Wv->Hs->Re Wv
 |[.ref l],st=>(match ao st l with
  |some ws=>(match dD mL ws with
   |some ks=>(match mR ks with
    |some ps=>if kl (cq ks)=true/\ws.length<=300/\(cq ps).length < 64 then .ok (.ref st.length) (st++[.lst ((jP (cq ps)).map pw)])else .bad
    |none=> .bad)
   |none=> .bad)
  |none=> .bad)
 |_,_=> .bad
section
variable {X:Cx}
theorem ME{g:GA}(hu:X.A.units+64 < cLine)(hc:X.calm=true)(Ez:Gl X "sorted")(hm1:X.mg "sorted"=none)(N7:Gl X "set")(hm2:X.mg "set"=none)(ha:JA X [e] g)(he:af9 [e] X.env=[(false,eval e X.env)]):
  JE X (.Call (.Name "sorted" p1) [.Call (.Name "set" p2) [e] [] q2] [] q1) (aY sF g):=by
 refine JE.of (MB hu hc Ez hm1 N7 hm2 jL he) λρ st σ H m Q S R p=>?_;refine ha.go S R (aE.bind p) λws st1 vs m1 H1 p1 e1 S1 rs=>?_;have p2:=dC.shift (aE.oE p1) e1;unfold sF at p2;split at p2
 ·rename_i l;obtain⟨v,rfl,r1⟩:=rp rs;unfold ag at r1;obtain⟨a,rfl,ha⟩:=r1;cases e0:ao st1 l with
  |none=>rw[e0]at p2;exact ae p2
  |some ws=>
   rw[e0]at p2;dsimp only at p2;obtain⟨xs,hq,rx⟩:=S1.read ha e0;cases e3:dD mL ws with
   |none=>rw[e3]at p2;exact ae p2
   |some ks=>
    rw[e3]at p2;dsimp only at p2;cases e4:mR ks with
    |none=>rw[e4]at p2;exact ae p2
    |some ps=>
     rw[e4]at p2;dsimp only at p2;by_cases c:kl (cq ks)=true/\ws.length<=300/\(cq ps).length < 64
     ·rw[if_pos c]at p2;have ek:=sd e4;have hh:=(sD (P:=X.prog) (w:=X.w) c.1).1;have ky:=wz rx e3;rw[ek]at hh ky;exact⟨a,xs,ps,rfl,hq,ky,hh,by rw[<-rx.length];exact c.2.1,c.2.2,λk vs' hk hp=>p2 (.ref k) (m1++[k]) _ (Ext.more.trans (Ext.upd (.inl hk))) (S1.alloc hk (m_ hp)) (S1.newest k _)⟩
     ·rw[if_neg c]at p2;exact ae p2
 ·exact ae p2
end
open PySem PySem.Spec PyProof.Rows L2
def oq(kvs:Dc)(gk:GE):GE:=λρ st=>(gk ρ st).bind λk st1=>match k with
 |.str z=> .ok ((kvs.lookup z).getD .bK) st1
 |_=> .bad
variable{p:Pos}{kvs:Dc}
section
variable {X:Cx}
theorem EC{gk:GE}{apos cpos:Pos}(he:JE X e gk)(M:M1 X (.Name x p) "get" apos e cpos)(hg:Gl X x)(hd:(x == ("__debug__":Str))=false)(D:ye X.K X.w X.mg x kvs):JE X (.Call (.Attribute (.Name x p) "get" apos) [e] [] cpos) (oq kvs gk):=by
 intro ρ st σ H m Q S R pp pins s I;obtain⟨a,es,ep,g1,g2,g3,g4,g5⟩:=D;have k1:=he.go (T:=λy H2=>∃k st1 m1,gE X σ m H (match k with |.str z=> .ok ((kvs.lookup z).getD .bK) st1 |_=> .bad) Q/\Ext X.K m H m1 H2/\bJ X.K m1 st1 H2/\ag X.K m1 H2 k y) S R (aE.bind pp) λw st1 v m1 H1 p1 e1 S1 rw'=>⟨w,st1,m1,p1,e1,S1,rw'⟩
 refine wpAny_Call_method M.base M.few M.line PySem.F.plainAttrs_dict PySem.F.slot_dict_get PySem.F.type_dict_get (bR (j5 (v:=.ref a) hg g1 rfl hd pins s σ H (λv H2=>v= .ref a/\H2=H) I ⟨rfl,rfl⟩) λu s1 ⟨v,H1,I1,rv,ev,eH⟩=>?_);subst ev;cases eH;obtain rfl:u=aA a:=rv;refine⟨⟨_,I1.vw _ _ g2,rfl⟩,λa' e=>by cases e;exact⟨_,I1.vw _ _ g2,rfl⟩,?_⟩;rw[M.trees];refine PD rfl (FG (Af (bR (k1 pins s1 I1) λiv s2 ⟨y,H2,I2,ry,k,st1,m1,p1,e1,S1,rk⟩=>Ae ?_)));cases k with
 |str zs=>
  obtain⟨rfl,_⟩:=fg rk;obtain⟨t,rfl⟩:=(show ∃t,iv=qb zs t from ry);obtain⟨vs,dd,look⟩:=Cm (P:=X.prog) (w:=X.w) I2.vw g2 g4 g5;refine call_meetsIn PySem.F.slot_dict_get dd.typeIs PySem.F.entry_dict_get (PySem.F.args_dict_get_2 _ _) (meets_dict_get (PySem.strKind X.prog X.w) a (strKind_is X.prog X.w zs t) g3) ⟨_,dd.mapOf,?_⟩;have p2':TN X.K m H Q ((kvs.lookup zs).getD .bK) st1:=p1;show EP X pins σ Q ((valueAt vs zs).getD .none) _;cases e:kvs.lookup zs with
  |none=>rw[e]at p2';rw[(look zs).1 e];exact⟨.bK,H2,I2.tok _,rfl,p2' _ m1 H2 e1 S1 (by unfold ag;rfl)⟩
  |some u=>rw[e]at p2';obtain⟨u',q1,q2⟩:=(look zs).2 u e;rw[q1];exact⟨Vu u u',H2,I2.tok _,q2.v,p2' _ m1 H2 e1 S1 q2.w⟩
 |_=>exact ae p1
end
variable{a b:afX}{t z T O j1 j2 t1 t2:afR}{k:Nat}{v1 v2:Array afX}
section
variable {P:afV}{w:afY}{A:afS}{E:afX->afW->Prop}{s:afW}
theorem yO{Q:Unit->afW->Prop}(ht:IsPair s.heap t a b)
  (q:∀g,g.get? t=some { cls:=.type "tuple",data:=.seq ((#[a,b]:Array afX).setIfInBounds k v) }->eB t s.heap g->Q () { s with heap:=g }):aga (model P w) A (updateSeq t (·.setIfInBounds k v)) Q E s:=by
 refine wpAny_updateSeq ht rfl (q _ ?_ (fF ..));rw[j_ _ ht rfl];simp[dO]
theorem ED{u1 u2:afX}{Q:afX->afW->Prop}(D:ZipApart z T O j1 j2 t1 t2)(hz:IsZip s.heap z T O .none)(hT:IsPair s.heap T (.ref j1) (.ref j2))(hO:IsPair s.heap O a b)
  (h1:s.heap.IsTupleIter j1 t1 i)(h2:s.heap.IsTupleIter j2 t2 i)(w1:s.heap.IsTuple t1 v1)(w2:s.heap.IsTuple t2 v2)(e1:v1[i]? =some u1)(e2:v2[i]? =some u2)
  (k:∀g,IsZip g z T O (rawInt s.heap.objs.size)->IsPair g O u1 u2->g.IsTupleIter j1 t1 (i+1)->g.IsTupleIter j2 t2 (i+1)->IsPair g s.heap.objs.size u1 u2->g.objs.size=s.heap.objs.size+1->
   (∀y o,y∉[z,O,j1,j2]->s.heap.get? y=some o->g.get? y=some o)->Q (.ref s.heap.objs.size) { s with heap:=g }):
  aga (model P w) A (Builtin.«zip.__next__» ⟨[.ref z],[]⟩) (λfin s'=>∃v,fin= .done (.ret v)/\Q v s') E s:=by
 obtain⟨zT,zO,z1,z2,TO,T1,T2,O1,O2,TY,p1z,p1O,p11,p12,p2z,p2O,p21,p22⟩:=D;show aga _ _ (field (.ref z) 2 >>= _) _ _ s;refine agb (wpAny_field hz rfl (x:=.bool false) rfl ?_);show aga _ _ (field (.ref z) 3 >>= _) _ _ s;refine agb (wpAny_field hz rfl (x:=.ref T) rfl ?_);refine agb (wpAny_seqItems hT rfl ?_);show aga _ _ (A6 (.ref z) >>= _) _ _ s;refine agb ?_;unfold A6;refine agb (wpAny_field hz rfl (x:=.none) rfl (agh ?_));simp only[if_true];refine agb (wpAny_rule ?_);refine agb (wpAny_field hz rfl (x:=.ref O) rfl ?_);refine agb (wpAny_setField_rec hz (by simp) λg0 y0 b0=>?_)
 replace y0:IsZip g0 z T O .ellipsis:=y0
 refine agb ?_;simp only[List.zipIdx_cons,List.zipIdx_nil,zV,GN];refine agb (agb (wpAny_onRaise ?_));show aga _ _ (oT (.ref j1) >>= _) _ _ _;refine agb (rW (h1.extBut b0.extBut z1) (w1.extBut b0.extBut p1z) e1 λg1 J6 b1=>agh ?_);have O1':IsPair g1 O a b:=b1.extBut _ _ O1 (b0.extBut _ _ zO hO);refine agb (wpAny_seqItems O1' rfl ?_);refine agb (yO O1' λg2 Zc b2=>?_)
 replace Zc:IsPair g2 O u1 b:=Zc
 refine agb (wpAny_letGo (agh ?_));refine agb (agb (wpAny_onRaise ?_));show aga _ _ (oT (.ref j2) >>= _) _ _ _;refine agb (rW (((h2.extBut b0.extBut z2).extBut b1.extBut (bC TY)).extBut b2.extBut (bC O2)) (((w2.extBut b0.extBut p2z).extBut b1.extBut p21).extBut b2.extBut p2O) e2 λg3 h2' b3=>agh ?_);have O3':IsPair g3 O u1 b:=b3.extBut _ _ O2 Zc;refine agb (wpAny_seqItems O3' rfl ?_);refine agb (yO O3' λg4 W' b4=>?_)
 replace W':IsPair g4 O u1 u2:=W'
 refine agb (wpAny_letGo (agh (agh ?_)));refine agb (wpAny_seqItems W' rfl ?_);refine agb (wpAny_newTuple ?_);have sz:g4.objs.size=s.heap.objs.size:=by rw[b4.1,b3.1,b2.1,b1.1,b0.1]
 have keep:∀y o,y∉[z,O,j1,j2]->s.heap.get? y=some o->g4.get? y=some o:=λy o hy q=>by simp only[dB,hJ,or_false,not_or]at hy;obtain⟨y1,y2,y3,y4⟩:=hy;exact b4.extBut _ _ y2 (b3.extBut _ _ y4 (b2.extBut _ _ y2 (b1.extBut _ _ y3 (b0.extBut _ _ y1 q))))
 have z6:IsZip g4 z T O .ellipsis:=b4.extBut _ _ (bC zO) (b3.extBut _ _ (bC z2) (b2.extBut _ _ (bC zO) (b1.extBut _ _ (bC z1) y0)));have k1:g4.IsTupleIter j1 t1 (i+1):=((J6.extBut b2.extBut (bC O1)).extBut b3.extBut TY).extBut b4.extBut (bC O1);have k2:g4.IsTupleIter j2 t2 (i+1):=h2'.extBut b4.extBut (bC O2);have VT:z < g4.objs.size:=az z6;show aga _ _ (RL (.ref z) (.ref g4.objs.size) >>= _) _ _ _;refine agb ?_;unfold RL;have z7:IsZip (g4.push { cls:=.type "tuple",data:=.seq #[u1,u2] }) z T O .ellipsis:=aT _ z6;refine agb (wpAny_setField_rec z7 (by simp) λg7 y7 b7=>?_)
 replace y7:IsZip g7 z T O (rawInt g4.objs.size):=y7
 refine wpAny_setField_rec y7 (by simp) λg8 y8 b8=>?_
 replace y8:IsZip g8 z T O (rawInt g4.objs.size):=y8
 have up:∀y o,y≠z->g4.get? y=some o->g8.get? y=some o:=λy o n q=>b8.extBut _ _ n (b7.extBut _ _ n (aT _ q));have tn:IsPair g8 g4.objs.size u1 u2:=b8.extBut _ _ (eP VT) (b7.extBut _ _ (eP VT) (bE _ rfl));have s8:g8.objs.size=g4.objs.size+1:=by rw[b8.1,b7.1,m7]
 rw[sz]at y8 tn s8;refine agh ⟨_,rfl,?_⟩;show Q (.ref g4.objs.size) _;rw[sz];have at':∀{j t:afR}{n:Nat},j≠z->g4.IsTupleIter j t n->g8.IsTupleIter j t n:=λn ⟨o,q,r⟩=>⟨o,up _ o n q,r⟩;exact k g8 y8 (up _ _ zO W') (at' z1 k1) (at' z2 k2) tn s8 λy o hy q=>up y o (λe=>hy (by simp[e])) (keep y o hy q)
theorem Ir{Q:Fin->afW->Prop}(hh:A.handled=none)(D:ZipApart z T O j1 j2 t1 t2)(hz:IsZip s.heap z T O .none)(hT:IsPair s.heap T (.ref j1) (.ref j2))(hO:IsPair s.heap O a b)
  (h1:s.heap.IsTupleIter j1 t1 i)(w1:s.heap.IsTuple t1 v1)(e1:v1[i]? =none)
  (k:∀g e,(∀y o,y∉[z,O,j1,j2]->s.heap.get? y=some o->g.get? y=some o)->(∃o,g.get? e=some o/\o.cls= .type "StopIteration")->E (.ref e) { s with heap:=g }):
  aga (model P w) A (Builtin.«zip.__next__» ⟨[.ref z],[]⟩) Q E s:=by
 show aga _ _ (field (.ref z) 2 >>= _) _ _ s;refine agb (wpAny_field hz rfl (x:=.bool false) rfl ?_);show aga _ _ (field (.ref z) 3 >>= _) _ _ s;refine agb (wpAny_field hz rfl (x:=.ref T) rfl ?_);refine agb (wpAny_seqItems hT rfl ?_);show aga _ _ (A6 (.ref z) >>= _) _ _ s;refine agb ?_;unfold A6;refine agb (wpAny_field hz rfl (x:=.none) rfl (agh ?_));simp only[if_true];refine agb (wpAny_rule ?_);refine agb (wpAny_field hz rfl (x:=.ref O) rfl ?_);refine agb (wpAny_setField_rec hz (by simp) λg0 y0 b0=>?_)
 replace y0:IsZip g0 z T O .ellipsis:=y0
 refine agb ?_;simp only[List.zipIdx_cons,List.zipIdx_nil,zV,GN];refine agb (agb (wpAny_onRaise ?_));show aga _ _ (oT (.ref j1) >>= _) _ _ _;refine agb (Ed hh (h1.extBut b0.extBut D.i1z) (w1.extBut b0.extBut D.l1z) e1 λg1 e b1 he=>?_);obtain⟨oe,qe,ce⟩:=he;have y1:IsZip g1 z T O .ellipsis:=b1 _ _ (bC D.i1z) y0;have ez:e≠z:=λq=>by subst q;rw[y1]at qe;cases qe;simp at ce
 refine wpAny_setField_rec y1 (by simp) λg2 _ b2=>k g2 e (λy o hy q=>?_) ⟨oe,b2.extBut _ _ ez qe,ce⟩;simp only[dB,hJ,or_false,not_or]at hy;exact b2.extBut _ _ hy.1 (b1 _ _ hy.2.2.1 (b0.extBut _ _ hy.1 q))
theorem MF{u1 u2:afX}(D:ZipApart z T O j1 j2 t1 t2)(hz:IsZip s.heap z T O .none)(hT:IsPair s.heap T (.ref j1) (.ref j2))(hO:IsPair s.heap O a b)
  (h1:s.heap.IsTupleIter j1 t1 i)(h2:s.heap.IsTupleIter j2 t2 i)(w1:s.heap.IsTuple t1 v1)(w2:s.heap.IsTuple t2 v2)(e1:v1[i]? =some u1)(e2:v2[i]? =some u2)
  (k:∀g,IsZip g z T O (rawInt s.heap.objs.size)->IsPair g O u1 u2->g.IsTupleIter j1 t1 (i+1)->g.IsTupleIter j2 t2 (i+1)->IsPair g s.heap.objs.size u1 u2->g.objs.size=s.heap.objs.size+1->
   (∀y o,y∉[z,O,j1,j2]->s.heap.get? y=some o->g.get? y=some o)->Q (some (.ref s.heap.objs.size)) { s with heap:=g }):aga (model P w) A (pyNext (.ref z)) Q E s:=by
 have ty:s.TypeIs (.ref z) "zip":=⟨_,hz,rfl⟩;unfold pyNext;refine agb (wpAny_attempt (wpAny_callSpecial?_slot (name:=gY "__next__") ty A7 (wpAny_call_entry A7 ty F.entry_zip_next ?_ (F.args_zip_next_1 _))));exact ED D hz hT hO h1 h2 w1 w2 e1 e2 λg a1 a2 a3 a4 a5 a6 a7=>agh (k g a1 a2 a3 a4 a5 a6 a7)
theorem Iu(hh:A.handled=none)(D:ZipApart z T O j1 j2 t1 t2)(hz:IsZip s.heap z T O .none)(hT:IsPair s.heap T (.ref j1) (.ref j2))(hO:IsPair s.heap O a b)
  (h1:s.heap.IsTupleIter j1 t1 i)(w1:s.heap.IsTuple t1 v1)(e1:v1[i]? =none)
  (k:∀g,(∀y o,y∉[z,O,j1,j2]->s.heap.get? y=some o->g.get? y=some o)->Q none { s with heap:=g }):aga (model P w) A (pyNext (.ref z)) Q E s:=by
 have ty:s.TypeIs (.ref z) "zip":=⟨_,hz,rfl⟩;unfold pyNext;refine agb (wpAny_attempt (wpAny_callSpecial?_slot (name:=gY "__next__") ty A7 (wpAny_call_entry A7 ty F.entry_zip_next ?_ (F.args_zip_next_1 _))));refine Ir hh D hz hT hO h1 w1 e1 λg e kp he=>?_;obtain⟨o,q,c⟩:=he;exact agb (wpAny_isInstance (T:="StopIteration") (b:=true) ⟨o,q,c⟩ isSubtype_stop (agh (k g kp)))
end
def Um(K:PySem.W.Frag)(l1 l2:afR):It :=
 ⟨λi H=>∃xs ys x y,eO K H l1 xs/\eO K H l2 ys/\xs[i]? =some x/\ys[i]? =some y,
  λi H v H'=>∃p,v= .ref p/\H p=none/\∀xs ys,eO K H l1 xs->eO K H l2 ys->∃x y,xs[i]? =some x/\ys[i]? =some y/\H'=upd H p (.tup [x,y]),
  λi H=>∃xs,eO K H l1 xs/\xs.length<=i⟩
def RM(z T O j1 j2 l1 l2:afR)(i:Nat)(h:Heap):Prop:=IsZip h z T O .none/\IsPair h T (.ref j1) (.ref j2)/\(∃a b,IsPair h O a b)/\h.IsTupleIter j1 l1 i/\h.IsTupleIter j2 l2 i
variable{es:List Expr}{K:PySem.W.Frag}{kt:Nat}{pt:Pos}
theorem EE{l1 l2:afR}(D:ZipApart z T O j1 j2 l1 l2):Turn P w K (.Tuple es kt pt) (Um K l1 l2) [z,T,O,j1,j2] z (RM z T O j1 j2 l1 l2) where
 mem:=by simp
 obj:=λi h st b hb=>by
  obtain⟨a1,a2,⟨a,b',a3⟩,⟨o1,q1,_,d1⟩,⟨o2,q2,_,d2⟩⟩:=st;simp only[dB,hJ,or_false]at hb;rcases hb with rfl |rfl |rfl |rfl |rfl
  ·exact⟨_,a1,λv z=>by cases z⟩
  ·exact⟨_,a2,λv z=>by cases z⟩
  ·exact⟨_,a3,λv z=>by cases z⟩
  ·exact⟨o1,q1,λv z=>by rw[d1]at z;cases z⟩
  ·exact⟨o2,q2,λv z=>by rw[d2]at z;cases z⟩
 keep:=λi h h' st k=>by obtain⟨a1,a2,⟨a,b,a3⟩,⟨o1,q1,r1⟩,⟨o2,q2,r2⟩⟩:=st;exact⟨k z (by simp) _ a1,k T (by simp) _ a2,⟨a,b,k O (by simp) _ a3⟩,⟨o1,k j1 (by simp) _ q1,r1⟩,⟨o2,k j2 (by simp) _ q2,r2⟩⟩
 item:=by
  intro X hP hw hK hc i pins s σ H E I hf st hg;subst hP hw hK;obtain⟨xs,ys,x,y,H1,H2,x1,x2⟩:=hg;obtain⟨i1,r1,p1,_⟩:=I.tuple H1;obtain⟨i2,r2,p2,_⟩:=I.tuple H2;obtain⟨u1,e1,m1⟩:=r1.get x1;obtain⟨u2,e2,m2⟩:=r2.get x2;obtain⟨a1,a2,⟨a,b,a3⟩,a4,a5⟩:=st;refine MF D a1 a2 a3 a4 a5 p1 p2 (by simpa using e1) (by simpa using e2) λg b1 b2 b3 b4 b6 b7 b8=>?_;refine⟨.ref s.heap.objs.size,rfl,?_⟩;refine wpAny_letOwnedTupleGo_zip b1 λh2 c1 sb=>?_;have hfr:H s.heap.objs.size=none:=I.hok.fresh (ar _);have lt:∀b o,s.heap.get? b=some o->b≠s.heap.objs.size:=λb o q=>aN (az q);have VT:z≠s.heap.objs.size:=lt _ _ a1;have kp:∀b o,b∉[z,O,j1,j2]->s.heap.get? b=some o->h2.get? b=some o:=λb o hb q=>by have hc:=hb;simp only[dB,hJ,or_false,not_or]at hb;exact sb.extBut _ _ hb.1 (b8 b o hc q)
  have sub:∀b,b∈[z,O,j1,j2]->b∈[z,T,O,j1,j2]:=λb h=>(List.mem_cons.mp h).elim (λe=>e ▸ ax) λh=>av _ (av _ h);have VU:∀b u,H b=some u->b∉[z,O,j1,j2]:=λb u q hb=>by have n:=(hf b (sub b hb)).1;rw[q]at n;cases n
  have A8:∀b,b∉[z,T,O,j1,j2]->b∉[z,O,j1,j2]:=λb h hb=>h (sub b hb);have kt:∀b u,H b=some u->b≠s.heap.objs.size:=λb u q=>cD q hfr;have Tn:h2.get? s.heap.objs.size=some { cls:=.type "tuple",data:=.seq #[u1,u2] }:=sb.extBut _ _ (bC VT) b6;have fpz:∀b∈[z,T,O,j1,j2],b≠s.heap.objs.size:=λb hb=>by
   simp only[dB,hJ,or_false]at hb;rcases hb with rfl |rfl |rfl |rfl |rfl
   ·exact VT
   ·exact lt _ _ a2
   ·exact lt _ _ a3
   ·obtain⟨o,q,_⟩:=a4;exact lt _ _ q
   ·obtain⟨o,q,_⟩:=a5;exact lt _ _ q
  have at':∀{j t:afR}{n:Nat},j≠z->g.IsTupleIter j t n->h2.IsTupleIter j t n:=λn ⟨o,q,r⟩=>⟨o,sb.extBut _ _ n q,r⟩;refine⟨.ref s.heap.objs.size,upd H s.heap.objs.size (.tup [x,y]),?_,rfl,⟨s.heap.objs.size,rfl,hfr,λxs' ys' hx' hy'=>⟨x,y,by rw[I.oH hx' H1];exact x1,by rw[I.oH hy' H2];exact x2,rfl⟩⟩,⟨c1,?_,⟨u1,u2,sb.extBut _ _ D.TOz b2⟩,at' D.i1z b3,at' D.i2z b4⟩,λb hb=>?_⟩
  ·refine I.xt (s':={ s with heap:=h2 }) (ch:=[z,T,O,j1,j2]) rfl ?_ ?_ I.bare (λb hb=>⟨(hf b hb).2.2.2.1,(hf b hb).2.1,(hf b hb).2.2.2.2.1,(hf b hb).2.2.2.2.2⟩)
   ·refine⟨λb o q _ _ hx=>kp b o (A8 b hx) q,λb o q _ _ hx=>⟨o.slots,kp b o (A8 b hx) q⟩,λb o q n _=>by rw[aI (lt b o q)];exact n,λb o q hx=>⟨o,kp b o (A8 b hx) q⟩,λb ys q=>by rw[aI (kt b _ q)];exact q,λb o y q=>by rw[aI (kt b _ q)];exact q,λb ps q=>⟨#[],by rw[aI (kt b _ q),q];simp⟩⟩
   ·intro b o q;by_cases hb:b=s.heap.objs.size
    ·subst hb;rw[bq]at q;cases q;exact⟨by show 2<=af8;decide,[u1,u2],.cons m1 (.cons m2 .nil),⟨_,Tn,rfl,0,rfl⟩,λo q=>by rw[Tn]at q;cases q;rfl⟩
    ·rw[aI hb]at q;refine(I.hok b o q).stay (λc v hc g=>?_) (λc g=>by rw[aI (kt c _ g)];exact g) λc ys g=>by rw[aI (kt c _ g)];exact g
     rcases hc with e |e
     ·subst e;exact kp _ _ (VU _ _ q) g
     ·exact kp _ _ (VU _ _ e) g
  ·refine kp T _ ?_ a2;simp only[dB,hJ,or_false,not_or];exact⟨D.TIz,D.TITO,D.TIi1,D.TIi2⟩
  ·rw[aI (fpz b hb)];exact(hf b hb).1
 done:=by
  intro X hP hw hK hc i pins s σ H E I hf st hg;subst hP hw hK;obtain⟨xs,H1,hl⟩:=hg;obtain⟨i1,r1,p1,_⟩:=I.tuple H1;obtain⟨a1,a2,⟨a,b,a3⟩,a4,a5⟩:=st;have q1:=r1.length;have sub:∀b,b∈[z,O,j1,j2]->b∈[z,T,O,j1,j2]:=λb h=>(List.mem_cons.mp h).elim (λe=>e ▸ ax) λh=>av _ (av _ h);have VU:∀b u,H b=some u->b∉[z,O,j1,j2]:=λb u q hb=>by have n:=(hf b (sub b hb)).1;rw[q]at n;cases n
  have A8:∀b,b∉[z,T,O,j1,j2]->b∉[z,O,j1,j2]:=λb h hb=>h (sub b hb);refine Iu (I.ok.hd hc) D a1 a2 a3 a4 p1 (by simp;omega) λg kp=>⟨rfl,?_⟩;refine I.xt (s':={ s with heap:=g }) (ch:=[z,T,O,j1,j2]) rfl ?_ ?_ I.bare (λb hb=>⟨(hf b hb).2.2.2.1,(hf b hb).2.1,(hf b hb).2.2.2.2.1,(hf b hb).2.2.2.2.2⟩)
  ·exact⟨λb o q _ _ hx=>kp b o (A8 b hx) q,λb o q _ _ hx=>⟨o.slots,kp b o (A8 b hx) q⟩,λb o q n _=>n,λb o q hx=>⟨o,kp b o (A8 b hx) q⟩,λb ys q=>q,λb o y q=>q,λb ps q=>⟨#[],by rw[q];simp⟩⟩
  ·intro b o q;refine(I.hok b o q).stay (λc v hc g=>?_) (λc g=>g) λc ys g=>g;rcases hc with e |e
   ·subst e;exact kp _ _ (VU _ _ q) g
   ·exact kp _ _ (VU _ _ e) g
 self:=λ_ _ _ _ _ st h=>wpAny_pyIter_zip st.1 h
theorem MG(a b:afX):checkTypeCall "zip" ⟨[a,b],[]⟩=pure ():=by kernel_rfl
theorem MH(a b:afX):checkBuiltinCall "zip.__new__" ⟨[.type "zip",a,b],[]⟩=pure ():=by kernel_rfl
theorem Zd(a b c:afX):argsOk "object.__init__" ⟨[a,b,c],[]⟩:=by unfold argsOk;rw[signature?_of (id:="object.__init__") (n:=['_','_','t','i','n','i','_','_']) (o:=['t','c','e','j','b','o']) (by kernel_rfl) F.owner_object];kernel_rfl
abbrev yD(h:Heap)(t1 t2:afR):Heap:=(zB h t1 t2).push { cls:=.type "tuple",data:=.seq #[.ref h.objs.size,.ref (zA h t1).objs.size] }
abbrev yE(h:Heap)(t1 t2:afR):Heap:=(yD h t1 t2).push { cls:=.type "tuple",data:=.seq #[.none,.none] }
abbrev yF(h:Heap)(t1 t2:afR):Heap:=(yE h t1 t2).push { cls:=.type "zip",data:=.fields #[.none,.bool false,.bool false,.ref (zB h t1 t2).objs.size,.ref (yD h t1 t2).objs.size] }
theorem MI(t1 t2:afR)(v1 v2:Array afX):Meets (Builtin.«zip.__new__» ⟨[.type "zip",.ref t1,.ref t2],[]⟩) (λ_ R s=>s.heap.IsTuple t1 v1/\s.heap.IsTuple t2 v2/\
   R (.ok (.ret (.ref (yE s.heap t1 t2).objs.size))) { s with heap:=yF s.heap t1 t2 }) :=
 .of_wp λprog w A R s h=>by
  obtain⟨hp,g,d,tk,os⟩:=s;obtain⟨q1,q2,h⟩:=h;have hsub:=sub_zip;have r1:Heap.IsTuple (Shared.heap ⟨hp,g,d,tk,os⟩) t1 v1:=q1;have r2:Heap.IsTuple (Shared.heap ⟨zA hp t1,g,d,tk,os⟩) t2 v2:=Heap.IsTuple.push q2 _
  wp_walk using wpAny_pyIter_tuple r1,wpAny_pyIter_tuple r2
  exact⟨_,rfl,h⟩
section
variable {P:afV}{w:afY}{A:afS}{E:afX->afW->Prop}{s:afW}
theorem EF{Q:afX->afW->Prop}(q1:s.heap.IsTuple t1 v1)(q2:s.heap.IsTuple t2 v2)
  (k:∀g,IsZip g (s.heap.objs.size+4) (s.heap.objs.size+2) (s.heap.objs.size+3) .none->IsPair g (s.heap.objs.size+2) (.ref s.heap.objs.size) (.ref (s.heap.objs.size+1))->IsPair g (s.heap.objs.size+3) .none .none->
   g.IsTupleIter s.heap.objs.size t1 0->g.IsTupleIter (s.heap.objs.size+1) t2 0->(∀b o,s.heap.get? b=some o->g.get? b=some o)->Q (.ref (s.heap.objs.size+4)) { s with heap:=g }):
  aga (model P w) A (call (.type "zip") [.ref t1,.ref t2]) Q E s:=by
 refine callType_new F.called_zip (by decide) (MG _ _) (MH _ _) (λobj=>Zd obj _ _) F.entry_zip_new (MI t1 t2 v1 v2) ⟨q1,q2,?_⟩;have s1:(zA s.heap t1).objs.size=s.heap.objs.size+1:=m7 ..;have s2:(zB s.heap t1 t2).objs.size=s.heap.objs.size+2:=by rw[m7,s1]
 have s3:(yD s.heap t1 t2).objs.size=s.heap.objs.size+3:=by rw[m7,s2]
 have s4:(yE s.heap t1 t2).objs.size=s.heap.objs.size+4:=by rw[m7,s3]
 have up:∀{h:Heap}{b:afR}{o o':Obj},h.get? b=some o->(h.push o').get? b=some o:=λe=>aT _ e;have g5:(yF s.heap t1 t2).get? (yE s.heap t1 t2).objs.size=some _:=bE _ rfl;have g4:(yF s.heap t1 t2).get? (yD s.heap t1 t2).objs.size=some _:=up (bE _ rfl);have g3:(yF s.heap t1 t2).get? (zB s.heap t1 t2).objs.size=some _:=up (up (bE _ rfl));have g2:(yF s.heap t1 t2).get? (zA s.heap t1).objs.size=some _:=up (up (up (bE _ rfl)));have g1:(yF s.heap t1 t2).get? s.heap.objs.size=some _:=up (up (up (up (bE _ rfl))));show _/\_;rw[s2,s3,s4]at g5;rw[s1,s2]at g3;rw[s3]at g4;rw[s1]at g2;rw[s4];exact⟨⟨_,g5,rfl⟩,k _ g5 g3 g4 ⟨_,g1,rfl,rfl⟩ ⟨_,g2,rfl,rfl⟩ λb o e=>up (up (up (up (up e))))⟩
end
variable{m:Mp}{l:Expr}{w:Wv}{ls:List Expr}{ws:List Wv}{ga:GA}
section
variable {X:Cx}
def VV(K:PySem.W.Frag)(ta:TA):TI:=λσ H R=>ta σ H λvs H1=>∃a b xs ys,vs=[.ref a,.ref b]/\eO K H1 a xs/\eO K H1 b ys/\R (Um K a b) H1
theorem MJ{q:Pos}{ta:TA}(hg:Gl X "zip")(hm:X.mg "zip"=none)(ha:PA X (l::ls) ta)(hst:af9 (l::ls) X.env=(false,eval l X.env)::af9 ls X.env)(hpl:(backTo q (af9 ls X.env)).any (·.1)=false):
  PI X (.Tuple es kt pt) (.Call (.Name "zip" p) (l::ls) [] q) (VV X.K ta):=by
 intro pins s σ H R I h;refine wpAny_Call_Name_kw (gK I hg hm boot_zip ?_);refine j7 (bR (ha q pins s σ H _ I h) λus s1 ⟨vs,H1,I1,r1,q1⟩=>?_) hst hpl;obtain⟨l1,l2,xs,ys,e,h1,h2,k⟩:=q1;subst e;cases r1 with
 |cons r rr=>
  cases rr with
  |cons r' rr=>
   cases rr;cases r;cases r';obtain⟨i1,_,p1,_⟩:=I1.tuple h1;obtain⟨i2,_,p2,_⟩:=I1.tuple h2;have lt1:l1 < s1.heap.objs.size:=by obtain⟨o,ho,_⟩:=id p1;exact az ho
   have Vk:l2 < s1.heap.objs.size:=by obtain⟨o,ho,_⟩:=id p2;exact az ho
   refine EF p1 p2 λg b1 b2 b3 b4 b5 kp=>wpAny_pyIter_zip b1 ?_;have D:ZipApart (s1.heap.objs.size+4) (s1.heap.objs.size+2) (s1.heap.objs.size+3) s1.heap.objs.size (s1.heap.objs.size+1) l1 l2:=by exact HC lt1 Vk
   have tz:=EE (P:=X.prog) (w:=X.w) (K:=X.K) (es:=es) (kt:=kt) (pt:=pt) D;refine⟨s1.heap.objs.size+4,_,_,_,H1,rfl,I1.kept (t':=s1.toks) kp,tz,⟨b1,b2,⟨_,_,b3⟩,b4,b5⟩,λb hb=>?_,k⟩;have ge:s1.heap.objs.size<=b:=by simp only[dB,hJ,or_false]at hb;rcases hb with rfl |rfl |rfl |rfl |rfl<;>omega
   exact I1.zZ (pins:=pins) (H':=H1) (b:=b) ge (I1.hok.fresh ge)
def Iw:Wv->Option (List Wv)
 |.tup ws=>some ws
 |.iY ws=>some ws
 |_=>none
theorem CV{v:V}(r:ag X.K m H w v)(h:Iw w=some ws):∃a xs,v= .ref a/\eO X.K H a xs/\ai X.K m H ws xs:=by
 cases w with
 |tup l=>cases h;unfold ag at r;obtain⟨a,xs,rfl,h1,h2⟩:=r;exact⟨a,xs,rfl,eO.of h1,h2⟩
 |iY l=>cases h;unfold ag at r;obtain⟨a,xs,rfl,h1,h2⟩:=r;exact⟨a,xs,rfl,.inr h1,h2⟩
 |_=>cases h
def Iy(ws:List Wv)(st:Hs):Re TX:=match ws with
 |[x,y]=>(match Iw x,Iw y with
  |some as,some bs=>if as.length<=bs.length then .ok (none,pQ as bs) st else .bad
  |_,_=> .bad)
 |_=> .bad
def sG(g:GA):L4:=λρ st=>(g ρ st).bind Iy
theorem Iz{q:Pos}(hg:Gl X "zip")(hm:X.mg "zip"=none)(ha:JA X (l::ls) ga)(hst:af9 (l::ls) X.env=(false,eval l X.env)::af9 ls X.env)(hpl:(backTo q (af9 ls X.env)).any (·.1)=false):
  Q5 X (.Tuple es kt pt) (.Call (.Name "zip" p) (l::ls) [] q) (sG ga):=by
 refine⟨_,MJ hg hm jL hst hpl,λρ st σ H m Q S R p=>?_⟩;refine ha.go S R (aE.bind p) λws st1 vs m1 H1 p1 e1 S1 rs=>?_;unfold Iy at p1;split at p1
 case h_2=>exact ae p1
 rename_i wx wy;obtain⟨v1,v2,rfl,r1,r2⟩:=Az rs;cases t1:Iw wx with
 |none=>rw[t1]at p1;exact ae p1
 |some as=>
  cases t2:Iw wy with
  |none=>rw[t1,t2]at p1;exact ae p1
  |some bs=>
   rw[t1,t2]at p1;dsimp only at p1;by_cases c:as.length<=bs.length
   ·rw[if_pos c]at p1;obtain⟨a,xs,rfl,f1,g1⟩:=CV r1 t1;obtain⟨b,ys,rfl,f2,g2⟩:=CV r2 t2;have len:(pQ as bs).length=as.length:=by unfold pQ;simp;omega
    have sq:∀{m':Mp}{H':Hp}{t:afR}{zs:List V},Ext X.K m1 H1 m' H'->eO X.K H1 t zs->eO X.K H' t zs:=λe h=>by
     rcases h with (h |⟨o,h⟩) |h
     ·exact .inl (.inl (e.tup _ _ h))
     ·exact .inl (.inr ⟨o,e.iV _ _ _ h⟩)
     ·exact .inr h
    have get:∀k (hk:k < (pQ as bs).length),∃x y,as[k]? =some x/\bs[k]? =some y/\(pQ as bs)[k]= .tup [x,y]:=λk hk=>by
     have hk':k < as.length:=by rw[<-len];exact hk
     refine⟨as[k]'(by omega),bs[k]'(by omega),by simp,by simp,?_⟩;exact List.getElem_zipWith
    refine⟨a,b,xs,ys,rfl,f1,f2,p1 m1 H1 _ e1 S1 trivial ⟨λk H' m' st' e S' _ hk=>?_,λk H' m' st' e S' _ hk=>?_,λk hk H' v YH m' st' e S' _ y=>?_⟩⟩
    ·obtain⟨x,y,gx,gy,_⟩:=get k hk;obtain⟨x',Ze,_⟩:=g1.get gx;obtain⟨y',Zf,_⟩:=g2.get gy;exact⟨xs,ys,x',y',sq e f1,sq e f2,Ze,Zf⟩
    ·exact⟨xs,sq e f1,by rw[<-g1.length,hk];exact nL len.symm⟩
    ·obtain⟨x,y',gx,gy,gw⟩:=get k hk;obtain⟨x',Ze,rx⟩:=(ai.mono e _ _ g1).get gx;obtain⟨Zg,Zf,ry⟩:=(ai.mono e _ _ g2).get gy;obtain⟨p',rfl,fr,yy⟩:=y;obtain⟨x3,y3,gx3,gy3,rfl⟩:=yy xs ys (sq e f1) (sq e f2);rw[Ze]at gx3;rw[Zf]at gy3;cases gx3;cases gy3;have eU:Ext X.K m' H' m' (upd H' p' (.tup [x',Zg])):=Ext.mJ (.inl fr);refine⟨eU,S'.fresh fr,?_⟩;show ag X.K m' (upd H' p' (.tup [x',Zg])) ((pQ as bs)[k]'hk) (.ref p');rw[gw];unfold ag;exact⟨p',[x',Zg],rfl,bq,ai.cons (ag.mono eU _ _ rx) (ai.cons (ag.mono eU _ _ ry) ai.nil)⟩
   ·rw[if_neg c]at p1;exact ae p1
end
def RN:Wv->Bool
 |.str _=>true
 |.tup _=>true
 |_=>false
def IA:Wv->String->Bool
 |.ty T,U=>T == U
 |_,_=>false
def Zh:List Wv->Bool
 |[a,b]=>IA a "str"&&IA b "tuple"
 |_=>false
def RO:Wv->Bool
 |.tup l=>Zh l
 |_=>false
def RP:List Wv->Bool
 |[x,y]=>RN x&&RO y
 |_=>false
def wI(tb:Tab)(tt:vV)(ws:List Wv)(st:Hs):Re Wv:=if RP ws=true then .ok (.bl true) st else iW tb tt ws st
variable{U:String}
theorem CW(h:IA w U=true):w= .ty U:=by
 cases w with
 |ty T=>rw[show T=U from beq_iff_eq.mp h]
 |_=>cases h
theorem MK(h:RO w=true):w= .tup [.ty "str",.ty "tuple"]:=by
 cases w with
 |tup l=>
  cases l with
  |nil=>cases h
  |cons a r=>cases r with
   |nil=>cases h
   |cons b r=>cases r with
    |nil=>have h:(IA a "str"&&IA b "tuple")=true:=h;rw[bN]at h;rw[CW h.1,CW h.2]
    |cons c r=>cases h
 |_=>cases h
theorem ML(h:RP ws=true):∃x,ws=[x,.tup [.ty "str",.ty "tuple"]]/\RN x=true:=by
 cases ws with
 |nil=>cases h
 |cons a r=>cases r with
  |nil=>cases h
  |cons b r=>cases r with
   |nil=>have h:(RN a&&RO b)=true:=h;rw[bN]at h;rw[MK h.2];exact⟨a,rfl,h.1⟩
   |cons c r=>cases h
variable{T:String}{tb tc:Tab}{tt:vV}
section
variable {X:Cx}
theorem IB:fu X (.builtin "isinstance") (λvs H Q=>∃v p,vs=[v,.ref p]/\((∃x,v= .str x)\/∃a xs,v= .ref a/\H a=some (.tup xs))/\H p=some (.tup [.ty "str",.ty "tuple"])/\Q (.bl true) H):=by
 intro pins s σ H xs us Q I r h;obtain⟨v,p,rfl,hv,hT,q⟩:=h;obtain⟨u,u',rfl,r1,r2⟩:=vals2 r;cases r2;obtain⟨its,rv,⟨o,g1,g2,n,g3⟩,z⟩:=I.tuple (eO.of hT);obtain⟨oc,od,oda,osl⟩:=o;cases g2;cases g3;cases rv with
 |cons a1 rv=>
  cases rv with
  |cons a2 rv=>
   cases rv;cases a1;cases a2;have fin:∀tk,EP X pins σ Q (.bool true) { s with toks:=tk }:=λtk=>⟨.bl true,H,I.tok tk,rfl,q⟩;rcases hv with ⟨x,rfl⟩ |⟨a,ys,rfl,ha⟩
   ·obtain⟨t,rfl⟩:=r1;exact PySem.W.kia_tup (K:=X.K) (b:=true) PySem.W.kitx_str I.vw trivial g1 rfl (by intro z;cases z) fin
   ·cases r1;obtain⟨_,_,⟨o2,k1,k2,_⟩,_⟩:=I.tuple (eO.of ha);exact PySem.W.kia_tup (K:=X.K) (b:=true) PySem.W.kitx_tuple I.vw ⟨o2,k1,k2⟩ g1 (by kernel_rfl) (by intro z;cases z) fin
theorem MM{v:V}(r:ag X.K m H (.tup [.ty T,.ty U]) v):∃p,v= .ref p/\H p=some (.tup [.ty T,.ty U]):=by unfold ag at r;obtain⟨p,xs,rfl,h1,h2⟩:=r;unfold ai at h2;obtain⟨x,t,rfl,a1,h2⟩:=h2;unfold ai at h2;obtain⟨y,t,rfl,a2,h2⟩:=h2;unfold ai at h2;subst h2;unfold ag at a1 a2;subst a1;subst a2;exact⟨p,rfl,h1⟩
theorem RQ(O:TabOk X.K tb tt tc):ef X (.builtin "isinstance") (wI tb tt):=by
 obtain⟨r0,c0,k0⟩:=GG (X:=X) O;refine⟨_,IB.or c0,λws vs st H m Q S r p=>?_⟩;have old:dC X.K m H (iW tb tt ws st) Q->r0 vs H Q:=λp=>k0 ws vs st H m Q S r p;unfold wI at p;by_cases c:RP ws=true
 ·rw[if_pos c]at p;obtain⟨x,rfl,hx⟩:=ML c;obtain⟨v,v',rfl,r1,r2⟩:=Az r;obtain⟨q,rfl,hq⟩:=MM r2;refine .inl ⟨v,q,rfl,?_,hq,p _ m H Ext.refl S kY⟩;cases x with
  |str x=>exact .inl ⟨x,(fg r1).1⟩
  |tup ws=>unfold ag at r1;obtain⟨a,xs,rfl,ha,_⟩:=r1;exact .inr ⟨a,xs,rfl,ha⟩
  |_=>cases hx
 ·rw[if_neg c]at p;exact .inr (old p)
end
variable{env:Env}
section
variable {prog:afV}{w:afY}{A:afS}{E:afX->afW->Prop}{s:afW}
theorem ve{it t:afR}{items:Array afX}(hne:t≠it):∀(n i:Nat)(s:afW)(Q:List afX->afW->Prop),s.heap.IsListIter it t i->s.heap.IsList t items->i+n<=items.size->
  (∀h',h'.IsListIter it t (i+n)->eB it s.heap h'->Q ((items.toList.drop i).take n) { s with heap:=h' })->aga (model prog w) A (draw (.ref it) n) Q E s
 | 0,i,s,Q,hit,_,_,hQ=>by show aga _ _ (pure []) Q E s;exact agh (by simpa using hQ s.heap hit (A3 ..))
 |n+1,i,s,Q,hit,ht,hle,hQ=>by
  have hlt:i < items.size:=by omega
  show aga _ _ (pyNext (.ref it) >>= _) Q E s;refine agb (wpAny_pyNext_list_item hit ht (x:=items[i]) (by simp[hlt]) λh₁ A9 hs₁=>?_);refine agb (agd (ve hne n (i+1) _ _ A9 (ht.extBut hs₁.extBut hne) (by omega) λh₂ RS hs₂=>agh ?_));have hd:items.toList.drop i=items[i]::items.toList.drop (i+1):=by simp[rB,hlt]
  have:=hQ h₂ (by rw[show i+(n+1)=i+1+n by omega];exact RS) (hs₁.trans hs₂);rw[hd,List.take_succ_cons]at this;exact this
theorem oX{Q:List afX->afW->Prop}(hh:A.handled=none)(ht:s.heap.IsList t items)
  (hQ:∀h',wa s.heap.objs.size s.heap h'->Q items.toList { s with heap:=h' }):aga (model prog w) A (unpackItems (.ref t) items.size none) Q E s:=by
 have hlt:t≠s.heap.objs.size:=by obtain⟨o,ho,_⟩:=ht;exact aN (az ho)
 unfold unpackItems;refine agb ?_
 ·unfold notIterableAtAll;refine agb (wpAny_specialOf ht.typeIs F.slot_list_iter.lookup ?_);refine agh ?_;simp only[aW,if_false];refine agb (agd (wpAny_pyIter_list ht ?_));have pu:Heap.IsList (s.heap.push { cls:=.type "list_iterator",data:=.fields #[.ref t,.int 0 0] }) t items:=ht.at λo e=>aT _ e;refine agb (agd (ve hlt items.size 0 _ _ ⟨_,bE _ rfl,rfl,rfl⟩ pu (by omega) λh₁ A9 hs₁=>?_));have hall:List.take items.size (List.drop 0 items.toList)=items.toList:=by rw[AJ];exact Ci (by simp)
  rw[hall];rw[if_neg (by simp)];have ht₁:h₁.IsList t items:=pu.extBut hs₁.extBut hlt;refine agb (agd (wpAny_pyNext_list_end hh A9 ht₁ (by simp) λh₂ VW=>?_));simp only[Mu,aW,if_false];refine agh (hQ h₂ λb o hb e=>VW b o hb (hs₁.extBut b o hb (aT _ e)))
theorem ou{elts:List Expr}{x1}{Q:Unit->afW->Prop}(hh:A.handled=none)(ht:s.heap.IsList t items)
  (hn:(assignEach elts env).length=items.size)(hstar:(assignEach elts env).findIdx? (·.1)=none)
  (h:∀h',wa s.heap.objs.size s.heap h'->aga (model prog w) A (assignInOrder ((assignEach elts env).map (·.2)) items.toList) Q E { s with heap:=h' }):
  aga (model prog w) A (assign (.Tuple elts x1 pos) env (.ref t)) Q E s:=by
 rw[assign_Tuple];refine agb (wpAny_standAt ?_);unfold unpack;rw[hn,hstar];exact agb (agd (oX hh ht h))
end
section
variable {X:Cx}
def VX(K:PySem.W.Frag)(n:Nat)(t:J4):TG:=λv σ H Q=>∃a xs,v= .ref a/\l5 K H a xs/\xs.length=n/\t xs σ H Q
theorem RT{t:J4}(hc:X.calm=true)(h:TJ X es t)
  (hn:(assignEach es X.env).length=n:=by rfl)(hst:(assignEach es X.env).findIdx? (·.1)=none:=by rfl):PG X (.Tuple es k pos) (VX X.K n t):=by
 intro pins s σ H v u Q I r hw;obtain⟨a,xs,e1,hq,hl,hw⟩:=hw;subst e1;cases r;obtain⟨its,rv,ht,hz⟩:=I.list hq;refine ou (I.ok.hd hc) ht.isList (by simp[hn,<-hl,rv.length]) hst λh' hx=>?_;have I1:Inv X pins σ H { s with heap:=h' }:=I.kept (t':=s.toks) λb o e=>hx b o (aN (az e)) e;exact h pins _ σ H xs _ Q I1 (by simpa using rv) hw
def yP(is:List Nat)(g:GE):GS:=λρ st=>(g ρ st).bR ρ λw st'=>match w with
 |.ref l=>(match ao st' l with
  |some ws=>(match rG is ws ρ with
   |some ρ'=> .nx ρ' st'
   |none=> .bad)
  |none=> .bad)
 |_=> .bad
theorem MN{is:List Nat}{g:GE}{pos':Pos}(hN:X.N.Nodup)(hc:X.calm=true)(sl:Slots X es is)(h:JE X e g)(hs:swapsWith e (some (.Tuple es k pos')) pos.line X.env=pure false)(hw:swappedStores [.Tuple es k pos'] e X.env=pure none):
  JS X (.Assign [.Tuple es k pos'] e pos) (yP is g) :=
 JS.of (zY br (RT hc (mh hN sl) (nV sl) (mi sl)) (by unfold swapsWithSole;exact hs) hw rfl) λρ st σ H m D S R p=>h.go S R (aV.df R p) λw st1 v m1 H1 q e1 S1 r1=>by
  cases w with
  |ref l=>
   unfold ag at r1;obtain⟨a,rfl,ha⟩:=r1;dsimp only at q;cases e0:ao st1 l with
   |none=>rw[e0]at q;exact ae q
   |some ws=>
    rw[e0]at q;dsimp only at q;cases e2:rG is ws ρ with
    |none=>rw[e2]at q;exact ae q
    |some ρ'=>rw[e2]at q;obtain⟨xs,hq,f2⟩:=S1.read ha e0;exact⟨a,xs,rfl,hq,by rw[<-f2.length];exact rH e2,nU f2 (R.mono e1) e2 λσ' R'=>q σ' m1 H1 e1 S1 R'⟩
  |_=>exact ae q
end
structure Itx where
 own:List Str:=[]
def EG(_:Itx)(_:Nat)(_:afV)(_:afY)(_:PySem.W.Frag)(_:Str->Option afX)(_:Heap):Prop:=True
variable{w:afY}{mg:Str->Option afX}{base:Heap}
theorem EG.no:EG {} k P w K mg base:=trivial
structure Ct where
 N:List Str
 names:List (Str×afU)
 consts:List (Str×Wv)
 bl:List Str
 fns:List (Str×Nat×(List Wv->Hs->Re Wv))
 tb:Tab:=[]
 tt:vV:=[]
 clss:List Str:=[]
 A_:List Str:=[]
 tc:Tab:=[]
 Ba:List (Str×Dc):=[]
 N9:List Str:=[]
 dks:List Str:=[]
 N_:List Str:=[]
 Fd:List Str:=[]
 loop:Bool:=true
 free:Bool:=true
 top:Bool:=true
 lam:Option (Lm×LF):=none
 IC:List (Str×W6):=[]
 Zi:List Str:=[]
 lj:Nat:=0
 lp:Nat:=3
 sk:Nat:=0
 Zj:List Str:=[]
 self:Str:=""
 it:Itx:={}
def lE(x:Str):List Str->Option Nat
 |[]=>none
 |y::r=>if x=y then some 0 else match lE x r with
  |some i=>some (i+1)
  |none=>none
theorem gG{x:Str}:∀{N:List Str}{i:Nat},lE x N=some i->N[i]? =some x
 |[],i,h=>by cases h
 |y::r,i,h=>by
  unfold lE at h;by_cases e:x=y
  ·rw[if_pos e]at h;cases h;subst e;rfl
  ·rw[if_neg e]at h;cases q:lE x r with
   |none=>rw[q]at h;cases h
   |some j=>rw[q]at h;cases h;simpa using gG q
def okN(x:Str):Bool:=!(x == ("__debug__":Str))&& !(x == ("__classdict__":Str))&& !(decide (x="__name__"))
theorem gH(h:okN x=true):(x == ("__debug__":Str))=false:=by unfold okN at h;revert h;cases (x == ("__debug__":Str))<;>simp
theorem yQ(h:okN x=true):(x == ("__classdict__":Str))=false:=by unfold okN at h;revert h;cases (x == ("__classdict__":Str))<;>simp
theorem ID(h:okN x=true):x≠"__name__":=by intro e;subst e;unfold okN at h;simp at h
def CY(K:PySem.W.Frag)(mg:Str->Option afX)(x:Str):Wv->Prop
 |.int i=>∃t,mg x=some (.int i t)
 |.str y=>(∃t,mg x=some (.str y t))/\bB y=true
 |.iY ws=>∃(a:afR)(vs:List V)(o:Obj)(its:Array afX)(n:Nat),mg x=some (.ref a)/\K.lookup a=some o/\o.cls= .type "tuple"/\o.data= .seq its n/\its.size<=af8/\Vals vs its.toList/\uW ws vs
 |_=>False
structure VY(c:Ct)(k:Nat)(X:Cx):Prop where
 lam:∀p L,c.lam=some (p,L)->L9 X.prog X.w X.K X.mg X.base k p c.lp L
 IC:∀x F,c.IC.lookup x=some F->FnQ c.lp X.prog X.w X.K X.mg k c.lj x F
 RU:∀x n F,c.fns.lookup x=some (n,F)->c.Zi.contains x=true->∀base,AU X.K X.mg base->fj X.prog X.w X.K X.mg base c.lj x n F
 at':c.top=true->c.self∈dA->∃P,N0 X c.self P
 sk:c.sk<=k
 RV:∀x n F,c.fns.lookup x=some (n,F)->c.Zj.contains x=true->fj X.prog X.w X.K X.mg X.base c.lj x n F
 ins:EG c.it k X.prog X.w X.K X.mg X.base
structure Good(c:Ct)(k:Nat)(X:Cx):Prop where
 N:X.N=c.N
 sc:X.env.scope.names=c.names
 nd:c.N.Nodup
 un:X.A.units+64 < cLine
 free:c.free=true->k9 k X.A/\X.calm=true
 loop:c.loop=true->X.calm=true/\PassesOwn (model X.prog X.w) X.A X.env X.xe
 cst:∀x w,c.consts.lookup x=some w->CY X.K X.mg x w
 bl:∀x,c.bl.contains x=true->X.mg x=none
 fns:∀x n F,c.fns.lookup x=some (n,F)->fj X.prog X.w X.K X.mg X.base k x n F
 stk:c.top=true->Yu X
 fn:c.top=true->∀x,X.fn x=true
 kind:X.env.scope.kind= .function
 tab:TabOk X.K c.tb c.tt c.tc
 cls:∀x,c.clss.contains x=true->∃C,X.mg x=some (.ref C)/\GD X.K x C
 A_:∀x,c.A_.contains x=true->∃C,X.mg x=some (.ref C)/\ClsAt X.K x C
 Ba:∀x kvs,c.Ba.lookup x=some kvs->ye X.K X.w X.mg x kvs
 rm:uZ k X.A
 Fd:∀x n F,c.Fd.contains x=true->c.fns.lookup x=some (n,F)->L0 X.prog X.w X.K X.mg X.base k x n F
 x:VY c k X
 fr:GU X
 hd:Qx X
theorem CZ{A:afS}(hr:k9 k A):A.units+64 < cLine:=by have:=hr.un;omega
def Ct.Oc(c:Ct):Ct:={ c with loop:=false }
def Ct.C0(c:Ct):Ct:={ c with loop:=false,free:=false }
variable{c:Ct}{X:Cx}
theorem Good.body(G:Good c k X)(hf:c.free=true)(pn:List (afR×Obj))(E:afX->afW->Prop):Good c.Oc k (LH X X.A true pn E) :=
 ⟨G.N,G.sc,G.nd,G.un,λ_=>⟨(G.free hf).1,rfl⟩,(λz=>by cases z),G.cst,G.bl,G.fns,λz=>⟨(G.stk z).st,(G.stk z).fr,(G.stk z).ex⟩,G.fn,G.kind,G.tab,G.cls,G.A_,G.Ba,⟨G.rm.d,G.rm.u⟩,G.Fd,⟨G.x.lam,G.x.IC,G.x.RU,λt m=>(G.x.at' t m).imp λP L=>⟨L.code,L.qual,L.tab,L.mem,L.uniq,L.bm⟩,G.x.sk,G.x.RV,G.x.ins⟩,G.fr,G.hd⟩
theorem Good.suite(G:Good c k X){a:afR}{o:Obj}{u:HO}(nx:DY o)(pn:List (afR×Obj))(E:afX->afW->Prop):Good c.C0 k (Vd X a (.iV o u) pn E) :=
 ⟨G.N,G.sc,G.nd,G.un,(λz=>by cases z),(λz=>by cases z),G.cst,G.bl,G.fns,λz=>⟨(G.stk z).st,(G.stk z).fr,(G.stk z).ex⟩,G.fn,G.kind,G.tab,G.cls,G.A_,G.Ba,⟨G.rm.d,G.rm.u⟩,G.Fd,⟨G.x.lam,G.x.IC,G.x.RU,λt m=>(G.x.at' t m).imp λP L=>⟨L.code,L.qual,L.tab,L.mem,L.uniq,L.bm⟩,G.x.sk,G.x.RV,G.x.ins⟩,G.fr,.inr ⟨a,o,u,rfl,nx,bq⟩⟩
theorem IE:af1 "ValueError"=some (.type "ValueError"):=by decide+kernel
theorem IF:af1 "dict"=some (.type "dict"):=by decide+kernel
def MO(x:Str):Option String :=
 if x="int" then some "int" else if x="str" then some "str" else if x="bool" then some "bool" else if x="tuple" then some "tuple" else if x="list" then some "list" else if x="ValueError" then some "ValueError" else if x="dict" then some "dict" else none
theorem MP(h:MO x=some T):af1 x=some (.type T):=by
 unfold MO at h;by_cases e:x="int"
 ·rw[if_pos e]at h;cases h;subst e;exact Gs
 rw[if_neg e]at h;by_cases e:x="str"
 ·rw[if_pos e]at h;cases h;subst e;exact Gu
 rw[if_neg e]at h;by_cases e:x="bool"
 ·rw[if_pos e]at h;cases h;subst e;exact Gv
 rw[if_neg e]at h;by_cases e:x="tuple"
 ·rw[if_pos e]at h;cases h;subst e;exact xS
 rw[if_neg e]at h;by_cases e:x="list"
 ·rw[if_pos e]at h;cases h;subst e;exact Gw
 rw[if_neg e]at h;by_cases e:x="ValueError"
 ·rw[if_pos e]at h;cases h;subst e;exact IE
 rw[if_neg e]at h;by_cases e:x="dict"
 ·rw[if_pos e]at h;cases h;subst e;exact IF
 rw[if_neg e]at h;cases h
variable{f fE:Expr->GE}{t:Expr->GT}{op:List Wv->Hs->Re Wv}{γ:Type}{scope:Scope}{cs:dQ}
section
variable {X:Cx}
def MQ:fX:=λ_ _ _=> .bad
theorem IG{f:afX->afX->Sem afX}:jU X f MQ:=⟨λ_ _ _ _=>False,λ_ _ _ _ _ _ _ _ _ _ _ _ h=>h.elim,λ_ _ _ _ _ _ _ _ _ _ _ p=>p⟩
def VZ:Operator->fX
 |.Add=>cV
 |.Sub=>jM
 |.Mult=>eG
 |.FloorDiv=>i7
 |.Mod=>oMod
 |.Pow=>rn
 |_=>MQ
theorem MR(o:Operator):jU X (af0 o) (VZ o):=by cases o<;>first |exact Qi |exact Qf |exact HQ |exact Lf |exact Qg |exact Qh |exact IG
def ub:CmpOp->fX
 |.Eq=>oEq
 |.NotEq=>vP
 |.Lt=>oLt
 |.LtE=>oLe
 |.Gt=>Qe
 |.GtE=>MQ
 |.Is=>J8
 |.IsNot=>N3
 |.In=>Ha
 |.NotIn=>MQ
theorem hX(hu:X.A.units+64 < cLine)(o:CmpOp):jU X (af4 o) (ub o):=by cases o<;>first |exact NM hu |exact NN hu |exact Rr hu |exact Q3 hu |exact U2 |exact U3 |exact Mj |exact QV |exact IG
def IH(c:Ct)(x:Str):GE:=if okN x=true then
  match c.names.lookup x with
  |some .local=>(match lE x c.N with |some i=>af i |none=>cb)
  |some .cell=>(match lE x c.N with |some i=>af i |none=>cb)
  |some .free=>(match lE x c.N with |some i=>af i |none=>cb)
  |some .globalImplicit=>(match c.consts.lookup x with
   |some w=>gC w
   |none=>if c.clss.contains x=true then gC (.cls x)else if c.A_.contains x=true then gC (.cls x)else if c.bl.contains x=true then(match MO x with |some T=>gC (.ty T) |none=>cb)else cb)
  |_=>cb
 else cb
theorem II(G:Good c k X)(x:Str)(pos:Pos):JE X (.Name x pos) (IH c x):=by
 unfold IH;by_cases hx:okN x=true
 ·rw[if_pos hx];cases e:c.names.lookup x with
  |none=>exact aJ
  |some kd=>
   have el:X.env.scope.names.lookup x=some kd:=by rw[G.sc];exact e
   cases kd with
   | «local»=>
    dsimp only;cases e2:lE x c.N with
    |none=>exact aJ
    |some i=>exact Aw i (by rw[G.N];exact gG e2) (l9 el) (gH hx) (yQ hx)
   |cell=>
    dsimp only;cases e2:lE x c.N with
    |none=>exact aJ
    |some i=>exact Aw i (by rw[G.N];exact gG e2) (l_ (l9 el)) (gH hx) (yQ hx)
   |free=>
    dsimp only;cases e2:lE x c.N with
    |none=>exact aJ
    |some i=>exact Aw i (by rw[G.N];exact gG e2) (l_ (l_ el)) (gH hx) (yQ hx)
   |globalImplicit=>
    dsimp only;have hg:Gl X x:=el;cases e2:c.consts.lookup x with
    |some w=>
     have q:=G.cst x w e2;cases w with
     |int i=>obtain⟨t,q⟩:=q;exact F0 hg q (gH hx)
     |str y=>obtain⟨⟨t,q⟩,z⟩:=q;exact F2 hg q z (gH hx)
     |iY ws=>obtain⟨a,vs,o,its,n,q1,q2,q3,q4,q5,q6,q7⟩:=q;exact JE.of (j5 (v:=.ref a) hg q1 rfl (gH hx)) λρ st σ H m Q S R p=>p (.ref a) m H Ext.refl S (by unfold ag;exact⟨a,vs,rfl,⟨o,its,n,q2,q3,q4,q5,q6⟩,q7.rel⟩)
     |_=>exact ae q
    |none=>
     dsimp only;by_cases e5:c.clss.contains x=true
     ·rw[if_pos e5];obtain⟨C,q1,q2⟩:=G.cls x e5;exact JE.of (j5 (v:=.ref C) hg q1 rfl (gH hx)) λρ st σ H m Q S R p=>p (.ref C) m H Ext.refl S (by unfold ag;exact⟨C,rfl,q2.cls⟩)
     rw[if_neg e5];by_cases e6:c.A_.contains x=true
     ·rw[if_pos e6];obtain⟨C,q1,q2⟩:=G.A_ x e6;exact JE.of (j5 (v:=.ref C) hg q1 rfl (gH hx)) λρ st σ H m Q S R p=>p (.ref C) m H Ext.refl S (by unfold ag;exact⟨C,rfl,q2⟩)
     rw[if_neg e6];by_cases e3:c.bl.contains x=true
     ·rw[if_pos e3];cases e4:MO x with
      |none=>exact aJ
      |some T=>exact UT hg (G.bl x e3) (MP e4) (ID hx) (gH hx)
     ·rw[if_neg e3];exact aJ
   |_=>exact aJ
 ·rw[if_neg hx];exact aJ
def IJ:Const->GE
 |.none=>gC .bK
 |.bool b=>gC (.bl b)
 |.int i=>gC (.int i)
 |.str x=>if bB x=true then gC (.str x)else cb
 |_=>cb
theorem EH(k:Const)(j:Nat)(pos:Pos):JE X (.Constant k j pos) (IJ k):=by
 cases k with
 |none=>exact PZ
 |bool b=>exact US
 |int i=>exact PY
 |str x=>
  show JE X _ (if bB x=true then gC (.str x)else cb);by_cases h:bB x=true
  ·rw[if_pos h];exact P0 h
  ·rw[if_neg h];exact aJ
 |_=>exact aJ
def plain:Expr->Bool
 |.Starred .. =>false
 |_=>true
theorem aS(h:plain e=true):af9 (e::es) env=(false,eval e env)::af9 es env:=by cases e<;>first |rfl |cases h
theorem fZ{pos:Pos}{env:Env}:∀{es:List Expr},es.all plain=true->(backTo pos (af9 es env)).any (·.1)=false
 |[],_=>rfl
 |e::es,h=>by rw[de,bN]at h;rw[aS h.1];have q:=fZ (pos:=pos) (env:=env) h.2;unfold backTo at q ⊢;rw[aH,iz,q];rfl
theorem eS{f:Expr->GE}(h:∀e,JE X e (f e)):∀es:List Expr,es.all plain=true->JA X es (jQ f es)
 |[],_=>F9
 |e::es,g=>by rw[de,bN]at g;exact B1 (h e) (eS h es g.2) (aS g.1)
def Xa(c:Ct)(x:Str):Option (afX×(List Wv->Hs->Re Wv)) :=
 if x="len" then some (.builtin "len",mK)else if x="isinstance" then some (.builtin "isinstance",if c.N_.contains "isinstance"=true then wI c.tb c.tt else iW c.tb c.tt)else if x="tuple" then some (.type "tuple",pN)else if x="all"/\c.free=true then some (.builtin "all",rO)else if x="max"/\c.free=true then some (.builtin "max",uT)else if x="min"/\c.free=true then some (.builtin "min",ya)else if x="sum"/\c.free=true then some (.builtin "sum",G6)else if x="sorted"/\c.free=true then some (.builtin "sorted",sf)else none
theorem EI:af1 "all"=some (.builtin "all"):=by decide+kernel
theorem EJ:af1 "max"=some (.builtin "max"):=by decide+kernel
theorem EK:af1 "min"=some (.builtin "min"):=by decide+kernel
theorem EL:af1 "sum"=some (.builtin "sum"):=by decide+kernel
theorem EM:af1 "sorted"=some (.builtin "sorted"):=by decide+kernel
theorem RW(O:TabOk X.K c.tb c.tt c.tc):ef X (.builtin "isinstance") (if c.N_.contains "isinstance"=true then wI c.tb c.tt else iW c.tb c.tt):=by
 by_cases e3:c.N_.contains "isinstance"=true
 ·rw[if_pos e3];exact RQ O
 ·rw[if_neg e3];exact GG O
theorem RX(O:TabOk X.K c.tb c.tt c.tc)(hc:c.free=true->X.calm=true)(h:Xa c x=some (v,op)):af1 x=some v/\ef X v op/\((∃id,v= .builtin id)\/∃T,v= .type T):=by
 unfold Xa at h;by_cases e:x="len"
 ·rw[if_pos e]at h;cases h;subst e;exact⟨uM,Ql,.inl ⟨_,rfl⟩⟩
 rw[if_neg e]at h;by_cases e:x="isinstance"
 ·rw[if_pos e]at h;cases h;subst e;exact⟨Gq,RW O,.inl ⟨_,rfl⟩⟩
 rw[if_neg e]at h;by_cases e:x="tuple"
 ·rw[if_pos e]at h;cases h;subst e;exact⟨xS,QR,.inr ⟨_,rfl⟩⟩
 rw[if_neg e]at h;by_cases e:x="all"/\c.free=true
 ·rw[if_pos e]at h;cases h;obtain⟨rfl,e2⟩:=e;exact⟨EI,QQ (hc e2),.inl ⟨_,rfl⟩⟩
 rw[if_neg e]at h;by_cases e:x="max"/\c.free=true
 ·rw[if_pos e]at h;cases h;obtain⟨rfl,e2⟩:=e;exact⟨EJ,LQ (hc e2),.inl ⟨_,rfl⟩⟩
 rw[if_neg e]at h;by_cases e:x="min"/\c.free=true
 ·rw[if_pos e]at h;cases h;obtain⟨rfl,e2⟩:=e;exact⟨EK,LR (hc e2),.inl ⟨_,rfl⟩⟩
 rw[if_neg e]at h;by_cases e:x="sum"/\c.free=true
 ·rw[if_pos e]at h;cases h;obtain⟨rfl,e2⟩:=e;exact⟨EL,QS (hc e2),.inl ⟨_,rfl⟩⟩
 rw[if_neg e]at h;by_cases e:x="sorted"/\c.free=true
 ·rw[if_pos e]at h;cases h;obtain⟨rfl,e2⟩:=e;exact⟨EM,Mh (hc e2),.inl ⟨_,rfl⟩⟩
 rw[if_neg e]at h;cases h
def sH(c:Ct)(fE:Expr->GE)(x:Str)(es:List Expr):GE:=if okN x=true/\es.all plain=true/\c.names.lookup x=some .globalImplicit then
   (match c.fns.lookup x with
   |some (n,F)=>if c.free=true then au n F (jQ fE es)else cb
   |none=>if c.bl.contains x=true then(match Xa c x with |some (_,op)=>aY op (jQ fE es) |none=>cb)else cb)
  else cb
def IK:Expr->Option Str
 |.Name x _=>some x
 |_=>none
theorem C2(h:IK e=some x):∃p,e= .Name x p:=by cases e<;>cases h<;>exact⟨_,rfl⟩
def oneOf:List Expr->Option Str
 |[a]=>IK a
 |_=>none
theorem IL{l:List Expr}(h:oneOf l=some x):∃p,l=[.Name x p]:=by
 cases l with
 |nil=>cases h
 |cons a r=>cases r with
  |nil=>obtain⟨p,rfl⟩:=C2 h;exact⟨p,rfl⟩
  |cons b r=>cases h
def setOf:Expr->Option (Str×Str)
 |.Call f as ks _=>if ks.isEmpty=true then(IK f).bind λy=>(oneOf as).map λx=>(y,x)else none
 |_=>none
theorem yR{y:Str}(h:setOf e=some (y,x)):∃p q r,e= .Call (.Name y p) [.Name x q] [] r:=by
 cases e with
 |Call f as ks r=>
  cases ks with
  |cons k t=>cases h
  |nil=>
   have h:(IK f).bind (λy=>(oneOf as).map λx=>(y,x))=some (y,x):=h;cases e1:IK f with
   |none=>rw[e1]at h;cases h
   |some a=>
    cases e2:oneOf as with
    |none=>rw[e1,e2]at h;cases h
    |some b=>rw[e1,e2]at h;cases h;obtain⟨p,rfl⟩:=C2 e1;obtain⟨q,rfl⟩:=IL e2;exact⟨p,q,r,rfl⟩
 |_=>cases h
def Zk:Operator->Bool
 |.BitAnd=>true
 |_=>false
def Oe:Expr->Option (Str×Str×Str×Str)
 |.BinOp l o r _=>if Zk o=true then(setOf l).bind λp=>(setOf r).map λq=>(p.1,p.2,q.1,q.2)else none
 |_=>none
theorem IM{y a z b:Str}(h:Oe e=some (y,a,z,b)):∃p2 pa q2 p3 pb q3 pp,e= .BinOp (.Call (.Name y p2) [.Name a pa] [] q2) .BitAnd (.Call (.Name z p3) [.Name b pb] [] q3) pp:=by
 cases e with
 |BinOp l o r pp=>
  cases o with
  |BitAnd=>
   have h:(setOf l).bind (λp=>(setOf r).map λq=>(p.1,p.2,q.1,q.2))=some (y,a,z,b):=h;cases e1:setOf l with
   |none=>rw[e1]at h;cases h
   |some p=>
    cases e2:setOf r with
    |none=>rw[e1,e2]at h;cases h
    |some q=>rw[e1,e2]at h;cases h;obtain⟨p2,pa,q2,rfl⟩:=yR e1;obtain⟨p3,pb,q3,rfl⟩:=yR e2;exact⟨p2,pa,q2,p3,pb,q3,pp,rfl⟩
  |_=>cases h
 |_=>cases h
def IP:List Expr->Option (Str×Str×Str×Str)
 |[e]=>Oe e
 |_=>none
def wJ(c:Ct)(fE:Expr->GE)(x:Str)(es:List Expr):GE:=match IP es with
 |some (y,a,z,b)=>if x="len"/\y="set"/\z="set"/\okN a=true/\okN b=true/\c.names.lookup a=some .local/\c.names.lookup b=some .local/\c.names.lookup x=some .globalImplicit/\c.names.lookup y=some .globalImplicit/\c.bl.contains x=true/\c.bl.contains y=true/\c.free=true then(match lE a c.N,lE b c.N with
  |some i,some j=>yJ i j
  |_,_=>cb)else sH c fE x es
 |none=>sH c fE x es
def IQ(fE:Expr->GE)(o:Expr)(name:Str)(e:Expr)(apos cpos:Pos):GE:=if plain e=true/\(apos.endLine == cpos.line)=true then
   (if name="append" then uP pY (fE o) (fE e)else if name="extend" then uP yu (fE o) (fE e)else cb)
  else cb
def wK(fE:Expr->GE)(o:Expr)(name:Str)(es:List Expr)(apos cpos:Pos):GE:=cb
theorem all_plain{pos:Pos}{env:Env}:∀{es:List Expr},es.all plain=true->(backTo pos (af9 es env)).all (λx=> !x.1)=true
 |[],_=>rfl
 |e::es,h=>by rw[de,bN]at h;rw[aS h.1];have q:=all_plain (pos:=pos) (env:=env) h.2;unfold backTo at q ⊢;rw[aH,de,q];rfl
theorem oY(h:∀e,JE X e (fE e))(o:Expr)(name:Str)(e:Expr)(es:List Expr)(apos cpos:Pos):JE X (.Call (.Attribute o name apos) (e::es) [] cpos) (wK fE o name (e::es) apos cpos):=by exact aJ
def EN(c:Ct)(x:Str):Option Dc:=if okN x=true/\c.names.lookup x=some .globalImplicit then c.Ba.lookup x else none
theorem C3(G:Good c k X)(h:EN c x=some kvs):Gl X x/\(x == ("__debug__":Str))=false/\ye X.K X.w X.mg x kvs:=by
 unfold EN at h;by_cases g:okN x=true/\c.names.lookup x=some .globalImplicit
 ·rw[if_pos g]at h;refine⟨?_,gH g.1,G.Ba x kvs h⟩;show X.env.scope.names.lookup x=_;rw[G.sc];exact g.2
 ·rw[if_neg g]at h;cases h
def IS(c:Ct)(fE:Expr->GE)(x:Str)(p:Pos)(e:Expr)(apos cpos:Pos):GE:=match EN c x with
 |some kvs=>if plain e=true/\(apos.endLine == cpos.line)=true then oq kvs (fE e)else cb
 |none=>cb
theorem IT(G:Good c k X)(h:∀e,JE X e (fE e))(x:Str)(p:Pos)(e:Expr)(apos cpos:Pos):JE X (.Call (.Attribute (.Name x p) "get" apos) [e] [] cpos) (IS c fE x p e apos cpos):=by
 unfold IS;cases ed:EN c x with
 |none=>exact aJ
 |some kvs=>
  dsimp only;by_cases g:plain e=true/\(apos.endLine == cpos.line)=true
  ·rw[if_pos g];obtain⟨g1,g3⟩:=g;obtain⟨q1,q2,q3⟩:=C3 G ed;refine EC (h e) ⟨rfl,?_,g3,?_⟩ q1 q2 q3
   ·rw[all_plain (es:=[e]) (by simp[g1])];rfl
   ·rw[aS g1];rfl
  ·rw[if_neg g];exact aJ
def IU(c:Ct)(fE:Expr->GE)(x y:Str)(e:Expr)(p2 q2:Pos):GE:=if x="sorted"/\y="set"/\plain e=true/\c.names.lookup x=some .globalImplicit/\c.names.lookup y=some .globalImplicit/\c.bl.contains x=true/\c.bl.contains y=true/\c.free=true then aY sF (jQ fE [e])else sH c fE x [.Call (.Name y p2) [e] [] q2]
def MS(c:Ct)(fE:Expr->GE)(x:Str):Expr->GE
 |.Call (.Name y p2) [e] [] q2=>IU c fE x y e p2 q2
 |e=>wJ c fE x [e]
def C4(c:Ct)(fE:Expr->GE)(x:Str):List Expr->GE
 |[]=>cb
 |e::es=>(match es with
  |[]=>MS c fE x e
  |f::r=>wJ c fE x (e::f::r))
def wL(c:Ct)(fE:Expr->GE)(cpos:Pos)(x:Str)(p:Pos)(name:Str)(apos:Pos)(e:Expr):GE:=if name="get" then IS c fE x p e apos cpos else if name="append"\/name="extend" then IQ fE (.Name x p) name e apos cpos else wK fE (.Name x p) name [e] apos cpos
def C5(c:Ct)(fE:Expr->GE)(cpos:Pos)(name:Str)(apos:Pos)(e:Expr)(es:List Expr):Expr->GE
 |.Name x p=>(match es with
  |[]=>wL c fE cpos x p name apos e
  |f::r=>wK fE (.Name x p) name (e::f::r) apos cpos)
 |o=>wK fE o name (e::es) apos cpos
def RY(c:Ct)(fE:Expr->GE)(cpos:Pos)(as:List Expr):Expr->GE
 |.Name x _=>C4 c fE x as
 |.Attribute o name apos=>(match as with
  |[]=>cb
  |e::es=>C5 c fE cpos name apos e es o)
 |_=>cb
def Of(c:Ct)(fE:Expr->GE)(cpos:Pos)(f:Expr)(as:List Expr)(ks:List Keyword):GE:=match ks with
 |[]=>RY c fE cpos as f
 |_=>cb
theorem oZ(G:Good c k X)(h:∀e,JE X e (fE e))(x:Str)(e:Expr)(es:List Expr)(p pos:Pos):JE X (.Call (.Name x p) (e::es) [] pos) (sH c fE x (e::es)):=by
 unfold sH;by_cases g:okN x=true/\(e::es).all plain=true/\c.names.lookup x=some .globalImplicit
 ·rw[if_pos g];obtain⟨g1,g2,g3⟩:=g;have hg:Gl X x:=by show X.env.scope.names.lookup x=_;rw[G.sc];exact g3
  have gp:plain e=true/\es.all plain=true:=by rw[de,bN]at g2;exact g2
  have ha:=eS h (e::es) g2;cases e1:c.fns.lookup x with
  |some nF=>
   obtain⟨n,F⟩:=nF;dsimp only;by_cases cf:c.free=true
   ·rw[if_pos cf];obtain⟨a,fd,ps,G1,G2,G3,G4⟩:=G.fns x n F e1;exact LB G1 (G.free cf).1 G2 G3 G4 ha hg (gH g1) (aS gp.1) (fZ gp.2)
   ·rw[if_neg cf];exact aJ
  |none=>
   dsimp only;by_cases e3:c.bl.contains x=true
   ·rw[if_pos e3];cases e4:Xa c x with
    |none=>exact aJ
    |some io=>
     obtain⟨v,op⟩:=io;obtain⟨b1,b2,b3⟩:=RX (X:=X) G.tab (λz=>(G.free z).2) e4;rcases b3 with ⟨id,rfl⟩ |⟨T,rfl⟩
     ·exact Gd b2 hg (G.bl x e3) b1 ha (ID g1) (gH g1) (aS gp.1) (fZ gp.2)
     ·exact DV b2 hg (G.bl x e3) b1 ha (ID g1) (gH g1) (aS gp.1) (fZ gp.2)
   ·rw[if_neg e3];exact aJ
 ·rw[if_neg g];exact aJ
theorem ir(G:Good c k X)(h:∀e,JE X e (fE e))(x:Str)(e:Expr)(es:List Expr)(p pos:Pos):JE X (.Call (.Name x p) (e::es) [] pos) (wJ c fE x (e::es)):=by
 unfold wJ;cases q:IP (e::es)with
 |none=>exact oZ G h _ _ _ _ _
 |some t=>
  obtain⟨y,a,z,b⟩:=t;dsimp only;by_cases g:x="len"/\y="set"/\z="set"/\okN a=true/\okN b=true/\c.names.lookup a=some .local/\c.names.lookup b=some .local/\c.names.lookup x=some .globalImplicit/\c.names.lookup y=some .globalImplicit/\c.bl.contains x=true/\c.bl.contains y=true/\c.free=true
  ·rw[if_pos g];obtain⟨rfl,rfl,rfl,g1,g2,g3,g4,g5,g6,g7,g8,g9⟩:=g;cases es with
   |cons e2 r=>cases q
   |nil=>
   obtain⟨p2,pa,q2,p3,pb,q3,pp,rfl⟩:=IM q;cases e1:lE a c.N with
   |none=>exact aJ
   |some i=>
    cases e2:lE b c.N with
    |none=>exact aJ
    |some j=>exact Mw G.un (G.free g9).2 (by show X.env.scope.names.lookup _=_;rw[G.sc];exact g5) (G.bl _ g7) (by show X.env.scope.names.lookup _=_;rw[G.sc];exact g6) (G.bl _ g8) (Ii (by rw[G.N];exact gG e1) (l9 (by rw[G.sc];exact g3)) (gH g1) (yQ g1)) rfl (Ii (by rw[G.N];exact gG e2) (l9 (by rw[G.sc];exact g4)) (gH g2) (yQ g2)) rfl
  ·rw[if_neg g];exact oZ G h _ _ _ _ _
theorem IV(h:∀e,JE X e (fE e))(x name:Str)(e:Expr)(p apos cpos:Pos):JE X (.Call (.Attribute (.Name x p) name apos) [e] [] cpos) (IQ fE (.Name x p) name e apos cpos):=by
 unfold IQ;by_cases g:plain e=true/\(apos.endLine == cpos.line)=true
 ·rw[if_pos g];by_cases n1:name="append"
  ·rw[if_pos n1];subst n1;exact B6 AH PySem.F.slot_list_append PySem.F.type_list_append (h _) (h e) (aS g.1) g.2
  rw[if_neg n1];by_cases n2:name="extend"
  ·rw[if_pos n2];subst n2;exact B6 Mc PySem.F.slot_list_extend PySem.F.type_list_extend (h _) (h e) (aS g.1) g.2
  rw[if_neg n2];exact aJ
 ·rw[if_neg g];exact aJ
theorem IW(G:Good c k X)(h:∀e,JE X e (fE e))(x y:Str)(e:Expr)(p p2 q2 pos:Pos):JE X (.Call (.Name x p) [.Call (.Name y p2) [e] [] q2] [] pos) (IU c fE x y e p2 q2):=by
 unfold IU;by_cases g:x="sorted"/\y="set"/\plain e=true/\c.names.lookup x=some .globalImplicit/\c.names.lookup y=some .globalImplicit/\c.bl.contains x=true/\c.bl.contains y=true/\c.free=true
 ·rw[if_pos g];obtain⟨rfl,rfl,g3,g4,g5,g6,g7,g8⟩:=g;exact ME G.un (G.free g8).2 (by show X.env.scope.names.lookup _=_;rw[G.sc];exact g4) (G.bl _ g6) (by show X.env.scope.names.lookup _=_;rw[G.sc];exact g5) (G.bl _ g7) (eS h [e] (by simp[g3])) (aS g3)
 ·rw[if_neg g];exact oZ G h _ _ _ _ _
theorem Bb(G:Good c k X)(h:∀e,JE X e (fE e))(x:Str)(p:Pos)(as:List Expr)(pos:Pos):JE X (.Call (.Name x p) as [] pos) (C4 c fE x as):=by
 cases as with
 |nil=>exact aJ
 |cons e es=>
  cases es with
  |cons a r=>exact ir G h _ _ _ _ _
  |nil=>
   cases e with
   |Call g as2 ks2 q2=>
    cases g with
    |Name y p2=>
     cases as2 with
     |nil=>exact ir G h _ _ _ _ _
     |cons e2 r2=>
      cases r2 with
      |cons a r=>exact ir G h _ _ _ _ _
      |nil=>
       cases ks2 with
       |nil=>exact IW G h _ _ _ _ _ _ _
       |cons a r=>exact ir G h _ _ _ _ _
    |_=>exact ir G h _ _ _ _ _
   |_=>exact ir G h _ _ _ _ _
theorem Bc(G:Good c k X)(h:∀e,JE X e (fE e))(x:Str)(p:Pos)(name:Str)(apos:Pos)(e:Expr)(pos:Pos):JE X (.Call (.Attribute (.Name x p) name apos) [e] [] pos) (wL c fE pos x p name apos e):=by
 unfold wL;by_cases gg:name="get"
 ·rw[if_pos gg];subst gg;exact IT G h _ _ _ _ _
 rw[if_neg gg];by_cases g:name="append"\/name="extend"
 ·rw[if_pos g];exact IV h _ _ _ _ _ _
 ·rw[if_neg g];exact oY h _ _ _ _ _ _
theorem Bd(G:Good c k X)(h:∀e,JE X e (fE e))(name:Str)(apos:Pos)(e:Expr)(es:List Expr)(o:Expr)(pos:Pos):JE X (.Call (.Attribute o name apos) (e::es) [] pos) (C5 c fE pos name apos e es o):=by
 cases o with
 |Name x p=>
  cases es with
  |nil=>exact Bc G h _ _ _ _ _ _
  |cons f r=>exact oY h _ _ _ _ _ _
 |_=>exact oY h _ _ _ _ _ _
theorem IX(G:Good c k X)(h:∀e,JE X e (fE e))(f:Expr)(as:List Expr)(ks:List Keyword)(pos:Pos):JE X (.Call f as ks pos) (Of c fE pos f as ks):=by
 cases ks with
 |cons a r=>exact aJ
 |nil=>
  cases f with
  |Name x p=>exact Bb G h _ _ _ _
  |Attribute o name apos=>
   cases as with
   |nil=>exact aJ
   |cons e es=>exact Bd G h _ _ _ _ _ _
  |_=>exact aJ
def MT:Expr->Bool
 |.Slice .. =>true
 |_=>false
def IY(f:Expr->GE):Option Expr->GO
 |none=>i8
 |some e=>pL (f e)
theorem C6(h:∀e,JE X e (f e))(o:Option Expr):JO X o (IY f o):=by
 cases o with
 |none=>exact Ll
 |some e=>exact Ln (h e)
def MU(f:Expr->GE)(a:Expr):Expr->GE
 |.Slice lo hi none _=>hG (f a) (IY f lo) (IY f hi)
 |.Slice .. =>cb
 |b=>ah aQ (f a) (f b)
theorem IZ(h:∀e,JE X e (f e))(a b:Expr)(pos:Pos):JE X (.Subscript a b pos) (MU f a b):=by
 unfold MU;split
 ·exact D_ (h a) (C6 h _) (C6 h _)
 ·exact aJ
 ·rename_i n1 n2;refine U9 (h a) (h b) ?_;intro o i;cases b<;>first |rfl |(rename_i lo hi st p;exact(n2 _ _ _ _ rfl).elim)
def Zl(c:Ct):Expr->Bool
 |.Name x _=>c.N9.contains x
 |_=>false
def V4(c:Ct):Expr->Bool
 |.Subscript (.Name x _) (.Constant (.int 0) _ _) _=>c.N9.contains (x++"[]")
 |.Subscript (.Call (.Name x _) _ _ _) (.Constant (.int 0) _ _) _=>c.N9.contains (x++"()[]")
 |.Call (.Name x _) _ _ _=>c.N9.contains (x++"()")
 |e=>Zl c e
theorem wM{o:CmpOp}{p:Prop}[Decidable p]{f g:fX}(h1:jU X (af4 o) f)(h2:jU X (af4 o) g):jU X (af4 o) (if p then f else g):=by
 by_cases h:p
 ·rw[if_pos h];exact h1
 ·rw[if_neg h];exact h2
def Zm:Expr->Str
 |.Name x _=>x
 |.Attribute _ x _=>x
 |.Call (.Name x _) _ _ _=>x++"()"
 |_=>""
def inS(c:Ct)(b:Expr)(neg:Bool)(o:fX):fX:=if c.N_.contains (Zm b)=true then(rY neg)else o
def Zn(c:Ct)(a b:Expr):CmpOp->fX
 |.Eq=>if V4 c a=true then Rj else ub .Eq
 |.NotEq=>if V4 c a=true then Rk else ub .NotEq
 |.In=>inS c b false (ub .In)
 |.NotIn=>inS c b true (ub .NotIn)
 |o=>ub o
theorem I_(hu:X.A.units+64 < cLine)(c:Ct)(a b:Expr)(o:CmpOp):jU X (af4 o) (Zn c a b o):=by
 cases o with
 |Eq=>exact wM (Rl hu) (hX hu .Eq)
 |NotEq=>exact wM (Rp hu) (hX hu .NotEq)
 |In=>exact wM (Rc hu) (hX hu .In)
 |NotIn=>exact wM (Ek hu) (hX hu .NotIn)
 |_=>exact hX hu _
def RZ(bad:γ)(one:CmpOp->Expr->γ)(two:CmpOp->CmpOp->Expr->Expr->γ)(os:List CmpOp)(bs:List Expr):γ:=match os with
 |[o]=>(match bs with
  |[b]=>one o b
  |_=>bad)
 |[o,o']=>(match bs with
  |[b,b']=>two o o' b b'
  |_=>bad)
 |_=>bad
theorem C7{bad:γ}{one:CmpOp->Expr->γ}{two:CmpOp->CmpOp->Expr->Expr->γ}{P:List CmpOp->List Expr->γ->Prop}(hb:∀os bs,P os bs bad)(h1:∀o b,P [o] [b] (one o b))(h2:∀o o' b b',P [o,o'] [b,b'] (two o o' b b'))(os:List CmpOp)(bs:List Expr):P os bs (RZ bad one two os bs):=by
 cases os with
 |nil=>exact hb _ _
 |cons o os=>
  cases os with
  |nil=>
   cases bs with
   |nil=>exact hb _ _
   |cons b bs=>
    cases bs with
    |nil=>exact h1 _ _
    |cons _ _=>exact hb _ _
  |cons o' os=>
   cases os with
   |cons _ _=>exact hb _ _
   |nil=>
    cases bs with
    |nil=>exact hb _ _
    |cons b bs=>
     cases bs with
     |nil=>exact hb _ _
     |cons b' bs=>
      cases bs with
      |nil=>exact h2 _ _ _ _
      |cons _ _=>exact hb _ _
def V5(c:Ct)(f:Expr->GE)(a:Expr)(os:List CmpOp)(bs:List Expr):GE:=RZ cb (λo b=>if afZ o b=false then ah (Zn c a b o) (f a) (f b)else cb) (λo o' b b'=>if lastMarks [o,o'] [b,b']=false then lh (ub o) (ub o') (f a) (f b) (f b')else cb) os bs
theorem MV(G:Good c k X)(h:∀e,JE X e (f e))(a:Expr)(os:List CmpOp)(bs:List Expr)(pos:Pos):JE X (.Compare a os bs pos) (V5 c f a os bs) :=
 C7 (P:=λos bs g=>JE X (.Compare a os bs pos) g) (λ_ _=>aJ) (λo b=>by
  by_cases g:afZ o b=false
  ·rw[if_pos g];exact P5 (I_ G.un c a b o) (h a) (h b) g
  ·rw[if_neg g];exact aJ) (λo o' b b'=>by
  by_cases g:lastMarks [o,o'] [b,b']=false
  ·rw[if_pos g];exact F3 (hX G.un o) (hX G.un o') (h a) (h b) (h b') g
  ·rw[if_neg g];exact aJ) os bs
def Og(c:Ct)(f:Expr->GE)(a:Expr)(os:List CmpOp)(bs:List Expr):GT:=RZ nQ (λo b=>if afZ o b=false then b_ (ah (Zn c a b o) (f a) (f b))else nQ) (λo o' b b'=>if lastMarks [o,o'] [b,b']=false then b_ (lh (ub o) (ub o') (f a) (f b) (f b'))else nQ) os bs
theorem Ja(G:Good c k X)(h:∀e,JE X e (f e))(a:Expr)(os:List CmpOp)(bs:List Expr)(pos:Pos):JT X (.Compare a os bs pos) (Og c f a os bs) :=
 C7 (P:=λos bs g=>JT X (.Compare a os bs pos) g) (λ_ _=>oO) (λo b=>by
  by_cases g:afZ o b=false
  ·rw[if_pos g];exact P6 (I_ G.un c a b o) (h a) (h b) g
  ·rw[if_neg g];exact oO) (λo o' b b'=>by
  by_cases g:lastMarks [o,o'] [b,b']=false
  ·rw[if_pos g];exact F4 (hX G.un o) (hX G.un o') (h a) (h b) (h b') g
  ·rw[if_neg g];exact oO) os bs
def V6(c:Ct):Expr->Bool
 |.Name x _=>c.N9.contains x||c.dks.contains x
 |_=>false
def R0(c:Ct)(f:Expr->GE):Expr->Expr->GE
 |.Name x p,b=>(match EN c x with |some kvs=>if MT b=false then NV kvs (f b)else cb |none=>MU f (.Name x p) b)
 |a,b=>MU f a b
theorem MW(G:Good c k X)(h:∀e,JE X e (f e))(a b:Expr)(pos:Pos):JE X (.Subscript a b pos) (R0 c f a b):=by
 unfold R0;split
 ·rename_i x p;cases e:EN c x with
  |none=>dsimp only;exact IZ h _ b pos
  |some kvs=>
   dsimp only;by_cases g:MT b=false
   ·rw[if_pos g];obtain⟨g1,g2,g3⟩:=C3 G e;refine LU (h b) ?_ g1 g2 g3;intro o i;cases b<;>first |rfl |cases g
   ·rw[if_neg g];exact aJ
 ·exact IZ h _ b pos
def R4(f:Expr->GE):List Expr->GE
 |[]=>cb
 |[a]=>f a
 |a::b::r=>iA (f a) (R4 f (b::r))
def Zo(f:Expr->GE):List Expr->GE
 |[]=>cb
 |[a]=>f a
 |a::b::r=>xI (f a) (Zo f (b::r))
theorem C8{f:Expr->GE}(h:∀e,JE X e (f e))(pos:Pos):∀es,JE X (.BoolOp .And es pos) (R4 f es)
 |[]=>aJ
 |[a]=>F8 (h a)
 |a::b::r=>Qa (h a) (C8 h pos (b::r))
theorem Jb{f:Expr->GE}(h:∀e,JE X e (f e))(pos:Pos):∀es,JE X (.BoolOp .Or es pos) (Zo f es)
 |[]=>aJ
 |[a]=>F8 (h a)
 |a::b::r=>UW (h a) (Jb h pos (b::r))
def R6(f:Expr->GT):List Expr->GT
 |[]=>nQ
 |[a]=>f a
 |a::b::r=>F6 (f a) (R6 f (b::r))
def Zp(f:Expr->GT):List Expr->GT
 |[]=>nQ
 |[a]=>f a
 |a::b::r=>F7 (f a) (Zp f (b::r))
theorem Jc:JW X e nQ:=λρ st σ H m Q S R p=>ae p
theorem C9{f:Expr->GT}(h:∀e,JT X e (f e))(pos:Pos):∀es,JW X (.BoolOp .And es pos) (R6 f es)
 |[]=>Jc
 |[a]=>Lb (h a)
 |a::b::r=>P9 (h a) (C9 h pos (b::r))
theorem Jd{f:Expr->GT}(h:∀e,JT X e (f e))(pos:Pos):∀es,JW X (.BoolOp .Or es pos) (Zp f es)
 |[]=>Jc
 |[a]=>P8 (h a)
 |a::b::r=>UU (h a) (Jd h pos (b::r))
def unG(f:Expr->GE):UnaryOp->Expr->GE
 |.USub,a=>gUn F5 (f a)
 |.Not,a=>B0 (f a)
 |_,_=>cb
def EO(f:Expr->GE)(g:GA->GE)(es:List Expr):GE:=if es.all plain=true then g (jQ f es)else cb
def isSet:Expr->Bool
 |.Set .. =>true
 |_=>false
theorem i_(h:isSet e=false)(x:afX):af5 e env x=pure x:=by cases e<;>first |rfl |cases h
def eT(c:Ct)(x:Str):Bool:=decide (x="range")&&decide (c.names.lookup x=some .globalImplicit)&&c.bl.contains x&&(match c.fns.lookup x with |some _=>false |none=>true)
theorem sI(G:Good c k X)(y:Str)(hy:eT c y=true):y="range"/\Gl X y/\X.mg y=none:=by unfold eT at hy;simp only[bN,decide_eq_true_eq]at hy;refine⟨hy.1.1.1,?_,G.bl y hy.1.2⟩;show X.env.scope.names.lookup y=_;rw[G.sc];exact hy.1.1.2
def yS(c:Ct)(f:Expr->GE):Expr->GI
 |.Call (.Name x p) [a] [] q=>if eT c x=true then(if plain a=true then D4 (jQ f [a])else Cc)else iE (f (.Call (.Name x p) [a] [] q))
 |.Call (.Name x p) [a,b] [] q=>if eT c x=true then(if plain a=true/\plain b=true then G0 (jQ f [a,b])else Cc)else iE (f (.Call (.Name x p) [a,b] [] q))
 |e=>if isSet e=false then iE (f e)else Cc
theorem qE(G:Good c k X)(h:∀e,JE X e (f e))(tg e:Expr):JI X tg e (yS c f e):=by
 unfold yS;split
 ·rename_i y p a q;by_cases g:eT c y=true
  ·rw[if_pos g];obtain⟨rfl,g2,g3⟩:=sI G y g;by_cases ga:plain a=true
   ·rw[if_pos ga];exact Vq g2 g3 (eS h [a] (by simp[ga])) (aS ga)
   ·rw[if_neg ga];exact AK
  ·rw[if_neg g];exact vX (h _)
 ·rename_i y p a b q;by_cases g:eT c y=true
  ·rw[if_pos g];obtain⟨rfl,g2,g3⟩:=sI G y g;by_cases ga:plain a=true/\plain b=true
   ·rw[if_pos ga];exact Vr g2 g3 (eS h [a,b] (by simp[ga])) (by rw[aS ga.1,aS ga.2];rfl) (by rw[aS ga.2];rfl)
   ·rw[if_neg ga];exact AK
  ·rw[if_neg g];exact vX (h _)
 ·by_cases g:isSet e=false
  ·rw[if_pos g];exact vX (h _)
  ·rw[if_neg g];exact AK
def V7(gi:GI):L4:=λρ st=>(gi ρ st).bind λw st1=> .ok (w.1.map λl=>(l,w.2),w.2) st1
def MX(c:Ct)(x:Str):Bool:=decide (x="zip")&&decide (c.names.lookup x=some .globalImplicit)&&c.bl.contains x
theorem V8(G:Good c k X)(x:Str)(h:MX c x=true):x="zip"/\Gl X "zip"/\X.mg "zip"=none:=by unfold MX at h;simp only[bN,decide_eq_true_eq]at h;obtain⟨⟨rfl,h2⟩,h3⟩:=h;exact⟨rfl,by show X.env.scope.names.lookup _=_;rw[G.sc];exact h2,G.bl _ h3⟩
def Oh:Expr->Bool
 |.Subscript _ (.Slice _ _ _ _) _=>true
 |_=>false
def Be(c:Ct)(f:Expr->GE):Expr->L4
 |.Call (.Name x p) [a,b] [] q=>if MX c x=true/\[a,b].all plain=true then(if Oh b=true then sG (jQ f [a,b])else Hl)else V7 (yS c f (.Call (.Name x p) [a,b] [] q))
 |e=>V7 (yS c f e)
theorem yT(G:Good c k X)(h:∀e,JE X e (f e))(es:List Expr)(kt:Nat)(pt:Pos)(e:Expr):Q5 X (.Tuple es kt pt) e (Be c f e):=by
 unfold Be;split
 ·rename_i y p a b q;by_cases g:MX c y=true/\[a,b].all plain=true
  ·rw[if_pos g];obtain⟨g1,g2⟩:=g;obtain⟨rfl,g3,g4⟩:=V8 G y g1;have gp:plain a=true/\[b].all plain=true:=by rw[de,bN]at g2;exact g2
   by_cases hs:Oh b=true
   ·rw[if_pos hs];exact Iz g3 g4 (eS h [a,b] g2) (aS gp.1) (fZ gp.2)
   ·rw[if_neg hs];exact L6
  ·rw[if_neg g];exact Hm (qE G h _ _)
 ·exact Hm (qE G h _ _)
def o_:List Expr->Option (List Str)
 |[]=>some []
 |.Name x _::r=>(o_ r).map (x::·)
 |_=>none
theorem vf:∀{es:List Expr}{xs:List Str},o_ es=some xs->fH es xs
 |[],xs,h=>by cases h;exact .nil
 |e::r,xs,h=>by
  cases e with
  |Name x p=>
   unfold o_ at h;cases e1:o_ r with
   |none=>rw[e1]at h;cases h
   |some ys=>rw[e1]at h;cases h;exact .cons (vf e1)
  |_=>cases h
def mU(c:Ct):List (Str×afU)->Option dQ
 |[]=>some []
 |(n,.free)::r=>if c.names.lookup n=some .cell\/c.names.lookup n=some .free then(match lE n c.N,mU c r with |some i,some l=>some ((n,i)::l) |_,_=>none)else none
 |_::r=>mU c r
theorem sJ{c:Ct}:∀{ns:List (Str×afU)}{cs:dQ},mU c ns=some cs->(∀y∈ns,y.2= .free->c.names.lookup y.1=some .cell\/c.names.lookup y.1=some .free)/\∀p∈cs,(p.1,eQ)∈ns/\c.N[p.2]? =some p.1
 |[],cs,h=>by cases h;exact⟨(λ_ z=>by cases z),(λ_ z=>by cases z)⟩
 |(n,k)::r,cs,h=>by
  unfold mU at h;split at h
  ·cases ‹_::_=[]›
  ·rename_i n' r' he;cases he;by_cases g:c.names.lookup n=some .cell\/c.names.lookup n=some .free
   ·rw[if_pos g]at h;cases e1:lE n c.N with
    |none=>rw[e1]at h;cases h
    |some i=>
     cases e2:mU c r with
     |none=>rw[e1,e2]at h;cases h
     |some l=>
      rw[e1,e2]at h;cases h;obtain⟨q1,q2⟩:=sJ e2;refine⟨λy hy e=>?_,λp hp=>?_⟩
      ·rcases List.mem_cons.mp hy with z |z
       ·subst z;exact g
       ·exact q1 y z e
      ·rcases List.mem_cons.mp hp with z |z
       ·subst z;exact⟨ax,gG e1⟩
       ·exact⟨av _ (q2 p z).1,(q2 p z).2⟩
   ·rw[if_neg g]at h;cases h
  ·rename_i kk r' hk he;cases he;obtain⟨q1,q2⟩:=sJ h;refine⟨λy hy e=>?_,λp hp=>⟨av _ (q2 p hp).1,(q2 p hp).2⟩⟩;rcases List.mem_cons.mp hy with z |z
   ·subst z;have e':k= .free:=e;subst e';exact(hk n rfl).elim
   ·exact q1 y z e
def pd(c:Ct)(ns:List (Str×afU)):List (Str×afU):=ns.map λ(n,k)=>if(k == .free&&c.names.lookup n == some .cell)then(n,.cell)else(n,k)
def Je:ScopeKind->Bool
 |.function=>true
 |_=>false
def eV(scope:Scope)(x:Str):Bool:=Je scope.kind&&scope.names.all (λy=>decide (scope.names.lookup y.1=some y.2))&&scope.names.all (λy=>decide (y.2≠.cell))&&decide (scope.names.lookup x=some .local)
def Ct.block(c:Ct)(scope:Scope)(x:Str)(cs:dQ):Ct:={ c with N:=x::cs.map (·.1),names:=pd c scope.names,loop:=false,top:=false }
def yU(c:Ct)(sub:Ct->(Expr->GE)×(Expr->GT))(f:Expr->GE)(elt:Expr)(x:Str)(iter:Expr)(Bf:Ct->GT)(scope:Scope):GE :=
 if eV scope x=true/\c.free=true/\isSet iter=false then(match mU c scope.names with
  |some cs=>if(x::cs.map (·.1)).Nodup then iD cs (yS c f iter) (Bf (c.block scope x cs)) ((sub (c.block scope x cs)).1 elt)else cb
  |none=>cb)else cb
def Ct.sL(c:Ct)(scope:Scope)(xs:List Str)(cs:dQ):Ct:={ c with N:=xs++cs.map (·.1),names:=pd c scope.names,loop:=false,top:=false }
def sM(c:Ct)(sub:Ct->(Expr->GE)×(Expr->GT))(f:Expr->GE)(elt:Expr)(es:List Expr)(iter:Expr)(Bf:Ct->GT)(scope:Scope):GE:=match o_ es with
 |some (x::xr)=>if(x::xr).all (eV scope)=true/\c.free=true/\isSet iter=false then(match mU c scope.names with
  |some cs=>if((x::xr)++cs.map (·.1)).Nodup then ng (x::xr).length cs (Be c f iter) (Bf (c.sL scope (x::xr) cs)) ((sub (c.sL scope (x::xr) cs)).1 elt)else cb
  |none=>cb)else cb
 |_=>cb
def Zq(c:Ct)(sub:Ct->(Expr->GE)×(Expr->GT))(f:Expr->GE)(elt:Expr)(scope:Scope)(iter:Expr)(ifs:List Expr):Expr->GE
 |.Name x _=>(match ifs with
  |[]=>yU c sub f elt x iter (λ_=>λ_ st=> .ok true st) scope
  |q::r=>(match r with
   |[]=>yU c sub f elt x iter (λc'=>(sub c').2 q) scope
   |_=>cb))
 |.Tuple es _ _=>(match ifs with
  |[]=>sM c sub f elt es iter (λ_=>λ_ st=> .ok true st) scope
  |q::r=>(match r with
   |[]=>sM c sub f elt es iter (λc'=>(sub c').2 q) scope
   |_=>cb))
 |_=>cb
def Xb(c:Ct)(sub:Ct->(Expr->GE)×(Expr->GT))(f:Expr->GE)(elt:Expr)(scope:Scope)(gs:List Comprehension):GE:=match gs with
 |[]=>cb
 |g::r=>(match r with
  |[]=>if g.is_async=0 then Zq c sub f elt scope g.iter g.ifs g.target else cb
  |_=>cb)
theorem sN(G:Good c k X)(hs:eV scope x=true)(nd:(x::cs.map (·.1)).Nodup)(C:afR)(s0:afW)(H0:Hp)(fp:List afR)(pn:List (afR×Obj))(E:afX->afW->Prop)(hA:D0 X.A H0):
  Good (c.block scope x cs) k (gF X scope x cs C s0 H0 fp pn E):=by
 have hk:scope.kind= .function:=by
  have:Je scope.kind=true:=by unfold eV at hs;simp only[bN]at hs;exact hs.1.1.1
  revert this;cases scope.kind<;>intro z<;>first |rfl |cases z
 refine⟨rfl,?_,nd,G.un,G.free,(λz=>by cases z),G.cst,G.bl,G.fns,(λz=>by cases z),(λz=>by cases z),hk,G.tab,G.cls,G.A_,G.Ba,⟨G.rm.d,G.rm.u⟩,G.Fd,⟨G.x.lam,G.x.IC,G.x.RU,(λz=>by cases z),G.x.sk,G.x.RV,G.x.ins⟩,G.fr,hA⟩;show(relabel scope X.env).names=pd c scope.names;unfold relabel pd Env.kindOf;rw[G.kind,G.sc];simp
theorem pU(G:Good c k X){xr:List Str}(hs:eV scope x=true)(hf:c.free=true)(nd:((x::xr)++cs.map (·.1)).Nodup)(C:afR)(s0:afW)(H0:Hp)(fp:List afR)(pn:List (afR×Obj)):
  Good (c.sL scope (x::xr) cs) k (fG X scope (x::xr) cs C s0 H0 fp pn):=by
 unfold eV at hs;simp only[bN,decide_eq_true_eq]at hs;have hk:scope.kind= .function:=by have:=hs.1.1.1;revert this;cases scope.kind<;>intro z<;>first |rfl |cases z
 refine⟨rfl,?_,nd,G.un,G.free,(λz=>by cases z),G.cst,G.bl,G.fns,(λz=>by cases z),(λz=>by cases z),hk,G.tab,G.cls,G.A_,G.Ba,⟨G.rm.d,G.rm.u⟩,G.Fd,⟨G.x.lam,G.x.IC,G.x.RU,(λz=>by cases z),G.x.sk,G.x.RV,G.x.ins⟩,G.fr,.inl (G.free hf).1.hd⟩;show(relabel scope X.env).names=pd c scope.names;unfold relabel pd Env.kindOf;rw[G.kind,G.sc];simp
theorem yV(G:Good c k X)(hs:eV scope x=true)(hcs:mU c scope.names=some cs)(nd:(x::cs.map (·.1)).Nodup):dh X scope x cs:=by
 have hs:(Je scope.kind=true/\∀y∈scope.names,scope.names.lookup y.1=some y.2)/\((scope.names.filter λy=>y.2 == .cell)=[]\/(scope.names.filter λy=>y.2 == .cell)=[(x,.cell)])/\(scope.names.lookup x=some .local\/scope.names.lookup x=some .cell):=by unfold eV at hs;simp only[bN,decide_eq_true_eq,HE]at hs;exact⟨hs.1.1,.inl (List.filter_eq_nil_iff.mpr λy hy=>by simpa using hs.1.2 y hy),.inl hs.2⟩
 obtain⟨⟨h1,h2⟩,h3,h4⟩:=hs;have hk:scope.kind= .function:=by revert h1;cases scope.kind<;>intro z<;>first |rfl |cases z
 obtain⟨q1,q2⟩:=sJ hcs;refine⟨hk,h2,h3,h4,λy hy e=>?_,λp hp=>⟨by rw[G.N];exact(q2 p hp).2,h2 _ (q2 p hp).1⟩,nd⟩;show X.env.scope.names.lookup y.1=_\/X.env.scope.names.lookup y.1=_;rw[G.sc];exact q1 y hy e
def Oi(X:Cx)(e:Expr)(g:GE):Prop:=∀(i:Nat)(y:Str)(py spos:Pos),X.N.Nodup->X.N[i]? =some y->Loc X.env.scope y->(X.fn y=true\/X.env.scope.names.lookup y=some .local)->JS X (.Assign [.Name y py] e spos) (bS i g)
theorem ER{s:Stmt}:JS X s (bS i cb):=λρ st σ H m D S R p=>ae p
theorem cK:Oi X e cb:=λi y py spos _ _ _ _=>ER
theorem C_(G:Good c k X){sub:Ct->(Expr->GE)×(Expr->GT)}(hb:∀c X,Good c k X->(∀e,JE X e ((sub c).1 e))/\∀e,JT X e ((sub c).2 e))(h:∀e,JE X e (f e))(elt:Expr)(scope:Scope)(gens:List Comprehension)(pos:Pos):
  JE X (.ListComp elt gens scope pos) (Xb c sub f elt scope gens)/\Oi X (.ListComp elt gens scope pos) (Xb c sub f elt scope gens):=by
 have core:∀(x:Str)(px:Pos)(iter:Expr)(ifs:List Expr)(Bf:Ct->GT),(∀c X,Good c k X->B9 X ifs (Bf c))->
   JE X (.ListComp elt [⟨.Name x px,iter,ifs,0⟩] scope pos) (yU c sub f elt x iter Bf scope)/\Oi X (.ListComp elt [⟨.Name x px,iter,ifs,0⟩] scope pos) (yU c sub f elt x iter Bf scope):=by
  intro x px iter ifs Bf hg;unfold yU;by_cases g:eV scope x=true/\c.free=true/\isSet iter=false
  ·rw[if_pos g];obtain⟨g1,g2,g3⟩:=g;cases ec:mU c scope.names with
   |none=>exact⟨aJ,cK⟩
   |some cs=>
    dsimp only;by_cases nd:(x::cs.map (·.1)).Nodup
    ·rw[if_pos nd];have CS:=yV G g1 ec nd;have hE:∀C s0 H0 fp pn E,D0 X.A H0->JE (gF X scope x cs C s0 H0 fp pn E) elt ((sub (c.block scope x cs)).1 elt):=λC s0 H0 fp pn E z=>(hb _ _ (sN G g1 nd C s0 H0 fp pn E z)).1 elt;have hT:∀C s0 H0 fp pn E,D0 X.A H0->B9 (gF X scope x cs C s0 H0 fp pn E) ifs (Bf (c.block scope x cs)):=λC s0 H0 fp pn E z=>hg _ _ (sN G g1 nd C s0 H0 fp pn E z);exact⟨Ce G.fr CS (xY (G.free g2).2) G.hd (qE G h _ iter).y hE hT (i_ g3),λi y py spos hN hi hl hf=>LM i hN G.fr CS (xY (G.free g2).2) G.hd (qE G h _ iter).y hE hT (i_ g3) hi hl hf⟩
    ·rw[if_neg nd];exact⟨aJ,cK⟩
  ·rw[if_neg g];exact⟨aJ,cK⟩
 have Oj:∀(es:List Expr)(kt:Nat)(pt:Pos)(iter:Expr)(ifs:List Expr)(Bf:Ct->GT),(∀c X,Good c k X->B9 X ifs (Bf c))->
   JE X (.ListComp elt [⟨.Tuple es kt pt,iter,ifs,0⟩] scope pos) (sM c sub f elt es iter Bf scope)/\Oi X (.ListComp elt [⟨.Tuple es kt pt,iter,ifs,0⟩] scope pos) (sM c sub f elt es iter Bf scope):=by
  intro es kt pt iter ifs Bf hg;unfold sM;cases en:o_ es with
  |none=>exact⟨aJ,cK⟩
  |some xs=>
   cases xs with
   |nil=>exact⟨aJ,cK⟩
   |cons x xr=>
    dsimp only;by_cases g:(x::xr).all (eV scope)=true/\c.free=true/\isSet iter=false
    ·rw[if_pos g];obtain⟨g1,g2,g3⟩:=g;have gx:∀y∈x::xr,eV scope y=true:=List.all_eq_true.mp g1;cases ec:mU c scope.names with
     |none=>exact⟨aJ,cK⟩
     |some cs=>
      dsimp only;by_cases nd:((x::xr)++cs.map (·.1)).Nodup
      ·rw[if_pos nd];have nd1:(x::cs.map (·.1)).Nodup:=nd.sublist (List.Sublist.cons₂ x (List.sublist_append_right xr _));have vr:∀y∈x::xr,scope.names.lookup y=some .local:=λy hy=>by have q:=gx y hy;unfold eV at q;simp only[bN,decide_eq_true_eq]at q;exact q.2
       have CS:mB X scope x xr cs:=⟨yV G (gx x ax) ec nd1,vr,nd⟩;have sl:=vf en;have hE:∀C s0 H0 fp pn,JE (fG X scope (x::xr) cs C s0 H0 fp pn) elt ((sub (c.sL scope (x::xr) cs)).1 elt):=λC s0 H0 fp pn=>(hb _ _ (pU G (gx x ax) g2 nd C s0 H0 fp pn)).1 elt;have hT:∀C s0 H0 fp pn,B9 (fG X scope (x::xr) cs C s0 H0 fp pn) ifs (Bf (c.sL scope (x::xr) cs)):=λC s0 H0 fp pn=>hg _ _ (pU G (gx x ax) g2 nd C s0 H0 fp pn);exact⟨yn CS sl (G.free g2).2 (yT G h es kt pt iter) hE hT (i_ g3),λi y py spos hN hi hl hf=>Hq i hN CS sl (G.free g2).2 (yT G h es kt pt iter) hE hT (i_ g3) hi hl hf⟩
      ·rw[if_neg nd];exact⟨aJ,cK⟩
    ·rw[if_neg g];exact⟨aJ,cK⟩
 cases gens with
 |nil=>exact⟨aJ,cK⟩
 |cons g r=>
  cases r with
  |cons _ _=>exact⟨aJ,cK⟩
  |nil=>
   obtain⟨tg,iter,ifs,as⟩:=g;unfold Xb;dsimp only;by_cases e:as=0
   ·rw[if_pos e];subst e;cases tg with
    |Name x px=>
     cases ifs with
     |nil=>exact core _ _ _ _ _ λ_ _ _=>B_
     |cons q r=>
      cases r with
      |nil=>exact core _ _ _ _ _ λc X G'=>Ca ((hb c X G').2 _)
      |cons _ _=>exact⟨aJ,cK⟩
    |Tuple es kt pt=>
     cases ifs with
     |nil=>exact Oj _ _ _ _ _ _ λ_ _ _=>B_
     |cons q r=>
      cases r with
      |nil=>exact Oj _ _ _ _ _ _ λc X G'=>Ca ((hb c X G').2 _)
      |cons _ _=>exact⟨aJ,cK⟩
    |_=>exact⟨aJ,cK⟩
   ·rw[if_neg e];exact⟨aJ,cK⟩
def Jf(c:Ct)(sub:Ct->(Expr->GE)×(Expr->GT))(f:Expr->GE)(t:Expr->GT):Expr->GE
 |.Name x _=>IH c x
 |.Constant k _ _=>IJ k
 |.BinOp a o b _=>ah (VZ o) (f a) (f b)
 |.UnaryOp o a _=>unG f o a
 |.BoolOp .And es _=>R4 f es
 |.BoolOp .Or es _=>Zo f es
 |.Compare a os bs _=>V5 c f a os bs
 |.IfExp q a b _=>Lc (t q) (f a) (f b)
 |.Tuple es _ _=>EO f cU es
 |.List es _=>EO f jm es
 |.Subscript a b _=>R0 c f a b
 |.Call g as ks p=>Of c f p g as ks
 |.ListComp elt gens scope _=>Xb c sub f elt scope gens
 |_=>cb
def stepT(c:Ct)(f:Expr->GE)(t:Expr->GT):Expr->GT
 |.UnaryOp .Not a _=>oM (t a)
 |.BoolOp .And es _=>R6 t es
 |.BoolOp .Or es _=>Zp t es
 |.Compare a os bs _=>Og c f a os bs
 |.Name x p=>ll (f (.Name x p))
 |.Call g as ks p=>ll (f (.Call g as ks p))
 |.Subscript a b p=>ll (f (.Subscript a b p))
 |.Constant k j p=>ll (f (.Constant k j p))
 |.BinOp a o b p=>ll (f (.BinOp a o b p))
 |_=>nQ
theorem yW(G:Good c k X){sub:Ct->(Expr->GE)×(Expr->GT)}(hb:∀k c X,Good c k X->(∀e,JE X e ((sub c).1 e))/\∀e,JT X e ((sub c).2 e))(h:∀e,JE X e (f e))(ht:∀e,JT X e (t e))(e:Expr):JE X e (Jf c sub f t e):=by
 have hu:X.A.units+64 < cLine:=G.un;cases e with
 |Name x p=>exact II G x p
 |Constant v j p=>exact EH v j p
 |BinOp a o b p=>exact P4 (MR o) (h a) (h b)
 |UnaryOp o a p=>
  cases o with
  |USub=>exact P7 (h a)
  |Not=>exact Qb (h a)
  |_=>exact aJ
 |BoolOp o es p=>
  cases o with
  |And=>exact C8 h p es
  |Or=>exact Jb h p es
 |Compare a os bs p=>exact MV G h a os bs p
 |IfExp q a b p=>exact UX (ht q) (h a) (h b)
 |Tuple es j p=>
  show JE X _ (EO f cU es);unfold EO;by_cases g:es.all plain=true
  ·rw[if_pos g];exact Qc (eS h es g)
  ·rw[if_neg g];exact aJ
 |List es p=>
  show JE X _ (EO f jm es);unfold EO;by_cases g:es.all plain=true
  ·rw[if_pos g];exact Qd (eS h es g)
  ·rw[if_neg g];exact aJ
 |Subscript a b p=>exact MW G h a b p
 |Call g as ks p=>exact IX G h g as ks p
 |ListComp elt gens scope p=>exact(C_ G (hb k) h elt scope gens p).1
 |_=>exact aJ
def Bg:Expr->Bool
 |.ListComp .. =>true
 |.SetComp .. =>true
 |.DictComp .. =>true
 |.Set .. =>true
 |_=>false
theorem qF{t:Option Expr}(h:Bg e=false):swapsWith e t n env=pure false:=by cases e<;>first |rfl |cases h
theorem yX{o i:Expr}:swapsWith e (some (.Subscript o i p)) n env=pure false:=by cases e<;>rfl
theorem Jg(G:Good c k X){sub:Ct->(Expr->GE)×(Expr->GT)}(hb:∀k c X,Good c k X->(∀e,JE X e ((sub c).1 e))/\∀e,JT X e ((sub c).2 e))(h:∀e,JE X e (f e))(ht:∀e,JT X e (t e))(e:Expr):Oi X e (Jf c sub f t e):=by
 by_cases g:Bg e=false
 ·exact λi y py spos hN hi hl hf=>vS i hN (yW G hb h ht e) hi hl (qF g) hf
 ·cases e with
  |ListComp elt gens scope p=>exact(C_ G (hb k) h elt scope gens p).2
  |SetComp=>exact cK
  |DictComp=>exact cK
  |Set=>exact cK
  |_=>exact absurd rfl g
theorem Jh(G:Good c k X)(h:∀e,JE X e (f e))(ht:∀e,JT X e (t e))(e:Expr):JT X e (stepT c f t e):=by
 have hu:X.A.units+64 < cLine:=G.un;cases e with
 |UnaryOp o a p=>
  cases o with
  |Not=>exact P_ (ht a)
  |_=>exact oO
 |BoolOp o es p=>
  cases o with
  |And=>exact(C9 ht p es).jt
  |Or=>exact(Jd ht p es).jt
 |Compare a os bs p=>exact Ja G h a os bs p
 |Name x p=>exact rA (h _) (λ_=>rfl)
 |Call g as ks p=>exact rA (h _) (λ_=>rfl)
 |Subscript a b p=>exact rA (h _) (λ_=>rfl)
 |Constant v j p=>exact rA (h _) (λ_=>rfl)
 |BinOp a o b p=>exact rA (h _) (λ_=>rfl)
 |_=>exact oO
end
def mV:Nat->Ct->(Expr->GE)×(Expr->GT)
 | 0,_=>(λ_=>cb,λ_=>nQ)
 |n+1,c=>(Jf c (mV n) (mV n c).1 (mV n c).2,stepT c (mV n c).1 (mV n c).2)
variable{b:Ct->List Stmt->GS}{gb:GS}
section
variable {X:Cx}
theorem eI:∀(n:Nat)(k:Nat)(c:Ct)(X:Cx),Good c k X->(∀e,JE X e ((mV n c).1 e))/\∀e,JT X e ((mV n c).2 e)
 | 0,_,_,_,_=>⟨λ_=>aJ,λ_=>oO⟩
 |n+1,k,c,X,G=>⟨λe=>yW G (λk c X G=>eI n k c X G) (eI n k c X G).1 (eI n k c X G).2 e,λe=>Jh G (eI n k c X G).1 (eI n k c X G).2 e⟩
theorem Ji:∀(n:Nat)(c:Ct)(X:Cx),Good c k X->∀e,Oi X e ((mV n c).1 e)
 | 0,_,_,_,_=>cK
 |n+1,c,X,G,e=>Jg G (λk c X G=>eI n k c X G) (eI n k c X G).1 (eI n k c X G).2 e
def slot(c:Ct)(x:Str):Option Nat:=if c.names.lookup x=some .local\/(c.names.lookup x=some .cell/\c.top=true)then lE x c.N else none
theorem wN(G:Good c k X)(h:slot c x=some i):X.N[i]? =some x/\(Loc X.env.scope x/\(X.fn x=true\/X.env.scope.names.lookup x=some .local)):=by
 unfold slot at h;by_cases e:c.names.lookup x=some .local\/(c.names.lookup x=some .cell/\c.top=true)
 ·rw[if_pos e]at h;refine⟨by rw[G.N];exact gG h,?_⟩;rcases e with e |⟨e,e2⟩
  ·have q:X.env.scope.names.lookup x=some .local:=by rw[G.sc];exact e
   exact⟨.inl q,.inr q⟩
  ·have q:X.env.scope.names.lookup x=some .cell:=by rw[G.sc];exact e
   exact⟨.inr q,.inl (G.fn e2 x)⟩
 ·rw[if_neg e]at h;cases h
def slots(c:Ct):List Expr->Option (List Nat)
 |[]=>some []
 |.Name x _::es=>(match slot c x,slots c es with |some i,some is=>some (i::is) |_,_=>none)
 |_=>none
theorem sO{c:Ct}{k:Nat}(G:Good c k X):∀{es:List Expr}{is:List Nat},slots c es=some is->Slots X es is
 |[],is,h=>by cases h;exact .nil
 |e::es,is,h=>by
  cases e with
  |Name x p=>
   have h:(match slot c x,slots c es with |some i,some is=>some (i::is) |_,_=>none)=some is:=h
   cases e1:slot c x with
   |none=>rw[e1]at h;cases h
   |some i=>
    cases e2:slots c es with
    |none=>rw[e1,e2]at h;cases h
    |some js=>rw[e1,e2]at h;cases h;obtain⟨q1,q2⟩:=wN G e1;exact .cons q1 q2 (sO G e2)
  |_=>cases h
def V9:Expr->Bool
 |.Tuple .. =>true
 |_=>false
def MY(es:List Expr)(v:Expr):Bool:=!V9 v||decide (4<=es.length)
def R7:Expr->Bool
 |.Dict [] [] _=>true
 |_=>false
theorem vg{v:Expr}(h:MY es v=true):swappedStores [.Tuple es k p] v X.env=pure none:=by
 cases v with
 |Tuple vs k2 p2=>
  have h4:4<=es.length:=by simpa [MY,V9]using h
  unfold swappedStores;have:(!(es.length == 2||es.length == 3)||vs.length != es.length||X.env.blockKind != .function)=true:=by
   have h2:(es.length == 2)=false:=by simp;omega
   have h3:(es.length == 3)=false:=by simp;omega
   rw[h2,h3];rfl
  dsimp only;rw[if_pos this]
 |_=>rfl
def Ol(c:Ct):Expr->Bool
 |.Name x _=>c.N_.contains x
 |_=>false
def R9(c:Ct)(f:Expr->GE)(v:Expr):List Expr->GS
 |[.Name x _]=>(match slot c x with |some i=>if R7 v=true/\c.N9.contains x=true then bS i yh else bS i (f v) |none=>cF)
 |[.Subscript o i _]=>if MT i=false then(if V6 c o=true then uY (f v) (f o) (f i)else B4 (f v) (f o) (f i))else cF
 |[.Tuple es _ _]=>if Bg v=false/\MY es v=true/\c.free=true then(match slots c es with |some is=>if Ol c v=true then yP is (f v)else NT is (f v) |none=>cF)else cF
 |_=>cF
theorem R_(G:Good c k X)(h:∀e,JE X e (f e))(ha:∀e,Oi X e (f e))(v:Expr)(ts:List Expr)(pos:Pos):JS X (.Assign ts v pos) (R9 c f v ts):=by
 unfold R9;split
 ·rename_i x p;cases e:slot c x with
  |none=>exact bp
  |some i=>
   obtain⟨e1,e2⟩:=wN G e;dsimp only;by_cases g:R7 v=true/\c.N9.contains x=true
   ·rw[if_pos g];have gv:=g.1;unfold R7 at gv;split at gv
    ·exact vS i (by rw[G.N];exact G.nd) LW e1 e2.1 rfl e2.2
    ·cases gv
   ·rw[if_neg g];exact ha v i x _ _ (by rw[G.N];exact G.nd) e1 e2.1 e2.2
 ·rename_i o i p;by_cases g2:MT i=false
  ·rw[if_pos g2];by_cases gd:V6 c o=true
   ·rw[if_pos gd];exact LY (by have:=G.un;omega) (h v) (h o) (h i) yX
   rw[if_neg gd];refine Lz (h v) (h o) (h i) (by unfold swapsWithSole;exact yX) ?_ rfl ?_
   ·cases v<;>rfl
   ·intro _;cases i<;>first |rfl |cases g2
  ·rw[if_neg g2];exact bp
 ·rename_i es kk p;by_cases g:Bg v=false/\MY es v=true/\c.free=true
  ·rw[if_pos g];cases e1:slots c es with
   |none=>exact bp
   |some is=>
    have g2:=g.2.1;dsimp only;by_cases gd:Ol c v=true
    ·rw[if_pos gd];refine MN (by rw[G.N];exact G.nd) (G.free g.2.2).2 (sO G e1) (h v) (qF g.1) ?_;exact vg g2
    ·rw[if_neg gd];refine LI (by rw[G.N];exact G.nd) (G.free g.2.2).2 (sO G e1) (h v) (qF g.1) ?_;exact vg g2
  ·rw[if_neg g];exact bp
 ·exact bp
def MZ(c:Ct)(f:Expr->GE)(i:Nat)(gb:GS):Expr->GS
 |.Call (.Name x p) [a] [] q=>if eT c x=true then(if plain a=true then rD i (jQ f [a]) gb else cF)else rC i (f (.Call (.Name x p) [a] [] q)) gb
 |.Call (.Name x p) [a,b] [] q=>if eT c x=true then(if plain a=true/\plain b=true then rE i (jQ f [a,b]) gb else cF)else rC i (f (.Call (.Name x p) [a,b] [] q)) gb
 |.Call (.Name x p) [a,b,d] [] q=>if eT c x=true then(if[a,b,d].all plain=true then Hv i (jQ f [a,b,d]) gb else cF)else rC i (f (.Call (.Name x p) [a,b,d] [] q)) gb
 |e=>if isSet e=false then rC i (f e) gb else cF
theorem Sa(G:Good c k X)(hl:c.loop=true)(h:∀e,JE X e (f e))(hx:slot c x=some i){body:List Stmt}(hb:oK X body gb)(e:Expr)(pos pos':Pos):JS X (.For (.Name x pos') e body [] pos) (MZ c f i gb e):=by
 have nd:X.N.Nodup:=by rw[G.N];exact G.nd
 obtain⟨e1,e2⟩:=wN G hx;have rg:=sI G;unfold MZ;split
 ·rename_i y p a q;by_cases g:eT c y=true
  ·rw[if_pos g];obtain⟨rfl,g2,g3⟩:=rg y g;by_cases ga:plain a=true
   ·rw[if_pos ga];exact GB i nd (G.loop hl).2 (G.loop hl).1 g2 g3 (eS h [a] (by simp[ga])) hb e1 e2.1 e2.2 (aS ga)
   ·rw[if_neg ga];exact bp
  ·rw[if_neg g];exact vT i nd (G.loop hl).2 (G.loop hl).1 (h _) hb e1 e2.1 e2.2 (i_ rfl)
 ·rename_i y p a b q;by_cases g:eT c y=true
  ·rw[if_pos g];obtain⟨rfl,g2,g3⟩:=rg y g;by_cases ga:plain a=true/\plain b=true
   ·rw[if_pos ga];exact GC i nd (G.loop hl).2 (G.loop hl).1 g2 g3 (eS h [a,b] (by simp[ga])) hb e1 e2.1 e2.2 (by rw[aS ga.1,aS ga.2];rfl) (by rw[aS ga.2];rfl)
   ·rw[if_neg ga];exact bp
  ·rw[if_neg g];exact vT i nd (G.loop hl).2 (G.loop hl).1 (h _) hb e1 e2.1 e2.2 (i_ rfl)
 ·rename_i y p a b d q;by_cases g:eT c y=true
  ·rw[if_pos g];obtain⟨rfl,g2,g3⟩:=rg y g;by_cases ga:[a,b,d].all plain=true
   ·rw[if_pos ga];have gp:plain a=true/\[b,d].all plain=true:=by rw[de,bN]at ga;exact ga
    exact Hw i nd (G.loop hl).2 (G.loop hl).1 g2 g3 (eS h [a,b,d] ga) hb e1 e2.1 e2.2 (aS gp.1) (fZ gp.2)
   ·rw[if_neg ga];exact bp
  ·rw[if_neg g];exact vT i nd (G.loop hl).2 (G.loop hl).1 (h _) hb e1 e2.1 e2.2 (i_ rfl)
 ·by_cases g:isSet e=false
  ·rw[if_pos g];exact vT i nd (G.loop hl).2 (G.loop hl).1 (h _) hb e1 e2.1 e2.2 (i_ g)
  ·rw[if_neg g];exact bp
def Bh(c:Ct)(f:Expr->GE):Expr->GS
 |.Call (.Name x _) (e::es) [] _=>if okN x=true/\(e::es).all plain=true/\c.names.lookup x=some .globalImplicit/\c.clss.contains x=true/\c.free=true then m6 x (jQ f (e::es))else cF
 |_=>cF
theorem Jj(G:Good c k X)(h:∀e,JE X e (f e))(e:Expr)(pos:Pos):JS X (.Raise (some e) none pos) (Bh c f e):=by
 unfold Bh;split
 ·rename_i x p e es q;by_cases g:okN x=true/\(e::es).all plain=true/\c.names.lookup x=some .globalImplicit/\c.clss.contains x=true/\c.free=true
  ·rw[if_pos g];obtain⟨g1,g2,g3,g4,g5⟩:=g;have hg:Gl X x:=by show X.env.scope.names.lookup x=_;rw[G.sc];exact g3
   have gp:plain e=true/\es.all plain=true:=by rw[de,bN]at g2;exact g2
   obtain⟨C,q1,q2⟩:=G.cls x g4;exact GF (G.free g5).2 q2 hg q1 (eS h (e::es) g2) (gH g1) (aS gp.1) (fZ gp.2)
  ·rw[if_neg g];exact bp
 ·exact bp
def Sb(c:Ct)(b:Ct->List Stmt->GS)(body:List Stmt):List ExceptHandler->GS
 |[.ExceptHandler (some (.Name x _)) none (b0::suite) _]=>if okN x=true/\c.names.lookup x=some .globalImplicit/\c.clss.contains x=true/\c.free=true/\c.top=true then
   u4 (λy=>c.tc.lookup (y,x)) (b c.Oc body) (b c.C0 (b0::suite))else cF
 |_=>cF
theorem Sd(G:Good c k X)(hb:∀c X,Good c k X->∀s,oK X s (b c s))(body:List Stmt)(hs:List ExceptHandler)(pos:Pos):JS X (.Try body hs [] [] pos) (Sb c b body hs):=by
 unfold Sb;split
 ·rename_i x p b0 suite q;by_cases g:okN x=true/\c.names.lookup x=some .globalImplicit/\c.clss.contains x=true/\c.free=true/\c.top=true
  ·rw[if_pos g];obtain⟨g1,g3,g4,g5,g6⟩:=g;have hg:Gl X x:=by show X.env.scope.names.lookup x=_;rw[G.sc];exact g3
   obtain⟨D,q1,q2⟩:=G.cls x g4;exact Ma (G.stk g6) (G.free g5).2 G.tab hg q1 q2.cls (gH g1) (λpn E=>hb _ _ (G.body g5 pn E) _) λa o u pn E nx=>hb _ _ (G.suite nx pn E) _
  ·rw[if_neg g];exact bp
 ·exact bp
def Om(c:Ct)(f:Expr->GE)(t:Expr->GT)(b:Ct->List Stmt->GS):Stmt->GS
 |.Return (some e) _=>a8 (f e)
 |.Return none _=>a8 (gC .bK)
 |.Expr e _=>if Bg e=false then mQ (f e)else cF
 |.If q x y _=>iB (t q) (b c x) (b c y)
 |.Assign ts v _=>R9 c f v ts
 |.For (.Name x _) e body [] _=>if c.loop=true then(match slot c x with |some i=>MZ c f i (b c body) e |none=>cF)else cF
 |.Raise (some e) none _=>Bh c f e
 |.Try body hs [] [] _=>Sb c b body hs
 |.Pass _=>bD
 |_=>cF
theorem Jk(G:Good c k X)(h:∀e,JE X e (f e))(ha:∀e,Oi X e (f e))(ht:∀e,JT X e (t e))(hb:∀c X,Good c k X->∀s,oK X s (b c s))(s:Stmt):JS X s (Om c f t b s):=by
 cases s with
 |Return o p=>
  cases o with
  |none=>exact LG
  |some e=>exact Qn (h _)
 |Expr e p=>
  show JS X _ (if Bg e=false then mQ (f e)else cF);by_cases g:Bg e=false
  ·rw[if_pos g];exact Ly (h _) (qF g)
  ·rw[if_neg g];exact bp
 |If q x y p=>exact U' (ht _) (hb c X G _) (hb c X G _)
 |Assign ts v p=>exact R_ G h ha _ _ _
 |Pass p=>exact Lx
 |For tg e body oe q=>
  cases tg with
  |Name x p=>
   cases oe with
   |cons _ _=>exact bp
   |nil=>
    show JS X _ (if c.loop=true then(match slot c x with |some i=>MZ c f i (b c body) e |none=>cF)else cF)
    by_cases g:c.loop=true
    ·rw[if_pos g];cases e1:slot c x with
     |none=>exact bp
     |some i=>exact Sa G g h e1 (hb c X G body) e _ _
    ·rw[if_neg g];exact bp
  |_=>exact bp
 |Raise o o2 p=>
  cases o with
  |none=>exact bp
  |some e=>
   cases o2 with
   |some _=>exact bp
   |none=>exact Jj G h _ _
 |Try body hs oe fe p=>
  cases oe with
  |cons _ _=>exact bp
  |nil=>
   cases fe with
   |cons _ _=>exact bp
   |nil=>exact Sd G hb _ _ _
 |_=>exact bp
end
def Bi(f:Stmt->GS):List Stmt->GS
 |[]=>bD
 |[s]=>f s
 |s::s'::r=>aO (f s) (Bi f (s'::r))
theorem yY{X:Cx}{f:Stmt->GS}(h:∀s,JS X s (f s)):∀ss,oK X ss (Bi f ss)
 |[]=>Lu
 |[s]=>Lw (h s)
 |s::s'::r=>Gi (h s) (yY h (s'::r))
def bz:Nat->Ct->List Stmt->GS
 | 0,_=>λ_=>cF
 |n+1,c=>Bi (Om c (mV 40 c).1 (mV 40 c).2 (bz n))
theorem sP{k:Nat}:∀(n:Nat)(c:Ct)(X:Cx),Good c k X->∀ss:List Stmt,oK X ss (bz n c ss)
 | 0,_,_,_,_=>DW
 |n+1,c,X,G,ss=>yY (λs=>Jk G (eI 40 k c X G).1 (Ji 40 c X G) (eI 40 k c X G).2 (sP n) s) ss
structure M0(K:PySem.W.Frag)(mg:Str->Option afX)(q:Str)(P:afR):Prop where
 tab:ka K q=some P
 code:∃c o vs file tf flags tg Zr text tt,PySem.W.tabIn K q=some (c,P)/\K.lookup c=some o/\o.cls= .type "code"/\o.data= .fields vs/\vs[11]? =some (.ref P)/\vs.getD 11 .none= .ref P/\vs.getD 18 .none= .str file tf/\
  vs.getD 7 .none= .int flags tg/\vs.getD 9 .none= .bool Zr/\vs.getD 10 .none= .int text tt/\c≠P
 mem:q∈dA
 uniq:∀q',q'∈dA->ka K q'=some P->q'=q
variable{f:afR}
theorem M0.at'{q:Str}{P:afR}{cdv:afX}(h:M0 X.K X.mg q P)(M:AU X.K X.mg X.base)(hn:PySem.W.nsIn X.K af7 q=some (some (.ref f)))(hc:Gn X.K f cdv)(e1:X.env.code=cdv)(e2:X.env.qual=q++".<locals>."):N0 X q P:=by
 obtain⟨c,o,vs,file,tf,flags,tg,Zr,text,tt,t,l,r⟩:=h.code;refine⟨⟨c,?_,o,vs,file,tf,flags,tg,Zr,text,tt,M.1.Nw _ _ l,r⟩,e2,h.tab,h.mem,h.uniq,M.2⟩
 ·obtain⟨of,lf,fd,d,cd⟩:=hc;rw[e1,<-cd];unfold PySem.W.tabIn at t;rw[hn]at t;dsimp only at t;rw[lf]at t;obtain⟨oc,od,da,sl⟩:=of;dsimp only at d;subst d;dsimp only at t;cases q1:fd.code with
  |ref c2=>
   rw[q1]at t;dsimp only at t;split at t
   ·split at t
    ·cases t;rfl
    ·cases t
   ·cases t
  |_=>rw[q1]at t;cases t
structure Bj(c:Ct)(k:Nat)(P:afV)(w:afY)(K:PySem.W.Frag)(mg:Str->Option afX)(base:Heap):Prop where
 lam:∀p L,c.lam=some (p,L)->L9 P w K mg base k p c.lp L
 IC:∀x F,c.IC.lookup x=some F->FnQ c.lp P w K mg k c.lj x F
 RU:∀x n F,c.fns.lookup x=some (n,F)->c.Zi.contains x=true->∀base,AU K mg base->fj P w K mg base c.lj x n F
 at':c.self∈dA->∃P,M0 K mg c.self P
 sk:c.sk<=k
 RV:∀x n F,c.fns.lookup x=some (n,F)->c.Zj.contains x=true->fj P w K mg base c.lj x n F
 ins:EG c.it k P w K mg base
theorem Bj.no(h1:c.lam=none)(h2:c.IC=[])(h3:c.Zi=[])(h4:c.self="")(h5:c.sk=0:=by rfl)(h6:c.Zj=[]:=by rfl)(h7:EG c.it k P w K mg base:=by exact EG.no):Bj c k P w K mg base :=
 ⟨(λp L e=>by rw[h1]at e;cases e),(λx F e=>by rw[h2]at e;cases e),(λx n F _ e=>by rw[h3]at e;cases e),(λe=>by rw[h4]at e;exact absurd e (by decide)),by rw[h5];exact bH _,(λx n F _ e=>by rw[h6]at e;cases e),h7⟩
structure yZ(c:Ct)(k:Nat)(P:afV)(w:afY)(K:PySem.W.Frag)(mg:Str->Option afX)(base:Heap):Prop where
 cst:∀x w,c.consts.lookup x=some w->CY K mg x w
 bl:∀x,c.bl.contains x=true->mg x=none
 fns:∀x n F,c.fns.lookup x=some (n,F)->fj P w K mg base k x n F
 tab:TabOk K c.tb c.tt c.tc
 cls:∀x,c.clss.contains x=true->∃C,mg x=some (.ref C)/\GD K x C
 A_:∀x,c.A_.contains x=true->∃C,mg x=some (.ref C)/\ClsAt K x C
 Ba:∀x kvs,c.Ba.lookup x=some kvs->ye K w mg x kvs
 Fd:∀x n F,c.Fd.contains x=true->c.fns.lookup x=some (n,F)->L0 P w K mg base k x n F
 x:Bj c k P w K mg base
variable{g:GS}{ps:List Str}{st:Stmt}
theorem aK(KX:K.In h)(NS:h.Ns af7 mg)(D:bu K x st)(T:yZ c k P w K mg base)
  (S:FnScope c.N ps (defScope st))(hn:(defScope st).names=c.names)(hg:bz 30 c (defBody st)=g)
  (hb:∀(kV doc pm:afX)(an:Option afR)(cdv ct:afX)(us:List afX),us.length=ps.length->bindArgs (PySem.W.fnOf x x (defArgs st) (defBody st) (defScope st) .none kV doc pm an cdv ct) ⟨us,[]⟩=pure (ps.zip us))(hM:c.self∈dA->AU K mg base/\c.self=x:=by exact λz=>absurd (show("":Str)∈dA from z) (by decide)):
  fj P w K mg base (k+1) x ps.length (cA c.N.length g):=by
 obtain⟨f,fd,a,F⟩:=D;refine⟨f,fd,ps,?_,PySem.W.mg_of KX NS a,F.kp,F.binds hb⟩;subst hg;refine NP F S λcdv Zs A outer s H E hr=>?_;refine sP (k:=k) 30 c _ ⟨rfl,hn,S.nd,CZ hr,λ_=>⟨hr,rfl⟩,λ_=>⟨rfl,M3⟩,T.cst,T.bl,T.fns,λ_=>⟨rfl,rfl,rfl⟩,λ_ _=>rfl,S.kind,T.tab,T.cls,T.A_,T.Ba,uZ.of hr,T.Fd,⟨T.x.lam,T.x.IC,T.x.RU,λ_ z=>?_,T.x.sk,T.x.RV,T.x.ins⟩,⟨_,_,_,rfl,rfl,rfl⟩,.inl hr.hd⟩ _;obtain⟨P',L⟩:=T.x.at' z;obtain⟨M,e⟩:=hM z;exact⟨P',M0.at' L M (by rw[e];exact a) Zs rfl (by rw[e];rfl)⟩
variable{F:List Wv->Hs->Re Wv}
theorem M4{fa:afR}(KX:K.In h)(NS:h.Ns af7 mg)(hmg:mg "law"=some (.ref fa))(D:bu K "law" st)
  (hp:∀(kV doc pm:afX)(an:Option afR)(cdv ct:afX)(s:afW)(u:afX),BindsTo s (PySem.W.fnOf "law" "law" (defArgs st) (defBody st) (defScope st) .none kV doc pm an cdv ct) ⟨[u],[]⟩ [("script",u)])
  (FN:∀(f:afR)(fd:afT),PL K "law" "law" st f fd->∀base:Heap,K.In base->base.Ns af7 mg->FnOk P w K mg base (CXJ P w) k f fd ["script"] (spW K 1 F)):
  ∃fd:afT,(∀(s:afW)(u:afX),BindsTo s fd ⟨[u],[]⟩ [("script",u)])/\∀base:Heap,K.In base->base.Ns af7 mg->FnOk P w K mg base (CXJ P w) k fa fd ["script"] (spW K 1 F):=by
 obtain⟨f,fd,a,Fu⟩:=D;have e:=hmg.symm.trans (PySem.W.mg_of KX NS a);cases e;refine⟨fd,λs u=>?_,FN fa fd Fu⟩;obtain⟨oc,od,kV,doc,pm,an,cdv,ct,osl,rfl,lk,hcd⟩:=Fu.ex;exact hp kV doc pm an cdv ct s u
variable{fd:afT}
theorem Se(F:PL K x x st f fd)(T:yZ c k P w K mg base)
  (S:FnScope c.N ps (defScope st))(hn:(defScope st).names=c.names)(hg:bz 30 c (defBody st)=g)(hs:c.self∉dA:=by exact(show("":Str)∉dA by decide)):FnOk P w K mg base (CXJ P w) (k+1) f fd ps (spW K ps.length (cA c.N.length g)):=by
 subst hg;refine NP F S λcdv _ A outer s H E hr=>?_;exact sP (k:=k) 30 c _ ⟨rfl,hn,S.nd,CZ hr,λ_=>⟨hr,rfl⟩,λ_=>⟨rfl,M3⟩,T.cst,T.bl,T.fns,λ_=>⟨rfl,rfl,rfl⟩,λ_ _=>rfl,S.kind,T.tab,T.cls,T.A_,T.Ba,uZ.of hr,T.Fd,⟨T.x.lam,T.x.IC,T.x.RU,λ_ z=>absurd z hs,T.x.sk,T.x.RV,T.x.ins⟩,⟨_,_,_,rfl,rfl,rfl⟩,.inl hr.hd⟩ _
def AllP{α:Type}(P:α->Prop):List α->Prop
 |[]=>True
 |a::l=>P a/\AllP P l
theorem AllP.look{κ β:Type}[BEq κ][LawfulBEq κ]{P:κ×β->Prop}:∀{l:List (κ×β)}{x:κ}{b:β},AllP P l->l.lookup x=some b->P (x,b)
 |[],_,_,_,h=>by cases h
 |(y,c)::l,x,b,a,h=>by
  rw[fD]at h;cases e:x == y with
  |true=>rw[e]at h;cases h;have e':=eq_of_beq e;subst e';exact a.1
  |false=>rw[e]at h;exact AllP.look a.2 h
theorem AllP.mem{P:Str->Prop}:∀{l:List Str}{x:Str},AllP P l->l.contains x=true->P x
 |[],_,_,h=>by cases h
 |y::l,x,a,h=>by
  rw[List.contains_cons,AA]at h;rcases h with e |h
  ·have e':=eq_of_beq e;subst e';exact a.1
  ·exact AllP.mem a.2 h
theorem ow{c:PySem.Str}{C:afR}(h:ClsAt K c C)(k:ClsAt K c D):C=D:=by unfold ClsAt at h k;rw[h]at k;cases k;rfl
theorem Sf(h:AllP (λp=>∃C D,ClsAt K p.1.1 C/\ClsAt K p.1.2 D/\xU K C/\PySem.W.kitOne K (.ref C) (.ref D)=some p.2) tb)
  (g:AllP (λp=>∃C,ClsAt K p.1.1 C/\xU K C/\PySem.W.kitOne K (.ref C) (.type p.1.2)=some p.2) tt)
  (f:AllP (λp=>∃C D,ClsAt K p.1.1 C/\ClsAt K p.1.2 D/\PySem.W.excIn K C AF AG=true/\PySem.W.excIn K D AF AG=true/\PySem.W.mroIn K C (.ref D)=some p.2) tc):TabOk K tb tt tc :=
 ⟨λc d b C D e hC hD=>by
  obtain⟨C',D',q1,q2,r⟩:=AllP.look h e;cases ow hC q1;cases ow hD q2;exact r,λc d b C D e hC hD=>by
  obtain⟨C',D',q1,q2,r⟩:=AllP.look f e;cases ow hC q1;cases ow hD q2;exact r,λc T b C e hC=>by
  obtain⟨C',q1,r⟩:=AllP.look g e;cases ow hC q1;exact r⟩
theorem aB(hc:AllP (λp=>CY K mg p.1 p.2) c.consts)(hb:AllP (λx=>mg x=none) c.bl)(hf:AllP (λp=>fj P w K mg base k p.1 p.2.1 p.2.2) c.fns)
  (ht:TabOk K c.tb c.tt c.tc)(hk:AllP (λx=>∃C,mg x=some (.ref C)/\GD K x C) c.clss)(hn:AllP (λx=>∃C,mg x=some (.ref C)/\ClsAt K x C) c.A_)(hd:AllP (λp=>ye K w mg p.1 p.2) c.Ba)
  (hu:AllP (λx=>∀n F,c.fns.lookup x=some (n,F)->L0 P w K mg base k x n F) c.Fd:=by exact trivial)(hx:Bj c k P w K mg base:=by exact Bj.no rfl rfl rfl rfl):yZ c k P w K mg base :=
 ⟨λ_ _ h=>hc.look h,λ_ h=>hb.mem h,λx n F h=>hf.look (b:=(n,F)) h,ht,λ_ h=>hk.mem h,λ_ h=>hn.mem h,λx kvs h=>hd.look (b:=kvs) h,λx n F h k=>hu.mem h n F k,hx⟩
def Rs.sq(r:Rs)(h:GS):Rs:=match r with
 |.nx ρ st=>h ρ st
 |r=>r
variable{l:Nat}{v x:Wv}{b:Bool}{j:Int}{gr:GA}
section
variable {α β:Type}{ρ ρ':bX}{st:Hs}{h g ga' gb':GS}{ga gb gc:GE}{gt gu:GT}{w:Wv}{c:PySem.Str}{f:α->Hs->Re β}{k:α->Hs->Rs}{a:α}{i:Nat}
@[simp] theorem acj:(Rs.nx ρ st).sq h=h ρ st:=rfl
@[simp] theorem ack:(Rs.rt w st).sq h= .rt w st:=rfl
@[simp] theorem acm:(Rs.bk ρ st).sq h= .bk ρ st:=rfl
@[simp] theorem acn:(Rs.ct ρ st).sq h= .ct ρ st:=rfl
@[simp] theorem Zt:(Rs.err c ρ st).sq h= .err c ρ st:=rfl
@[simp] theorem Zu:Rs.bad.sq h= .bad:=rfl
@[simp] theorem M5:(Re.ok a st).bind f=f a st:=rfl
@[simp] theorem V_:(Re.err c st).bind f= .err c st:=rfl
@[simp] theorem V':(Re.bad:Re α).bind f= .bad:=rfl
@[simp] theorem Sg:(Re.ok a st).bR ρ k=k a st:=rfl
@[simp] theorem Xd:(Re.err c st:Re α).bR ρ k= .err c ρ st:=rfl
@[simp] theorem Sh:(Re.ok a st).oE= .ok a st:=rfl
@[simp] theorem Xe:(Re.bad:Re α).oE= .bad:=rfl
@[simp] theorem Xf:(Re.bad:Re α).bR ρ k= .bad:=rfl
@[simp] theorem aco:aO g h ρ st=(g ρ st).sq h:=by unfold aO Rs.sq;cases g ρ st<;>rfl
@[simp] theorem e_next:bD ρ st= .nx ρ st:=rfl
@[simp] theorem acp:a8 ga ρ st=(ga ρ st).bR ρ λw st'=> .rt w st':=rfl
@[simp] theorem e_expr:mQ ga ρ st=(ga ρ st).bR ρ λ_ st'=> .nx ρ st':=rfl
@[simp] theorem acq:bS i ga ρ st=(ga ρ st).bR ρ λw st'=> .nx (ρ.set i (some w)) st':=rfl
def Zv(ga gb:GS)(ρ:bX):Bool->Hs->Rs:=λb st'=>if b=true then ga ρ st' else gb ρ st'
@[simp] theorem acr:Zv g h ρ true st=g ρ st:=rfl
@[simp] theorem acs:Zv g h ρ false st=h ρ st:=rfl
@[simp] theorem aev:iB gt g h ρ st=(gt ρ st).bR ρ (Zv g h ρ):=rfl
def rdV(o:Option (Option Wv))(st:Hs):Re Wv:=match o with
 |some (some w)=> .ok w st
 |_=> .bad
@[simp] theorem Wa:rdV (some (some w)) st= .ok w st:=rfl
@[simp] theorem Wb:af i ρ st=rdV ρ[i]? st:=rfl
@[simp] theorem e_c:gC w ρ st= .ok w st:=rfl
def kB(op:fX)(gb:GE)(ρ:bX):Wv->Hs->Re Wv:=λx st1=>(gb ρ st1).bind λy st2=>(op x y st2).oE
@[simp] theorem aew{op:fX}:kB op gb ρ x st=(gb ρ st).bind λy st2=>(op x y st2).oE:=rfl
@[simp] theorem acv{op:fX}:ah op ga gb ρ st=(ga ρ st).bind (kB op gb ρ):=rfl
@[simp] theorem acw:b_ ga ρ st=(ga ρ st).bind NG:=rfl
@[simp] theorem acx:NG (.bl b) st= .ok b st:=rfl
@[simp] theorem acy:ll ga ρ st=(ga ρ st).bind Qq:=rfl
@[simp] theorem Zw:Qq (.bl b) st= .ok b st:=rfl
@[simp] theorem acz:oM gt ρ st=(gt ρ st).bind λb st1=> .ok (!b) st1:=rfl
def Si(gb:GT)(ρ:bX):Bool->Hs->Re Bool:=λb st1=>if b=true then gb ρ st1 else .ok false st1
@[simp] theorem Zx:Si gu ρ true st=gu ρ st:=rfl
@[simp] theorem Zy:Si gu ρ false st= .ok false st:=rfl
@[simp] theorem acA:F6 gt gu ρ st=(gt ρ st).bind (Si gu ρ):=rfl
def Zz(gb:GT)(ρ:bX):Bool->Hs->Re Bool:=λb st1=>if b=true then .ok true st1 else gb ρ st1
@[simp] theorem acB:Zz gu ρ true st= .ok true st:=rfl
@[simp] theorem acC:Zz gu ρ false st=gu ρ st:=rfl
@[simp] theorem aex:F7 gt gu ρ st=(gt ρ st).bind (Zz gu ρ):=rfl
def Jl(gb:GE)(ρ:bX):Wv->Hs->Re Wv:=λw st1=>match w with
 |.bl true=>gb ρ st1
 |.bl false=> .ok (.bl false) st1
 |_=> .bad
@[simp] theorem Xg:Jl gb ρ (.bl true) st=gb ρ st:=rfl
@[simp] theorem Xh:Jl gb ρ (.bl false) st= .ok (.bl false) st:=rfl
@[simp] theorem ZA:iA ga gb ρ st=(ga ρ st).bind (Jl gb ρ):=rfl
def Sj(gb:GE)(ρ:bX):Wv->Hs->Re Wv:=λw st1=>match w with
 |.bl true=> .ok (.bl true) st1
 |.bl false=>gb ρ st1
 |_=> .bad
@[simp] theorem ZE:Sj gb ρ (.bl true) st= .ok (.bl true) st:=rfl
@[simp] theorem ZF:Sj gb ρ (.bl false) st=gb ρ st:=rfl
@[simp] theorem acD:xI ga gb ρ st=(ga ρ st).bind (Sj gb ρ):=rfl
def Oo:Wv->Hs->Re Wv:=λw st1=>match w with
 |.bl b=> .ok (.bl (!b)) st1
 |_=> .bad
@[simp] theorem Xi:Oo (.bl b) st= .ok (.bl (!b)) st:=rfl
@[simp] theorem ZG:B0 ga ρ st=(ga ρ st).bind Oo:=rfl
def Sk(ga gb:GE)(ρ:bX):Bool->Hs->Re Wv:=λb st1=>if b=true then ga ρ st1 else gb ρ st1
@[simp] theorem ZH:Sk ga gb ρ true st=ga ρ st:=rfl
@[simp] theorem ZI:Sk ga gb ρ false st=gb ρ st:=rfl
@[simp] theorem acE:Lc gt ga gb ρ st=(gt ρ st).bind (Sk ga gb ρ):=rfl
@[simp] theorem acF:aj ρ st= .ok [] st:=rfl
def Oq(gr:GA)(ρ:bX):Wv->Hs->Re (List Wv):=λx st1=>(gr ρ st1).bind λxs st2=> .ok (x::xs) st2
@[simp] theorem Xj:Oq gr ρ x st=(gr ρ st).bind λxs st2=> .ok (x::xs) st2:=rfl
@[simp] theorem ZJ:aa ga gr ρ st=(ga ρ st).bind (Oq gr ρ):=rfl
def Bk:List Wv->Hs->Re Wv:=λws st1=>if ws.length<=lim then .ok (.tup ws) st1 else .bad
theorem sQ(hl:ws.length<=lim):Bk ws st= .ok (.tup ws) st:=if_pos hl
@[simp] theorem acG:cU gr ρ st=(gr ρ st).bind Bk:=rfl
def Bl:List Wv->Hs->Re Wv:=λws st1=>if ws.length<=lim then .ok (.ref st1.length) (st1++[.lst ws])else .bad
theorem sS(hl:ws.length<=lim):Bl ws st= .ok (.ref st.length) (st++[.lst ws]):=if_pos hl
@[simp] theorem acH:jm gr ρ st=(gr ρ st).bind Bl:=rfl
section
variable {x x0 x1 x2 x3 x4 x5 x6 x7:Wv}
@[simp] theorem ZK:Bk [] st= .ok (.tup []) st:=sQ (by simp[lim])
@[simp] theorem ZL:Bk [x0] st= .ok (.tup [x0]) st:=sQ (by simp[lim])
@[simp] theorem ZM:Bk [x0,x1] st= .ok (.tup [x0,x1]) st:=sQ (by simp[lim])
@[simp] theorem ZN:Bk [x0,x1,x2] st= .ok (.tup [x0,x1,x2]) st:=sQ (by simp[lim])
@[simp] theorem ZO:Bk [x0,x1,x2,x3] st= .ok (.tup [x0,x1,x2,x3]) st:=sQ (by simp[lim])
@[simp] theorem ZP:Bl [] st= .ok (.ref st.length) (st++[.lst []]):=sS (by simp[lim])
@[simp] theorem ZQ:Bl [x0] st= .ok (.ref st.length) (st++[.lst [x0]]):=sS (by simp[lim])
@[simp] theorem ZR:Bl [x0,x1] st= .ok (.ref st.length) (st++[.lst [x0,x1]]):=sS (by simp[lim])
@[simp] theorem ZS:Bl [x0,x1,x2,x3] st= .ok (.ref st.length) (st++[.lst [x0,x1,x2,x3]]):=sS (by simp[lim])
@[simp] theorem ZT:Bl [x0,x1,x2,x3,x4,x5,x6] st= .ok (.ref st.length) (st++[.lst [x0,x1,x2,x3,x4,x5,x6]]):=sS (by simp[lim])
end
def vh(n:Nat)(F:List Wv->Hs->Re Wv):List Wv->Hs->Re Wv:=λws st1=>if ws.length=n then F ws st1 else .bad
section
variable {F:List Wv->Hs->Re Wv}{x0 x1 x2 x3:Wv}{gr:GA}
@[simp] theorem Xk:vh 1 F [x0] st=F [x0] st:=rfl
@[simp] theorem Xl:vh 2 F [x0,x1] st=F [x0,x1] st:=rfl
@[simp] theorem Xm:vh 3 F [x0,x1,x2] st=F [x0,x1,x2] st:=rfl
@[simp] theorem Xn:vh 4 F [x0,x1,x2,x3] st=F [x0,x1,x2,x3] st:=rfl
@[simp] theorem ZU:au n F gr ρ st=(gr ρ st).bind (vh n F):=rfl
@[simp] theorem Xo:aY op gr ρ st=(gr ρ st).bind λws st1=>(op ws st1).oE:=rfl
end
@[simp] theorem acI{i:Int}:F5 (.int i) st= .ok (.int (-i)) st:=rfl
@[simp] theorem acJ{i:Int}:cV (.int i) (.int j) st= .ok (.int (i+j)) st:=rfl
@[simp] theorem acK{i:Int}:jM (.int i) (.int j) st= .ok (.int (i - j)) st:=rfl
@[simp] theorem aey{i:Int}:oLt (.int i) (.int j) st= .ok (.bl (decide (i < j))) st:=rfl
@[simp] theorem aez{i:Int}:oLe (.int i) (.int j) st= .ok (.bl (decide (i<=j))) st:=rfl
@[simp] theorem aeA{i:Int}:Qe (.int i) (.int j) st= .ok (.bl (decide (j < i))) st:=rfl
@[simp] theorem aeB{i:Int}:oGe (.int i) (.int j) st= .ok (.bl (decide (j<=i))) st:=rfl
@[simp] theorem aeC{i:Int}:oEq (.int i) (.int j) st= .ok (.bl (i == j)) st:=rfl
@[simp] theorem aeD{i:Int}:vP (.int i) (.int j) st= .ok (.bl (!(i == j))) st:=rfl
@[simp] theorem aeE{i j:PySem.Str}:oEq (.str i) (.str j) st= .ok (.bl (i == j)) st:=rfl
@[simp] theorem aeF{i j:PySem.Str}:vP (.str i) (.str j) st= .ok (.bl (!(i == j))) st:=rfl
@[simp] theorem aeG{i j:Bool}:oEq (.bl i) (.bl j) st= .ok (.bl (i == j)) st:=by cases i<;>cases j<;>rfl
@[simp] theorem aeH{i j:Bool}:vP (.bl i) (.bl j) st= .ok (.bl (!(i == j))) st:=by cases i<;>cases j<;>rfl
theorem sT{i:Int}(h:j≠0/\j.natAbs.log2 < 9000):i7 (.int i) (.int j) st= .ok (.int (i.fdiv j)) st:=by show(if _ then _ else _)=_;rw[if_pos h]
theorem y6{i:Int}(h:j≠0):oMod (.int i) (.int j) st= .ok (.int (i.fmod j)) st:=by show(if _ then _ else _)=_;rw[if_pos h]
theorem Jm{i:Int}(h:IntMulOk i j):eG (.int i) (.int j) st= .ok (.int (i * j)) st:=by show(if _ then _ else _)=_;rw[if_pos h]
theorem De{i:Int}(h1:-(2 ^ 64) < i)(h2:i < 2 ^ 64):eG (.int i) (.int j) st= .ok (.int (i * j)) st:=Jm (IntMulOk.of_left (intBits_le_64 h1 h2))
theorem mul_r{i:Int}(h1:-(2 ^ 64) < j)(h2:j < 2 ^ 64):eG (.int i) (.int j) st= .ok (.int (i * j)) st:=Jm (IntMulOk.of_right (intBits_le_64 h1 h2))
theorem Ot{i:Int}(h:0<=j/\j<=1000000/\i.natAbs < 2 ^ 64):rn (.int i) (.int j) st= .ok (.int (i ^ j.toNat)) st:=by show(if _ then _ else _)=_;rw[if_pos h]
theorem Bm{i:Int}(h:ao st l=some ws)(h2:pW ws i=some v):aQ (.ref l) (.int i) st= .ok v st:=by
 show(match ao st l with |some ws=>(match pW ws i with |some w=>Re.ok w st |none=> .bad) |none=> .bad)=_
 rw[h];dsimp only;rw[h2]
theorem add_l{k:Nat}{xs ys:List Wv}(h1:ao st l=some xs)(h2:ao st k=some ys)(hl:xs.length+ys.length<=lim):cV (.ref l) (.ref k) st= .ok (.ref st.length) (st++[.lst (xs++ys)]):=by
 show(match ao st l,ao st k with |some i,some j=>if i.length+j.length<=lim then Re.ok (Wv.ref st.length) (st++[Ob.lst (i++j)])else .bad |_,_=> .bad)=_
 rw[h1,h2];exact if_pos hl
theorem y9{i:Int}(h2:pW ws i=some v):aQ (.tup ws) (.int i) st= .ok v st:=by
 show(match pW ws i with |some w=>Re.ok w st |none=> .bad)=_
 rw[h2]
end
variable{w:Wv}{st st':Hs}
theorem vi(h:g (ws.map some++ay (n - ws.length) none) st= .rt w st'):cA n g ws st= .ok w st':=by unfold cA;rw[h]
variable{y:Wv}{op':fX}{gd:GE}{gs:GS}
section
variable {ρ:bX}{st:Hs}{ga gb gc:GE}{gl gh:GO}
def kSl(gl gh:GO)(ρ:bX):Wv->Hs->Re Wv:=λx st1=>(gl ρ st1).bind λlo st2=>(gh ρ st2).bind λhi st3=>yc x lo hi st3
@[simp] theorem Xp:hG ga gl gh ρ st=(ga ρ st).bind (kSl gl gh ρ):=rfl
@[simp] theorem acM:kSl gl gh ρ x st=(gl ρ st).bind λlo st2=>(gh ρ st2).bind λhi st3=>yc x lo hi st3:=rfl
@[simp] theorem Wc:i8 ρ st= .ok none st:=rfl
def Ou:Wv->Hs->Re (Option Int):=λw st1=>match w with
 |.int i=> .ok (some i) st1
 |_=> .bad
@[simp] theorem ZV:pL ga ρ st=(ga ρ st).bind Ou:=rfl
@[simp] theorem Xq{i:Int}:Ou (.int i) st= .ok (some i) st:=rfl
theorem Jn(h:ao st l=some ws):mK [.ref l] st= .ok (.int ws.length) st:=by
 show(match ao st l with |some ws=>Re.ok (Wv.int ws.length) st |none=> .bad)=_
 rw[h]
def Jo(op':fX)(gc:GE)(y:Wv)(ρ:bX):Wv->Hs->Re Wv:=λz st3=>match z with
 |.bl true=>(gc ρ st3).bind λu BZ=>(op' y u BZ).oE
 |.bl false=> .ok (.bl false) st3
 |_=> .bad
@[simp] theorem ZW:Jo op' gc y ρ (.bl true) st=(gc ρ st).bind λu BZ=>(op' y u BZ).oE:=rfl
@[simp] theorem ZX:Jo op' gc y ρ (.bl false) st= .ok (.bl false) st:=rfl
@[simp] theorem Xr{op:fX}:lh op op' ga gb gc ρ st=(ga ρ st).bind λx st1=>(gb ρ st1).bind λy st2=>(op x y st2).oE.bind (Jo op' gc y ρ):=rfl
def Wd(op' ES:fX)(gc gd:GE)(y:Wv)(ρ:bX):Wv->Hs->Re Wv:=λz st3=>match z with
 |.bl true=>(gc ρ st3).bind λu BZ=>(op' y u BZ).oE.bind (Jo ES gd u ρ)
 |.bl false=> .ok (.bl false) st3
 |_=> .bad
@[simp] theorem ZY{ES:fX}:Wd op' ES gc gd y ρ (.bl true) st=(gc ρ st).bind λu BZ=>(op' y u BZ).oE.bind (Jo ES gd u ρ):=rfl
@[simp] theorem ZZ{ES:fX}:Wd op' ES gc gd y ρ (.bl false) st= .ok (.bl false) st:=rfl
def y_(cat:PySem.Str->Option Bool)(gs:GS)(r:Rs):Rs:=match r with
 |.err c ρ' st'=>(match cat c with
  |some true=>(match gs ρ' st' with
   |.nx ρ2 st2=> .nx ρ2 st2
   |.rt w st2=> .rt w st2
   |_=> .bad)
  |_=> .bad)
 |r=>r
@[simp] theorem Z_{cat:PySem.Str->Option Bool}:u4 cat g gs ρ st=y_ cat gs (g ρ st):=by unfold u4 y_;cases g ρ st<;>rfl
@[simp] theorem We{cat:PySem.Str->Option Bool}:y_ cat gs (.nx ρ st)= .nx ρ st:=rfl
@[simp] theorem Wf{cat:PySem.Str->Option Bool}:y_ cat gs (.rt w st)= .rt w st:=rfl
end
theorem fm:ao (st++[.lst ws]) st.length=some ws:=by unfold ao;simp
theorem zc(h:ao st l=some ws):l < st.length:=by
 unfold ao at h;cases e:st[l]? with
 |none=>rw[e]at h;cases h
 |some o=>exact(List.getElem?_eq_some_iff.mp e).1
def cY(l:Nat)(st st':Hs):Prop:=st.length<=st'.length/\∀k,k < st.length->k≠l->st'[k]? =st[k]?
theorem cY.refl:cY l st st:=⟨ar _,λ_ _ _=>rfl⟩
theorem cY.trans{a b c:Hs}(h:cY l a b)(k:cY l b c):cY l a c:=⟨bZ h.1 k.1,λj h1 h2=>(k.2 j (bT h1 h.1) h2).trans (h.2 j h1 h2)⟩
variable{o:Ob}
theorem cY.push:cY l st (st++[o]):=⟨by simp,λk h _=>dM h⟩
theorem cY.set:cY l st (st.set l o):=⟨by simp,λk _ h=>b9 (λz=>h z.symm)⟩
theorem cY.lst(k:cY l st st'){j:Nat}(h:ao st j=some ws)(hj:j≠l):ao st' j=some ws:=by unfold ao at h ⊢;rw[k.2 j (zc (st:=st) (ws:=ws) (by unfold ao;exact h)) hj];exact h
variable{ρ:bX}
@[simp] theorem Xs:rD i ga gb ρ st=(ga ρ st).bR ρ λws st1=>match ws with
 |[.int j]=>if cW j then c_ i gb (cg 0 j.toNat) ρ st1 else .bad
 |_=> .bad:=rfl
@[simp] theorem Xt:rE i ga gb ρ st=(ga ρ st).bR ρ λws st1=>match two ws with
 |some (a,j)=>if cW a/\cW j then c_ i gb (cg a (j - a).toNat) ρ st1 else .bad
 |none=> .bad:=rfl
@[simp] theorem Xu{c:PySem.Str}:m6 c ga ρ st=(ga ρ st).bR ρ λws st1=>if ws.length<=lim then .err c ρ st1 else .bad:=rfl
def Ov(mt:Wv->Wv->Hs->Re Wv)(ga:GE)(ρ:bX):Wv->Hs->Re Wv:=λo st1=>match o with
 |.ref l=>(match ao st1 l with
  |some _=>(ga ρ st1).bind λv st2=>(mt o v st2).oE
  |none=> .bad)
 |_=> .bad
variable{ga:GE}{mt:Wv->Wv->Hs->Re Wv}
@[simp] theorem Sl{go:GE}:uP mt go ga ρ st=(go ρ st).bind (Ov mt ga ρ):=rfl
theorem Df(h:ao st l=some ws):Ov mt ga ρ (.ref l) st=(ga ρ st).bind λv st2=>(mt (.ref l) v st2).oE:=by
 show(match ao st l with |some _=>(ga ρ st).bind λv st2=>(mt (.ref l) v st2).oE |none=> .bad)=_
 rw[h]
theorem sU(h:st[l]? =some (.lst ws))(hl:ws.length < lim):pY (.ref l) v st= .ok .bK (st.set l (.lst (ws++[v]))):=by
 show(match st[l]? with |some (.lst ws)=>if ws.length < lim then Re.ok Wv.bK (st.set l (.lst (ws++[v])))else .bad |_=> .bad)=_
 rw[h];exact if_pos hl
def kFor(i:Nat)(gb:GS)(ρ:bX):Wv->Hs->Rs:=λw st1=>match w with
 |.ref l=>(match ao st1 l with |some ws=>forL i gb l ws ws ρ st1 |none=> .bad)
 |.tup ws=>c_ i gb ws ρ st1
 |.iY ws=>c_ i gb ws ρ st1
 |_=> .bad
@[simp] theorem acN:rC i ga gb ρ st=(ga ρ st).bR ρ (kFor i gb ρ):=rfl
theorem Bn(h:ao st l=some ws):kFor i gb ρ (.ref l) st=forL i gb l ws ws ρ st:=by
 show(match ao st l with |some ws=>forL i gb l ws ws ρ st |none=> .bad)=_
 rw[h]
@[simp] theorem Z':kFor i gb ρ (.tup ws) st=c_ i gb ws ρ st:=rfl
theorem Dg{i:Nat}{gb:GS}(P:Nat->bX->Hs->Prop):∀(ws:List Wv)(k:Nat)(ρ:bX)(st:Hs),P k ρ st->
  (∀(j:Nat)(w:Wv),ws[j]? =some w->∀ρ st,P (k+j) ρ st->∃ρ' st',gb (ρ.set i (some w)) st= .nx ρ' st'/\P (k+j+1) ρ' st')->∃ρ' st',c_ i gb ws ρ st= .nx ρ' st'/\P (k+ws.length) ρ' st'
 |[],k,ρ,st,h,_=>⟨ρ,st,rfl,h⟩
 |w::r,k,ρ,st,h,step=>by
  obtain⟨ρ1,st1,e1,p1⟩:=step 0 w rfl ρ st h;obtain⟨ρ2,st2,e2,p2⟩:=Dg P r (k+1) ρ1 st1 p1 λj w hw ρ st hp=>by
   have e:k+(j+1)=k+1+j:=by omega
   have q:=step (j+1) w hw ρ st (by rw[e];exact hp);rw[e]at q;exact q
  refine⟨ρ2,st2,?_,?_⟩
  ·unfold c_;rw[e1];exact e2
  ·have e:k+(w::r).length=k+1+r.length:=by simp;omega
   rw[e];exact p2
theorem sV{i:Nat}{gb:GS}(P:bX->Hs->Prop):∀(ws:List Wv)(ρ:bX)(st:Hs),P ρ st->
  (∀w∈ws,∀ρ st,P ρ st->∃ρ' st',gb (ρ.set i (some w)) st= .nx ρ' st'/\P ρ' st')->∃ρ' st',c_ i gb ws ρ st= .nx ρ' st'/\P ρ' st'
 |[],ρ,st,h,_=>⟨ρ,st,rfl,h⟩
 |w::r,ρ,st,h,step=>by obtain⟨ρ1,st1,e1,p1⟩:=step w ax ρ st h;obtain⟨ρ2,st2,e2,p2⟩:=sV P r ρ1 st1 p1 λw hw=>step w (av _ hw);refine⟨ρ2,st2,?_,p2⟩;unfold c_;rw[e1];exact e2
variable{i:Int}
@[simp] theorem aaa:Vi [.int i] st=Vh [.int i] st:=rfl
variable{gt:GT}{ge:GE}
@[simp] theorem aab{gi:GI}:iD cs gi gt ge ρ st=(gi ρ st).bind (cZ cs gt ge ρ):=rfl
@[simp] theorem Xv{g:GE}:iE g ρ st=(g ρ st).bind yd:=rfl
variable{g:GA}
@[simp] theorem aac:D4 g ρ st=(g ρ st).bind rL:=rfl
@[simp] theorem aad:G0 g ρ st=(g ρ st).bind Cb:=rfl
@[simp] theorem aae:YX g ρ st=(g ρ st).bind N2:=rfl
theorem Bo(h:cW j):rL [.int j] st= .ok (none,cg 0 j.toNat) st:=if_pos h
theorem Sn(h:cW i)(k:cW j):Cb [.int i,.int j] st= .ok (none,cg i (j - i).toNat) st:=if_pos ⟨h,k⟩
@[simp] theorem aaf{z:PySem.Str}:yd (.str z) st= .ok (none,jo z) st:=rfl
@[simp] theorem aag:yd (.tup ws) st= .ok (none,ws) st:=rfl
theorem M6{acc:List Wv}(h:acc.length < lim):pY (.ref st.length) v (st++[.lst acc])= .ok .bK (st++[.lst (acc++[v])]):=by
 rw[sU (ws:=acc) (by simp) h]
 congr 1
 simp
theorem nh{w:Wk}{gt:Wv->Hs->Re Bool}{ge:Wv->Hs->Re Wv}{st:Hs}{t:Wv->Bool}{f:Wv->Wv}(ck:jn w st):∀(ws acc:List Wv),(∀v∈ws,∀acc,gt v (st++[.lst acc])= .ok (t v) (st++[.lst acc]))->
  (∀v∈ws,t v=true->∀acc,ge v (st++[.lst acc])= .ok (f v) (st++[.lst acc]))->acc.length+ws.length < lim->iC (jn w) gt ge st.length ws (st++[.lst acc])=some (st++[.lst (acc++(ws.filter t).map f)])
 |[],acc,_,_,_=>by simp[iC]
 |v::r,acc,h1,h2,hl=>by
  have hl':acc.length+(r.length+1) < lim:=hl;unfold iC;rw[h1 v ax acc];cases e:t v with
  |false=>dsimp only;rw[if_pos (rM ck),nh ck r acc (λv hv=>h1 v (av _ hv)) (λv hv=>h2 v (av _ hv)) (by omega),GL (by simp[e])]
  |true=>dsimp only;rw[h2 v ax e acc];dsimp only;rw[M6 (by omega)];dsimp only;rw[if_pos (rM ck),nh ck r (acc++[f v]) (λv hv=>h1 v (av _ hv)) (λv hv=>h2 v (av _ hv)) (by simp;omega),GK e];simp
theorem mE{w:Wk}{t:Wv->Bool}{f:Wv->Wv}(ck:jn w st)(h1:∀v∈w.2,∀acc,gt (some v::cX cs ρ) (st++[.lst acc])= .ok (t v) (st++[.lst acc]))
  (h2:∀v∈w.2,t v=true->∀acc,ge (some v::cX cs ρ) (st++[.lst acc])= .ok (f v) (st++[.lst acc]))(hl:w.2.length < lim):cZ cs gt ge ρ w st= .ok (.ref st.length) (st++[.lst ((w.2.filter t).map f)]):=by
 unfold cZ;rw[nh ck w.2 [] h1 h2 (by simpa using hl)];simp
theorem zd{ws:List α}{d:Int}(h0:0<=d)(h1:d < ws.length):∃v,L2.pW ws d=some v/\v∈ws:=by
 have hk:d.toNat < ws.length:=by omega
 have ek:d=((d.toNat:Nat):Int):=by omega
 refine⟨ws[d.toNat],?_,Cj hk⟩;have q:=L2.iX (bh hk);rw[<-ek]at q;exact q
theorem eW{o':Ob}(h:st[l]? =some o):(st.set l o')[l]? =some o':=l3 (List.getElem?_eq_some_iff.mp h).1
theorem Jp{o':Ob}(h:st[l]? =some o):(st++[o'])[l]? =some o:=by rw[dM (List.getElem?_eq_some_iff.mp h).1];exact h
theorem c7(h:st[l]? =some (.lst ws)):ao st l=some ws:=by unfold ao;rw[h]
theorem iH(h:st[l]? =some o):l < st.length:=(List.getElem?_eq_some_iff.mp h).1
theorem ja:(st++[o])[st.length]? =some o:=by simp
@[simp] theorem acO:Yq [.int i] st= .ok (.int (if i < 0 then -i else i)) st:=rfl
@[simp] theorem Wg{ns:List Int}(h:ao st l=some (ns.map Wv.int)):G6 [.ref l] st= .ok (.int ns.sum) st:=by
 show(match ao st l with |some ws=>(match intsOf ws with |some ns=>Re.ok (Wv.int ns.sum) st |none=> .bad) |none=> .bad)=_
 rw[h];dsimp only;rw[rP]
theorem wO{lo:Int}(h:w∈cg lo n):∃k:Int,w= .int k/\lo<=k/\k < lo+n:=by unfold cg at h;obtain⟨k,hk,rfl⟩:=List.mem_map.mp h;have:=List.mem_range.mp hk;exact⟨lo+k,rfl,by omega,by omega⟩
theorem Bp(h1:-1000000<=i)(h2:i<=1000000):cW i:=⟨by omega,by omega⟩
@[simp] theorem Xw:vh 0 F [] st=F [] st:=rfl
theorem pf{w:Wk}{gt:Wv->Hs->Re Bool}{ge:Wv->Hs->Re Wv}{rr:Nat}(P:Hs->Prop)(E:Wv->Prop)(hP:∀st acc,P st->P (st.set rr (.lst acc)))(hck:∀st,P st->jn w st):
  ∀(ws:List Wv),(∀v∈ws,∀st acc,P st->st[rr]? =some (.lst acc)->∃st1,gt v st= .ok true st1/\P st1/\st1[rr]? =some (.lst acc)/\∃u st2,ge v st1= .ok u st2/\E u/\P st2/\st2[rr]? =some (.lst acc))->
   ∀(acc:List Wv)(st:Hs),P st->st[rr]? =some (.lst acc)->acc.length+ws.length < lim->(∀a∈acc,E a)->∃st' acc',iC (jn w) gt ge rr ws st=some st'/\P st'/\st'[rr]? =some (.lst acc')/\(∀a∈acc',E a)/\acc'.length=acc.length+ws.length
 |[],_,acc,st,hp,hg,_,ha=>⟨st,acc,rfl,hp,hg,ha,rfl⟩
 |v::r,step,acc,st,hp,hg,hl,ha=>by
  obtain⟨st1,e1,p1,g1,u,st2,e2,hu,p2,g2⟩:=step v ax st acc hp hg;have hl':acc.length+(r.length+1) < lim:=hl;obtain⟨st3,aah,f1,f2,f3,f4,f5⟩:=pf P E hP hck r (λv hv=>step v (av _ hv)) (acc++[u]) (st2.set rr (.lst (acc++[u]))) (hP _ _ p2) (eW g2) (by simp;omega) (by
   intro a h;rcases List.mem_append.mp h with z |z
   ·exact ha a z
   ·simp at z;rw[z];exact hu)
  refine⟨st3,aah,?_,f2,f3,f4,?_⟩
  ·unfold iC;rw[e1];dsimp only;rw[e2];dsimp only;rw[sU g2 (by omega)];dsimp only;rw[if_pos (hck _ (hP _ _ p2)),f1]
  ·rw[f5];simp;omega
def Gr(st st':Hs):Prop:=st.length<=st'.length/\∀k,k < st.length->st'[k]? =st[k]?
theorem Gr.refl:Gr st st:=⟨ar _,λ_ _=>rfl⟩
theorem Gr.trans{a b c:Hs}(h:Gr a b)(k:Gr b c):Gr a c:=⟨bZ h.1 k.1,λj h1=>(k.2 j (bT h1 h.1)).trans (h.2 j h1)⟩
theorem Gr.push:Gr st (st++[o]):=⟨by simp,λk h=>dM h⟩
theorem Gr.app{xs:Hs}:Gr st (st++xs):=⟨by simp,λk h=>dM h⟩
variable{j:Nat}
theorem Gr.lst(k:Gr st st')(h:ao st j=some ws):ao st' j=some ws:=by unfold ao at h ⊢;rw[k.2 j (zc (st:=st) (ws:=ws) (by unfold ao;exact h))];exact h
theorem Gr.get(k:Gr st st')(h:st[j]? =some o):st'[j]? =some o:=by rw[k.2 j (iH h)];exact h
theorem Gr.keep(k:Gr st st'):cY l st st':=⟨k.1,λj h _=>k.2 j h⟩
theorem Gr.nj{s1 s2:Hs}(h:st.length<=l)(g:Gr st s1)(k:cY l s1 s2):Gr st s2:=⟨bZ g.1 k.1,λj h1=>(k.2 j (bT h1 g.1) (by omega)).trans (g.2 j h1)⟩
theorem So{d:PyData}(h1:a_ st 20 x=some d)(h2:a_ st 20 y=some d)(h:bI d d=true):vP x y st= .ok (.bl false) st:=by unfold vP;rw[h1,h2];show Re.ok (Wv.bl (!PyData.eqv d d)) st=_;rw[h];rfl
theorem Jq(h:ao st l=some ws):a_ st (n+1) (.ref l)=(dD (a_ st n) ws).map qt:=by
 show(match ao st l with |some ws=>(dD (a_ st n) ws).map qt |none=>none)=_
 rw[h]
@[simp] theorem acP{j:Int}:uT [.int i,.int j] st= .ok (.int (if j > i then j else i)) st:=rfl
@[simp] theorem acQ{j:Int}:ya [.int i,.int j] st= .ok (.int (if j < i then j else i)) st:=rfl
open PySem L2
theorem tb_none(h1:PySem.W.nsIn K af7 "form_of"=some none)(h2:PySem.W.nsIn K af7 "formula_by"=some none)(h3:PySem.W.nsIn K af7 "turned"=some none)(h4:PySem.W.nsIn K af7 "readied_content"=some none)(h5:PySem.W.nsIn K af7 "ordered"=some none)(h6:PySem.W.nsIn K af7 "fresh_book"=some none)(h7:PySem.W.nsIn K af7 "support_of"=some none)(h8:PySem.W.nsIn K af7 "behind"=some none)(h9:PySem.W.nsIn K af7 "book_behind"=some none):vM K H:=λq P hq e=>by
 have no:∀q,PySem.W.nsIn K af7 q=some none->ka K q=none:=λq h=>by unfold ka PySem.W.tabIn;rw[h]
 simp only[dA,dB,hJ,or_false]at hq;rcases hq with rfl |rfl |rfl |rfl |rfl |rfl |rfl |rfl |rfl
 ·rw[no _ h1]at e;cases e
 ·rw[no _ h2]at e;cases e
 ·rw[no _ h3]at e;cases e
 ·rw[no _ h4]at e;cases e
 ·rw[no _ h5]at e;cases e
 ·rw[no _ h6]at e;cases e
 ·rw[no _ h7]at e;cases e
 ·rw[no _ h8]at e;cases e
 ·rw[no _ h9]at e;cases e
theorem uc(us:List afX)(hl:us.length=1)(h:∀a0:afX,bindArgs fd { pos:=[a0] }=pure (ps.zip [a0])):bindArgs fd { pos:=us }=pure (ps.zip us):=match us,hl with |[a0],_=>h a0
theorem ln2(us:List afX)(hl:us.length=2)(h:∀a0 a1:afX,bindArgs fd { pos:=[a0,a1] }=pure (ps.zip [a0,a1])):bindArgs fd { pos:=us }=pure (ps.zip us):=match us,hl with |[a0,a1],_=>h a0 a1
theorem Xx(us:List afX)(hl:us.length=3)(h:∀a0 a1 a2:afX,bindArgs fd { pos:=[a0,a1,a2] }=pure (ps.zip [a0,a1,a2])):bindArgs fd { pos:=us }=pure (ps.zip us):=match us,hl with |[a0,a1,a2],_=>h a0 a1 a2
theorem ln4(us:List afX)(hl:us.length=4)(h:∀a0 a1 a2 a3:afX,bindArgs fd { pos:=[a0,a1,a2,a3] }=pure (ps.zip [a0,a1,a2,a3])):bindArgs fd { pos:=us }=pure (ps.zip us):=match us,hl with |[a0,a1,a2,a3],_=>h a0 a1 a2 a3
variable{w:afY}{x:Str}
theorem fj.mo(h:fj P w K mg base j x n F)(l:j<=k:=by first |decide |omega):fj P w K mg base k x n F:=h.mono l
theorem hdf{st:Stmt}{g:GS}(KX:K.In h)(NS:h.Ns af7 mg)(D:bu K x st)(T:yZ c k P w K mg base)
  (S:FnScope c.N ps (defScope st))(hg:bz 30 c (defBody st)=g)(hM:c.self∈dA->AU K mg base/\c.self=x:=by exact λz=>absurd (show("":Str)∈dA from z) (by decide))(hn:(defScope st).names=c.names:=by exact rfl)
  (hb:∀(kV doc pm:afX)(an:Option afR)(cdv ct:afX)(us:List afX),us.length=ps.length->bindArgs (PySem.W.fnOf x x (defArgs st) (defBody st) (defScope st) .none kV doc pm an cdv ct) ⟨us,[]⟩=pure (ps.zip us):=by intro _ _ _ _ _ _ us hl;first |exact uc us hl λ_=>rfl |exact ln2 us hl λ_ _=>rfl |exact Xx us hl λ_ _ _=>rfl |exact ln4 us hl λ_ _ _ _=>rfl |exact ln5 us hl λ_ _ _ _ _=>rfl |exact ln6 us hl λ_ _ _ _ _ _=>rfl |exact ln7 us hl λ_ _ _ _ _ _ _=>rfl):
  fj P w K mg base (k+1) x ps.length (cA c.N.length g):=aK KX NS D T S hn hg hb hM
theorem tk(ht:TabOk K c.tb c.tt c.tc)(hf:AllP (λp=>fj P w K mg base k p.1 p.2.1 p.2.2) c.fns:=by exact trivial)(hc:AllP (λp=>CY K mg p.1 p.2) c.consts:=by exact trivial)(hb:AllP (λx=>mg x=none) c.bl:=by exact trivial)
  (hk:AllP (λx=>∃C,mg x=some (.ref C)/\GD K x C) c.clss:=by exact trivial)(hn:AllP (λx=>∃C,mg x=some (.ref C)/\ClsAt K x C) c.A_:=by exact trivial)(hd:AllP (λp=>ye K w mg p.1 p.2) c.Ba:=by exact trivial)
  (hu:AllP (λx=>∀n F,c.fns.lookup x=some (n,F)->L0 P w K mg base k x n F) c.Fd:=by exact trivial)(hx:Bj c k P w K mg base:=by exact Bj.no rfl rfl rfl rfl):yZ c k P w K mg base:=aB hc hb hf ht hk hn hd hu hx
end J
namespace K89
open PySem J
open L2 (defScope defBody defArgs FnScope CX0 FnOk XK Hp)
def top (i:Nat):Stmt:=PySem.Challenge.pw_onelook_k89_written_and_taken.main.body.getD i (.Pass ⟨0,0,0,0⟩)
def jG:Tab:=[(("BadArea","BadArea"),true),(("BadArea","NoDeed"),false),(("BadArea","BadPlace"),false),(("BadArea","NoRoom"),false),(("NoDeed","BadArea"),false),(("NoDeed","NoDeed"),true),(("NoDeed","BadPlace"),false),(("NoDeed","NoRoom"),false),(("BadPlace","BadArea"),false),(("BadPlace","NoDeed"),false),(("BadPlace","BadPlace"),true),(("BadPlace","NoRoom"),false),(("NoRoom","BadArea"),false),(("NoRoom","NoDeed"),false),(("NoRoom","BadPlace"),false),(("NoRoom","NoRoom"),true)]
def fU:vV:=[(("BadArea","ValueError"),true),(("NoDeed","ValueError"),true),(("BadPlace","ValueError"),true),(("NoRoom","ValueError"),true)]
def mF:Dc:=[("put",.iY [.str "place",.str "content"]),("clear",.iY [.str "place"]),("copy",.iY [.str "area",.str "place"]),("shift",.iY [.str "text",.str "number",.str "number"]),("bundle",.iY [.str "deeds"])]
def ze:Tab:=[(("BadArea","NoRoom"),false),(("NoDeed","NoRoom"),false),(("BadPlace","NoRoom"),false),(("NoRoom","NoRoom"),true)]
def cB(s:Stmt)(n b:List Str)(f:List (Str×Nat×(List Wv->Hs->Re Wv))):Ct:={ N:=n,names:=(defScope s).names,consts:=[],bl:=b,fns:=f,tb:=jG,tt:=fU,tc:=ze }
theorem jV{N P:List Str}{sc:Scope}(h:sc.kind= .function/\sc.isCoroutine=false/\sc.isGenerator=false/\N.take P.length=P)(k:N.Nodup/\(∀x∈P,sc.names.lookup x=some .local\/sc.names.lookup x=some .cell)/\∀y∈sc.names,y.2≠.free):FnScope N P sc:=⟨h.1,h.2.1,h.2.2.1,k.1,h.2.2.2,k.2.1,k.2.2⟩
abbrev fJ:Stmt:=top 39
def iI:GS:=(aO (iB (b_ (ah oLt (af 1) (aY mK (aa (af 0) aj)))) (a8 (ah aQ (af 0) (af 1))) bD)
  (a8 (gC (.int 0))))
def cG:List Wv->Hs->Re Wv:=cA 2 iI
def iJ:Ct:=cB fJ ["script","k"] ["len"] []
theorem sW:bz 30 (iJ) (defBody fJ)=iI:=by kernel_rfl
theorem pZ:FnScope (iJ).N ["script","k"] (defScope fJ):=jV ⟨rfl,rfl,rfl,rfl⟩ (by decide+kernel)
abbrev jb:Stmt:=top 50
def lF:GS:=(aO (bS 1 (ah i7 (au 2 cG (aa (af 0) (aa (gC (.int 0)) aj))) (gC (.int 2))))
  (a8 (cU (aa (ah aQ (jm (aa (gC (.int 0)) (aa (ah oMod (ah i7 (af 1) (gC (.int 4))) (gC (.int 97))) aj))) (ah oMod (af 1) (gC (.int 2)))) (aa (ah aQ (jm (aa (gC (.int 0)) (aa (ah oMod (ah i7 (af 1) (gC (.int 400))) (gC (.int 23))) aj))) (ah oMod (ah i7 (af 1) (gC (.int 2))) (gC (.int 2)))) aj)))))
def gI:List Wv->Hs->Re Wv:=cA 2 lF
def lG:Ct:=cB jb ["script","first"] [] [("_law_cell_at",2,cG)]
theorem zf:bz 30 (lG) (defBody jb)=lF:=by kernel_rfl
theorem wQ:FnScope (lG).N ["script"] (defScope jb):=jV ⟨rfl,rfl,rfl,rfl⟩ (by decide+kernel)
abbrev hZ:Stmt:=top 40
def kq:GS:=(aO (bS 2 (ah oMod (ah eG (ah cV (ah cV (ah oMod (af 0) (gC (.int 1000000007))) (ah eG (gC (.int 7919)) (af 1))) (gC (.int 1))) (gC (.int 48271))) (gC (.int 2147483647))))
  (a8 (ah oMod (ah eG (ah oMod (ah eG (af 2) (af 2)) (gC (.int 2147483629))) (gC (.int 69621))) (gC (.int 2147483647)))))
def fK:List Wv->Hs->Re Wv:=cA 3 kq
def ku:Ct:=cB hZ ["cell","k","stir"] [] []
theorem wR:bz 30 (ku) (defBody hZ)=kq:=by kernel_rfl
theorem ud:FnScope (ku).N ["cell","k"] (defScope hZ):=jV ⟨rfl,rfl,rfl,rfl⟩ (by decide+kernel)
abbrev kx:Stmt:=top 53
def f_:GS:=(bS 2 (ah cV (ah eG (af 2) (gC (.int 2147483647))) (au 2 fK (aa (ah cV (aY G6 (aa (af 0) aj)) (au 2 cG (aa (af 0) (aa (af 1) aj)))) (aa (ah cV (ah cV (gC (.int 500)) (ah eG (gC (.int 8)) (af 1))) (af 3)) aj)))))
def nk:GS:=(aO (iB (F6 (b_ (ah oLt (af 1) (aY mK (aa (af 0) aj)))) (b_ (ah Qe (ah aQ (af 0) (af 1)) (ah rn (gC (.int 10)) (gC (.int 6)))))) (a8 (jm (aa (ah aQ (af 0) (af 1)) aj))) bD)
  (aO (bS 2 (gC (.int 0)))
  (aO (rD 3 (aa (gC (.int 6)) aj) f_)
  (a8 (jm (aa (ah i7 (af 2) (gC (.int 8))) aj))))))
def iK:List Wv->Hs->Re Wv:=cA 4 nk
def nq:Ct:=cB kx ["script","k","found","j"] ["range","len","sum"] [("_law_mixed",2,fK),("_law_cell_at",2,cG)]
theorem Bq:bz 30 (nq) (defBody kx)=nk:=by kernel_rfl
theorem zg:FnScope (nq).N ["script","k"] (defScope kx):=jV ⟨rfl,rfl,rfl,rfl⟩ (by decide+kernel)
abbrev h_:Stmt:=top 42
def kz:GS:=(aO (bS 2 (ah oMod (ah aQ (af 0) (gC (.int 0))) (af 1)))
  (aO (B4 (ah i7 (ah aQ (af 0) (gC (.int 0))) (af 1)) (af 0) (gC (.int 0)))
  (a8 (af 2))))
def aq:List Wv->Hs->Re Wv:=cA 3 kz
def kA:Ct:=cB h_ ["row","many","digit"] [] []
theorem wU:bz 30 (kA) (defBody h_)=kz:=by kernel_rfl
theorem ue:FnScope (kA).N ["row","many"] (defScope h_):=jV ⟨rfl,rfl,rfl,rfl⟩ (by decide+kernel)
abbrev ic:Stmt:=top 43
def kC:GS:=(a8 (cU (aa (ah cV (ah aQ (af 1) (gC (.int 0))) (au 2 aq (aa (af 0) (aa (gC (.int 3)) aj)))) (aa (ah cV (ah aQ (af 1) (gC (.int 1))) (au 2 aq (aa (af 0) (aa (gC (.int 4)) aj)))) aj))))
def cO:List Wv->Hs->Re Wv:=cA 2 kC
def kD:Ct:=cB ic ["row","spot"] [] [("_law_digit",2,aq)]
theorem wV:bz 30 (kD) (defBody ic)=kC:=by kernel_rfl
theorem uf:FnScope (kD).N ["row","spot"] (defScope ic):=jV ⟨rfl,rfl,rfl,rfl⟩ (by decide+kernel)
abbrev jc:Stmt:=top 44
def lH:GS:=(aO (bS 2 (au 2 aq (aa (af 0) (aa (gC (.int 3)) aj))))
  (aO (bS 3 (au 2 aq (aa (af 0) (aa (gC (.int 4)) aj))))
  (aO (bS 4 (ah cV (af 2) (au 2 aq (aa (af 0) (aa (ah jM (gC (.int 3)) (af 2)) aj)))))
  (aO (bS 5 (ah cV (af 3) (au 2 aq (aa (af 0) (aa (ah jM (gC (.int 4)) (af 3)) aj)))))
  (a8 (cU (aa (ah cV (ah aQ (af 1) (gC (.int 0))) (af 2)) (aa (ah cV (ah aQ (af 1) (gC (.int 1))) (af 3)) (aa (ah cV (ah aQ (af 1) (gC (.int 0))) (af 4)) (aa (ah cV (ah aQ (af 1) (gC (.int 1))) (af 5)) aj))))))))))
def cP:List Wv->Hs->Re Wv:=cA 6 lH
def lI:Ct:=cB jc ["row","spot","top","left","bottom","right"] [] [("_law_digit",2,aq)]
theorem zh:bz 30 (lI) (defBody jc)=lH:=by kernel_rfl
theorem wW:FnScope (lI).N ["row","spot"] (defScope jc):=jV ⟨rfl,rfl,rfl,rfl⟩ (by decide+kernel)
abbrev jd:Stmt:=top 45
def gN:GT:=(λ_ st=> .ok true st)
def eX:GE:=(au 2 aq (aa (af 1) (aa (gC (.int 2)) aj)))
def lJ:GS:=(a8 (aY pN (aa (iD [("row",0)] (D4 (aa (af 1) aj)) gN eX) aj)))
def bY:List Wv->Hs->Re Wv:=cA 2 lJ
def lK:Ct:=cB jd ["row","many"] ["tuple","range"] [("_law_digit",2,aq)]
theorem zi:bz 30 (lK) (defBody jd)=lJ:=by kernel_rfl
theorem wX:FnScope (lK).N ["row","many"] (defScope jd):=jV ⟨rfl,rfl,rfl,rfl⟩ (by decide+kernel)
abbrev f':Stmt:=top 46
def ju:GS:=(aO (iB (b_ (ah oEq (au 2 aq (aa (af 0) (aa (gC (.int 5)) aj))) (gC (.int 0)))) (a8 (ah jM (ah rn (gC (.int 10)) (gC (.int 60))) (au 2 aq (aa (af 0) (aa (gC (.int 3)) aj))))) bD)
  (a8 (au 2 aq (aa (af 0) (aa (gC (.int 6)) aj)))))
def eJ:List Wv->Hs->Re Wv:=cA 1 ju
def jv:Ct:=cB f' ["row"] [] [("_law_digit",2,aq)]
theorem ug:bz 30 (jv) (defBody f')=ju:=by kernel_rfl
theorem sX:FnScope (jv).N ["row"] (defScope f'):=jV ⟨rfl,rfl,rfl,rfl⟩ (by decide+kernel)
abbrev je:Stmt:=top 47
def lL:GS:=(aO (bS 2 (au 2 aq (aa (af 0) (aa (gC (.int 8)) aj))))
  (aO (iB (b_ (ah oEq (af 2) (gC (.int 0)))) (a8 (cU (aa (gC (.str "num")) (aa (au 1 eJ (aa (af 0) aj)) aj)))) bD)
  (aO (iB (b_ (ah oEq (af 2) (gC (.int 1)))) (a8 (cU (aa (gC (.str "text")) (aa (ah aQ (jm (aa (gC (.str "")) (aa (gC (.str "a")) (aa (gC (.str "b7")) (aa (gC (.str "no")) aj))))) (au 2 aq (aa (af 0) (aa (gC (.int 4)) aj)))) aj)))) bD)
  (aO (iB (F6 (b_ (ah oEq (af 2) (gC (.int 2)))) (b_ (ah oEq (au 2 aq (aa (af 0) (aa (gC (.int 3)) aj))) (gC (.int 0))))) (a8 (cU (aa (gC (.str "lost")) aj))) bD)
  (aO (iB (b_ (ah oLt (af 2) (gC (.int 6)))) (a8 (cU (aa (gC (.str "at")) (aa (au 2 cO (aa (af 0) (aa (af 1) aj))) (aa (au 2 bY (aa (af 0) (aa (gC (.int 2)) aj))) aj))))) bD)
  (a8 (cU (aa (ah aQ (jm (aa (gC (.str "sum")) (aa (gC (.str "count")) (aa (gC (.str "least")) (aa (gC (.str "greatest")) aj))))) (au 2 aq (aa (af 0) (aa (gC (.int 4)) aj)))) (aa (au 2 cP (aa (af 0) (aa (af 1) aj))) (aa (au 2 bY (aa (af 0) (aa (gC (.int 4)) aj))) aj))))))))))
def fo:List Wv->Hs->Re Wv:=cA 3 lL
def lM:Ct:=cB je ["row","spot","way"] [] [("_law_digit",2,aq),("_law_area",2,cP),("_law_pins",2,bY),("_law_number",1,eJ),("_law_place",2,cO)]
theorem zj:bz 30 (lM) (defBody je)=lL:=by kernel_rfl
theorem wY:FnScope (lM).N ["row","spot"] (defScope je):=jV ⟨rfl,rfl,rfl,rfl⟩ (by decide+kernel)
abbrev fL:Stmt:=top 48
def dE(aR:List Wv->Hs->Re Wv):GS:=(aO (iB (b_ (ah oEq (af 2) (gC (.int 0)))) (a8 (au 2 fo (aa (af 0) (aa (af 1) aj)))) bD)
  (aO (bS 3 (au 2 aq (aa (af 0) (aa (gC (.int 16)) aj))))
  (aO (iB (b_ (ah oLt (af 3) (gC (.int 3)))) (a8 (au 2 fo (aa (af 0) (aa (af 1) aj)))) bD)
  (aO (bS 4 (au 3 aR (aa (af 0) (aa (af 1) (aa (ah jM (af 2) (gC (.int 1))) aj)))))
  (aO (iB (b_ (ah oLt (af 3) (gC (.int 5)))) (a8 (cU (aa (ah aQ (jm (aa (gC (.str "minus")) (aa (gC (.str "not")) aj))) (ah jM (af 3) (gC (.int 3)))) (aa (af 4) aj)))) bD)
  (aO (iB (b_ (ah oEq (af 3) (gC (.int 5)))) (a8 (cU (aa (gC (.str "find")) (aa (af 4) (aa (au 2 cP (aa (af 0) (aa (af 1) aj))) (aa (au 2 bY (aa (af 0) (aa (gC (.int 4)) aj))) aj)))))) bD)
  (aO (bS 5 (au 3 aR (aa (af 0) (aa (af 1) (aa (ah jM (af 2) (gC (.int 1))) aj)))))
  (aO (iB (b_ (ah oLt (af 3) (gC (.int 8)))) (a8 (cU (aa (gC (.str "if")) (aa (af 4) (aa (af 5) (aa (au 3 aR (aa (af 0) (aa (af 1) (aa (ah jM (af 2) (gC (.int 1))) aj)))) aj)))))) bD)
  (aO (iB (b_ (ah oEq (af 3) (gC (.int 15)))) (a8 (cU (aa (ah aQ (jm (aa (gC (.str "=")) (aa (gC (.str "&")) aj))) (au 2 aq (aa (af 0) (aa (gC (.int 2)) aj)))) (aa (af 4) (aa (af 5) aj))))) bD)
  (a8 (cU (aa (ah aQ (jm (aa (gC (.str "else")) (aa (gC (.str "rest")) (aa (gC (.str "+")) (aa (gC (.str "-")) (aa (gC (.str "*")) (aa (gC (.str "/")) (aa (gC (.str "<")) aj)))))))) (ah jM (af 3) (gC (.int 8)))) (aa (af 4) (aa (af 5) aj))))))))))))))
def lN(aR:List Wv->Hs->Re Wv):Ct where
  N:=["row","spot","deep","way","one","other"]
  names:=(defScope fL).names
  consts:=[]
  bl:=[]
  fns:=[("_law_digit",2,aq),("_law_formula",3,aR),("_law_leaf",2,fo),("_law_area",2,cP),("_law_pins",2,bY)]
  tb:=jG
  tt:=fU
  tc:=ze
theorem sY(aR:List Wv->Hs->Re Wv):bz 30 (lN aR) (defBody fL)=dE aR:=by kernel_rfl
theorem p5(aR:List Wv->Hs->Re Wv):FnScope ["row","spot","deep","way","one","other"] ["row","spot","deep"] (defScope fL):=jV ⟨rfl,rfl,rfl,rfl⟩ (by decide+kernel)
def kX:Nat->(List Wv->Hs->Re Wv)
  | 0=>Hr
  |n+1=>cA 6 (dE ((kX n)))
def bO(n:Nat):List Wv->Hs->Re Wv:=(kX n)
theorem gT(n:Nat):bO (n+1)=cA 6 (dE (bO n)):=rfl
def aR:List Wv->Hs->Re Wv:=bO 6
abbrev fM:Stmt:=top 49
def iL:GS:=(aO (bS 3 (au 2 aq (aa (af 0) (aa (gC (.int 8)) aj))))
  (aO (iB (b_ (ah oEq (af 3) (gC (.int 0)))) (a8 (gC .bK)) bD)
  (aO (iB (b_ (ah oEq (af 3) (gC (.int 1)))) (a8 (ah jM (au 2 aq (aa (af 0) (aa (ah cV (ah eG (gC (.int 2)) (ah rn (gC (.int 10)) (gC (.int 60)))) (gC (.int 1))) aj))) (ah rn (gC (.int 10)) (gC (.int 60))))) bD)
  (aO (iB (b_ (ah oEq (af 3) (gC (.int 2)))) (a8 (ah jM (au 2 aq (aa (af 0) (aa (gC (.int 5)) aj))) (gC (.int 1)))) bD)
  (aO (iB (b_ (ah oEq (af 3) (gC (.int 3)))) (a8 (ah aQ (jm (aa (gC (.str "")) (aa (gC (.str "a")) (aa (gC (.str "b7")) (aa (gC (.str "no")) aj))))) (au 2 aq (aa (af 0) (aa (gC (.int 4)) aj))))) bD)
  (a8 (au 3 aR (aa (af 0) (aa (af 1) (aa (af 2) aj))))))))))
def dF:List Wv->Hs->Re Wv:=cA 4 iL
def iM:Ct:=cB fM ["row","spot","deep","way"] [] [("_law_digit",2,aq),("_law_formula",3,aR)]
theorem sZ:bz 30 (iM) (defBody fM)=iL:=by kernel_rfl
theorem p7:FnScope (iM).N ["row","spot","deep"] (defScope fM):=jV ⟨rfl,rfl,rfl,rfl⟩ (by decide+kernel)
abbrev ie:Stmt:=top 52
def kE:GS:=(aO (bS 2 (au 2 aq (aa (af 0) (aa (gC (.int 5)) aj))))
  (aO (bS 3 (au 2 cO (aa (af 0) (aa (af 1) aj))))
  (aO (iB (b_ (ah oEq (af 2) (gC (.int 0)))) (a8 (cU (aa (gC (.str "clear")) (aa (af 3) aj)))) bD)
  (aO (iB (b_ (ah oEq (af 2) (gC (.int 1)))) (aO (bS 4 (au 2 cP (aa (af 0) (aa (af 1) aj))))
    (aO (bS 5 (aY ya (aa (gC (.int 98)) (aa (ah cV (ah aQ (af 1) (gC (.int 0))) (au 2 aq (aa (af 0) (aa (gC (.int 4)) aj)))) aj))))
    (a8 (cU (aa (gC (.str "copy")) (aa (af 4) (aa (cU (aa (af 5) (aa (aY ya (aa (gC (.int 25)) (aa (ah cV (ah aQ (af 1) (gC (.int 1))) (au 2 aq (aa (af 0) (aa (gC (.int 5)) aj)))) aj))) aj))) aj))))))) bD)
  (aO (bS 6 (au 3 dF (aa (af 0) (aa (af 1) (aa (gC (.int 1)) aj)))))
  (aO (iB (b_ (ah J8 (af 6) (gC .bK))) (a8 (cU (aa (gC (.str "clear")) (aa (af 3) aj)))) bD)
  (a8 (cU (aa (gC (.str "put")) (aa (af 3) (aa (af 6) aj)))))))))))
def dU:List Wv->Hs->Re Wv:=cA 7 kE
def kF:Ct:=cB ie ["row","spot","way","place","area","down","content"] ["min"] [("_law_digit",2,aq),("_law_place",2,cO),("_law_content",3,dF),("_law_area",2,cP)]
theorem wZ:bz 30 (kF) (defBody ie)=kE:=by kernel_rfl
theorem uh:FnScope (kF).N ["row","spot"] (defScope ie):=jV ⟨rfl,rfl,rfl,rfl⟩ (by decide+kernel)
abbrev jf:Stmt:=top 54
def gO:GT:=(λ_ st=> .ok true st)
def eZ:GE:=(au 2 dU (aa (af 1) (aa (af 2) aj)))
def lO:GS:=(aO (iB (b_ (ah oEq (au 2 aq (aa (af 0) (aa (gC (.int 4)) aj))) (gC (.int 3)))) (a8 (cU (aa (gC (.str "bundle")) (aa (aY pN (aa (iD [("row",0),("spot",1)] (D4 (aa (au 2 aq (aa (af 0) (aa (gC (.int 4)) aj))) aj)) gO eZ) aj)) aj)))) bD)
  (a8 (au 2 dU (aa (af 0) (aa (af 1) aj)))))
def fq:List Wv->Hs->Re Wv:=cA 2 lO
def lP:Ct:=cB jf ["row","spot"] ["tuple","range"] [("_law_small",2,dU),("_law_digit",2,aq)]
theorem zk:bz 30 (lP) (defBody jf)=lO:=by kernel_rfl
theorem w5:FnScope (lP).N ["row","spot"] (defScope jf):=jV ⟨rfl,rfl,rfl,rfl⟩ (by decide+kernel)
abbrev ig:Stmt:=top 55
def kG:GS:=(aO (iB (b_ (ah oEq (ah aQ (af 0) (gC (.int 0))) (gC (.str "bundle")))) (a8 (ah aQ (af 0) (gC (.int 1)))) bD)
  (a8 (cU (aa (af 0) aj))))
def fN:List Wv->Hs->Re Wv:=cA 1 kG
def kH:Ct:=cB ig ["deed"] [] []
theorem w6:bz 30 (kH) (defBody ig)=kG:=by kernel_rfl
theorem ui:FnScope (kH).N ["deed"] (defScope ig):=jV ⟨rfl,rfl,rfl,rfl⟩ (by decide+kernel)
abbrev dW:Stmt:=top 19
def dG:GT:=(λ_ st=> .ok true st)
def cQ:GE:=(cU (aa (af 1) (aa (af 0) aj)))
def c9:GS:=(mQ (uP yu (af 1) (iD [("row",2)] (G0 (aa (ah aQ (af 0) (gC (.int 1))) (aa (ah cV (ah aQ (af 0) (gC (.int 3))) (gC (.int 1))) aj))) dG cQ)))
def dX:GS:=(aO (bS 1 (jm aj))
  (aO (rE 2 (aa (ah aQ (af 0) (gC (.int 0))) (aa (ah cV (ah aQ (af 0) (gC (.int 2))) (gC (.int 1))) aj)) c9)
  (a8 (af 1))))
def dY:List Wv->Hs->Re Wv:=cA 3 dX
def f6:Ct:=cB dW ["area","places","row"] ["range"] []
theorem pg:bz 30 (f6) (defBody dW)=dX:=by kernel_rfl
theorem oA:FnScope (f6).N ["area"] (defScope dW):=jV ⟨rfl,rfl,rfl,rfl⟩ (by decide+kernel)
abbrev kI:Stmt:=top 10
def nu:GS:=(a8 (iA (lh oLe oLt (gC (.int 0)) (ah aQ (af 0) (gC (.int 0))) (gC (.int 99))) (lh oLe oLt (gC (.int 0)) (ah aQ (af 0) (gC (.int 1))) (gC (.int 26)))))
def dH:List Wv->Hs->Re Wv:=cA 1 nu
def nv:Ct:={ cB kI ["place"] [] []with consts:=[("ROWS",(.int 99)),("COLUMNS",(.int 26))] }
theorem Br:bz 30 (nv) (defBody kI)=nu:=by kernel_rfl
theorem zl:FnScope (nv).N ["place"] (defScope kI):=jV ⟨rfl,rfl,rfl,rfl⟩ (by decide+kernel)
abbrev gj:Stmt:=top 16
def jw:GS:=(aO (bS 1 (iA (ah oLe (ah aQ (af 0) (gC (.int 0))) (ah aQ (af 0) (gC (.int 2)))) (ah oLe (ah aQ (af 0) (gC (.int 1))) (ah aQ (af 0) (gC (.int 3))))))
  (a8 (iA (af 1) (iA (au 1 dH (aa (hG (af 0) i8 (pL (gC (.int 2)))) aj)) (au 1 dH (aa (hG (af 0) (pL (gC (.int 2))) i8) aj))))))
def cS:List Wv->Hs->Re Wv:=cA 2 jw
def jx:Ct:=cB gj ["area","in_order"] [] [("is_place",1,dH)]
theorem uj:bz 30 (jx) (defBody gj)=jw:=by kernel_rfl
theorem s_:FnScope (jx).N ["area"] (defScope gj):=jV ⟨rfl,rfl,rfl,rfl⟩ (by decide+kernel)
abbrev jg:Stmt:=top 17
def lQ:GS:=(a8 (ah eG (ah cV (ah jM (ah aQ (af 0) (gC (.int 2))) (ah aQ (af 0) (gC (.int 0)))) (gC (.int 1))) (ah cV (ah jM (ah aQ (af 0) (gC (.int 3))) (ah aQ (af 0) (gC (.int 1)))) (gC (.int 1)))))
def gJ:List Wv->Hs->Re Wv:=cA 1 lQ
def lR:Ct:=cB jg ["area"] [] []
theorem zm:bz 30 (lR) (defBody jg)=lQ:=by kernel_rfl
theorem w8:FnScope (lR).N ["area"] (defScope jg):=jV ⟨rfl,rfl,rfl,rfl⟩ (by decide+kernel)
abbrev mG:Stmt:=top 15
def ph:GS:=(a8 (iA (au 1 cS (aa (af 0) aj)) (ah oLe (au 1 gJ (aa (af 0) aj)) (gC (.int 300)))))
def jS:List Wv->Hs->Re Wv:=cA 1 ph
def pj:Ct:={ cB mG ["area"] [] [("has_corners",1,cS),("area_many",1,gJ)]with consts:=[("MOST_PLACES",(.int 300))] }
theorem ET:bz 30 (pj) (defBody mG)=ph:=by kernel_rfl
theorem Bs:FnScope (pj).N ["area"] (defScope mG):=jV ⟨rfl,rfl,rfl,rfl⟩ (by decide+kernel)
abbrev jh:Stmt:=top 14
def lS:GS:=(aO (bS 4 (cU (aa (af 0) (aa (af 1) (aa (af 2) (aa (af 3) aj))))))
  (aO (iB (oM (ll (au 1 jS (aa (af 4) aj)))) (m6 "BadArea" (aa (gC (.str "corners that are none, or more than 300 places")) aj)) bD)
  (a8 (af 4))))
def dI:List Wv->Hs->Re Wv:=cA 5 lS
def lT:Ct:={ cB jh ["top","left","bottom","right","area"] [] [("is_area",1,jS)]with clss:=["BadArea"] }
theorem zo:bz 30 (lT) (defBody jh)=lS:=by kernel_rfl
theorem w9:FnScope (lT).N ["top","left","bottom","right"] (defScope jh):=jV ⟨rfl,rfl,rfl,rfl⟩ (by decide+kernel)
abbrev gm:Stmt:=top 18
def gn:GS:=(a8 (au 1 dY (aa (au 4 dI (aa (ah aQ (af 0) (gC (.int 0))) (aa (ah aQ (af 0) (gC (.int 1))) (aa (ah aQ (af 0) (gC (.int 2))) (aa (ah aQ (af 0) (gC (.int 3))) aj))))) aj)))
def bV:List Wv->Hs->Re Wv:=cA 1 gn
def jy:Ct:=cB gm ["area"] [] [("places_between",1,dY),("made_area",4,dI)]
theorem uk:bz 30 (jy) (defBody gm)=gn:=by kernel_rfl
theorem tm:FnScope (jy).N ["area"] (defScope gm):=jV ⟨rfl,rfl,rfl,rfl⟩ (by decide+kernel)
abbrev kJ:Stmt:=top 56
def iN:GT:=(λ_ st=> .ok true st)
def fO:GE:=(cU (aa (ah cV (ah aQ (af 0) (gC (.int 0))) (af 1)) (aa (ah cV (ah aQ (af 0) (gC (.int 1))) (af 2)) aj)))
def a9:GS:=(iB (b_ (ah oEq (ah aQ (af 3) (gC (.int 0))) (gC (.str "copy")))) (aO (bS 4 (ah jM (ah aQ (ah aQ (af 3) (gC (.int 2))) (gC (.int 0))) (ah aQ (ah aQ (af 3) (gC (.int 1))) (gC (.int 0)))))
    (aO (bS 5 (ah jM (ah aQ (ah aQ (af 3) (gC (.int 2))) (gC (.int 1))) (ah aQ (ah aQ (af 3) (gC (.int 1))) (gC (.int 1)))))
    (aO (iB (F7 (b_ (ah Qe (ah cV (ah aQ (ah aQ (af 3) (gC (.int 1))) (gC (.int 2))) (af 4)) (gC (.int 98)))) (b_ (ah Qe (ah cV (ah aQ (ah aQ (af 3) (gC (.int 1))) (gC (.int 3))) (af 5)) (gC (.int 25))))) (a8 (gC .bK)) bD)
    (aO (bS 2 (ah cV (af 2) (au 1 bV (aa (ah aQ (af 3) (gC (.int 1))) aj))))
    (bS 1 (ah cV (af 1) (iD [("down",4),("aside",5)] (iE (au 1 bV (aa (ah aQ (af 3) (gC (.int 1))) aj))) iN fO))))))) (mQ (uP pY (af 1) (ah aQ (af 3) (gC (.int 1))))))
def iO:GS:=(aO (bS 1 (jm aj))
  (aO (bS 2 (jm aj))
  (aO (rC 3 (au 1 fN (aa (af 0) aj)) a9)
  (a8 (cU (aa (aY sF (aa (af 1) aj)) (aa (aY sF (aa (af 2) aj)) aj)))))))
def fh:List Wv->Hs->Re Wv:=cA 6 iO
def nz:Ct:=cB kJ ["deed","written","taken","part","down","aside"] ["sorted","set"] [("_law_parts",1,fN),("area_places",1,bV)]
theorem Bt:bz 30 (nz) (defBody kJ)=iO:=by kernel_rfl
theorem zq:FnScope (nz).N ["deed"] (defScope kJ):=jV ⟨rfl,rfl,rfl,rfl⟩ (by decide+kernel)
abbrev gq:Stmt:=top 58
def fP:GT:=(b_ (ah (rY false) (af 0) (af 1)))
def ji:GE:=(af 0)
def jz:GS:=(a8 (ah vP (iD [("others",1)] (iE (af 0)) fP ji) (jm aj)))
def bL:List Wv->Hs->Re Wv:=cA 2 jz
def jA:Ct:={ cB gq ["some","others"] [] []with N_:=["others"] }
theorem um:bz 30 (jA) (defBody gq)=jz:=by kernel_rfl
theorem tq:FnScope (jA).N ["some","others"] (defScope gq):=jV ⟨rfl,rfl,rfl,rfl⟩ (by decide+kernel)
abbrev kK:Stmt:=top 21
def kL:GS:=(a8 (iA (aY (iW jG fU) (aa (af 0) (aa (gC (.ty "int")) aj))) (B0 (aY (iW jG fU) (aa (af 0) (aa (gC (.ty "bool")) aj))))))
def cT:List Wv->Hs->Re Wv:=cA 1 kL
def nA:Ct:=cB kK ["thing"] ["isinstance","int","bool"] []
theorem Bu:bz 30 (nA) (defBody kK)=kL:=by kernel_rfl
theorem zr:FnScope (nA).N ["thing"] (defScope kK):=jV ⟨rfl,rfl,rfl,rfl⟩ (by decide+kernel)
abbrev e_:Stmt:=top 22
def gU:GT:=(λ_ st=> .ok true st)
def eE:GE:=(au 1 cT (aa (af 0) aj))
def gP:GS:=(a8 (iA (aY (iW jG fU) (aa (af 0) (aa (gC (.ty "tuple")) aj))) (iA (ah oEq (aY mK (aa (af 0) aj)) (af 1)) (aY rO (aa (iD [] (iE (af 0)) gU eE) aj)))))
def bP:List Wv->Hs->Re Wv:=cA 2 gP
def gQ:Ct:=cB e_ ["thing","many"] ["isinstance","tuple","all","len"] [("is_whole",1,cT)]
theorem p8:bz 30 (gQ) (defBody e_)=gP:=by kernel_rfl
theorem pq:FnScope (gQ).N ["thing","many"] (defScope e_):=jV ⟨rfl,rfl,rfl,rfl⟩ (by decide+kernel)
abbrev kM:Stmt:=top 30
def kN(aC aD aF:List Wv->Hs->Re Wv):GS:=(a8 (iA (aY (iW jG fU) (aa (af 0) (aa (gC (.ty "tuple")) aj))) (iA (ah vP (hG (af 0) i8 (pL (gC (.int 1)))) (cU aj)) (iA (ah Ha (ah aQ (af 0) (gC (.int 0))) (gC (.iY [.str "put",.str "clear",.str "copy"]))) (au 1 aF (aa (af 0) aj))))))
def tw(aC aD aF:List Wv->Hs->Re Wv):Ct where
  N:=["thing"]
  names:=(defScope kM).names
  consts:=[("SMALL_WORDS",(.iY [.str "put",.str "clear",.str "copy"]))]
  bl:=["isinstance","tuple"]
  fns:=[("is_deed",1,aF)]
  tb:=jG
  tt:=fU
  tc:=ze
theorem Bv(aC aD aF:List Wv->Hs->Re Wv):bz 30 (tw aC aD aF) (defBody kM)=kN aC aD aF:=by kernel_rfl
theorem zt(aC aD aF:List Wv->Hs->Re Wv):FnScope ["thing"] ["thing"] (defScope kM):=jV ⟨rfl,rfl,rfl,rfl⟩ (by decide+kernel)
abbrev kO:Stmt:=top 29
def lU(aC aD aF:List Wv->Hs->Re Wv):GT:=(λ_ st=> .ok true st)
def iP(aC aD aF:List Wv->Hs->Re Wv):GE:=(au 1 aC (aa (af 0) aj))
def fi(aC aD aF:List Wv->Hs->Re Wv):GS:=(aO (iB (b_ (ah oEq (af 0) (gC (.str "place")))) (a8 (au 2 bP (aa (af 1) (aa (gC (.int 2)) aj)))) bD)
  (aO (iB (b_ (ah oEq (af 0) (gC (.str "area")))) (a8 (au 2 bP (aa (af 1) (aa (gC (.int 4)) aj)))) bD)
  (aO (iB (b_ (ah oEq (af 0) (gC (.str "number")))) (a8 (au 1 cT (aa (af 1) aj))) bD)
  (aO (iB (b_ (ah oEq (af 0) (gC (.str "text")))) (a8 (aY (wI jG fU) (aa (af 1) (aa (gC (.ty "str")) aj)))) bD)
  (aO (iB (b_ (ah oEq (af 0) (gC (.str "deeds")))) (a8 (iA (aY (wI jG fU) (aa (af 1) (aa (gC (.ty "tuple")) aj))) (aY rO (aa (iD [] (iE (af 1)) (lU aC aD aF) (iP aC aD aF)) aj)))) bD)
  (a8 (xI (au 1 cT (aa (af 1) aj)) (aY (wI jG fU) (aa (af 1) (aa (cU (aa (gC (.ty "str")) (aa (gC (.ty "tuple")) aj))) aj))))))))))
def tD(aC aD aF:List Wv->Hs->Re Wv):Ct where
  N:=["kind","entry"]
  names:=(defScope kO).names
  consts:=[]
  bl:=["isinstance","str","tuple","all"]
  fns:=[("is_number_row",2,bP),("is_whole",1,cT),("is_small",1,aC)]
  tb:=jG
  tt:=fU
  tc:=ze
  N_:=["isinstance"]
theorem Bw(aC aD aF:List Wv->Hs->Re Wv):bz 30 (tD aC aD aF) (defBody kO)=fi aC aD aF:=by kernel_rfl
theorem zu(aC aD aF:List Wv->Hs->Re Wv):FnScope ["kind","entry"] ["kind","entry"] (defScope kO):=jV ⟨rfl,rfl,rfl,rfl⟩ (by decide+kernel)
abbrev mH:Stmt:=top 28
def gz(aC aD aF:List Wv->Hs->Re Wv):GT:=(λ_ st=> .ok true st)
def eK(aC aD aF:List Wv->Hs->Re Wv):GE:=(au 2 aD (aa (af 0) (aa (af 1) aj)))
def jT(aC aD aF:List Wv->Hs->Re Wv):GS:=(aO (iB (F7 (oM (ll (aY (iW jG fU) (aa (af 0) (aa (gC (.ty "tuple")) aj))))) (F7 (b_ (ah oEq (aY mK (aa (af 0) aj)) (gC (.int 0)))) (oM (ll (aY (iW jG fU) (aa (ah aQ (af 0) (gC (.int 0))) (aa (gC (.ty "str")) aj))))))) (a8 (gC (.bl false))) bD)
  (aO (bS 1 (oq mF (ah aQ (af 0) (gC (.int 0)))))
  (aO (iB (F7 (b_ (ah J8 (af 1) (gC .bK))) (b_ (ah vP (aY mK (aa (af 0) aj)) (ah cV (gC (.int 1)) (aY mK (aa (af 1) aj)))))) (a8 (gC (.bl false))) bD)
  (a8 (aY rO (aa (ng 2 [] (sG (aa (af 1) (aa (hG (af 0) (pL (gC (.int 1))) i8) aj))) (gz aC aD aF) (eK aC aD aF)) aj))))))
def vj(aC aD aF:List Wv->Hs->Re Wv):Ct where
  N:=["thing","kinds"]
  names:=(defScope mH).names
  consts:=[]
  bl:=["all","isinstance","tuple","len","str","zip"]
  fns:=[("is_entry",2,aD)]
  tb:=jG
  tt:=fU
  tc:=ze
  Ba:=[("ENTRIES",mF)]
theorem EU(aC aD aF:List Wv->Hs->Re Wv):bz 30 (vj aC aD aF) (defBody mH)=jT aC aD aF:=by kernel_rfl
theorem Bx(aC aD aF:List Wv->Hs->Re Wv):FnScope ["thing","kinds"] ["thing"] (defScope mH):=jV ⟨rfl,rfl,rfl,rfl⟩ (by decide+kernel)
def bQ:Nat->(List Wv->Hs->Re Wv)×(List Wv->Hs->Re Wv)×(List Wv->Hs->Re Wv)
  | 0=>(Hr,Hr,Hr)
  |n+1=>(cA 1 (kN ((bQ n).1) ((bQ n).2.1) ((bQ n).2.2)),cA 2 (fi ((bQ n).1) ((bQ n).2.1) ((bQ n).2.2)),cA 2 (jT ((bQ n).1) ((bQ n).2.1) ((bQ n).2.2)))
def aL(n:Nat):List Wv->Hs->Re Wv:=(bQ n).1
def aM(n:Nat):List Wv->Hs->Re Wv:=(bQ n).2.1
def aP(n:Nat):List Wv->Hs->Re Wv:=(bQ n).2.2
theorem p9(n:Nat):aL (n+1)=cA 1 (kN (aL n) (aM n) (aP n)):=rfl
def aC:List Wv->Hs->Re Wv:=aL 6
theorem fb(n:Nat):aM (n+1)=cA 2 (fi (aL n) (aM n) (aP n)):=rfl
def aD:List Wv->Hs->Re Wv:=aM 6
theorem tE(n:Nat):aP (n+1)=cA 2 (jT (aL n) (aM n) (aP n)):=rfl
def aF:List Wv->Hs->Re Wv:=aP 6
abbrev gA:Stmt:=top 31
def jB:GS:=(aO (iB (F7 (oM (ll (au 1 aF (aa (af 0) aj)))) (b_ (ah oEq (ah aQ (af 0) (gC (.int 0))) (gC (.str "shift"))))) (m6 "NoDeed" (aa (gC (.str "no deed, or a shift")) aj)) bD)
  (a8 (Lc (b_ (ah oEq (ah aQ (af 0) (gC (.int 0))) (gC (.str "bundle")))) (ah aQ (af 0) (gC (.int 1))) (cU (aa (af 0) aj)))))
def bM:List Wv->Hs->Re Wv:=cA 1 jB
def jC:Ct:={ cB gA ["deed"] [] [("is_deed",1,aF)]with clss:=["NoDeed"] }
theorem uo:bz 30 (jC) (defBody gA)=jB:=by kernel_rfl
theorem tF:FnScope (jC).N ["deed"] (defScope gA):=jV ⟨rfl,rfl,rfl,rfl⟩ (by decide+kernel)
abbrev ij:Stmt:=top 11
def kQ:GS:=(aO (iB (oM (ll (au 1 dH (aa (cU (aa (af 0) (aa (af 1) aj))) aj)))) (m6 "BadPlace" (aa (gC (.str "the row or the column is beyond the sheet")) aj)) bD)
  (a8 (cU (aa (af 0) (aa (af 1) aj)))))
def di:List Wv->Hs->Re Wv:=cA 2 kQ
def kR:Ct:={ cB ij ["row","column"] [] [("is_place",1,dH)]with clss:=["BadPlace"] }
theorem w_:bz 30 (kR) (defBody ij)=kQ:=by kernel_rfl
theorem ur:FnScope (kR).N ["row","column"] (defScope ij):=jV ⟨rfl,rfl,rfl,rfl⟩ (by decide+kernel)
abbrev fQ:Stmt:=top 24
def iQ:GS:=(aO (bS 2 (au 4 dI (aa (ah aQ (af 0) (gC (.int 0))) (aa (ah aQ (af 0) (gC (.int 1))) (aa (ah aQ (af 0) (gC (.int 2))) (aa (ah aQ (af 0) (gC (.int 3))) aj))))))
  (aO (bS 3 (au 2 di (aa (ah aQ (af 1) (gC (.int 0))) (aa (ah aQ (af 1) (gC (.int 1))) aj))))
  (aO (bS 4 (ah cV (af 3) (cU (aa (ah jM (ah cV (ah aQ (af 3) (gC (.int 0))) (ah aQ (af 2) (gC (.int 2)))) (ah aQ (af 2) (gC (.int 0)))) (aa (ah jM (ah cV (ah aQ (af 3) (gC (.int 1))) (ah aQ (af 2) (gC (.int 3)))) (ah aQ (af 2) (gC (.int 1)))) aj)))))
  (aO (iB (oM (ll (au 1 cS (aa (af 4) aj)))) (m6 "NoRoom" (aa (gC (.str "the block would go beyond the last row or column")) aj)) bD)
  (a8 (af 4))))))
def dJ:List Wv->Hs->Re Wv:=cA 5 iQ
def iR:Ct:={ cB fQ ["area","place","made","first","area_now"] [] [("made_area",4,dI),("made_place",2,di),("has_corners",1,cS)]with clss:=["NoRoom"] }
theorem tG:bz 30 (iR) (defBody fQ)=iQ:=by kernel_rfl
theorem p_:FnScope (iR).N ["area","place"] (defScope fQ):=jV ⟨rfl,rfl,rfl,rfl⟩ (by decide+kernel)
abbrev gB:Stmt:=top 35
def eL:GS:=(aO (iB (b_ (ah oEq (ah aQ (af 0) (gC (.int 0))) (gC (.str "copy")))) (aO (bS 1 (au 2 dJ (aa (ah aQ (af 0) (gC (.int 1))) (aa (ah aQ (af 0) (gC (.int 2))) aj))))
    (a8 (cU (aa (au 1 bV (aa (af 1) aj)) (aa (au 1 bV (aa (ah aQ (af 0) (gC (.int 1))) aj)) aj))))) bD)
  (a8 (cU (aa (jm (aa (au 2 di (aa (ah aQ (ah aQ (af 0) (gC (.int 1))) (gC (.int 0))) (aa (ah aQ (ah aQ (af 0) (gC (.int 1))) (gC (.int 1))) aj))) aj)) (aa (jm aj) aj)))))
def bW:List Wv->Hs->Re Wv:=cA 2 eL
def jD:Ct:=cB gB ["small","area_now"] [] [("area_come_to",2,dJ),("area_places",1,bV),("made_place",2,di)]
theorem uu:bz 30 (jD) (defBody gB)=eL:=by kernel_rfl
theorem tH:FnScope (jD).N ["small"] (defScope gB):=jV ⟨rfl,rfl,rfl,rfl⟩ (by decide+kernel)
abbrev kT:Stmt:=top 34
def eM:GS:=(uY (gC (.bl true)) (af 2) (af 5))
def eN:GS:=(uY (gC (.bl true)) (af 1) (af 5))
def bG:GS:=(aO (bS 4 (au 1 bW (aa (af 3) aj)))
  (aO (rC 5 (ah aQ (af 4) (gC (.int 0))) eN)
  (rC 5 (ah aQ (af 4) (gC (.int 1))) eM)))
def iS:GS:=(aO (bS 1 yh)
  (aO (bS 2 yh)
  (aO (rC 3 (af 0) bG)
  (a8 (cU (aa (aY sf (aa (af 1) aj)) (aa (aY sf (aa (af 2) aj)) aj)))))))
def cH:List Wv->Hs->Re Wv:=cA 6 iS
def nB:Ct:={ cB kT ["smalls","written","taken","small","reach","place"] ["sorted"] [("small_reach",1,bW)]with N9:=["written","taken"] }
theorem By:bz 30 (nB) (defBody kT)=iS:=by kernel_rfl
theorem zv:FnScope (nB).N ["smalls"] (defScope kT):=jV ⟨rfl,rfl,rfl,rfl⟩ (by decide+kernel)
abbrev gD:Stmt:=top 37
def jE:GS:=(a8 (ah Qe (yJ 0 1) (gC (.int 0))))
def dv:List Wv->Hs->Re Wv:=cA 2 jE
def jF:Ct:=cB gD ["places","others"] ["len","set"] []
theorem uv:bz 30 (jF) (defBody gD)=jE:=by kernel_rfl
theorem tJ:FnScope (jF).N ["places","others"] (defScope gD):=jV ⟨rfl,rfl,rfl,rfl⟩ (by decide+kernel)
abbrev xa:Stmt:=top 36
def tK:GS:=(aO (bS 2 (au 1 bM (aa (af 0) aj)))
  (aO (bS 3 (au 1 bM (aa (af 1) aj)))
  (aO (bS 4 (au 1 cH (aa (af 2) aj)))
  (aO (bS 5 (au 1 cH (aa (af 3) aj)))
  (a8 (xI (au 2 dv (aa (ah aQ (af 4) (gC (.int 0))) (aa (ah cV (ah aQ (af 5) (gC (.int 0))) (ah aQ (af 5) (gC (.int 1)))) aj))) (au 2 dv (aa (ah aQ (af 5) (gC (.int 0))) (aa (ah aQ (af 4) (gC (.int 1))) aj)))))))))
def gR:List Wv->Hs->Re Wv:=cA 6 tK
def Bz:Ct:=cB xa ["one","other","smalls","others","reach","beside"] [] [("small_deeds",1,bM),("reach_of",1,cH),("have_common",2,dv)]
theorem Sq:bz 30 (Bz) (defBody xa)=tK:=by kernel_rfl
theorem M7:FnScope (Bz).N ["one","other"] (defScope xa):=jV ⟨rfl,rfl,rfl,rfl⟩ (by decide+kernel)
abbrev oB:Stmt:=top 32
def oC:GS:=(a8 (ah aQ (au 1 cH (aa (au 1 bM (aa (af 0) aj)) aj)) (gC (.int 0))))
def fR:List Wv->Hs->Re Wv:=cA 1 oC
def tL:Ct:=cB oB ["deed"] [] [("reach_of",1,cH),("small_deeds",1,bM)]
theorem Jr:bz 30 (tL) (defBody oB)=oC:=by kernel_rfl
theorem EV:FnScope (tL).N ["deed"] (defScope oB):=jV ⟨rfl,rfl,rfl,rfl⟩ (by decide+kernel)
abbrev qG:Stmt:=top 33
def qH:GS:=(a8 (ah aQ (au 1 cH (aa (au 1 bM (aa (af 0) aj)) aj)) (gC (.int 1))))
def ip:List Wv->Hs->Re Wv:=cA 1 qH
def xb:Ct:=cB qG ["deed"] [] [("reach_of",1,cH),("small_deeds",1,bM)]
theorem M8:bz 30 (xb) (defBody qG)=qH:=by kernel_rfl
theorem Js:FnScope (xb).N ["deed"] (defScope qG):=jV ⟨rfl,rfl,rfl,rfl⟩ (by decide+kernel)
abbrev fS:Stmt:=top 57
def fT:GS:=(iB (b_ (ah oEq (af 0) (gC (.int 0)))) (mQ (au 1 fR (aa (af 1) aj))) (iB (b_ (ah oEq (af 0) (gC (.int 1)))) (mQ (au 1 ip (aa (af 1) aj))) (iB (b_ (ah oEq (af 0) (gC (.int 2)))) (mQ (au 2 gR (aa (af 1) (aa (af 2) aj)))) (mQ (au 2 gR (aa (af 2) (aa (af 1) aj)))))))
def jj:GS:=(bS 3 (gC (.bl true)))
def iT:GS:=(aO (bS 3 (gC (.bl false)))
  (aO (u4 (λy=>ze.lookup (y,("NoRoom":PySem.Str))) fT jj)
  (a8 (af 3))))
def dc:List Wv->Hs->Re Wv:=cA 4 iT
def iU:Ct:={ cB fS ["way","deed","other","refused"] [] [("writes",1,fR),("takes",1,ip),("meet",2,gR)]with clss:=["NoRoom"] }
theorem tM:bz 30 (iU) (defBody fS)=iT:=by kernel_rfl
theorem qa:FnScope (iU).N ["way","deed","other"] (defScope fS):=jV ⟨rfl,rfl,rfl,rfl⟩ (by decide+kernel)
abbrev Dh:Stmt:=top 59
def lV:GS:=(iB (F7 (oM (ll (aY (iW jG fU) (aa (af 7) (aa (gC (.ty "bool")) aj))))) (b_ (ah vP (af 7) (af 10)))) (a8 (gC (.bl false))) bD)
def vm:GT:=(λ_ st=> .ok true st)
def pv:GE:=(au 3 dc (aa (af 0) (aa (ah aQ (af 1) (af 2)) (aa (cU (aa (gC (.str "clear")) (aa (af 3) aj))) aj))))
def lW:GS:=(iB (b_ (ah J8 (ah aQ (af 5) (af 6)) (gC .bK))) (iB (oM (ll (aY rO (aa (iD [("pair",4),("j",6),("spot",1)] (D4 (aa (gC (.int 4)) aj)) vm pv) aj)))) (a8 (gC (.bl false))) bD) (aO (bS 7 (cU (aa (au 1 fR (aa (ah aQ (af 4) (af 6)) aj)) (aa (au 1 ip (aa (ah aQ (af 4) (af 6)) aj)) aj))))
    (iB (F7 (b_ (ah vP (af 7) (ah aQ (af 5) (af 6)))) (F7 (oM (ll (aY (iW jG fU) (aa (ah aQ (af 7) (gC (.int 0))) (aa (gC (.ty "list")) aj))))) (oM (ll (aY (iW jG fU) (aa (ah aQ (af 7) (gC (.int 1))) (aa (gC (.ty "list")) aj))))))) (a8 (gC (.bl false))) bD)))
def pz:GT:=(λ_ st=> .ok true st)
def iu:GE:=(au 1 fh (aa (af 0) aj))
def lX:GS:=(aO (bS 3 (au 2 iK (aa (af 0) (aa (af 2) aj))))
  (aO (bS 4 (cU (aa (au 2 fq (aa (af 3) (aa (af 1) aj))) (aa (au 2 fq (aa (af 3) (aa (af 1) aj))) aj))))
  (aO (bS 5 (iD [] (iE (af 4)) pz iu))
  (aO (rD 6 (aa (gC (.int 2)) aj) lW)
  (iB (b_ (ah (rY true) (gC .bK) (af 5))) (aO (yP [8,9] (af 5))
    (aO (bS 10 (xI (au 2 bL (aa (ah aQ (af 8) (gC (.int 0))) (aa (ah aQ (af 9) (gC (.int 0))) aj))) (xI (au 2 bL (aa (ah aQ (af 8) (gC (.int 0))) (aa (ah aQ (af 9) (gC (.int 1))) aj))) (au 2 bL (aa (ah aQ (af 8) (gC (.int 1))) (aa (ah aQ (af 9) (gC (.int 0))) aj))))))
    (rC 7 (jm (aa (au 2 gR (aa (ah aQ (af 4) (gC (.int 0))) (aa (ah aQ (af 4) (gC (.int 1))) aj))) (aa (au 2 gR (aa (ah aQ (af 4) (gC (.int 1))) (aa (ah aQ (af 4) (gC (.int 0))) aj))) aj))) lV))) bD)))))
def Di:GS:=(aO (bS 1 (au 1 gI (aa (af 0) aj)))
  (aO (rE 2 (aa (aY uT (aa (gC (.int 0)) (aa (ah jM (aY mK (aa (af 0) aj)) (gC (.int 10))) aj))) (aa (ah cV (aY mK (aa (af 0) aj)) (gC (.int 1))) aj)) lX)
  (a8 (gC (.bl true)))))
def F_law:List Wv->Hs->Re Wv:=cA 11 Di
def Jt:Ct:={ cB Dh ["script","spot","k","row","pair","dues","j","found","one","other","due"] ["range","max","len","all","isinstance","list","bool"] [("_law_spot",1,gI),("_law_row",2,iK),("_law_deed",2,fq),("_law_due",1,fh),("_law_common",2,bL),("meet",2,gR),("writes",1,fR),("takes",1,ip),("_law_refused",3,dc)]with N_:=["dues"] }
theorem Wh:bz 30 (Jt) (defBody Dh)=Di:=by kernel_rfl
theorem Sr:FnScope (Jt).N ["script"] (defScope Dh):=jV ⟨rfl,rfl,rfl,rfl⟩ (by decide+kernel)
abbrev S:=PySem.Str
def Ro(r:Nat)(st:Hs):Prop:=∃v:Int,st[r]? =some (.lst [.int v])
def Dw(r:Nat)(st st':Hs):Prop:=cY r st st'/\Ro r st'
variable{r:Nat}
theorem Dw.trans{a b c:Hs}(h:Dw r a b)(k:Dw r b c):Dw r a c:=⟨h.1.trans k.1,k.2⟩
variable{st:Hs}{o:Ob}
theorem Ro.push(h:Ro r st):Ro r (st++[o]):=let ⟨v,e⟩:=h;⟨v,Jp e⟩
theorem Dw.of(h:Ro r st):Dw r st st:=⟨cY.refl,h⟩
variable{l:Nat}
theorem digit{n many:Int}(h:st[l]? =some (.lst [.int n]))(hm:many≠0/\many.natAbs.log2 < 9000):
  aq [.ref l,.int many] st= .ok (.int (n.fmod many)) (st.set l (.lst [.int (n.fdiv many)])):=by
 have hl:ao st l=some [.int n]:=by unfold ao;rw[h]
 have h0:L2.pW [Wv.int n] 0=some (.int n):=rfl;unfold aq cA kz;simp[Bm hl h0,y6 hm.1,sT hm,B4,Va,h,L2.E6]
variable{m:Int}
theorem dig(h:Ro r st)(h0:0 < m)(h1:m < 1000000):∃d st',aq [.ref r,.int m] st= .ok (.int d) st'/\0<=d/\d < m/\Dw r st st':=by obtain⟨v,e⟩:=h;have hl:m.natAbs.log2 < 9000:=vK ((Nat.log2_lt (k:=20) (by omega)).mpr (by omega)) (by decide);exact⟨_,_,digit e ⟨by omega,hl⟩,pA _ h0,tN _ h0,cY.set,_,eW e⟩
def tI(l:List Int):Wv:=.tup (l.map Wv.int)
def f7(a b c d:Int):Prop:=0<=a/\a<=c/\c<=98/\0<=b/\b<=d/\d<=25/\(c - a+1) * (d - b+1)<=300
theorem Ow{x y p q:Int}(h0:0<=x)(h1:x<=p)(k0:0<=y)(k1:y<=q):x * y<=p * q:=Int.mul_le_mul h1 k1 k0 (by omega)
theorem Wi{a b:Wv}:aQ (.tup [a,b]) (.int 0) st= .ok a st:=rfl
theorem Wj{a b:Wv}:aQ (.tup [a,b]) (.int 1) st= .ok b st:=rfl
variable{a b:Int}
theorem place(h:Ro r st):∃c d st',cO [.ref r,tI [a,b]] st= .ok (tI [a+c,b+d]) st'/\(0<=c/\c < 3/\0<=d/\d < 4)/\Dw r st st':=by obtain⟨c,s1,e1,c0,c1,d1⟩:=dig (m:=3) h (by decide) (by decide);obtain⟨d,s2,e2,a0,a1,d2⟩:=dig (m:=4) d1.2 (by decide) (by decide);unfold cO cA kC;exact⟨c,d,s2,by simp[e1,e2,tI,Wi,Wj],⟨c0,c1,a0,a1⟩,d1.trans d2⟩
theorem Ss(h:Ro r st):∃t l p q st',cP [.ref r,tI [a,b]] st= .ok (tI [a+t,b+l,a+p,b+q]) st'/\(0<=t/\t<=p/\p < 3/\0<=l/\l<=q/\q < 4)/\Dw r st st':=by obtain⟨t,s1,e1,t0,t1,d1⟩:=dig (m:=3) h (by decide) (by decide);obtain⟨l,s2,e2,l0,l1,d2⟩:=dig (m:=4) d1.2 (by decide) (by decide);obtain⟨p,s3,e3,p0,p1,d3⟩:=dig (m:=3 - t) d2.2 (by omega) (by omega);obtain⟨q,s4,e4,q0,q1,d4⟩:=dig (m:=4 - l) d3.2 (by omega) (by omega);unfold cP cA lH;exact⟨t,l,t+p,l+q,s4,by simp[e1,e2,e3,e4,tI,Wi,Wj],by omega,((d1.trans d2).trans d3).trans d4⟩
variable{n:Nat}
theorem pins(h:Ro r st)(hn:n<=4):∃p st',bY [.ref r,.int n] st= .ok (tI p) st'/\p.length=n/\(∀q∈p,q=0\/q=1)/\Dw r st st':=by
 have hr:r < st.length:=let ⟨v,e⟩:=h;iH e;have cn:cW (n:Int):=Bp (by omega) (by omega);obtain⟨st',acc,e,⟨p1,p2⟩,hg,ha,hl⟩:=pf (w:=(none,cg 0 n)) (gt:=λv=>gN (some v::cX [("row",0)] [some (.ref r),some (.int (n:Int))])) (ge:=λv=>eX (some v::cX [("row",0)] [some (.ref r),some (.int (n:Int))])) (rr:=st.length)
  (λs=>cY r st s/\Ro r s) (λu=>∃q:Int,u= .int q/\(q=0\/q=1))
  (λs acc ⟨k,v,e⟩=>⟨⟨by simpa using k.1,λj hj hne=>by rw[b9 (by omega)];exact k.2 j hj hne⟩,v,by rw[b9 (by omega)];exact e⟩) (λ_ _=>trivial) (cg 0 n)
  (λv hv s acc ⟨k,ro⟩ hg=>by
   obtain⟨q,s2,e2,q0,q1,k2,Wl⟩:=dig (m:=2) ro (by decide) (by decide);refine⟨s,rfl,⟨k,ro⟩,hg,.int q,s2,?_,⟨q,rfl,by omega⟩,⟨k.trans k2,Wl⟩,?_⟩
   ·unfold eX;simp[cX,e2]
   ·rw[k2.2 _ (iH hg) (by omega)];exact hg)
  [] (st++[.lst []]) ⟨cY.push,h.push⟩ ja (by rw[dq];simp[lim];omega) (by simp)
 obtain⟨p,hp⟩:∃p:List Int,acc=p.map Wv.int/\∀q∈p,q=0\/q=1:=by
  clear e hg hl
  induction acc with
  |nil=>exact⟨[],rfl,by simp⟩
  |cons a t ih=>obtain⟨p,e1,e2⟩:=ih λu hu=>ha u (av _ hu);obtain⟨q,e3,e4⟩:=ha a ax;exact⟨q::p,by rw[e1,e3];rfl,by simpa using ⟨e4,e2⟩⟩
 obtain⟨rfl,hp⟩:=hp;refine⟨p,st',?_,by simpa [dq]using hl,hp,p1,p2⟩;have run:cZ [("row",0)] gN eX [some (.ref r),some (.int (n:Int))] (none,cg 0 n) st= .ok (.ref st.length) st':=by unfold cZ;rw[e]
 have tc:pN [.ref st.length] st'= .ok (.tup (p.map Wv.int)) st':=by
  show(match ao st' st.length with |some ws=>Re.ok (Wv.tup ws) st' |none=> .bad)=_
  rw[c7 hg]
 unfold bY cA lJ;have r1:rL [.int (n:Int)] st= .ok (none,cg 0 n) st:=by rw[Bo cn];simp
 simp[r1,run,tc,tI]
variable{c k:Int}
theorem mixed(h0:0<=k)(h1:k < 1000000):∃v:Int,0<=v/\fK [.int c,.int k] st= .ok (.int v) st:=by
 have z1:eG (.int 7919) (.int k) st= .ok (.int (7919 * k)) st:=De (by decide) (by decide);have z2:∀i:Int,eG (.int i) (.int 48271) st= .ok (.int (i * 48271)) st:=λi=>mul_r (by decide) (by decide);have z3:∀i:Int,eG (.int i) (.int 69621) st= .ok (.int (i * 69621)) st:=λi=>mul_r (by decide) (by decide);generalize hs:((c.fmod 1000000007+7919 * k+1) * 48271).fmod 2147483647=s;have s0:0<=s:=by rw[<-hs];exact pA _ (by decide)
 have s1:s < 2147483647:=by rw[<-hs];exact tN _ (by decide)
 have z4:eG (.int s) (.int s) st= .ok (.int (s * s)) st:=De (by omega) (by omega);refine⟨((s * s).fmod 2147483629 * 69621).fmod 2147483647,pA _ (by decide),?_⟩;unfold fK cA kq;simp[z1,z2,z3,z4,hs,y6]
variable{ns:List Int}
theorem Ju(h0:0<=k)(c:k < ns.length):L2.pW (ns.map Wv.int) k=some (.int (ns.getD k.toNat 0)):=by
 have hk:k.toNat < ns.length:=by omega
 have ek:k=((k.toNat:Nat):Int):=by omega
 have q:=L2.iX (xs:=ns.map Wv.int) (j:=k.toNat) (v:=.int (ns.getD k.toNat 0)) (by simp[hk]);rw[<-ek]at q;exact q
theorem Dj(h:ao st l=some (ns.map Wv.int))(h0:0<=k):∃v:Int,cG [.ref l,.int k] st= .ok (.int v) st:=by
 have ln:=Jn h;rw[bf]at ln;unfold cG cA iI;by_cases c:k < ns.length
 ·exact⟨_,by simp[ln,c,Bm h (Ju h0 c)];rfl⟩
 ·exact⟨0,by simp[ln,c]⟩
theorem Wm:rn (.int 10) (.int 60) st= .ok (.int (10 ^ 60)) st:=Ot (by decide)
theorem M9(h:ao st l=some (ns.map Wv.int))(h0:0<=k)(h1:k<=1000):∃n:Int,iK [.ref l,.int k] st= .ok (.ref st.length) (st++[.lst [.int n]]):=by
 obtain⟨v0,ev0⟩:=Dj h h0;have ln:=Jn h;rw[bf]at ln;have sm:=Wg h;have l2:∃(Xy:Option Wv)(g':Int),c_ 3 f_ (cg 0 6) [some (.ref l),some (.int k),some (.int 0),none] st= .nx [some (.ref l),some (.int k),some (.int g'),Xy] st:=by obtain⟨ρ,st',e,Xy,g',rfl,rfl⟩:=sV (i:=3) (gb:=f_) (λρ st'=>∃(o3:Option Wv)(g:Int),ρ=[some (.ref l),some (.int k),some (.int g),o3]/\st'=st) (cg 0 6) [some (.ref l),some (.int k),some (.int 0),none] st ⟨none,0,rfl,rfl⟩ (by rintro w hw _ s ⟨o3,g,rfl,rfl⟩;obtain⟨j,rfl,j0,j1⟩:=wO hw;obtain⟨u,_,eu⟩:=mixed (st:=s) (c:=ns.sum+v0) (k:=500+8 * k+j) (by omega) (by omega);have z1:eG (.int 8) (.int k) s= .ok (.int (8 * k)) s:=De (by decide) (by decide);have z3:eG (.int g) (.int 2147483647) s= .ok (.int (g * 2147483647)) s:=mul_r (by decide) (by decide);refine⟨_,_,?_,⟨some (.int j),g * 2147483647+u,rfl,rfl⟩⟩;unfold f_;simp[sm,ev0,z1,z3,eu]);exact⟨Xy,g',e⟩
 obtain⟨Xy,g',e2⟩:=l2;have f8:∀i:Int,i7 (.int i) (.int 8) st= .ok (.int (i.fdiv 8)) st:=λi=>sT (by decide);have c6:cW 6:=Bp (by decide) (by decide);have p6:rn (.int 10) (.int 6) st= .ok (.int (10 ^ 6)) st:=Ot (by decide);unfold iK cA nk;by_cases c:k < ns.length
 ·have x:=Bm h (Ju h0 c);generalize ns.getD k.toNat 0=u at x;by_cases d:1000000 < u
  ·exact⟨_,by simp[ln,c,x,p6,d];rfl⟩
  ·exact⟨_,by simp[ln,c,x,p6,d,c6,e2,f8];rfl⟩
 ·exact⟨_,by simp[ln,c,c6,e2,f8];rfl⟩
def J_:Int:=10 ^ 60
theorem Jv:rn (.int 10) (.int 60) st= .ok (.int J_) st:=Wm
variable{ws:List Wv}
theorem pick(h:Ro r st)(hw:(ws.length:Int)=m)(h0:0 < m)(h1:m < 1000000):
  ∃d v st',aq [.ref r,.int m] (st++[.lst ws])= .ok (.int d) st'/\aQ (.ref st.length) (.int d) st'= .ok v st'/\v∈ws/\Dw r st st':=by
 have hr:r < st.length:=let ⟨v,e⟩:=h;iH e;obtain⟨d,s2,e2,d0,d1,k2,Wl⟩:=dig (m:=m) (h.push (o:=.lst ws)) h0 h1;obtain⟨v,e3,e4⟩:=zd (ws:=ws) (d:=d) d0 (by omega);exact⟨d,v,s2,e2,Bm (k2.lst fm (by omega)) e3,e4,cY.push.trans k2,Wl⟩
theorem Wn(h:Ro r st):∃p st',bY [.ref r,.int 2] st= .ok (tI p) st'/\Dw r st st':=let ⟨p,st',e,_,_,d⟩:=pins h (n:=2) (by decide);⟨p,st',e,d⟩
theorem Ox(h:Ro r st):∃p st',bY [.ref r,.int 4] st= .ok (tI p) st'/\Dw r st st':=let ⟨p,st',e,_,_,d⟩:=pins h (n:=4) (by decide);⟨p,st',e,d⟩
theorem number(h:Ro r st):∃n st',eJ [.ref r] st= .ok (.int n) st'/\Dw r st st':=by
 obtain⟨w,s1,e1,w0,w1,d1⟩:=dig (m:=5) h (by decide) (by decide);unfold eJ cA ju;by_cases c0:w=0
 ·obtain⟨d,s2,e2,a0,a1,d2⟩:=dig (m:=3) d1.2 (by decide) (by decide);subst c0;exact⟨J_ - d,s2,by simp[e1,e2,Jv],d1.trans d2⟩
 have b0:(w == 0)=false:=beq_false_of_ne c0;obtain⟨d,s2,e2,a0,a1,d2⟩:=dig (m:=6) d1.2 (by decide) (by decide);exact⟨d,s2,by simp[e1,e2,b0],d1.trans d2⟩
variable{d:Int}
theorem Dk(h0:0<=d)(h1:d < ws.length):∃v,aQ (.ref st.length) (.int d) (st++[.lst ws])= .ok v (st++[.lst ws])/\v∈ws:=by obtain⟨v,e3,e4⟩:=zd (ws:=ws) (d:=d) h0 h1;exact⟨v,Bm fm e3,e4⟩
theorem Dw.push(h:Ro r st):Dw r st (st++[o]):=⟨cY.push,h.push⟩
theorem leaf(h:Ro r st):∃ws st',fo [.ref r,tI [a,b]] st= .ok (.tup ws) st'/\Dw r st st':=by
 obtain⟨w,s1,e1,w0,w1,d1⟩:=dig (m:=8) h (by decide) (by decide);unfold fo cA lL;by_cases c0:w=0
 ·subst c0;obtain⟨i,s2,e2,d2⟩:=number d1.2;exact⟨_,s2,by simp[e1,e2];rfl,d1.trans d2⟩
 have b0:(w == 0)=false:=beq_false_of_ne c0;by_cases c1:w=1
 ·subst c1;obtain⟨d,v,s4,e4,e5,hv,d4⟩:=pick (m:=4) (ws:=[.str "",.str "a",.str "b7",.str "no"]) d1.2 rfl (by decide) (by decide);exact⟨_,s4,by simp[e1,e4,e5];rfl,d1.trans d4⟩
 have b1:(w == 1)=false:=beq_false_of_ne c1;have at':∀s2,Dw r s1 s2->∃(l p:List Int)(s4 s5:Hs),cO [.ref r,tI [a,b]] s2= .ok (tI l) s4/\bY [.ref r,.int 2] s4= .ok (tI p) s5/\Dw r st s5:=λs2 d2=>by obtain⟨c,d,s4,e4,_,d4⟩:=place (a:=a) (b:=b) d2.2;obtain⟨p,s5,e5,d5⟩:=Wn d4.2;exact⟨_,p,s4,s5,e4,e5,((d1.trans d2).trans d4).trans d5⟩
 by_cases c2:w=2
 ·subst c2;obtain⟨x,s2,e2,x0,x1,d2⟩:=dig (m:=3) d1.2 (by decide) (by decide);by_cases cx:x=0
  ·subst cx;exact⟨_,s2,by simp[e1,e2];rfl,d1.trans d2⟩
  ·have bx:(x == 0)=false:=beq_false_of_ne cx;obtain⟨l,p,s4,s5,e4,e5,d5⟩:=at' s2 d2;exact⟨_,s5,by simp[e1,e2,bx,e4,e5];rfl,d5⟩
 have b2:(w == 2)=false:=beq_false_of_ne c2;by_cases c3:w < 6
 ·obtain⟨l,p,s4,s5,e4,e5,d5⟩:=at' s1 (Dw.of d1.2);exact⟨_,s5,by simp[e1,b0,b1,b2,c3,e4,e5];rfl,d5⟩
 ·obtain⟨d,v,s2,e2,e3,hv,d2⟩:=pick (m:=4) (ws:=[.str "sum",.str "count",.str "least",.str "greatest"]) d1.2 rfl (by decide) (by decide);obtain⟨t,l,p,q,s3,e4,_,d3⟩:=Ss (a:=a) (b:=b) d2.2;obtain⟨z,s4,e5,d4⟩:=Ox d3.2;exact⟨_,s4,by simp[e1,b0,b1,b2,c3,e2,e3,e4,e5];rfl,((d1.trans d2).trans d3).trans d4⟩
theorem zw(h:Ro r st):∃ws st',bO (n+1) [.ref r,tI [a,b],.int 0] st= .ok (.tup ws) st'/\Dw r st st':=by obtain⟨ws,s2,e2,d2⟩:=leaf (a:=a) (b:=b) h;rw[gT];unfold cA dE;exact⟨ws,s2,by simp[e2],d2⟩
theorem M_(n:Nat):∀{st:Hs}{k:Nat},Ro r st->k<=n->∃ws st',bO (n+1) [.ref r,tI [a,b],.int k] st= .ok (.tup ws) st'/\Dw r st st':=by
 induction n with
 |zero=>
  intro st k h hk;obtain rfl:k=0:=by omega
  exact zw h
 |succ n ih=>
  intro st k h hk;by_cases c0:k=0
  ·subst c0;exact zw h
  rw[gT];unfold cA dE;obtain⟨w,s1,e1,w0,w1,d1⟩:=dig (m:=16) h (by decide) (by decide);have bk:((k:Int) == 0)=false:=beq_false_of_ne (by omega);by_cases cw:w < 3
  ·obtain⟨ws,s2,e2,d2⟩:=leaf (a:=a) (b:=b) d1.2;exact⟨ws,s2,by simp[e1,e2,bk,cw],d1.trans d2⟩
  have ek:((k:Int) - 1)=((k - 1:Nat):Int):=by omega
  obtain⟨x,s2,e2,d2⟩:=ih (k:=k - 1) d1.2 (by omega);by_cases c5:w < 5
  ·obtain⟨v,e3,hv⟩:=Dk (st:=s2) (ws:=[.str "minus",.str "not"]) (d:=w - 3) (by omega) (by simp;omega);exact⟨_,s2++[.lst [.str "minus",.str "not"]],by simp[e1,bk,cw,ek,e2,c5,e3];rfl,(d1.trans d2).trans (Dw.push d2.2)⟩
  by_cases c6:w=5
  ·subst c6;obtain⟨t,l,p,q,s3,e3,_,d3⟩:=Ss (a:=a) (b:=b) d2.2;obtain⟨z,s4,e4,d4⟩:=Ox d3.2;exact⟨_,s4,by simp[e1,bk,ek,e2,e3,e4];rfl,((d1.trans d2).trans d3).trans d4⟩
  have b6:(w == 5)=false:=beq_false_of_ne c6;obtain⟨y,s3,e3,d3⟩:=ih (k:=k - 1) d2.2 (by omega);by_cases c8:w < 8
  ·obtain⟨z,s4,e4,d4⟩:=ih (k:=k - 1) d3.2 (by omega);exact⟨_,s4,by simp[e1,bk,cw,c5,b6,ek,e2,e3,c8,e4];rfl,((d1.trans d2).trans d3).trans d4⟩
  by_cases c15:w=15
  ·subst c15;obtain⟨d,v,s4,e4,e5,hv,d4⟩:=pick (m:=2) (ws:=[.str "=",.str "&"]) d3.2 rfl (by decide) (by decide);exact⟨_,s4,by simp[e1,bk,ek,e2,e3,e4,e5];rfl,((d1.trans d2).trans d3).trans d4⟩
  have b15:(w == 15)=false:=beq_false_of_ne c15;obtain⟨v,e4,hv⟩:=Dk (st:=s3) (ws:=[.str "else",.str "rest",.str "+",.str "-",.str "*",.str "/",.str "<"]) (d:=w - 8) (by omega) (by simp;omega);exact⟨_,s3++[.lst [.str "else",.str "rest",.str "+",.str "-",.str "*",.str "/",.str "<"]],by simp[e1,bk,cw,c5,b6,ek,e2,e3,c8,b15,e4];rfl,((d1.trans d2).trans d3).trans (Dw.push d3.2)⟩
def Cv(v:Wv):Prop:=(∃i:Int,v= .int i)\/(∃x:S,v= .str x)\/∃ws,v= .tup ws
theorem Wo:IntMulOk 2 J_:=by unfold J_;decide+kernel
theorem content(h:Ro r st):∃v st',dF [.ref r,tI [a,b],.int 1] st= .ok v st'/\(v= .bK\/Cv v)/\Dw r st st':=by
 obtain⟨w,s1,e1,w0,w1,d1⟩:=dig (m:=8) h (by decide) (by decide);unfold dF cA iL;by_cases c0:w=0
 ·subst c0;exact⟨.bK,s1,by simp[e1],.inl rfl,d1⟩
 have b0:(w == 0)=false:=beq_false_of_ne c0;by_cases c1:w=1
 ·subst c1;obtain⟨v,e⟩:=id d1.2;have e2:=digit (many:=2 * J_+1) e ⟨by unfold J_;decide+kernel,by unfold J_;decide+kernel⟩;refine⟨.int (v.fmod (2 * J_+1) - J_),s1.set r (.lst [.int (v.fdiv (2 * J_+1))]),?_,.inr (.inl ⟨_,rfl⟩),d1.trans ⟨cY.set,_,eW e⟩⟩;simp[e1,Jv,Jm Wo,e2]
 have b1:(w == 1)=false:=beq_false_of_ne c1;by_cases c2:w=2
 ·subst c2;obtain⟨d,s2,e2,_,_,d2⟩:=dig (m:=5) d1.2 (by decide) (by decide);exact⟨.int (d - 1),s2,by simp[e1,e2],.inr (.inl ⟨_,rfl⟩),d1.trans d2⟩
 have b2:(w == 2)=false:=beq_false_of_ne c2;by_cases c3:w=3
 ·subst c3;obtain⟨d,v,s4,e4,e5,hv,d4⟩:=pick (m:=4) (ws:=[.str "",.str "a",.str "b7",.str "no"]) d1.2 rfl (by decide) (by decide);obtain⟨i,rfl⟩:∃i:S,v= .str i:=by simp at hv;rcases hv with rfl |rfl |rfl |rfl<;>exact⟨_,rfl⟩
  exact⟨.str i,s4,by simp[e1,e4,e5],.inr (.inr (.inl ⟨i,rfl⟩)),d1.trans d4⟩
 have b3:(w == 3)=false:=beq_false_of_ne c3;obtain⟨ws,s2,e2,d2⟩:=M_ (a:=a) (b:=b) 5 (k:=1) d1.2 (by omega);have TR:aR [.ref r,tI [a,b],.int 1] s1= .ok (.tup ws) s2:=e2;exact⟨.tup ws,s2,by simp[e1,b0,b1,b2,b3,TR],.inr (.inr (.inr ⟨ws,rfl⟩)),d1.trans d2⟩
def xc(a b:Int):Prop:=0<=a/\a<=96/\0<=b/\b<=22
theorem spot(h:ao st l=some (ns.map Wv.int)):∃a b st',gI [.ref l] st= .ok (tI [a,b]) st'/\xc a b/\∃more,st'=st++more:=by
 obtain⟨v,e⟩:=Dj h (k:=0) (by decide);have lg:∀j:Int,(j=2\/j=4\/j=400)->j≠0/\j.natAbs.log2 < 9000:=by rintro j (rfl |rfl |rfl)<;>decide+kernel
 let f:=v.fdiv 2
 let x:=(f.fdiv 4).fmod 97
 let y:=(f.fdiv 400).fmod 23
 have x0:0<=x:=pA _ (by decide);have x1:x < 97:=tN _ (by decide);have y0:0<=y:=pA _ (by decide);have y1:y < 23:=tN _ (by decide)
 let s1:=st++[.lst [.int 0,.int x]]
 let s2:=s1++[.lst [.int 0,.int y]]
 obtain⟨p,e2,hp⟩:=Dk (st:=st) (ws:=[.int 0,.int x]) (d:=f.fmod 2) (pA _ (by decide)) (by simpa using tN f (by decide));obtain⟨q,e3,hq⟩:=Dk (st:=s1) (ws:=[.int 0,.int y]) (d:=(f.fdiv 2).fmod 2) (pA _ (by decide)) (by simpa using tN (f.fdiv 2) (by decide));obtain⟨a,rfl,ha⟩:∃a:Int,p= .int a/\0<=a/\a<=96:=by
  simp at hp;rcases hp with rfl |rfl
  ·exact⟨0,rfl,by omega⟩
  ·exact⟨x,rfl,by omega⟩
 obtain⟨b,rfl,hb⟩:∃b:Int,q= .int b/\0<=b/\b<=22:=by
  simp at hq;rcases hq with rfl |rfl
  ·exact⟨0,rfl,by omega⟩
  ·exact⟨y,rfl,by omega⟩
 refine⟨a,b,s2,?_,⟨ha.1,ha.2,hb.1,hb.2⟩,[.lst [.int 0,.int x],.lst [.int 0,.int y]],by simp[s2,s1]⟩;have m1:∀{i:Int}{s:Hs},oMod (.int i) (.int 97) s= .ok (.int (i.fmod 97)) s:=y6 (by decide);have m2:∀{i:Int}{s:Hs},oMod (.int i) (.int 23) s= .ok (.int (i.fmod 23)) s:=y6 (by decide);have m3:∀{i:Int}{s:Hs},oMod (.int i) (.int 2) s= .ok (.int (i.fmod 2)) s:=y6 (by decide);have f2:∀{i:Int}{s:Hs},i7 (.int i) (.int 2) s= .ok (.int (i.fdiv 2)) s:=sT (lg 2 (by simp));have f4:∀{i:Int}{s:Hs},i7 (.int i) (.int 4) s= .ok (.int (i.fdiv 4)) s:=sT (lg 4 (by simp));have aai:∀{i:Int}{s:Hs},i7 (.int i) (.int 400) s= .ok (.int (i.fdiv 400)) s:=sT (lg 400 (by simp));unfold gI cA lF;dsimp only[s1,x,y,f]at e2 e3 ⊢;simp[e,m1,m2,m3,f2,f4,aai,e2];simp at e3;simp[e3,tI,s2,s1,x,y,f]
variable{x:Wv}
theorem Oy:aQ (.tup (x::ws)) (.int 0) st= .ok x st:=y9 (L2.iX (j:=0) rfl)
theorem Su{y:Wv}:aQ (.tup (x::y::ws)) (.int 1) st= .ok y st:=y9 (L2.iX (j:=1) rfl)
theorem aaj(h:st[l]? =some (.lst ws)):pN [.ref l] st= .ok (.tup ws) st:=by
 show(match ao st l with |some ws=>Re.ok (Wv.tup ws) st |none=> .bad)=_
 rw[c7 h]
theorem cat{xs ys:List Wv}(h:xs.length+ys.length<=100):cV (.tup (x::xs)) (.tup ys) st= .ok (.tup (x::(xs++ys))) st:=by show(if(x::xs).length+ys.length<=lim then Re.ok (Wv.tup (x::xs++ys)) st else .bad)=_;rw[if_pos (by simp[lim];omega)];rfl
def cI(a b:Int):Prop:=0<=a/\a<=98/\0<=b/\b<=25
instance {a b:Int}:Decidable (cI a b):=by unfold cI;infer_instance
instance {a b c d:Int}:Decidable (f7 a b c d):=by unfold f7;infer_instance
theorem zx{us:List Wv}{lo hi:Option Int}(h:¬lx ws.length lo hi)(h2:xM ws lo hi=us):yc (.tup ws) lo hi st= .ok (.tup us) st:=by show(if lx ws.length lo hi then Re.ok (Wv.tup ws) st else TQ (.tup ws) lo hi st)=_;rw[if_neg h];show(if lx ws.length lo hi then Re.bad else Re.ok (Wv.tup (xM ws lo hi)) st)=_;rw[if_neg h,h2]
theorem tO:dH [.tup (.int a:: .int b::ws)] st= .ok (.bl (decide (cI a b))) st:=by
 unfold dH cA nu;by_cases c1:0<=a
 ·by_cases c2:a < 99
  ·by_cases c3:0<=b
   ·by_cases c4:b < 26
    ·have e:decide (cI a b)=true:=decide_eq_true ⟨c1,by omega,c3,by omega⟩;simp[Oy,Su,c1,c2,c3,c4,e]
    ·have e:decide (cI a b)=false:=decide_eq_false λh=>c4 (by have:=h.2.2.2;omega);simp[Oy,Su,c1,c2,c3,c4,e]
   ·have e:decide (cI a b)=false:=decide_eq_false λh=>c3 h.2.2.1;simp[Oy,Su,c1,c2,c3,e]
  ·have e:decide (cI a b)=false:=decide_eq_false λh=>c2 (by have:=h.2.1;omega);simp[Oy,Su,c1,c2,e]
 ·have e:decide (cI a b)=false:=decide_eq_false λh=>c1 h.1;simp[Oy,Su,c1,e]
variable{i:Int}
theorem aak{j:Int}(h:(-1000000<=i/\i<=1000000)\/(-1000000<=j/\j<=1000000)):eG (.int i) (.int j) st= .ok (.int (i * j)) st:=by
 rcases h with h |h
 ·exact De (by omega) (by omega)
 ·exact mul_r (by omega) (by omega)
theorem Oz{a b c d:Wv}:yc (.tup [a,b,c,d]) none (some 2) st= .ok (.tup [a,b]) st:=zx (by show ¬lx 4 none (some 2);decide+kernel) rfl
theorem OA{a b c d:Wv}:yc (.tup [a,b,c,d]) (some 2) none st= .ok (.tup [c,d]) st:=zx (by show ¬lx 4 (some 2) none;decide+kernel) rfl
def Co(a b c d:Int):Prop:=(a<=c/\b<=d)/\cI a b/\cI c d
instance {a b c d:Int}:Decidable (Co a b c d):=by unfold Co;infer_instance
theorem ix4{a b c d:Wv}:aQ (.tup [a,b,c,d]) (.int 0) st= .ok a st/\aQ (.tup [a,b,c,d]) (.int 1) st= .ok b st/\aQ (.tup [a,b,c,d]) (.int 2) st= .ok c st/\aQ (.tup [a,b,c,d]) (.int 3) st= .ok d st :=
 ⟨y9 (L2.iX (j:=0) rfl),y9 (L2.iX (j:=1) rfl),y9 (L2.iX (j:=2) rfl),y9 (L2.iX (j:=3) rfl)⟩
theorem lY:cS [tI [a,b,c,d]] st= .ok (.bl (decide (Co a b c d))) st:=by
 obtain⟨i0,i1,i2,i3⟩:=ix4 (a:=.int a) (b:=.int b) (c:=.int c) (d:=.int d) (st:=st);unfold cS cA jw tI;simp only[aH,qo];by_cases c1:a<=c
 ·by_cases c2:b<=d
  ·by_cases c3:cI a b
   ·have e:decide (Co a b c d)=decide (cI c d):=by unfold Co;simp[c1,c2,c3]
    simp[i0,i1,i2,i3,c1,c2,Oz,OA,tO,c3,e]
   ·have e:decide (Co a b c d)=false:=decide_eq_false λh=>c3 h.2.1;simp[i0,i1,i2,i3,c1,c2,Oz,OA,tO,c3,e]
  ·have e:decide (Co a b c d)=false:=decide_eq_false λh=>c2 h.1.2;simp[i0,i1,i2,i3,c1,c2,e]
 ·have e:decide (Co a b c d)=false:=decide_eq_false λh=>c1 h.1.1;simp[i0,i1,i2,i3,c1,e]
theorem M':jS [tI [a,b,c,d]] st= .ok (.bl (decide (f7 a b c d))) st:=by
 obtain⟨i0,i1,i2,i3⟩:=ix4 (a:=.int a) (b:=.int b) (c:=.int c) (d:=.int d) (st:=st);unfold jS cA ph;by_cases h:Co a b c d
 ·have hm:eG (.int (c - a+1)) (.int (d - b+1)) st= .ok (.int ((c - a+1) * (d - b+1))) st:=by obtain⟨⟨h1,h2⟩,h3,h4⟩:=h;exact aak (.inl ⟨by omega,by have:=h3.1;have:=h4.2.1;omega⟩)
  have am:gJ [tI [a,b,c,d]] st= .ok (.int ((c - a+1) * (d - b+1))) st:=by unfold gJ cA lQ tI;simp only[aH,qo];simp[i0,i1,i2,i3,hm]
  have e:decide (f7 a b c d)=decide ((c - a+1) * (d - b+1)<=300):=by
   obtain⟨⟨h1,h2⟩,h3,h4⟩:=h;unfold cI at h3 h4;unfold f7
   congr 1
   apply propext;constructor
   ·exact λz=>z.2.2.2.2.2.2
   ·exact λz=>⟨h3.1,h1,h4.2.1,h3.2.2.1,h2,h4.2.2.2,z⟩
  have hc:=lY (a:=a) (b:=b) (c:=c) (d:=d) (st:=st);rw[decide_eq_true h]at hc;simp[hc,am,e]
 ·have hc:=lY (a:=a) (b:=b) (c:=c) (d:=d) (st:=st);rw[decide_eq_false h]at hc;have e:decide (f7 a b c d)=false:=decide_eq_false λz=>h (by obtain⟨z1,z2,z3,z4,z5,z6,_⟩:=z;exact⟨⟨z2,z5⟩,⟨z1,by omega,z4,by omega⟩,⟨by omega,z3,by omega,z6⟩⟩);simp[hc,e]
theorem made_place(h:cI a b):di [.int a,.int b] st= .ok (tI [a,b]) st:=by unfold di cA kQ;simp[tO,h,tI]
theorem vn(h:f7 a b c d):dI [.int a,.int b,.int c,.int d] st= .ok (tI [a,b,c,d]) st:=by have e:=M' (a:=a) (b:=b) (c:=c) (d:=d) (st:=st);simp[tI]at e;unfold dI cA lS;simp[e,h,tI]
theorem Xz{a b c d:Wv}:aQ (.tup [a,b,c,d]) (.int 0) st= .ok a st/\aQ (.tup [a,b,c,d]) (.int 1) st= .ok b st/\aQ (.tup [a,b,c,d]) (.int 2) st= .ok c st/\aQ (.tup [a,b,c,d]) (.int 3) st= .ok d st:=⟨rfl,rfl,rfl,rfl⟩
theorem Dl{p q:Int}(h:f7 a b c d)(k:cI p q):dJ [tI [a,b,c,d],tI [p,q]] st=if Co p q (p+c - a) (q+d - b)then .ok (tI [p,q,p+c - a,q+d - b]) st else .err "NoRoom" st:=by
 have e:=vn (st:=st) h;have e2:=made_place (st:=st) k;have e3:=lY (a:=p) (b:=q) (c:=p+c - a) (d:=q+d - b) (st:=st);have e4:=cat (x:=.int p) (xs:=[.int q]) (ys:=[.int (p+c - a),.int (q+d - b)]) (st:=st) (by simp);simp[tI]at e e2 e3 e4;unfold dJ cA iQ;by_cases hc:Co p q (p+c - a) (q+d - b)
 ·simp[tI,Xz,Wi,Wj,e,e2,e4,e3,hc]
 ·simp[tI,Xz,Wi,Wj,e,e2,e4,e3,hc,lim]
theorem pB{xs:List Ob}:ao (st++ .lst ws::xs) st.length=some ws:=by unfold ao;simp
variable{m:Nat}{more:Hs}{acc row:List Wv}
section
variable {a b c d:Int}{st:Hs}
theorem at1:L2.pW [Wv.int a,.int b,.int c,.int d] 1=some (.int b):=rfl
theorem at3:L2.pW [Wv.int a,.int b,.int c,.int d] 3=some (.int d):=rfl
def pC(r b:Int)(n:Nat):List Wv:=(aU n).map λk:Nat=> .tup [.int r,.int (b+k)]
def gW(a b:Int)(m n:Nat):List Wv:=((aU m).map λk:Nat=>pC (a+k) b n).flatten
theorem vo:(gW a b m n).length=m * n:=by
 unfold gW;rw[List.length_flatten,cu];have:(fv ∘ λk:Nat=>pC (a+k) b n)=λ_=>n:=by funext k;simp[pC]
 rw[this];clear this
 induction m with
 |zero=>simp
 |succ m ih=>rw[CN,hU,List.sum_append,ih,Nat.succ_mul];simp
theorem BA:gW a b (m+1) n=gW a b m n++pC (a+m) b n:=by unfold gW;rw[CN,hU,List.flatten_append];simp
theorem Jw{o:Wv}{r:Int}(hb:cW b)(hd:cW (d+1))(hn:(d+1 - b).toNat<=300):
  iD [("row",2)] (G0 (aa (ah aQ (af 0) (gC (.int 1))) (aa (ah cV (ah aQ (af 0) (gC (.int 3))) (gC (.int 1))) aj))) dG cQ [some (.tup [.int a,.int b,.int c,.int d]),some o,some (.int r)] st=
   .ok (.ref st.length) (st++[.lst (pC r b (d+1 - b).toNat)]):=by
 have q:=mE (cs:=[("row",2)]) (gt:=dG) (ge:=cQ) (ρ:=[some (.tup [.int a,.int b,.int c,.int d]),some o,some (.int r)]) (w:=(none,cg b (d+1 - b).toNat)) (st:=st) (t:=λ_=>true) (f:=λv=> .tup [.int r,v]) trivial
  (λv _ acc=>rfl) (λv _ _ acc=>by unfold cQ;simp[cX]) (by rw[show((none,cg b (d+1 - b).toNat):Wk).2=cg b (d+1 - b).toNat from rfl,dq];unfold lim;omega)
 have e:((cg b (d+1 - b).toNat).filter λ_=>true).map (λv=>Wv.tup [.int r,v])=pC r b (d+1 - b).toNat:=by rw[List.filter_eq_self.mpr (λ_ _=>rfl)];unfold cg pC;rw[cu];rfl
 rw[show((none,cg b (d+1 - b).toNat):Wk).2=cg b (d+1 - b).toNat from rfl,e]at q;simp[y9 at1,y9 at3,Sn hb hd,q]
theorem CI(h:acc.length+row.length<=lim):Qz (.ref st.length) (.ref (st++ .lst acc::more).length) ((st++ .lst acc::more)++[.lst row])= .ok .bK (st++ .lst (acc++row)::(more++[.lst row])):=by
 have g1:((st++Ob.lst acc::more)++[Ob.lst row])[st.length]? =some (.lst acc):=by simp
 have g2:((st++Ob.lst acc::more)++[Ob.lst row])[(st++Ob.lst acc::more).length]? =some (.lst row):=by rw[fz (ar _),qr];rfl
 show(match((st++Ob.lst acc::more)++[Ob.lst row])[st.length]?,((st++Ob.lst acc::more)++[Ob.lst row])[(st++Ob.lst acc::more).length]? with
  |some (.lst ws),some (.lst zs)=>if ws.length+zs.length<=lim then Re.ok Wv.bK (((st++Ob.lst acc::more)++[Ob.lst row]).set st.length (.lst (ws++zs)))else .bad
  |_,_=> .bad)=_
 rw[g1,g2];dsimp only;rw[if_pos h]
 congr 1
 simp
theorem Jx(h:acc.length+row.length<=lim):yu (.ref st.length) (.ref (st++ .lst acc::more).length) ((st++ .lst acc::more)++[.lst row])= .ok .bK (st++ .lst (acc++row)::(more++[.lst row])):=CI h
theorem EW(hb:cW b)(hd:cW (d+1))(hn:(d+1 - b).toNat<=300)(hm:m<=100){ρ0:Option Wv}:∃(o:Option Wv)(more:Hs),
  c_ 2 c9 (cg a m) [some (.tup [.int a,.int b,.int c,.int d]),some (.ref st.length),ρ0] (st++[.lst []])= .nx [some (.tup [.int a,.int b,.int c,.int d]),some (.ref st.length),o] (st++ .lst (gW a b m (d+1 - b).toNat)::more):=by
 obtain⟨ρ1,st1,e1,o,more,rfl,rfl⟩:=Dg (i:=2) (gb:=c9) (λk ρ st'=>∃(o:Option Wv)(more:Hs),ρ=[some (.tup [.int a,.int b,.int c,.int d]),some (.ref st.length),o]/\st'=st++ .lst (gW a b k (d+1 - b).toNat)::more)
  (cg a m) 0 [some (.tup [.int a,.int b,.int c,.int d]),some (.ref st.length),ρ0] (st++[.lst []]) ⟨ρ0,[],rfl,rfl⟩ (λj w hw ρ st' hP=>by
   obtain⟨o,more,rfl,rfl⟩:=hP;have hj:j < m:=by have q:=(List.getElem?_eq_some_iff.mp hw).1;rw[dq]at q;exact q
   rw[uN hj]at hw;cases hw;have ln:(gW a b (0+j) (d+1 - b).toNat).length+(pC (a+j) b (d+1 - b).toNat).length<=lim:=by
    rw[vo];have z:(pC (a+(j:Int)) b (d+1 - b).toNat).length=(d+1 - b).toNat:=by unfold pC;simp
    rw[z];have:(0+j) * (d+1 - b).toNat<=100 * 300:=Nat.mul_le_mul (by omega) hn;unfold lim;omega
   refine⟨_,_,?_,some (.int (a+(j:Int))),more++[.lst (pC (a+j) b (d+1 - b).toNat)],rfl,rfl⟩;have e:gW a b (0+j+1) (d+1 - b).toNat=gW a b (0+j) (d+1 - b).toNat++pC (a+j) b (d+1 - b).toNat:=by rw[qA];exact BA
   rw[e];have rc:=Jw (a:=a) (c:=c) (o:=.ref st.length) (r:=a+(j:Int)) (st:=st++ .lst (gW a b (0+j) (d+1 - b).toNat)::more) hb hd hn;have km:=λga ρ=>Df (mt:=yu) (ga:=ga) (ρ:=ρ) (st:=st++ .lst (gW a b (0+j) (d+1 - b).toNat)::more) (l:=st.length) pB;have em:=Jx (st:=st) (more:=more) ln;unfold c9;simp only[e_expr,Sl,Wb,qB,xf,List.getElem?_cons_succ,List.getElem?_cons_zero,Wa,M5,km,rc,em,Sh,Sg])
 exact⟨o,more,by rw[e1,dq,qA]⟩
theorem tP(h:f7 a b c d):∃more:Hs,dY [tI [a,b,c,d]] st= .ok (.ref st.length) (st++ .lst (gW a b (c+1 - a).toNat (d+1 - b).toNat)::more):=by
 unfold f7 at h;obtain⟨o,more,e⟩:=EW (a:=a) (c:=c) (st:=st) (b:=b) (d:=d) (ρ0:=none) (by unfold cW;omega) (by unfold cW;omega) (by omega) (m:=(c+1 - a).toNat) (by omega);have ca:cW a:=by unfold cW;omega
 have cc:cW (c+1):=by unfold cW;omega
 refine⟨more,vi (n:=3) (g:=dX) ?_⟩;unfold dX;simp[tI,Xz,ca,cc];simp[e]
theorem zy(h:f7 a b c d):∃more:Hs,bV [tI [a,b,c,d]] st= .ok (.ref st.length) (st++ .lst (gW a b (c+1 - a).toNat (d+1 - b).toNat)::more):=by obtain⟨more,e⟩:=tP (st:=st) h;have m:=vn (st:=st) h;refine⟨more,vi (n:=1) (g:=gn) ?_⟩;unfold gn;simp[tI]at e m;simp[tI,Xz,m,e]
end
def ky(p q:Int):List L2.Key:=[.inl p,.inl q]
abbrev Ks:=List (List L2.Key×Wv)
abbrev Pt:=Int×Int
def mO(p:Pt):List L2.Key:=ky p.1 p.2
def Wq:List Pt:=(aU 2574).map λk=>(((k / 26:Nat):Int),((k % 26:Nat):Int))
def uq{α:Type}(f:α->Nat):List α->Nat->Bool
 |[],_=>true
 |x::r,acc=> !(acc.testBit (f x))&&uq f r (acc||| 2 ^ f x)
theorem OB{α:Type}{f:α->Nat}:∀{l:List α}{acc:Nat},uq f l acc=true->(∀x∈l,∀y∈l,f x=f y->x=y)/\∀x∈l,acc.testBit (f x)=false
 |[],_,_=>⟨λx hx=>(by cases hx),λx hx=>by cases hx⟩
 |x::r,acc,h=>by
  unfold uq at h;rw[bN]at h;obtain⟨h1,h2⟩:=OB h.2;have no:∀y∈r,acc.testBit (f y)=false/\f x≠f y:=λy hy=>by have q:=h2 y hy;rw[Nat.testBit_or,Nat.testBit_two_pow,Bool.or_eq_false_iff]at q;exact⟨q.1,of_decide_eq_false q.2⟩
  refine⟨λa ha b hb e=>?_,λy hy=>?_⟩
  ·rcases List.mem_cons.mp ha with ea |ha'
   ·rcases List.mem_cons.mp hb with eb |hb'
    ·rw[ea,eb]
    ·rw[ea]at e;exact absurd e (no b hb').2
   ·rcases List.mem_cons.mp hb with eb |hb'
    ·rw[eb]at e;exact absurd e.symm (no a ha').2
    ·exact h1 a ha' b hb' e
  ·rcases List.mem_cons.mp hy with rfl |hy
   ·simpa using h.1
   ·exact(no y hy).1
def hs(p:Pt):Int:=CA [p.1,p.2]
def hm(p:Pt):Nat:=(hs p % 19291).toNat
theorem Sv:uq hm Wq 0=true:=by decide+kernel
variable{p:Pt}
theorem zz(h:cI p.1 p.2):p∈Wq:=by
 obtain⟨a,b⟩:=p;obtain⟨h1,h2,h3,h4⟩:=h;dsimp only at h1 h2 h3 h4;refine List.mem_map.mpr ⟨a.toNat * 26+b.toNat,List.mem_range.mpr (by omega),?_⟩;refine l7 ?_ ?_
 ·show(((a.toNat * 26+b.toNat) / 26:Nat):Int)=a;omega
 ·show(((a.toNat * 26+b.toNat) % 26:Nat):Int)=b;omega
variable{q:Pt}
theorem Sw(hp:cI p.1 p.2)(hq:cI q.1 q.2)(h:hs p=hs q):p=q :=
 (OB Sv).1 p (zz hp) q (zz hq) (by unfold hm;rw[h])
theorem Dm:∀l:List Pt,lD (l.map mO)=some (l.map λp=>[p.1,p.2])
 |[]=>rfl
 |p::r=>by rw[aH,aH];unfold lD;rw[Dm r];rfl
theorem zE:∀{l:List Pt},l.Nodup->(∀p∈l,cI p.1 p.2)->(l.map hs).Nodup
 |[],_,_=>l8
 |p::r,h,k=>by rw[hV]at h;rw[aH,hV];refine⟨λz=>?_,zE h.2 λq hq=>k q (av _ hq)⟩;obtain⟨q,hq,e⟩:=List.mem_map.mp z;exact h.1 (Sw (k q (av _ hq)) (k p ax) e ▸ hq)
theorem Sx(h:ky a b=ky c d):a=c/\b=d:=by unfold ky at h;injection h with h1 h2;injection h2 with h2;injection h1 with h1;injection h2 with h2;exact⟨h1,h2⟩
variable{kvs:Ks}{v:Wv}
theorem Sy{d:Nat}(h:st[d]? =some (.gM kvs))(hl:kvs.length < 1000):putD (.ref d) (.tup [.int a,.int b]) v st=some (st.set d (.gM (vY kvs (ky a b) v))):=by have hk:mL (.tup [.int a,.int b])=some (ky a b):=rfl;unfold putD;dsimp only;rw[h];dsimp only;rw[hk];dsimp only;rw[if_pos (by unfold lim;omega)]
def Sz(a b:Int)(m n:Nat):List Pt:=((aU m).map λk:Nat=>(aU n).map λj:Nat=>((a+k,b+j):Pt)).flatten
theorem zF:gW a b m n=(Sz a b m n).map pw:=by
 unfold gW Sz pC;rw[List.map_flatten,cu]
 congr 1
 refine xg λk _=>?_;show _=((aU n).map λj:Nat=>((a+k,b+j):Pt)).map pw;rw[cu];rfl
theorem Na:p∈Sz a b m n↔(a<=p.1/\p.1 < a+m)/\b<=p.2/\p.2 < b+n:=by
 unfold Sz;rw[List.mem_flatten];constructor
 ·rintro⟨l,hl,hp⟩;obtain⟨k,hk,rfl⟩:=List.mem_map.mp hl;obtain⟨j,hj,rfl⟩:=List.mem_map.mp hp;have:=List.mem_range.mp hk;have:=List.mem_range.mp hj;dsimp only;omega
 ·rintro⟨⟨h1,h2⟩,h3,h4⟩;refine⟨_,List.mem_map.mpr ⟨(p.1 - a).toNat,List.mem_range.mpr (by omega),rfl⟩,List.mem_map.mpr ⟨(p.2 - b).toNat,List.mem_range.mpr (by omega),?_⟩⟩;refine l7 ?_ ?_
  ·show a+((p.1 - a).toNat:Int)=p.1;omega
  ·show b+((p.2 - b).toNat:Int)=p.2;omega
theorem Nb:(Sz a b m n).length=m * n:=by have:=congrArg fv (zF (a:=a) (b:=b) (m:=m) (n:=n));rw[vo,bf]at this;exact this.symm
def pD(a b c d:Int):List Pt:=Sz a b (c+1 - a).toNat (d+1 - b).toNat
section
variable {a b c d:Int}{st:Hs}
theorem Nc(h:f7 a b c d):p∈pD a b c d↔(a<=p.1/\p.1<=c)/\b<=p.2/\p.2<=d:=by unfold pD;rw[Na];unfold f7 at h;omega
theorem Jy(h:f7 a b c d):∀p∈pD a b c d,cI p.1 p.2:=λp hp=>by have:=(Nc h).mp hp;unfold f7 at h;unfold cI;omega
theorem Nd(h:f7 a b c d):((pD a b c d).length:Int)=(c - a+1) * (d - b+1):=by unfold pD;rw[Nb];unfold f7 at h;rw[Int.natCast_mul,show(((c+1 - a).toNat:Nat):Int)=c - a+1 from by omega,show(((d+1 - b).toNat:Nat):Int)=d - b+1 from by omega]
theorem iq(h:f7 a b c d):∃more:Hs,bV [tI [a,b,c,d]] st= .ok (.ref st.length) (st++ .lst ((pD a b c d).map pw)::more):=by obtain⟨more,e⟩:=zy (st:=st) h;rw[zF]at e;exact⟨more,e⟩
end
def dP(p:Pt):PyData:=.tuple [.int p.1,.int p.2]
theorem BB(p q:Pt):bI (dP p) (dP q)=decide (p=q):=by rw[qM];simp[dP,bI,ft,Prod.ext_iff]
theorem xh{st:Hs}{n:Nat}:∀l:List Pt,dD (a_ st (n+1)) (l.map pw)=some (l.map dP)
 |[]=>rfl
 |p::r=>by
  rw[aH];unfold dD;rw[xh r];have:a_ st (n+1) (pw p)=some (dP p):=by cases n<;>rfl
  rw[this];rfl
theorem Jz{ps:List Pt}(h:ao st l=some (ps.map pw)):a_ st 20 (.ref l)=some (.list (ps.map dP)):=by
 show(match ao st l with |some ws=>(dD (a_ st 19) ws).map qt |none=>none)=_
 rw[h];dsimp only;rw[xh];rfl
theorem JB:∀l:List Pt,ft (l.map dP) (l.map dP)=true
 |[]=>by simp[ft]
 |p::r=>by rw[aH];show(bI (dP p) (dP p)&&ft (r.map dP) (r.map dP))=true;rw[BB,JB r];simp
theorem Ws{ps:List Pt}(h:ao st l=some (ps.map pw))(p:Pt):rY false (pw p) (.ref l) st= .ok (.bl (decide (p∈ps))) st:=by
 have d2:a_ st 20 (pw p)=some (dP p):=rfl;have e:((ps.map dP).any λz=>bI z (dP p))=decide (p∈ps):=by
  rw[qM,List.any_eq_true,decide_eq_true_eq];constructor
  ·rintro⟨z,hz,e⟩;obtain⟨m,hm,rfl⟩:=List.mem_map.mp hz;rw[BB]at e;rw[<-of_decide_eq_true e];exact hm
  ·intro hm;exact⟨_,List.mem_map.mpr ⟨p,hm,rfl⟩,by rw[BB];simp⟩
 unfold rY;rw[Jz h,d2];dsimp only;rw[e];simp
theorem qI:∀ps:List Pt,dD mL (ps.map pw)=some (ps.map mO)
 |[]=>rfl
 |p::r=>by rw[aH];unfold dD;rw[qI r];rfl
theorem set_same(h:st[l]? =some o):st.set l o=st:=List.ext_getElem? λj=>by
 by_cases e:l=j
 ·subst e;rw[eW h,h]
 ·rw[b9 e]
inductive Sm
 |clear (a b:Int)
 |put (a b:Int) (v:Wv)
 |copy (a b c d p q:Int)
def Sm.w:Sm->Wv
 |.clear a b=> .tup [.str "clear",tI [a,b]]
 |.put a b v=> .tup [.str "put",tI [a,b],v]
 |.copy a b c d p q=> .tup [.str "copy",tI [a,b,c,d],tI [p,q]]
def Sm.Ok:Sm->Prop
 |.clear a b=>cI a b
 |.put a b v=>cI a b/\Cv v
 |.copy a b c d p q=>f7 a b c d/\(c - a < 3/\d - b < 4)/\cI p q
theorem small(h:Ro r st)(hs:xc a b):∃(s:Sm)(st':Hs),dU [.ref r,tI [a,b]] st= .ok s.w st'/\s.Ok/\Dw r st st':=by
 obtain⟨w,s1,e1,w0,w1,d1⟩:=dig (m:=5) h (by decide) (by decide);obtain⟨x,y,s2,e2,hp,d2⟩:=place (a:=a) (b:=b) d1.2;have XA:=d1.trans d2;have pl:cI (a+x) (b+y):=by unfold xc at hs;unfold cI;omega
 unfold dU cA kE;by_cases c0:w=0
 ·subst c0;exact⟨.clear (a+x) (b+y),s2,by simp[e1,e2,Sm.w],pl,XA⟩
 have b0:(w == 0)=false:=beq_false_of_ne c0;by_cases c1:w=1
 ·subst c1;obtain⟨t,l,p,q,s3,e3,ha,d3⟩:=Ss (a:=a) (b:=b) d2.2;obtain⟨u,s4,e4,u0,u1,d4⟩:=dig (m:=4) d3.2 (by decide) (by decide);obtain⟨z,s5,e5,z0,z1,d5⟩:=dig (m:=5) d4.2 (by decide) (by decide);have j0:∀s:Hs,aQ (tI [a,b]) (.int 0) s= .ok (.int a) s:=λ_=>rfl;have j1:∀s:Hs,aQ (tI [a,b]) (.int 1) s= .ok (.int b) s:=λ_=>rfl;refine⟨.copy (a+t) (b+l) (a+p) (b+q) (if a+u < 98 then a+u else 98) (if b+z < 25 then b+z else 25),s5,by simp[e1,e2,e3,e4,e5,j0,j1,Sm.w];rfl,⟨?_,by omega,?_⟩,((XA.trans d3).trans d4).trans d5⟩
  ·unfold xc at hs;unfold f7;have:=Ow (x:=a+p - (a+t)+1) (y:=b+q - (b+l)+1) (p:=3) (q:=4) (by omega) (by omega) (by omega) (by omega);omega
  ·unfold xc at hs;unfold cI;split<;>split<;>omega
 have b1:(w == 1)=false:=beq_false_of_ne c1;obtain⟨v,s3,e3,hv,d3⟩:=content (a:=a) (b:=b) d2.2;rcases hv with rfl |hv
 ·exact⟨.clear (a+x) (b+y),s3,by simp[e1,e2,e3,b0,b1,J8,Sm.w],pl,XA.trans d3⟩
 ·have hn:∀s:Hs,J8 v .bK s= .ok (.bl false) s:=by rcases hv with ⟨i,rfl⟩ |⟨x,rfl⟩ |⟨ws,rfl⟩<;>exact λ_=>rfl
  exact⟨.put (a+x) (b+y) v,s3,by simp[e1,e2,e3,b0,b1,hn,Sm.w],⟨pl,hv⟩,XA.trans d3⟩
inductive Dd
 |one (s:Sm)
 |Nf (l:List Sm)
def Dd.ps:Dd->List Sm
 |.one s=>[s]
 |.Nf l=>l
def Dd.w:Dd->Wv
 |.one s=>s.w
 |.Nf l=> .tup [.str "bundle",.tup (l.map Sm.w)]
def Dd.Ok(d:Dd):Prop:=d.ps.length<=3/\∀s∈d.ps,s.Ok
theorem Wt(h:Ro r st)(hs:xc a b):∃(d:Dd)(st':Hs),fq [.ref r,tI [a,b]] st= .ok d.w st'/\d.Ok/\Dw r st st':=by
 obtain⟨w,s1,e1,w0,w1,d1⟩:=dig (m:=4) h (by decide) (by decide);unfold fq cA lO;by_cases c0:w=3
 ·subst c0;obtain⟨n,s2,e2,n0,n1,d2⟩:=dig (m:=4) d1.2 (by decide) (by decide);have hr:r < s2.length:=let ⟨v,e⟩:=d2.2;iH e;have cn:cW n:=Bp (by omega) (by omega);obtain⟨st',acc,e,⟨p1,p2⟩,hg,ha,hl⟩:=pf (w:=(none,cg 0 n.toNat)) (gt:=λv=>gO (some v::cX [("row",0),("spot",1)] [some (.ref r),some (tI [a,b])])) (ge:=λv=>eZ (some v::cX [("row",0),("spot",1)] [some (.ref r),some (tI [a,b])])) (rr:=s2.length)
   (λs=>cY r s2 s/\Ro r s) (λu=>∃q:Sm,u=q.w/\q.Ok)
   (λs acc ⟨k,v,e⟩=>⟨⟨by simpa using k.1,λj hj hne=>by rw[b9 (by omega)];exact k.2 j hj hne⟩,v,by rw[b9 (by omega)];exact e⟩) (λ_ _=>trivial) (cg 0 n.toNat)
   (λv hv s acc ⟨k,ro⟩ hg=>by
    obtain⟨q,s3,e3,q0,k2,Wl⟩:=small ro hs;refine⟨s,rfl,⟨k,ro⟩,hg,q.w,s3,?_,⟨q,rfl,q0⟩,⟨k.trans k2,Wl⟩,?_⟩
    ·unfold eZ;simp[cX,e3]
    ·rw[k2.2 _ (iH hg) (by omega)];exact hg)
   [] (s2++[.lst []]) ⟨cY.push,d2.2.push⟩ ja (by rw[dq];simp[lim];omega) (by simp)
  obtain⟨l,hp⟩:∃l:List Sm,acc=l.map Sm.w/\∀q∈l,q.Ok:=by
   clear e hg hl
   induction acc with
   |nil=>exact⟨[],rfl,by simp⟩
   |cons a t ih=>obtain⟨p,e1,e2⟩:=ih λu hu=>ha u (av _ hu);obtain⟨q,e3,e4⟩:=ha a ax;exact⟨q::p,by rw[e1,e3];rfl,by simpa using ⟨e4,e2⟩⟩
  obtain⟨rfl,hp⟩:=hp;have run:cZ [("row",0),("spot",1)] gO eZ [some (.ref r),some (tI [a,b])] (none,cg 0 n.toNat) s2= .ok (.ref s2.length) st':=by unfold cZ;rw[e]
  refine⟨.Nf l,st',?_,⟨?_,hp⟩,(d1.trans d2).trans ⟨p1,p2⟩⟩
  ·have tc:pN [.ref s2.length] st'= .ok (.tup (l.map Sm.w)) st':=aaj hg;have r1:rL [.int n] s2= .ok (none,cg 0 n.toNat) s2:=by rw[Bo cn]
   simp[e1,e2,r1,run,tc,Dd.w]
  ·show l.length<=3;have:l.length=n.toNat:=by simpa [dq]using hl
   omega
 have b0:(w == 3)=false:=beq_false_of_ne c0;obtain⟨s,s2,e2,ok,d2⟩:=small d1.2 hs;exact⟨.one s,s2,by simp[e1,e2,b0,Dd.w],⟨by show 1<=3;decide,λq hq=>by rw[List.mem_singleton.mp hq];exact ok⟩,d1.trans d2⟩
def Sm.wd:Sm->S
 |.clear _ _=>"clear"
 |.put _ _ _=>"put"
 |.copy _ _ _ _ _ _=>"copy"
theorem Sm.hd{s:Sm}:aQ s.w (.int 0) st= .ok (.str s.wd) st:=by cases s<;>rfl
theorem parts{d:Dd}:fN [d.w] st= .ok (.tup (d.ps.map Sm.w)) st:=by
 unfold fN cA kG;cases d with
 |one s=>
  have h:=s.hd (st:=st);have n:(s.wd == "bundle")=false:=by
   have k:(("clear":S) == "bundle")=false/\(("put":S) == "bundle")=false/\(("copy":S) == "bundle")=false:=by decide+kernel
   cases s
   ·exact k.1
   ·exact k.2.1
   ·exact k.2.2
  simp[Dd.w,Dd.ps,h,n]
 |Nf l=>simp[Dd.w,Dd.ps,Wi,Wj]
theorem Dp:∀n:Nat,nZ (ay n (.bl true))=some (ay n true)
 | 0=>rfl
 |n+1=>by rw[gZ];unfold nZ;rw[Dp n];rfl
theorem qJ(h:ao st l=some (ay n (.bl true))):rO [.ref l] st= .ok (.bl true) st:=by
 show(match ao st l with |some ws=>(match nZ ws with |some bs=>Re.ok (Wv.bl (bs.all id)) st |none=> .bad) |none=> .bad)=_
 rw[h];dsimp only;rw[Dp];dsimp only
 congr 2
 rw[HE];intro x hx;exact(List.mem_replicate.mp hx).2
variable{cs:dQ}{gt:GT}{ge:GE}{ρ:bX}
theorem EY(h1:∀v∈ws,∀s,gt (some v::cX cs ρ) s= .ok true s)(h2:∀v∈ws,∀s,ge (some v::cX cs ρ) s= .ok (.bl true) s)(hl:ws.length < lim):
  cZ cs gt ge ρ (none,ws) st= .ok (.ref st.length) (st++[.lst (ay ws.length (.bl true))]):=by
 rw[mE (w:=(none,ws)) (t:=λ_=>true) (f:=λ_=> .bl true) trivial (λv hv acc=>h1 v hv _) (λv hv _ acc=>h2 v hv _) hl];have e:((ws.filter λ_=>true).map λ_=>Wv.bl true)=ay ws.length (Wv.bl true):=by rw[List.filter_eq_self.mpr (λ_ _=>rfl),List.map_const']
 show Re.ok _ (st++[.lst ((ws.filter λ_=>true).map λ_=>Wv.bl true)])=_;rw[e]
theorem tup_is:iW jG fU [.tup ws,.ty "tuple"] st= .ok (.bl true) st:=rfl
variable{x:S}
theorem str_is:iW jG fU [.str x,.ty "str"] st= .ok (.bl true) st:=rfl
theorem int_is:iW jG fU [.int i,.ty "int"] st= .ok (.bl true) st:=rfl
theorem SD:iW jG fU [.int i,.ty "bool"] st= .ok (.bl false) st:=rfl
theorem Wu:mK [.tup ws] st= .ok (.int ws.length) st:=rfl
theorem zG:cT [.int i] st= .ok (.bl true) st:=by unfold cT cA kL;simp[int_is,SD]
theorem tQ{l:List Int}(hn:l.length=n)(hl:n<=10)(st:Hs):bP [tI l,.int (n:Nat)] st= .ok (.bl true) (st++[.lst (ay n (.bl true))]):=by subst hn;have c:=EY (cs:=[]) (gt:=gU) (ge:=eE) (ρ:=[some (tI l),some (.int (l.length:Nat))]) (ws:=l.map Wv.int) (st:=st) (λ_ _ _=>rfl) (λv hv s=>by obtain⟨i,_,rfl⟩:=List.mem_map.mp hv;unfold eE;simp[zG]) (by rw[bf];unfold lim;omega);rw[bf]at c;have q:=qJ (st:=st++[.lst (ay l.length (.bl true))]) (l:=st.length) fm;unfold bP cA gP;unfold tI at c ⊢;simp[tup_is,Wu,c,q]
theorem zH{α:Type}{ck:Hs->Prop}{n:Nat}{gt:List Wv->Hs->Re Bool}{ge:List Wv->Hs->Re Wv}{rr:Nat}(f:α->Wv)(us:α->List Wv)(v:α->Wv)(s0:Hs)(hck:∀st,cY rr s0 st->ck st):
  ∀(ws:List α),(∀a∈ws,Hn n (f a)=some (us a)/\∀st,cY rr s0 st->rr < st.length->gt (us a) st= .ok true st/\∃st',ge (us a) st= .ok (v a) st'/\Gr st st')->∀(acc:List Wv)(st:Hs),cY rr s0 st->st[rr]? =some (.lst acc)->acc.length+ws.length < lim->
   ∃st',jr ck n gt ge rr (ws.map f) st=some st'/\st'[rr]? =some (.lst (acc++ws.map v))/\cY rr st st'
 |[],_,acc,st,_,hg,_=>⟨st,rfl,by simpa using hg,cY.refl⟩
 |a::t,h,acc,st,hk,hg,hl=>by have hl':acc.length+(t.length+1) < lim:=hl;obtain⟨e0,hs⟩:=h a ax;obtain⟨e1,s1,e2,g1⟩:=hs st hk (iH hg);have Ez:=g1.get hg;have K1:cY rr st (s1.set rr (.lst (acc++[v a]))):=g1.keep.trans cY.set;obtain⟨s2,e3,g2,K2⟩:=zH f us v s0 hck t (λa ha=>h a (av _ ha)) (acc++[v a]) (s1.set rr (.lst (acc++[v a]))) (hk.trans K1) (eW Ez) (by simp;omega);refine⟨s2,?_,by simpa using g2,K1.trans K2⟩;rw[aH];unfold jr;rw[e0];dsimp only;rw[e1];dsimp only;rw[e2];dsimp only;rw[sU Ez (by omega)];dsimp only;rw[if_pos (hck _ (hk.trans K1))];exact e3
theorem zI{β:Type}{ck:Hs->Prop}{gt:Wv->Hs->Re Bool}{ge:Wv->Hs->Re Wv}{rr:Nat}(v:β->Wv)(s0:Hs)(hck:∀st,cY rr s0 st->ck st)(ht:∀a st,gt a st= .ok true st):
  ∀(ws:List Wv),(∀a∈ws,∀st,cY rr s0 st->∃b st',ge a st= .ok (v b) st'/\Gr st st')->∀(acc:List Wv)(st:Hs),cY rr s0 st->st[rr]? =some (.lst acc)->acc.length+ws.length < lim->
   ∃(bs:List β)(st':Hs),iC ck gt ge rr ws st=some st'/\st'[rr]? =some (.lst (acc++bs.map v))/\cY rr st st'/\bs.length=ws.length
 |[],_,acc,st,_,hg,_=>⟨[],st,rfl,by simpa using hg,cY.refl,rfl⟩
 |a::r,h,acc,st,hk,hg,hl=>by have hl':acc.length+(r.length+1) < lim:=hl;obtain⟨b,s1,e1,g1⟩:=h a ax st hk;have Ez:=g1.get hg;have K1:cY rr st (s1.set rr (.lst (acc++[v b]))):=g1.keep.trans cY.set;obtain⟨bs,s2,e2,g2,K2,l2⟩:=zI v s0 hck ht r (λa ha=>h a (av _ ha)) (acc++[v b]) (s1.set rr (.lst (acc++[v b]))) (hk.trans K1) (eW Ez) (by simp;omega);refine⟨b::bs,s2,?_,by simpa using g2,K1.trans K2,by simp[l2]⟩;rw[iC,ht];dsimp only;rw[e1];dsimp only;rw[sU Ez (by omega)];dsimp only;rw[if_pos (hck _ (hk.trans K1))];exact e2
theorem Dq{β:Type}{w:Wk}(v:β->Wv)(hck:∀s,Gr st s->jn w s)(ht:∀a s,gt (some a::cX cs ρ) s= .ok true s)(h:∀a∈w.2,∀s,Gr st s->∃b s',ge (some a::cX cs ρ) s= .ok (v b) s'/\Gr s s')(hl:w.2.length < lim):
  ∃(bs:List β)(st':Hs),cZ cs gt ge ρ w st= .ok (.ref st.length) st'/\st'[st.length]? =some (.lst (bs.map v))/\Gr st st'/\bs.length=w.2.length:=by
 obtain⟨bs,s1,e1,h1,K1,l1⟩:=zI (ck:=jn w) (gt:=λv=>gt (some v::cX cs ρ)) (ge:=λv=>ge (some v::cX cs ρ)) (rr:=st.length) v (st++[.lst []]) (λs K=>hck s (Gr.push.nj (ar _) K)) ht w.2 (λa ha s K=>h a ha s (Gr.push.nj (ar _) K)) [] (st++[.lst []]) cY.refl ja (by simpa using hl);refine⟨bs,s1,?_,by simpa using h1,Gr.push.nj (ar _) K1,l1⟩;unfold cZ;rw[e1]
theorem uns:∀l:List Unit,l.map (λ_=>Wv.bl true)=ay l.length (.bl true)
 |[]=>rfl
 |_::r=>by rw[aH,uns r];rfl
def En(n:Nat)(q:S×Wv):Prop:=∀st:Hs,∃st',aM n [.str q.1,q.2] st= .ok (.bl true) st'/\Gr st st'
theorem tR:En (n+1) ("place",tI [a,b]):=λst=>by
 have e:bP [tI [a,b],.int 2] st=_:=tQ (n:=2) rfl (by decide) st;refine⟨st++[.lst (ay 2 (.bl true))],?_,Gr.push⟩;rw[fb];unfold cA fi;have q:(("place":S) == "place")=true:=by decide+kernel
 simp[q,e]
theorem Ng:En (n+1) ("area",tI [a,b,c,d]):=λst=>by
 have e:bP [tI [a,b,c,d],.int 4] st=_:=tQ (n:=4) rfl (by decide) st;refine⟨st++[.lst (ay 4 (.bl true))],?_,Gr.push⟩;rw[fb];unfold cA fi;have q:(("area":S) == "area")=true:=by decide+kernel
 have q1:(("area":S) == "place")=false:=by decide+kernel
 simp[q,q1,e]
theorem EZ(h:(∃x:S,v= .str x)\/∃ws,v= .tup ws):cT [v] st= .ok (.bl false) st:=by
 unfold cT cA kL;have e:iW jG fU [v,.ty "int"] st= .ok (.bl false) st:=by rcases h with ⟨x,rfl⟩ |⟨ws,rfl⟩<;>rfl
 simp[e]
theorem BC(h:Cv v):En (n+1) ("content",v):=λst=>by
 refine⟨st,?_,Gr.refl⟩;rw[fb];unfold cA fi;have q1:(("content":S) == "place")=false:=by decide+kernel
 have q2:(("content":S) == "area")=false:=by decide+kernel
 have q3:(("content":S) == "number")=false:=by decide+kernel
 have q4:(("content":S) == "text")=false:=by decide+kernel
 have q5:(("content":S) == "deeds")=false:=by decide+kernel
 rcases h with ⟨i,rfl⟩ |h
 ·simp[q1,q2,q3,q4,q5,zG]
 ·have e:wI jG fU [v,.tup [.ty "str",.ty "tuple"]] st= .ok (.bl true) st:=by rcases h with ⟨x,rfl⟩ |⟨ws,rfl⟩<;>rfl
  simp[q1,q2,q3,q4,q5,EZ h,e]
theorem qK{qs:List (S×Wv)}(hx:mF.lookup x=some (.iY (qs.map λq=> .str q.1)))(hl:1<=qs.length/\qs.length<=3)(h:∀q∈qs,En n q)(st:Hs):∃st',aP (n+1) [.tup (.str x::qs.map (·.2))] st= .ok (.bl true) st'/\Gr st st':=by
 have il:(qs.map λq=>Wv.str q.1).length=qs.length:=bf ..;obtain⟨s1,c1,g1,K1⟩:=zH (ck:=Fb none) (n:=2) (gt:=λv=>gz (aL n) (aM n) (aP n) (v.map some++cX [] [some (.tup (.str x::qs.map (·.2))),some (.iY (qs.map λq=> .str q.1))])) (ge:=λv=>eK (aL n) (aM n) (aP n) (v.map some++cX [] [some (.tup (.str x::qs.map (·.2))),some (.iY (qs.map λq=> .str q.1))])) (rr:=st.length) (λq:S×Wv=> .tup [.str q.1,q.2]) (λq=>[.str q.1,q.2]) (λ_=> .bl true) (st++[.lst []]) (λ_ _=>trivial) qs
  (λq hq=>⟨rfl,λs hk hlt=>⟨rfl,by obtain⟨s',e,g⟩:=h q hq s;refine⟨s',?_,g⟩;unfold eK;simp[cX,e]⟩⟩) [] (st++[.lst []]) cY.refl ja (by simp;unfold lim;omega)
 have run:lC 2 [] (gz (aL n) (aM n) (aP n)) (eK (aL n) (aM n) (aP n)) [some (.tup (.str x::qs.map (·.2))),some (.iY (qs.map λq=> .str q.1))] (none,qs.map λq=> .tup [.str q.1,q.2]) st= .ok (.ref st.length) s1:=by unfold lC;rw[show((none,qs.map λq=>Wv.tup [.str q.1,q.2]):TX).2=qs.map λq=>Wv.tup [.str q.1,q.2] from rfl,c1]
 have al:rO [.ref st.length] s1= .ok (.bl true) s1:=qJ (n:=qs.length) (by rw[c7 g1];simp[List.map_const']);have zp:Iy [.iY (qs.map λq=>Wv.str q.1),.tup (qs.map λq=>q.2)] st= .ok (none,qs.map λq=>Wv.tup [.str q.1,q.2]) st:=by
  show(if _ then Re.ok (none,pQ (qs.map λq:S×Wv=>Wv.str q.1) (qs.map λq:S×Wv=>q.2)) st else .bad)=_;rw[if_pos (by simp)]
  congr 2
  unfold pQ;rw[List.zipWith_map];simp
 have sl:yc (.tup (.str x::qs.map (·.2))) (some 1) none st= .ok (.tup (qs.map (·.2))) st:=by
  match qs,hl with
  |[a],_=>exact zx (by show ¬lx 2 (some 1) none;decide+kernel) rfl
  |[a,b],_=>exact zx (by show ¬lx 3 (some 1) none;decide+kernel) rfl
  |[a,b,c],_=>exact zx (by show ¬lx 4 (some 1) none;decide+kernel) rfl
  |[],h=>exact absurd h.1 (by simp)
  |_::_::_::_::_,h=>exact absurd h.2 (by simp)
 have t1:=tup_is (ws:=.str x::qs.map (·.2)) (st:=st);have ln:mK [.tup (.str x::qs.map (·.2))] st= .ok (.int (qs.length+1:Nat)) st:=by show Re.ok (Wv.int ((Wv.str x::qs.map (·.2)).length:Nat)) st=_;simp
 have lk:mK [.iY (qs.map λq=> .str q.1)] st= .ok (.int (qs.length:Nat)) st:=by show Re.ok (Wv.int ((qs.map λq=>Wv.str q.1).length:Nat)) st=_;simp
 have i0:aQ (.tup (.str x::qs.map (·.2))) (.int 0) st= .ok (.str x) st:=Oy;have s0:=str_is (x:=x) (st:=st);have b0:(((qs.length:Nat):Int)+1 == 0)=false:=beq_false_of_ne (by omega);have b1:(((qs.length:Nat):Int)+1 == 1+(qs.length:Nat))=true:=by rw[beq_iff_eq];omega
 refine⟨s1,?_,Gr.push.nj (ar _) K1⟩;rw[tE];refine vi (n:=2) (g:=jT _ _ _) ?_;have gg:ng 2 [] (sG (aa (af 1) (aa (hG (af 0) (pL (gC (.int 1))) i8) aj))) (gz (aL n) (aM n) (aP n)) (eK (aL n) (aM n) (aP n)) [some (.tup (.str x::qs.map (·.2))),some (.iY (qs.map λq=> .str q.1))] st= .ok (.ref st.length) s1:=by unfold ng sG;simp[sl,zp];exact run
 have dg:oq mF (ah aQ (af 0) (gC (.int 0))) [some (.tup (.str x::qs.map (·.2))),none] st= .ok (.iY (qs.map λq=> .str q.1)) st:=by unfold oq;simp[i0,hx]
 have is':J8 (.iY (qs.map λq=>Wv.str q.1)) .bK st= .ok (.bl false) st:=rfl;unfold jT;simp[t1,ln,lk,i0,s0,b0,dg,is',b1,gg,al]
variable{s:Sm}
theorem zJ(h:s.Ok)(st:Hs):∃st',aP (n+2) [s.w] st= .ok (.bl true) st'/\Gr st st':=by
 cases s with
 |clear a b=>exact qK (n:=n+1) (x:="clear") (qs:=[("place",tI [a,b])]) rfl (by simp) (λq hq=>by rw[List.mem_singleton.mp hq];exact tR) st
 |put a b v=>exact qK (n:=n+1) (x:="put") (qs:=[("place",tI [a,b]),("content",v)]) rfl (by simp) (λq hq=>by
   rcases List.mem_cons.mp hq with rfl |hq
   ·exact tR
   ·rw[List.mem_singleton.mp hq];exact BC h.2) st
 |copy a b c d p q=>exact qK (n:=n+1) (x:="copy") (qs:=[("area",tI [a,b,c,d]),("place",tI [p,q])]) rfl (by simp) (λq hq=>by
   rcases List.mem_cons.mp hq with rfl |hq
   ·exact Ng
   ·rw[List.mem_singleton.mp hq];exact tR) st
theorem JC(h:s.Ok)(st:Hs):∃st',aL (n+3) [s.w] st= .ok (.bl true) st'/\Gr st st':=by
 obtain⟨st',e,g⟩:=zJ (n:=n) h st;refine⟨st',?_,g⟩;rw[p9];have sl:∃x:S,yc s.w none (some 1) st= .ok (.tup [.str x]) st:=by
  cases s with
  |clear a b=>exact⟨_,zx (by show ¬lx 2 none (some 1);decide+kernel) rfl⟩
  |put a b v=>exact⟨_,zx (by show ¬lx 3 none (some 1);decide+kernel) rfl⟩
  |copy a b c d p q=>exact⟨_,zx (by show ¬lx 3 none (some 1);decide+kernel) rfl⟩
 obtain⟨x,sl⟩:=sl;have tp:iW jG fU [s.w,.ty "tuple"] st= .ok (.bl true) st:=by cases s<;>rfl
 have ne:vP (.tup [.str x]) (.tup []) st= .ok (.bl true) st:=rfl;have i0:=s.hd (st:=st);have k:Ha (.str s.wd) (.iY [.str "put",.str "clear",.str "copy"]) st= .ok (.bl true) st:=by cases s<;>rfl
 unfold cA kN;simp[tp,sl,ne,i0,k,e]
theorem Nh{d:Dd}(h:d.Ok)(st:Hs):∃st',aF [d.w] st= .ok (.bl true) st'/\Gr st st':=by
 cases d with
 |one s=>exact zJ (n:=4) (h.2 s (List.mem_singleton.mpr rfl)) st
 |Nf l=>
  refine qK (n:=5) (x:="bundle") (qs:=[("deeds",.tup (l.map Sm.w))]) rfl (by simp) (λq hq=>?_) st;rw[List.mem_singleton.mp hq];intro s;obtain⟨bs,s1,c1,g1,G1,l1⟩:=Dq (cs:=[]) (gt:=lU (aL 4) (aM 4) (aP 4)) (ge:=iP (aL 4) (aM 4) (aP 4)) (ρ:=[some (.str "deeds"),some (.tup (l.map Sm.w))]) (w:=(none,l.map Sm.w)) (st:=s) (λ_:Unit=> .bl true) (λ_ _=>trivial) (λ_ _=>rfl) (λa ha t _=>by obtain⟨q,hq,rfl⟩:=List.mem_map.mp ha;obtain⟨t',e,g⟩:=JC (n:=1) (h.2 q hq) t;refine⟨(),t',?_,g⟩;unfold iP;simp[cX,e]) (by have:=h.1;rw[bf];unfold lim;show l.length < _;have e:(Dd.Nf l).ps.length=l.length:=rfl;omega);have al:rO [.ref s.length] s1= .ok (.bl true) s1:=qJ (n:=bs.length) (by rw[c7 g1,uns]);have tp:wI jG fU [.tup (l.map Sm.w),.ty "tuple"] s= .ok (.bl true) s:=rfl;have q1:(("deeds":S) == "place")=false/\(("deeds":S) == "area")=false/\(("deeds":S) == "number")=false/\(("deeds":S) == "text")=false/\(("deeds":S) == "deeds")=true:=by decide+kernel
  refine⟨s1,?_,G1⟩;rw[fb];unfold cA fi;simp[q1,tp,c1,al]
theorem SF{l:List Sm}:aQ (Dd.Nf l).w (.int 0) st= .ok (.str "bundle") st:=rfl
theorem jk{d:Dd}(h:d.Ok)(st:Hs):∃st',bM [d.w] st= .ok (.tup (d.ps.map Sm.w)) st'/\Gr st st':=by
 obtain⟨s1,e,g⟩:=Nh h st;refine⟨s1,?_,g⟩;unfold bM cA jB;cases d with
 |Nf l=>
  have q:(("bundle":S) == "shift")=false/\(("bundle":S) == "bundle")=true:=by decide+kernel
  have i1:aQ (Dd.Nf l).w (.int 1) s1= .ok (.tup (l.map Sm.w)) s1:=rfl;simp[e,SF,q,i1,Dd.ps]
 |one s=>
  have k:(("clear":S) == "bundle")=false/\(("put":S) == "bundle")=false/\(("copy":S) == "bundle")=false/\(("clear":S) == "shift")=false/\(("put":S) == "shift")=false/\(("copy":S) == "shift")=false:=by decide+kernel
  have n:(s.wd == "bundle")=false/\(s.wd == "shift")=false:=by
   cases s
   ·exact⟨k.1,k.2.2.2.1⟩
   ·exact⟨k.2.1,k.2.2.2.2.1⟩
   ·exact⟨k.2.2.1,k.2.2.2.2.2⟩
  have i0:∀t:Hs,aQ (Dd.one s).w (.int 0) t= .ok (.str s.wd) t:=λt=>s.hd;simp[e,i0,n,Dd.ps];rfl
def Sm.wr:Sm->List Pt
 |.clear a b=>[(a,b)]
 |.put a b _=>[(a,b)]
 |.copy a b c d p q=>pD p q (p+c - a) (q+d - b)
def Sm.tk:Sm->List Pt
 |.copy a b c d _ _=>pD a b c d
 |_=>[]
def Sm.room:Sm->Prop
 |.copy a b c d p q=>p+c - a<=98/\q+d - b<=25
 |_=>True
instance (s:Sm):Decidable s.room:=by cases s<;>(unfold Sm.room;infer_instance)
theorem zK{p q:Int}(h:f7 a b c d)(k:cI p q):(p+c - a<=98/\q+d - b<=25)↔Co p q (p+c - a) (q+d - b):=by unfold f7 at h;unfold cI at k;unfold Co cI;omega
theorem tS{p q:Int}(h:f7 a b c d)(k:cI p q)(r:p+c - a<=98/\q+d - b<=25):f7 p q (p+c - a) (q+d - b):=by
 unfold f7 at h ⊢;unfold cI at k;have e1:p+c - a - p+1=c - a+1:=by omega
 have e2:q+d - b - q+1=d - b+1:=by omega
 rw[e1,e2];omega
theorem mI(h:f7 a b c d)(k:c - a < 3/\d - b < 4):(pD a b c d).length<=12:=by have e:=Nd h;unfold f7 at h;have:=Ow (x:=c - a+1) (y:=d - b+1) (p:=3) (q:=4) (by omega) (by omega) (by omega) (by omega);omega
theorem Sm.Dr(h:s.Ok)(r:s.room):(∀p∈s.wr,cI p.1 p.2)/\s.wr.length<=12:=by
 cases s with
 |clear a b=>exact⟨λp hp=>by rw[List.mem_singleton.mp hp];exact h,by show 1<=12;decide⟩
 |put a b v=>exact⟨λp hp=>by rw[List.mem_singleton.mp hp];exact h.1,by show 1<=12;decide⟩
 |copy a b c d p q=>obtain⟨h1,h2,h3⟩:=h;have m:=tS h1 h3 r;exact⟨Jy m,mI m (by omega)⟩
theorem Sm.Ds(h:s.Ok):(∀p∈s.tk,cI p.1 p.2)/\s.tk.length<=12:=by
 cases s with
 |copy a b c d p q=>exact⟨Jy h.1,mI h.1 h.2.1⟩
 |_=>exact⟨λp hp=>(by cases hp),bH _⟩
def Rs'(s:Sm)(w t:Nat)(st st':Hs):Prop:=st'[w]? =some (.lst (s.wr.map pw))/\st'[t]? =some (.lst (s.tk.map pw))/\st.length<=w/\st.length<=t/\Gr st st'
theorem zL(h:s.Ok)(r:s.room):∃(w t:Nat)(st':Hs),bW [s.w] st= .ok (.tup [.ref w,.ref t]) st'/\Rs' s w t st st':=by
 have one:∀(x:S)(a b:Int)(ws:List Wv),cI a b->(x == "copy")=false->bW [.tup (.str x::tI [a,b]::ws)] st= .ok (.tup [.ref st.length,.ref (st.length+1)]) (st++[.lst [tI [a,b]]]++[.lst []]):=λx a b ws hp hx=>by have mp:=made_place (st:=st) hp;have i0:aQ (.tup (.str x::tI [a,b]::ws)) (.int 0) st= .ok (.str x) st:=Oy;have i1:aQ (.tup (.str x::tI [a,b]::ws)) (.int 1) st= .ok (tI [a,b]) st:=Su;have k0:aQ (tI [a,b]) (.int 0) st= .ok (.int a) st:=rfl;have k1:aQ (tI [a,b]) (.int 1) st= .ok (.int b) st:=rfl;unfold bW cA eL;simp[i0,i1,hx,k0,k1,mp]
 have fin:∀(p:Pt),(st++[Ob.lst [pw p]]++[.lst []])[st.length]? =some (.lst ([p].map pw))/\(st++[Ob.lst [pw p]]++[.lst []])[st.length+1]? =some (.lst (([]:List Pt).map pw))/\st.length<=st.length/\st.length<=st.length+1/\Gr st (st++[Ob.lst [pw p]]++[.lst []]):=λp=>
  ⟨by simp,by simp,ar _,mj _,Gr.push.trans Gr.push⟩
 cases s with
 |clear a b=>exact⟨_,_,_,one "clear" a b [] h (by decide+kernel),fin (a,b)⟩
 |put a b v=>exact⟨_,_,_,one "put" a b [v] h.1 (by decide+kernel),fin (a,b)⟩
 |copy a b c d p q=>
  obtain⟨h1,h2,h3⟩:=h;have ct:=Dl (st:=st) h1 h3;rw[if_pos ((zK h1 h3).mp r)]at ct;obtain⟨m1,e1⟩:=iq (st:=st) (tS h1 h3 r);obtain⟨s1,hs1⟩:∃s1,st++ .lst ((pD p q (p+c - a) (q+d - b)).map pw)::m1=s1:=⟨_,rfl⟩;obtain⟨m2,e2⟩:=iq (st:=s1) h1;rw[hs1]at e1;have g1:Gr st s1:=by rw[<-hs1];exact Gr.app
  have w1:s1[st.length]? =some (.lst ((pD p q (p+c - a) (q+d - b)).map pw)):=by rw[<-hs1];simp
  have g2:Gr s1 (s1++ .lst ((pD a b c d).map pw)::m2):=Gr.app;refine⟨st.length,s1.length,_,?_,g2.get w1,by simp[Sm.tk],ar _,g1.1,g1.trans g2⟩;have i0:aQ (.tup [.str "copy",tI [a,b,c,d],tI [p,q]]) (.int 0) st= .ok (.str "copy") st:=rfl;have i1:∀s:Hs,aQ (.tup [.str "copy",tI [a,b,c,d],tI [p,q]]) (.int 1) s= .ok (tI [a,b,c,d]) s:=λ_=>rfl;have i2:∀s:Hs,aQ (.tup [.str "copy",tI [a,b,c,d],tI [p,q]]) (.int 2) s= .ok (tI [p,q]) s:=λ_=>rfl;have q1:(("copy":S) == "copy")=true:=by decide+kernel
  unfold bW cA eL;simp[Sm.w,i0,i1,i2,q1,ct,e1,e2]
theorem xi(h:s.Ok)(r:¬s.room):bW [s.w] st= .err "NoRoom" st:=by
 cases s with
 |clear a b=>exact absurd trivial r
 |put a b v=>exact absurd trivial r
 |copy a b c d p q=>
  obtain⟨h1,h2,h3⟩:=h;have ct:=Dl (st:=st) h1 h3;rw[if_neg (λz=>r ((zK h1 h3).mpr z))]at ct;have i0:aQ (.tup [.str "copy",tI [a,b,c,d],tI [p,q]]) (.int 0) st= .ok (.str "copy") st:=rfl;have i1:∀s:Hs,aQ (.tup [.str "copy",tI [a,b,c,d],tI [p,q]]) (.int 1) s= .ok (tI [a,b,c,d]) s:=λ_=>rfl;have i2:∀s:Hs,aQ (.tup [.str "copy",tI [a,b,c,d],tI [p,q]]) (.int 2) s= .ok (tI [p,q]) s:=λ_=>rfl;have q1:(("copy":S) == "copy")=true:=by decide+kernel
  unfold bW cA eL;simp[Sm.w,i0,i1,i2,q1,ct]
def kU(P:List Pt):Ks:=P.map λp=>(mO p,.bl true)
def ad(P:List Pt)(q:Pt):List Pt:=if q∈P then P else P++[q]
theorem xj(h:mO p=mO q):p=q:=let ⟨h1,h2⟩:=Sx h;l7 h1 h2
theorem OC{q:Pt}:∀{T:List Pt},((kU T).any λkv=>decide (kv.1=mO q))=decide (q∈T)
 |[]=>rfl
 |p::r=>by
  show(decide (mO p=mO q)||(kU r).any λkv=>decide (kv.1=mO q))=_;rw[OC (T:=r)];by_cases e:p=q
  ·subst e;rw[decide_eq_true rfl,decide_eq_true (show p∈p::r from ax)];rfl
  ·have m:(q∈p::r)↔q∈r:=⟨λh=>(List.mem_cons.mp h).resolve_left λz=>e z.symm,av _⟩;rw[decide_eq_false (λz=>e (xj z)),Bool.false_or,decide_eq_decide.mpr m]
variable{T:List Pt}
theorem OD:vY (kU T) (mO q) (.bl true)=kU (ad T q):=by
 unfold vY ad;rw[OC];by_cases h:q∈T
 ·rw[decide_eq_true h,if_pos rfl,if_pos h];unfold kU;rw[cu];refine xg λp _=>?_;show(if mO p=mO q then(mO p,Wv.bl true)else(mO p,.bl true))=_;split<;>rfl
 ·rw[decide_eq_false h,if_neg bF,if_neg h];unfold kU;rw[hU];rfl
variable{P:List Pt}
theorem SG:q∈ad P p↔q∈P\/q=p:=by
 unfold ad;split
 ·exact⟨.inl,λh=>h.elim id λe=>e ▸ ‹_›⟩
 ·rw[CP,List.mem_singleton]
theorem Ww(h:P.Nodup):(ad P p).Nodup:=by
 unfold ad;split
 ·exact h
 ·rw[List.nodup_append];refine⟨h,by simp,λx hx y hy=>?_⟩;rw[List.mem_singleton.mp hy];exact λe=>‹¬_› (e ▸ hx)
theorem JD:(ad P p).length<=P.length+1:=by
 unfold ad;split
 ·omega
 ·simp
variable{l:List Pt}
theorem ads:∀{P:List Pt},P.Nodup->(l.foldl ad P).Nodup/\∀q,q∈l.foldl ad P↔q∈P\/q∈l:=by
 induction l with
 |nil=>exact λ{P} h=>⟨h,λq=>by simp⟩
 |cons a r ih=>intro P h;obtain⟨h1,h2⟩:=ih (Ww (p:=a) h);exact⟨h1,λq=>by rw[oI,h2,SG,dB,or_assoc]⟩
variable{k:Nat}
theorem pE{i:Nat}{gb:GS}{all:List Wv}{w:Wv}{r:List Wv}{ρ1:bX}{st1:Hs}(h:gb (ρ.set i (some w)) st= .nx ρ1 st1)(hl:ao st1 k=some all):forL i gb k all (w::r) ρ st=forL i gb k all r ρ1 st1:=by rw[forL,h];simp only[if_pos hl]
variable{d:Nat}
theorem SH(h:st[d]? =some (.gM kvs))(hl:kvs.length < 1000):putD (.ref d) (pw q) v st=some (st.set d (.gM (vY kvs (mO q) v))):=Sy h hl
theorem dput{gv gd gk:GE}(h1:gv ρ st= .ok v st)(h2:gd ρ st= .ok (.ref d) st)(h3:gk ρ st= .ok (pw q) st)(h:st[d]? =some (.gM kvs))(hl:kvs.length < 1000):uY gv gd gk ρ st= .nx ρ (st.set d (.gM (vY kvs (mO q) v))):=by have e:=SH (q:=q) (v:=v) h hl;unfold uY;simp[h1,h2,h3,e]
theorem xk{gb:GS}{i d l:Nat}{all:List Wv}(hgb:∀(ρ:bX)(st:Hs)(P:List Pt)(q:Pt),ρ[i]? =some (some (.ref d))->ρ[5]? =some (some (pw q))->st[d]? =some (.gM (kU P))->P.length < 1000->gb ρ st= .nx ρ (st.set d (.gM (kU (ad P q)))))(hi:i < 5)(hld:d≠l):
  ∀(ws:List Pt)(P:List Pt)(ρ:bX)(st:Hs),ρ[i]? =some (some (.ref d))->5 < ρ.length->st[d]? =some (.gM (kU P))->st[l]? =some (.lst all)->P.length+ws.length < 1000->
   ∃o,forL 5 gb l all (ws.map pw) ρ st= .nx (ρ.set 5 o) (st.set d (.gM (kU (ws.foldl ad P))))
 |[],P,ρ,st,hr,h5,hd,hl,_=>⟨ρ[5],by rw[List.set_getElem_self,List.foldl_nil,show st.set d (.gM (kU P))=st from set_same hd];rfl⟩
 |q::ws,P,ρ,st,hr,h5,hd,hl,hn=>by
  have hn':P.length+(ws.length+1) < 1000:=hn;have r1:(ρ.set 5 (some (pw q)))[i]? =some (some (.ref d)):=by rw[b9 (by omega)];exact hr
  have run:=hgb (ρ.set 5 (some (pw q))) st P q r1 (l3 h5) hd (by omega);have al:=JD (P:=P) (p:=q);obtain⟨o,h⟩:=xk hgb hi hld ws (ad P q) (ρ.set 5 (some (pw q))) (st.set d (.gM (kU (ad P q)))) r1 (by simpa using h5) (eW hd) (by rw[b9 hld];exact hl) (by omega);refine⟨o,?_⟩;rw[aH,pE run (c7 (by rw[b9 hld];exact hl)),h,List.set_set,List.set_set,oI]
theorem L3(h1:ρ[1]? =some (some (.ref d)))(h5:ρ[5]? =some (some (pw q)))(hd:st[d]? =some (.gM (kU P)))(hl:P.length < 1000):eN ρ st= .nx ρ (st.set d (.gM (kU (ad P q)))):=by unfold eN;rw[dput (v:=.bl true) (q:=q) (kvs:=kU P) rfl (by simp[h1]) (by simp[h5]) hd (by unfold kU;simpa using hl),OD]
theorem L2'(h1:ρ[2]? =some (some (.ref d)))(h5:ρ[5]? =some (some (pw q)))(hd:st[d]? =some (.gM (kU P)))(hl:P.length < 1000):eM ρ st= .nx ρ (st.set d (.gM (kU (ad P q)))):=by unfold eM;rw[dput (v:=.bl true) (q:=q) (kvs:=kU P) rfl (by simp[h1]) (by simp[h5]) hd (by unfold kU;simpa using hl),OD]
def Kp(base:Nat)(st st':Hs):Prop:=st.length<=st'.length/\∀k,k < base->st'[k]? =st[k]?
variable{base:Nat}
theorem Kp.trans{a b c:Hs}(h:Kp base a b)(k:Kp base b c):Kp base a c:=⟨bZ h.1 k.1,λj hj=>(k.2 j hj).trans (h.2 j hj)⟩
theorem Kp.refl:Kp base st st:=⟨ar _,λ_ _=>rfl⟩
theorem Kp.gr{a b:Hs}(h:Gr a b)(hb:base<=a.length):Kp base a b:=⟨h.1,λk hk=>h.2 k (by omega)⟩
theorem Kp.set(h:base<=d):Kp base st (st.set d o):=⟨by simp,λk hk=>b9 (by omega)⟩
theorem Kp.to{a b c:Hs}(h:Kp a.length b c)(g:Gr a b):Gr a c:=⟨bZ g.1 h.1,λk hk=>(h.2 k hk).trans (g.2 k hk)⟩
def jH(ss:List Sm):List Pt:=ss.flatMap Sm.wr
def mW(ss:List Sm):List Pt:=ss.flatMap Sm.tk
def Rm(ss:List Sm):Prop:=∀s∈ss,s.room
instance (ss:List Sm):Decidable (Rm ss):=by unfold Rm;infer_instance
theorem oD:∀(l P:List Pt),(l.foldl ad P).length<=P.length+l.length
 |[],P=>ar _
 |a::r,P=>by have:=oD r (ad P a);have:=JD (P:=P) (p:=a);rw[oI,fB];omega
variable{w t:Nat}
theorem zM:aQ (.tup [.ref w,.ref t]) (.int 0) st= .ok (.ref w) st/\aQ (.tup [.ref w,.ref t]) (.int 1) st= .ok (.ref t) st:=⟨rfl,rfl⟩
variable{o4 o5:Option Wv}
section
variable {x:Option Wv}{d1 d2 base:Nat}
theorem BD(h12:d1≠d2)(b1:base<=d1)(b2:base<=d2)(h:s.Ok)(r:s.room)(e1:st[d1]? =some (.gM (kU P)))(e2:st[d2]? =some (.gM (kU T)))(hP:P.length < 500)(hT:T.length < 500):
  ∃(v5:Option Wv)(v4:Wv)(st':Hs),bG [x,some (.ref d1),some (.ref d2),some s.w,o4,o5] st= .nx [x,some (.ref d1),some (.ref d2),some s.w,some v4,v5] st'/\st'[d1]? =some (.gM (kU (s.wr.foldl ad P)))/\st'[d2]? =some (.gM (kU (s.tk.foldl ad T)))/\Kp base st st':=by
 obtain⟨w,t,s1,e3,w1,w2,l1,l2,g⟩:=zL (st:=st) h r;have f1:=g.get e1;have f2:=g.get e2;have n1:=iH e1;have n2:=iH e2;have k1:=(s.Dr h r).2;have k2:=(s.Ds h).2;obtain⟨u5,q1⟩:=xk (gb:=eN) (i:=1) (d:=d1) (l:=w) (all:=s.wr.map pw) (λρ st P q a b c d=>L3 a b c d) (by decide) (by omega) s.wr P [x,some (.ref d1),some (.ref d2),some s.w,some (.tup [.ref w,.ref t]),o5] s1 rfl (by simp) f1 w1 (by omega);obtain⟨s2,hs2⟩:∃s2,s1.set d1 (.gM (kU (s.wr.foldl ad P)))=s2:=⟨_,rfl⟩;have Vz:s2[d2]? =some (.gM (kU T)):=by rw[<-hs2,b9 h12];exact f2
 have f1':s2[d1]? =some (.gM (kU (s.wr.foldl ad P))):=by rw[<-hs2];exact eW f1
 have w2':s2[t]? =some (.lst (s.tk.map pw)):=by rw[<-hs2,b9 (by omega)];exact w2
 rw[hs2]at q1;obtain⟨v5,q2⟩:=xk (gb:=eM) (i:=2) (d:=d2) (l:=t) (all:=s.tk.map pw) (λρ st P q a b c d=>L2' a b c d) (by decide) (by omega) s.tk T [x,some (.ref d1),some (.ref d2),some s.w,some (.tup [.ref w,.ref t]),u5] s2 rfl (by simp) Vz w2' (by omega);refine⟨v5,.tup [.ref w,.ref t],s2.set d2 (.gM (kU (s.tk.foldl ad T))),?_,by rw[b9 (bC h12)];exact f1',eW Vz,?_⟩
 ·have m1:kFor 5 eN [x,some (.ref d1),some (.ref d2),some s.w,some (.tup [.ref w,.ref t]),o5] (.ref w) s1=_:=(Bn (c7 w1)).trans q1;have m2:kFor 5 eM [x,some (.ref d1),some (.ref d2),some s.w,some (.tup [.ref w,.ref t]),u5] (.ref t) s2=_:=(Bn (c7 w2')).trans q2;simp only[qB,xf]at m1 m2;unfold bG;simp[e3,zM,m1,m2]
 ·have kg:Kp base st s1:=Kp.gr g (by omega);refine kg.trans (Kp.trans ?_ (Kp.set b2));rw[<-hs2];exact Kp.set b1
theorem tT(h12:d1≠d2)(b1:base<=d1)(b2:base<=d2):∀(ss:List Sm)(P T:List Pt)(o3 o4 o5:Option Wv)(st:Hs),(∀s∈ss,s.Ok)->st[d1]? =some (.gM (kU P))->st[d2]? =some (.gM (kU T))->P.length+12 * ss.length < 500->T.length+12 * ss.length < 500->
  (Rm ss->∃(v3 v4 v5:Option Wv)(st':Hs),c_ 3 bG (ss.map Sm.w) [x,some (.ref d1),some (.ref d2),o3,o4,o5] st= .nx [x,some (.ref d1),some (.ref d2),v3,v4,v5] st'/\st'[d1]? =some (.gM (kU ((jH ss).foldl ad P)))/\st'[d2]? =some (.gM (kU ((mW ss).foldl ad T)))/\Kp base st st')/\
  (¬Rm ss->∃(ρ:bX)(st':Hs),c_ 3 bG (ss.map Sm.w) [x,some (.ref d1),some (.ref d2),o3,o4,o5] st= .err "NoRoom" ρ st'/\Kp base st st')
 |[],P,T,o3,o4,o5,st,_,e1,e2,_,_=>⟨λ_=>⟨o3,o4,o5,st,rfl,e1,e2,Kp.refl⟩,λn=>absurd (λs hs=>(by cases hs)) n⟩
 |s::ss,P,T,o3,o4,o5,st,h,e1,e2,hP,hT=>by
  have TV:P.length+12 * (ss.length+1) < 500:=hP;have hT':T.length+12 * (ss.length+1) < 500:=hT;have hs:=h s ax;by_cases r:s.room
  ·obtain⟨v5,v4,s1,q1,f1,f2,k1⟩:=BD (x:=x) (o4:=o4) (o5:=o5) h12 b1 b2 hs r e1 e2 (by omega) (by omega);have z1:=oD s.wr P;have z2:=oD s.tk T;have y1:=(s.Dr hs r).2;have y2:=(s.Ds hs).2;obtain⟨i1,i2⟩:=tT h12 b1 b2 ss (s.wr.foldl ad P) (s.tk.foldl ad T) (some s.w) (some v4) v5 s1 (λq hq=>h q (av _ hq)) f1 f2 (by omega) (by omega);have step:c_ 3 bG ((s::ss).map Sm.w) [x,some (.ref d1),some (.ref d2),o3,o4,o5] st=c_ 3 bG (ss.map Sm.w) [x,some (.ref d1),some (.ref d2),some s.w,some v4,v5] s1:=by
    rw[aH,c_];show(match bG [x,some (.ref d1),some (.ref d2),some s.w,o4,o5] st with |.nx ρ' st'=>_ |.ct ρ' st'=>_ |.bk ρ' st'=>_ |.rt w st'=>_ |.err c ρ' st'=>_ |.bad=>_)=_
    rw[q1]
   rw[step];refine⟨λR=>?_,λR=>?_⟩
   ·obtain⟨a3,a4,a5,s2,c1,c2,c3,c4⟩:=i1 λq hq=>R q (av _ hq);refine⟨a3,a4,a5,s2,c1,?_,?_,k1.trans c4⟩
    ·rw[c2,jH,jH,BE,List.foldl_append]
    ·rw[c3,mW,mW,BE,List.foldl_append]
   ·obtain⟨ρ,s2,c1,c2⟩:=i2 λz=>R λq hq=>(List.mem_cons.mp hq).elim (λe=>e ▸ r) (z q);exact⟨ρ,s2,c1,k1.trans c2⟩
  ·refine⟨λR=>absurd (R s ax) r,λ_=>⟨[x,some (.ref d1),some (.ref d2),some s.w,o4,o5],st,?_,Kp.refl⟩⟩;have e:=xi (st:=st) hs r;have run:bG [x,some (.ref d1),some (.ref d2),some s.w,o4,o5] st= .err "NoRoom" [x,some (.ref d1),some (.ref d2),some s.w,o4,o5] st:=by unfold bG;simp[e]
   rw[aH,c_];show(match bG [x,some (.ref d1),some (.ref d2),some s.w,o4,o5] st with |.nx ρ' st'=>_ |.ct ρ' st'=>_ |.bk ρ' st'=>_ |.rt w st'=>_ |.err c ρ' st'=>_ |.bad=>_)=_
   rw[run]
end
theorem xl:∀ps:List Pt,mR (ps.map mO)=some ps
 |[]=>rfl
 |p::r=>by
  rw[aH];show(match mR (r.map mO)with |some l=>some ((p.1,p.2)::l) |none=>none)=_
  rw[xl r]
theorem OE{l:Nat}(h:st[l]? =some (.gM (kU P)))(hT:P.length < 64):sf [.ref l] st= .ok (.ref st.length) (st++[.lst ((jP P).map pw)]):=by
 have e:(kU P).map (·.1)=P.map mO:=by unfold kU;rw[cu];rfl
 unfold sf;dsimp only;rw[h];dsimp only[El];rw[e,xl];dsimp only;rw[if_pos hT]
def up(l:List Pt):List Pt:=jP (cq l)
theorem JF(l:List Pt):jP (l.foldl ad [])=up l:=by obtain⟨h1,h2⟩:=ads (l:=l) (P:=[]) l8;refine n8 ((dR _).trans (((MD h1 fk).mpr λq=>?_).trans (dR _).symm)) (kc _) (kc _);rw[h2,cC];simp
theorem SI:q∈up l↔q∈l:=by unfold up;rw[(dR _).mem_iff,cC]
variable{ss:List Sm}
theorem BF(h:∀s∈ss,s.Ok)(r:Rm ss):(∀p∈jH ss,cI p.1 p.2)/\(jH ss).length<=12 * ss.length:=by
 induction ss with
 |nil=>exact⟨λp hp=>(by cases hp),ar _⟩
 |cons s ss ih=>obtain⟨i1,i2⟩:=ih (λq hq=>h q (av _ hq)) λq hq=>r q (av _ hq);obtain⟨k1,k2⟩:=s.Dr (h s ax) (r s ax);rw[jH,BE];refine⟨λp hp=>(List.mem_append.mp hp).elim (k1 p) (i1 p),?_⟩;rw[cJ,fB];unfold jH at i2;omega
theorem BG(h:∀s∈ss,s.Ok):(∀p∈mW ss,cI p.1 p.2)/\(mW ss).length<=12 * ss.length:=by
 induction ss with
 |nil=>exact⟨λp hp=>(by cases hp),ar _⟩
 |cons s ss ih=>obtain⟨i1,i2⟩:=ih λq hq=>h q (av _ hq);obtain⟨k1,k2⟩:=s.Ds (h s ax);rw[mW,BE];refine⟨λp hp=>(List.mem_append.mp hp).elim (k1 p) (i1 p),?_⟩;rw[cJ,fB];unfold mW at i2;omega
structure TZ(W T:List Pt)(w t:Nat)(st st':Hs):Prop where
 a:st'[w]? =some (.lst (W.map pw))
 b:st'[t]? =some (.lst (T.map pw))
 g:Gr st st'
 wl:st.length<=w
 tl:st.length<=t
theorem lZ(h:∀s∈ss,s.Ok)(hl:ss.length<=3):
  (Rm ss->∃(w t:Nat)(st':Hs),cH [.tup (ss.map Sm.w)] st= .ok (.tup [.ref w,.ref t]) st'/\TZ (up (jH ss)) (up (mW ss)) w t st st')/\
  (¬Rm ss->∃st':Hs,cH [.tup (ss.map Sm.w)] st= .err "NoRoom" st'/\Gr st st'):=by
 have nT:∀ρ s,yh ρ s= .ok (.ref s.length) (s++[.gM []]):=λρ s=>rfl;obtain⟨s0,hs0⟩:∃s0,st++[.gM []]++[.gM []]=s0:=⟨_,rfl⟩;have e1:s0[st.length]? =some (.gM (kU [])):=by rw[<-hs0];simp[kU]
 have e2:s0[st.length+1]? =some (.gM (kU [])):=by rw[<-hs0];simp[kU]
 have g0:Gr st s0:=by rw[<-hs0];exact Gr.push.trans Gr.push
 obtain⟨i1,i2⟩:=tT (x:=some (.tup (ss.map Sm.w))) (d1:=st.length) (d2:=st.length+1) (base:=st.length) (by omega) (ar _) (mj _) ss [] [] none none none s0 h e1 e2 (by simp;omega) (by simp;omega);have kp:∀s',Kp st.length s0 s'->Gr st s':=λs' k=>k.to g0;refine⟨λR=>?_,λR=>?_⟩
 ·obtain⟨a3,a4,a5,s1,c1,c2,c3,c4⟩:=i1 R;have lw:((jH ss).foldl ad []).length < 64:=by have:=oD (jH ss) [];have:=(BF h R).2;simp at *;omega
  have lt:((mW ss).foldl ad []).length < 64:=by have:=oD (mW ss) [];have:=(BG h).2;simp at *;omega
  have q1:=OE c2 lw;have q2:=OE (st:=s1++[.lst ((jP ((jH ss).foldl ad [])).map pw)]) (Gr.push.get c3) lt;rw[JF]at q1 q2;rw[JF]at q2;refine⟨s1.length,s1.length+1,s1++[.lst ((up (jH ss)).map pw)]++[.lst ((up (mW ss)).map pw)],?_,by simp,by simp,(kp _ c4).trans (Gr.push.trans Gr.push),(kp _ c4).1,Nat.le_succ_of_le (kp _ c4).1⟩;have ln:(s1++[Ob.lst ((up (jH ss)).map pw)]).length=s1.length+1:=by simp
  rw[ln]at q2;refine vi (n:=6) (g:=iS) ?_;unfold iS;simp[nT]at hs0 ⊢;simp[hs0,c1,q1];simp at q2;simp[q2]
 ·obtain⟨ρ,s1,c1,c2⟩:=i2 R;refine⟨s1,?_,kp _ c2⟩;unfold cH cA iS;simp[nT]at hs0 ⊢;simp[hs0,c1]
variable{W:List Pt}{st':Hs}
theorem TZ.t0(h:TZ W T w t st st'):ao st' w=some (W.map pw):=c7 h.a
theorem TZ.t1(h:TZ W T w t st st'):ao st' t=some (T.map pw):=c7 h.b
section
variable {d e:Dd}{st:Hs}
theorem writes(h:d.Ok):(Rm d.ps->∃(w:Nat)(st':Hs),fR [d.w] st= .ok (.ref w) st'/\ao st' w=some ((up (jH d.ps)).map pw)/\Gr st st')/\(¬Rm d.ps->∃st':Hs,fR [d.w] st= .err "NoRoom" st'/\Gr st st'):=by
 obtain⟨s1,e1,g1⟩:=jk h st;obtain⟨i1,i2⟩:=lZ (st:=s1) h.2 h.1;refine⟨λR=>?_,λR=>?_⟩
 ·obtain⟨w,t,s2,c1,c2⟩:=i1 R;refine⟨w,s2,?_,c2.t0,g1.trans c2.g⟩;unfold fR cA oC;simp[e1,c1,zM]
 ·obtain⟨s2,c1,c2⟩:=i2 R;refine⟨s2,?_,g1.trans c2⟩;unfold fR cA oC;simp[e1,c1]
theorem takes(h:d.Ok):(Rm d.ps->∃(w:Nat)(st':Hs),ip [d.w] st= .ok (.ref w) st'/\ao st' w=some ((up (mW d.ps)).map pw)/\Gr st st')/\(¬Rm d.ps->∃st':Hs,ip [d.w] st= .err "NoRoom" st'/\Gr st st'):=by
 obtain⟨s1,e1,g1⟩:=jk h st;obtain⟨i1,i2⟩:=lZ (st:=s1) h.2 h.1;refine⟨λR=>?_,λR=>?_⟩
 ·obtain⟨w,t,s2,c1,c2⟩:=i1 R;refine⟨t,s2,?_,c2.t1,g1.trans c2.g⟩;unfold ip cA qH;simp[e1,c1,zM]
 ·obtain⟨s2,c1,c2⟩:=i2 R;refine⟨s2,?_,g1.trans c2⟩;unfold ip cA qH;simp[e1,c1]
end
theorem zN:∀l:List Pt,cq (l.map mO)=(cq l).map mO
 |[]=>rfl
 |p::r=>by
  have m:mO p∈r.map mO↔p∈r:=⟨λh=>by obtain⟨q,hq,e⟩:=List.mem_map.mp h;exact xj e ▸ hq,λh=>List.mem_map.mpr ⟨p,h,rfl⟩⟩;rw[aH,cq,cq,zN r];by_cases c:p∈r
  ·rw[if_pos c,if_pos (m.mpr c)]
  ·rw[if_neg c,if_neg (λz=>c (m.mp z))];rfl
theorem JG(h:∀p∈l,cI p.1 p.2):kl (cq (l.map mO))=true:=by rw[zN];unfold kl;rw[Dm];refine decide_eq_true ?_;rw[cu];exact zE fk λp hp=>h p (cC.mp hp)
def cm(A B:List Pt):Bool:=A.any λp=>decide (p∈B)
variable{A B:List Pt}
theorem BH:cm A B=true↔∃p,p∈A/\p∈B:=by unfold cm;rw[List.any_eq_true];exact⟨λ⟨p,h,k⟩=>⟨p,h,of_decide_eq_true k⟩,λ⟨p,h,k⟩=>⟨p,h,decide_eq_true k⟩⟩
theorem SJ(A B:List Pt):decide ((0:Int) < (Ie (A.map mO) (B.map mO):Nat))=cm A B:=by
 rw[qM,decide_eq_true_iff,BH];have e:(0:Int) < (Ie (A.map mO) (B.map mO):Nat)↔0 < Ie (A.map mO) (B.map mO):=by omega
 rw[e];unfold Ie;rw[List.length_pos_iff_exists_mem];constructor
 ·rintro⟨k,hk⟩;rw[CU,cC,decide_eq_true_iff]at hk;obtain⟨p,hp,rfl⟩:=List.mem_map.mp hk.1;obtain⟨q,hq,e⟩:=List.mem_map.mp hk.2;exact⟨p,hp,xj e ▸ hq⟩
 ·rintro⟨p,h1,h2⟩;refine⟨mO p,?_⟩;rw[CU,cC,decide_eq_true_iff];exact⟨List.mem_map.mpr ⟨p,h1,rfl⟩,List.mem_map.mpr ⟨p,h2,rfl⟩⟩
theorem pV{l:Nat}(h1:ao st l=some (A.map pw))(h2:ao st k=some (B.map pw))(hA:∀p∈A,cI p.1 p.2)(hB:∀p∈B,cI p.1 p.2)(lA:A.length<=300)(lB:B.length<=300):dv [.ref l,.ref k] st= .ok (.bl (cm A B)) st:=by
 have g:yJ 0 1 [some (.ref l),some (.ref k)] st= .ok (.int (Ie (A.map mO) (B.map mO):Nat)) st:=by
  show(match ao st l,ao st k with
   |some ws,some NQ=>(match dD mL ws,dD mL NQ with
    |some k1,some k2=>if kl (cq (k1++k2))=true/\ws.length<=300/\NQ.length<=300 then Re.ok (Wv.int (Ie k1 k2:Nat)) st else .bad
    |_,_=> .bad)
   |_,_=> .bad)=_
  rw[h1,h2];dsimp only;rw[qI,qI];dsimp only;rw[if_pos ⟨by rw[<-hU];exact JG λp hp=>(List.mem_append.mp hp).elim (hA p) (hB p),by simpa using lA,by simpa using lB⟩]
 have c:=SJ A B;unfold dv cA jE;simp[g];simpa using c
theorem OF(h:∀p∈l,cI p.1 p.2):∀p∈up l,cI p.1 p.2:=λp hp=>h p (SI.mp hp)
theorem pF{α:Type}[DecidableEq α]:∀l:List α,(cq l).length<=l.length
 |[]=>ar _
 |a::r=>by
  have:=pF r;unfold cq;split
  ·exact bZ this (by simp)
  ·simpa using this
theorem JH(l:List Pt):(up l).length<=l.length:=by unfold up;rw[(dR _).length_eq];exact pF l
structure Pls(d:Dd)(W T:List Pt):Prop where
 w:W=up (jH d.ps)
 t:T=up (mW d.ps)
 wk:∀p∈W,cI p.1 p.2
 tk:∀p∈T,cI p.1 p.2
 wl:W.length<=36
 tl:T.length<=36
variable{d:Dd}
theorem XB(h:d.Ok)(r:Rm d.ps):Pls d (up (jH d.ps)) (up (mW d.ps)):=by obtain⟨a1,a2⟩:=BF h.2 r;obtain⟨b1,b2⟩:=BG h.2;have l:=h.1;have u1:=JH (jH d.ps);have u2:=JH (mW d.ps);exact⟨rfl,rfl,OF a1,OF b1,by omega,by omega⟩
variable{e:Dd}
theorem meet(hd:d.Ok)(he:e.Ok):(Rm d.ps->Rm e.ps->∃st':Hs,gR [d.w,e.w] st= .ok (.bl (cm (up (jH d.ps)) (up (jH e.ps)++up (mW e.ps))||cm (up (jH e.ps)) (up (mW d.ps)))) st'/\Gr st st')/\(¬(Rm d.ps/\Rm e.ps)->∃st':Hs,gR [d.w,e.w] st= .err "NoRoom" st'/\Gr st st'):=by
 obtain⟨s1,e1,g1⟩:=jk hd st;obtain⟨s2,e2,g2⟩:=jk he s1;obtain⟨i1,i2⟩:=lZ (st:=s2) hd.2 hd.1;refine⟨λRd Re=>?_,λR=>?_⟩
 ·obtain⟨w,t,s3,c1,c2⟩:=i1 Rd;obtain⟨j1,j2⟩:=lZ (st:=s3) he.2 he.1;obtain⟨w',t',s4,c3,c4⟩:=j1 Re;have P:=XB hd Rd;have Q:=XB he Re;have ad:=add_l c4.t0 c4.t1 (by have:=Q.wl;have:=Q.tl;unfold lim;simp;omega);rw[<-hU]at ad;obtain⟨s5,hs5⟩:∃s5,s4++[.lst ((up (jH e.ps)++up (mW e.ps)).map pw)]=s5:=⟨_,rfl⟩;have g5:Gr s4 s5:=by rw[<-hs5];exact Gr.push
  have n5:ao s5 s4.length=some ((up (jH e.ps)++up (mW e.ps)).map pw):=by rw[<-hs5];exact fm
  have h1:=pV (g5.lst (c4.g.lst c2.t0)) n5 P.wk (λp hp=>(List.mem_append.mp hp).elim (Q.wk p) (Q.tk p)) (by have:=P.wl;omega) (by have:=Q.wl;have:=Q.tl;simp;omega);have h2:=pV (g5.lst c4.t0) (g5.lst (c4.g.lst c2.t1)) Q.wk P.tk (by have:=Q.wl;omega) (by have:=P.tl;omega);rw[hs5]at ad;refine⟨s5,?_,(((g1.trans g2).trans c2.g).trans c4.g).trans g5⟩;generalize cm (up (jH d.ps)) (up (jH e.ps)++up (mW e.ps))=x at h1 ⊢;generalize cm (up (jH e.ps)) (up (mW d.ps))=y at h2 ⊢;unfold gR cA tK;cases x<;>simp[e1,e2,c1,c3,zM,ad,h1,h2]
 ·by_cases Rd:Rm d.ps
  ·obtain⟨w,t,s3,c1,c2⟩:=i1 Rd;obtain⟨s4,c3,c4⟩:=(lZ (st:=s3) he.2 he.1).2 λz=>R ⟨Rd,z⟩;refine⟨s4,?_,((g1.trans g2).trans c2.g).trans c4⟩;unfold gR cA tK;simp[e1,e2,c1,c3]
  ·obtain⟨s3,c1,c2⟩:=i2 Rd;refine⟨s3,?_,(g1.trans g2).trans c2⟩;unfold gR cA tK;simp[e1,e2,c1]
variable{l:Nat}{ps:List Pt}
theorem OG(h:ao st l=some (ps.map pw))(hp:∀p∈ps,cI p.1 p.2)(hl:ps.length<=36):sF [.ref l] st= .ok (.ref st.length) (st++[.lst ((up ps).map pw)]):=by have u:=pF ps;unfold sF;dsimp only;rw[h];dsimp only;rw[qI];dsimp only;rw[xl];dsimp only;rw[if_pos ⟨JG hp,by rw[bf];omega,by omega⟩];rfl
theorem E4{d u v:Int}:(pD a b c d).map (λx=>((x.1+u,x.2+v):Pt))=pD (a+u) (b+v) (c+u) (d+v):=by
 unfold pD Sz;rw[show c+u+1 - (a+u)=c+1 - a from by omega,show d+v+1 - (b+v)=d+1 - b from by omega,List.map_flatten,cu]
 congr 1
 refine xg λk _=>?_;show((aU _).map _).map _=_;rw[cu];refine xg λj _=>l7 ?_ ?_
 ·show a+(k:Int)+u=a+u+k;omega
 ·show b+(j:Int)+v=b+v+j;omega
def shP(u v:Int):Wv->Wv
 |.tup [.int i,.int j]=> .tup [.int (i+u),.int (j+v)]
 |_=> .bK
theorem moved{u v:Int}{o0 o1 o2 o3:Option Wv}(h:ao st l=some (ps.map pw))(hl:ps.length<=100):cZ [("down",4),("aside",5)] iN fO [o0,o1,o2,o3,some (.int u),some (.int v)] (some l,ps.map pw) st= .ok (.ref st.length) (st++[.lst ((ps.map λx=>((x.1+u,x.2+v):Pt)).map pw)]):=by
 have q:=mE (cs:=[("down",4),("aside",5)]) (gt:=iN) (ge:=fO) (ρ:=[o0,o1,o2,o3,some (.int u),some (.int v)]) (w:=(some l,ps.map pw)) (st:=st) (t:=λ_=>true) (f:=shP u v) h (λ_ _ _=>rfl) (λw hw _ acc=>by obtain⟨p,_,rfl⟩:=List.mem_map.mp hw;have i0:∀s:Hs,aQ (pw p) (.int 0) s= .ok (.int p.1) s:=λ_=>rfl;have i1:∀s:Hs,aQ (pw p) (.int 1) s= .ok (.int p.2) s:=λ_=>rfl;unfold fO;simp[cX,i0,i1];rfl) (by rw[bf];unfold lim;omega);have e:((ps.map pw).filter λ_=>true).map (shP u v)=(ps.map λx=>((x.1+u,x.2+v):Pt)).map pw:=by rw[List.filter_eq_self.mpr (λ_ _=>rfl),cu,cu];rfl
 rw[show((some l,ps.map pw):Wk).2=ps.map pw from rfl,e]at q;exact q
theorem OH(h:ao st l=some ws):yd (.ref l) st= .ok (some l,ws) st:=by
 show(match ao st l with |some ws=>_ |none=>_)=_
 rw[h]
section
variable {x:Option Wv}{base:Nat}
structure Ls(base:Nat)(W T:List Pt)(w t:Nat)(st:Hs):Prop where
 ne:w≠t
 bw:base<=w
 bt:base<=t
 ew:st[w]? =some (.lst (W.map pw))
 et:st[t]? =some (.lst (T.map pw))
 wl:W.length<=100
 tl:T.length<=100
theorem JJ(h:s.Ok)(I:Ls base W T w t st)(hw:W.length<=50)(ht:T.length<=50):
  (s.room->∃(w' t':Nat)(v4 v5:Option Wv)(st':Hs),a9 [x,some (.ref w),some (.ref t),some s.w,o4,o5] st= .nx [x,some (.ref w'),some (.ref t'),some s.w,v4,v5] st'/\Ls base (W++s.wr) (T++s.tk) w' t' st'/\Kp base st st')/\
  (¬s.room->a9 [x,some (.ref w),some (.ref t),some s.w,o4,o5] st= .rt .bK st):=by
 have one:∀(wd:S)(a b:Int)(ws:List Wv),s.w= .tup (.str wd::tI [a,b]::ws)->(wd == "copy")=false->s.wr=[(a,b)]->s.tk=[]->∃(w' t':Nat)(v4 v5:Option Wv)(st':Hs),a9 [x,some (.ref w),some (.ref t),some s.w,o4,o5] st= .nx [x,some (.ref w'),some (.ref t'),some s.w,v4,v5] st'/\Ls base (W++s.wr) (T++s.tk) w' t' st'/\Kp base st st':=λwd a b ws hs hc e1 e2=>by
  have i0:aQ s.w (.int 0) st= .ok (.str wd) st:=by rw[hs];exact Oy
  have i1:aQ s.w (.int 1) st= .ok (tI [a,b]) st:=by rw[hs];exact Su
  have km:=λga ρ=>Df (mt:=pY) (ga:=ga) (ρ:=ρ) (c7 I.ew);have ap:=sU (v:=tI [a,b]) I.ew (by rw[bf];unfold lim;omega);refine⟨w,t,o4,o5,st.set w (.lst (W.map pw++[tI [a,b]])),?_,⟨I.ne,I.bw,I.bt,?_,?_,?_,?_⟩,Kp.set I.bw⟩
  ·unfold a9;simp[i0,hc,km,i1,ap]
  ·rw[e1,hU];exact eW I.ew
  ·rw[e2,j8,b9 I.ne];exact I.et
  ·rw[e1,cJ];show W.length+1<=100;omega
  ·rw[e2,j8];exact I.tl
 cases s with
 |clear a b=>exact⟨λ_=>one "clear" a b [] rfl (by decide+kernel) rfl rfl,λn=>absurd trivial n⟩
 |put a b v=>exact⟨λ_=>one "put" a b [v] rfl (by decide+kernel) rfl rfl,λn=>absurd trivial n⟩
 |copy a b c d p q=>
  obtain⟨h1,h2,h3⟩:=h;have i0:∀s:Hs,aQ (Sm.copy a b c d p q).w (.int 0) s= .ok (.str "copy") s:=λ_=>rfl;have i1:∀s:Hs,aQ (Sm.copy a b c d p q).w (.int 1) s= .ok (tI [a,b,c,d]) s:=λ_=>rfl;have i2:∀s:Hs,aQ (Sm.copy a b c d p q).w (.int 2) s= .ok (tI [p,q]) s:=λ_=>rfl;have j0:∀s:Hs,aQ (tI [p,q]) (.int 0) s= .ok (.int p) s/\aQ (tI [p,q]) (.int 1) s= .ok (.int q) s:=λ_=>⟨rfl,rfl⟩;have j4:∀s:Hs,aQ (tI [a,b,c,d]) (.int 0) s= .ok (.int a) s/\aQ (tI [a,b,c,d]) (.int 1) s= .ok (.int b) s/\aQ (tI [a,b,c,d]) (.int 2) s= .ok (.int c) s/\aQ (tI [a,b,c,d]) (.int 3) s= .ok (.int d) s:=λ_=>⟨rfl,rfl,rfl,rfl⟩;have qc:(("copy":S) == "copy")=true:=by decide+kernel
  refine⟨λr=>?_,λr=>?_⟩
  ·have r':p+c - a<=98/\q+d - b<=25:=r;have c1:¬98 < c+(p - a):=by omega
   have c2:¬25 < d+(q - b):=by omega
   obtain⟨m1,e1⟩:=iq (st:=st) h1;obtain⟨s1,hs1⟩:∃s1,st++ .lst ((pD a b c d).map pw)::m1=s1:=⟨_,rfl⟩;rw[hs1]at e1;have g1:Gr st s1:=by rw[<-hs1];exact Gr.app
   have w1:ao s1 st.length=some ((pD a b c d).map pw):=by rw[<-hs1];exact pB
   have pl:=mI h1 h2;have ad:=add_l (g1.lst (c7 I.et)) w1 (by simp;unfold lim;omega);rw[<-hU]at ad;obtain⟨s2,hs2⟩:∃s2,s1++[.lst ((T++pD a b c d).map pw)]=s2:=⟨_,rfl⟩;rw[hs2]at ad;have g2:Gr s1 s2:=by rw[<-hs2];exact Gr.push
   have t2:s2[s1.length]? =some (.lst ((T++pD a b c d).map pw)):=by rw[<-hs2];exact ja
   obtain⟨m3,e3⟩:=iq (st:=s2) h1;obtain⟨s3,QG⟩:∃s3,s2++ .lst ((pD a b c d).map pw)::m3=s3:=⟨_,rfl⟩;rw[QG]at e3;have g3:Gr s2 s3:=by rw[<-QG];exact Gr.app
   have w3:ao s3 s2.length=some ((pD a b c d).map pw):=by rw[<-QG];exact pB
   have cp:=moved (u:=p - a) (v:=q - b) (o0:=x) (o1:=some (.ref w)) (o2:=some (.ref s1.length)) (o3:=some (Sm.copy a b c d p q).w) w3 (by omega);rw[E4,show a+(p - a)=p from by omega,show b+(q - b)=q from by omega,show c+(p - a)=p+c - a from by omega,show d+(q - b)=q+d - b from by omega]at cp;obtain⟨s4,hs4⟩:∃s4,s3++[.lst ((pD p q (p+c - a) (q+d - b)).map pw)]=s4:=⟨_,rfl⟩;rw[hs4]at cp;have g4:Gr s3 s4:=by rw[<-hs4];exact Gr.push
   have w4:ao s4 s3.length=some ((pD p q (p+c - a) (q+d - b)).map pw):=by rw[<-hs4];exact fm
   have pr:(pD p q (p+c - a) (q+d - b)).length<=12:=mI (tS h1 h3 r') (by omega);have g14:Gr s1 s4:=(g2.trans g3).trans g4;have ad2:=add_l ((g1.trans g14).lst (c7 I.ew)) w4 (by simp;unfold lim;omega);rw[<-hU]at ad2;have sq:=OH w3;have lt:st.length<=s1.length:=g1.1;have lt4:s1.length < s4.length:=iH ((g3.trans g4).get t2);have:=iH I.ew;have bw:=I.bw;refine⟨s4.length,s1.length,some (.int (p - a)),some (.int (q - b)),s4++[.lst ((W++pD p q (p+c - a) (q+d - b)).map pw)],?_,⟨by omega,by omega,by omega,ja,Gr.push.get ((g3.trans g4).get t2),?_,?_⟩,Kp.gr ((g1.trans g14).trans Gr.push) (by omega)⟩
   ·unfold a9;simp[i0,i1,i2,j0,j4,qc,c1,c2,e1,ad,e3,sq,cp,ad2]
   ·rw[cJ];show W.length+(pD p q (p+c - a) (q+d - b)).length<=100;omega
   ·rw[cJ];show T.length+(pD a b c d).length<=100;omega
  ·have r':¬(p+c - a<=98/\q+d - b<=25):=r;unfold a9;by_cases c1:98 < c+(p - a)
   ·simp[i0,i1,i2,j0,j4,qc,c1]
   ·have c2:25 < d+(q - b):=by omega
    simp[i0,i1,i2,j0,j4,qc,c1,c2]
end
section
variable {x:Option Wv}{base:Nat}
theorem zP:∀(ss:List Sm)(W T:List Pt)(w t:Nat)(o3 o4 o5:Option Wv)(st:Hs),(∀s∈ss,s.Ok)->Ls base W T w t st->base<=st.length->W.length+12 * ss.length<=50->T.length+12 * ss.length<=50->
  (Rm ss->∃(w' t':Nat)(v3 v4 v5:Option Wv)(st':Hs),c_ 3 a9 (ss.map Sm.w) [x,some (.ref w),some (.ref t),o3,o4,o5] st= .nx [x,some (.ref w'),some (.ref t'),v3,v4,v5] st'/\Ls base (W++jH ss) (T++mW ss) w' t' st'/\Kp base st st')/\
  (¬Rm ss->∃st':Hs,c_ 3 a9 (ss.map Sm.w) [x,some (.ref w),some (.ref t),o3,o4,o5] st= .rt .bK st'/\Kp base st st')
 |[],W,T,w,t,o3,o4,o5,st,_,I,_,_,_=>⟨λ_=>⟨w,t,o3,o4,o5,st,rfl,by unfold jH mW;simpa using I,Kp.refl⟩,λn=>absurd (λs hs=>(by cases hs)) n⟩
 |s::ss,W,T,w,t,o3,o4,o5,st,h,I,hb,hW,hT=>by
  have hW':W.length+12 * (ss.length+1)<=50:=hW;have hT':T.length+12 * (ss.length+1)<=50:=hT;have hs:=h s ax;obtain⟨t1,t2⟩:=JJ (x:=x) (o4:=o4) (o5:=o5) hs I (by omega) (by omega);by_cases r:s.room
  ·obtain⟨w1,t1,v4,v5,s1,q1,I1,k1⟩:=t1 r;have z1:=(s.Dr hs r).2;have z2:=(s.Ds hs).2;obtain⟨i1,i2⟩:=zP ss (W++s.wr) (T++s.tk) w1 t1 (some s.w) v4 v5 s1 (λq hq=>h q (av _ hq)) I1 (by have:=k1.1;omega) (by rw[cJ];omega) (by rw[cJ];omega);have step:c_ 3 a9 ((s::ss).map Sm.w) [x,some (.ref w),some (.ref t),o3,o4,o5] st=c_ 3 a9 (ss.map Sm.w) [x,some (.ref w1),some (.ref t1),some s.w,v4,v5] s1:=by
    rw[aH,c_];show(match a9 [x,some (.ref w),some (.ref t),some s.w,o4,o5] st with |.nx ρ' st'=>_ |.ct ρ' st'=>_ |.bk ρ' st'=>_ |.rt w st'=>_ |.err c ρ' st'=>_ |.bad=>_)=_
    rw[q1]
   rw[step];refine⟨λR=>?_,λR=>?_⟩
   ·obtain⟨w2,t2,a3,a4,a5,s2,c1,c2,c3⟩:=i1 λq hq=>R q (av _ hq);refine⟨w2,t2,a3,a4,a5,s2,c1,?_,k1.trans c3⟩;rw[An,An]at c2;exact c2
   ·obtain⟨s2,c1,c2⟩:=i2 λz=>R λq hq=>(List.mem_cons.mp hq).elim (λe=>e ▸ r) (z q);exact⟨s2,c1,k1.trans c2⟩
  ·refine⟨λR=>absurd (R s ax) r,λ_=>⟨st,?_,Kp.refl⟩⟩;rw[aH,c_];show(match a9 [x,some (.ref w),some (.ref t),some s.w,o4,o5] st with |.nx ρ' st'=>_ |.ct ρ' st'=>_ |.bk ρ' st'=>_ |.rt w st'=>_ |.err c ρ' st'=>_ |.bad=>_)=_
   rw[t2 r]
end
theorem Ni(h:d.Ok):(Rm d.ps->∃(w t:Nat)(st':Hs),fh [d.w] st= .ok (.tup [.ref w,.ref t]) st'/\TZ (up (jH d.ps)) (up (mW d.ps)) w t st st')/\(¬Rm d.ps->∃st':Hs,fh [d.w] st= .ok .bK st'/\Gr st st'):=by
 have lp:=h.1;obtain⟨s0,hs0⟩:∃s0,st++[.lst []]++[.lst []]=s0:=⟨_,rfl⟩;have g0:Gr st s0:=by rw[<-hs0];exact Gr.push.trans Gr.push
 have I0:Ls st.length [] [] st.length (st.length+1) s0:=⟨by omega,ar _,mj _,by rw[<-hs0];simp,by rw[<-hs0];simp,by simp,by simp⟩;obtain⟨i1,i2⟩:=zP (x:=some d.w) d.ps [] [] st.length (st.length+1) none none none s0 h.2 I0 g0.1 (by simp;omega) (by simp;omega);have pt:=parts (d:=d) (st:=s0);refine⟨λR=>?_,λR=>?_⟩
 ·obtain⟨w,t,a3,a4,a5,s1,c1,I1,c3⟩:=i1 R;rw[nK,nK]at I1;obtain⟨k1,k2⟩:=BF h.2 R;obtain⟨m1,m2⟩:=BG h.2;have q1:=OG (c7 I1.ew) k1 (by omega);have q2:=OG (st:=s1++[.lst ((up (jH d.ps)).map pw)]) (Gr.push.lst (c7 I1.et)) m1 (by omega);have ln:(s1++[Ob.lst ((up (jH d.ps)).map pw)]).length=s1.length+1:=by simp
  rw[ln]at q2;refine⟨s1.length,s1.length+1,s1++[.lst ((up (jH d.ps)).map pw)]++[.lst ((up (mW d.ps)).map pw)],?_,by simp,by simp,(c3.to g0).trans (Gr.push.trans Gr.push),(c3.to g0).1,Nat.le_succ_of_le (c3.to g0).1⟩;refine vi (n:=6) (g:=iO) ?_;unfold iO;simp at hs0 ⊢;simp[hs0,pt,c1,q1];simp at q2;simp[q2]
 ·obtain⟨s1,c1,c2⟩:=i2 R;refine⟨s1,?_,c2.to g0⟩;unfold fh cA iO;simp at hs0 ⊢;simp[hs0,pt,c1]
theorem nC(h1:ao st l=some (A.map pw))(h2:ao st k=some (B.map pw))(lA:A.length<=300):∃st':Hs,bL [.ref l,.ref k] st= .ok (.bl (cm A B)) st'/\Gr st st':=by
 have q:=mE (cs:=[("others",1)]) (gt:=fP) (ge:=ji) (ρ:=[some (.ref l),some (.ref k)]) (w:=(some l,A.map pw)) (st:=st) (t:=λv=>match v with |.tup [.int i,.int j]=>decide (((i,j):Pt)∈B) |_=>false) (f:=λv=>v) h1 (λw hw acc=>by obtain⟨p,_,rfl⟩:=List.mem_map.mp hw;have e:=Ws (st:=st++[.lst acc]) (Gr.push.lst h2) p;unfold fP;simp[cX,e]) (λw hw _ acc=>rfl) (by rw[bf];unfold lim;omega)
 have e:((A.map pw).filter λv=>match v with |.tup [.int i,.int j]=>decide (((i,j):Pt)∈B) |_=>false).map (λv=>v)=(A.filter λp=>decide (p∈B)).map pw:=by rw[List.map_id',List.filter_map];rfl
 rw[show((some l,A.map pw):Wk).2=A.map pw from rfl,e]at q;obtain⟨s1,hs1⟩:∃s1,st++[.lst ((A.filter λp=>decide (p∈B)).map pw)]=s1:=⟨_,rfl⟩;rw[hs1]at q;have n1:ao s1 st.length=some ((A.filter λp=>decide (p∈B)).map pw):=by rw[<-hs1];exact fm
 have ne:vP (.ref st.length) (.ref s1.length) (s1++[.lst []])= .ok (.bl (cm A B)) (s1++[.lst []]):=by
  have d1:=Jz (st:=s1++[.lst []]) (Gr.push.lst n1);have d2:a_ (s1++[.lst []]) 20 (.ref s1.length)=some (.list []):=by rw[Jq fm];rfl
  unfold vP;rw[d1,d2];dsimp only
  congr 2
  rw[qM,BH];cases hf:A.filter λp=>decide (p∈B)with
  |nil=>
   have no:¬∃p,p∈A/\p∈B:=λ⟨p,a,b⟩=>by have z:p∈A.filter λp=>decide (p∈B):=List.mem_filter.mpr ⟨a,decide_eq_true b⟩;rw[hf]at z;cases z
   simp[bI,ft];exact λa b p=>λq=>no ⟨(a,b),p,q⟩
  |cons p r=>
   have hp:p∈A.filter λp=>decide (p∈B):=by rw[hf];exact ax
   obtain⟨a,b⟩:=List.mem_filter.mp hp;have yes:∃p,p∈A/\p∈B:=⟨p,a,of_decide_eq_true b⟩;simp[bI,ft];exact⟨_,_,yes.choose_spec.1,yes.choose_spec.2⟩
 refine⟨s1++[.lst []],?_,by rw[<-hs1];exact Gr.push.trans Gr.push⟩;have sq:=OH h1;unfold bL cA jz;simp[sq,q,ne]
theorem zQ{o:Dd}(hd:d.Ok)(ho:o.Ok)(nr:¬Rm d.ps){way:Int}(w0:0<=way)(w1:way < 4)(st:Hs):∃st':Hs,dc [.int way,d.w,o.w] st= .ok (.bl true) st'/\Gr st st':=by
 have cat:ze.lookup (("NoRoom":S),("NoRoom":S))=some true:=by decide+kernel
 have run:∃(st':Hs),fT [some (.int way),some d.w,some o.w,some (.bl false)] st= .err "NoRoom" [some (.int way),some d.w,some o.w,some (.bl false)] st'/\Gr st st':=by
  unfold fT;by_cases c0:way=0
  ·obtain⟨s1,e,g⟩:=(writes (st:=st) hd).2 nr;exact⟨s1,by simp[c0,e],g⟩
  have b0:(way == 0)=false:=beq_false_of_ne c0;by_cases c1:way=1
  ·obtain⟨s1,e,g⟩:=(takes (st:=st) hd).2 nr;exact⟨s1,by simp[c1,e],g⟩
  have b1:(way == 1)=false:=beq_false_of_ne c1;by_cases c2:way=2
  ·obtain⟨s1,e,g⟩:=(meet (st:=st) hd ho).2 λz=>nr z.1;exact⟨s1,by simp[c2,e],g⟩
  have b2:(way == 2)=false:=beq_false_of_ne c2;obtain⟨s1,e,g⟩:=(meet (st:=st) ho hd).2 λz=>nr z.2;exact⟨s1,by simp[b0,b1,b2,e],g⟩
 obtain⟨s1,e,g⟩:=run;refine⟨s1,?_,g⟩;unfold dc cA iT;simp[e,y_,cat,jj]
def du(n:Nat)(d:Dd)(D:Wv)(st:Hs):Prop:=(Rm d.ps/\∃w t,D= .tup [.ref w,.ref t]/\n<=w/\n<=t/\ao st w=some ((up (jH d.ps)).map pw)/\ao st t=some ((up (mW d.ps)).map pw))\/(¬Rm d.ps/\D= .bK)
variable{D:Wv}
theorem du.gr(h:du n d D st)(g:Gr st st'):du n d D st':=h.imp (λ⟨r,w,t,e,n1,n2,h1,h2⟩=>⟨r,w,t,e,n1,n2,g.lst h1,g.lst h2⟩) id
theorem du.set(h:du n d D st)(hr:r < n):du n d D (st.set r o):=h.imp (λ⟨R,w,t,e,n1,n2,h1,h2⟩=>⟨R,w,t,e,n1,n2,by unfold ao at h1 ⊢;rw[b9 (by omega)];exact h1,by unfold ao at h2 ⊢;rw[b9 (by omega)];exact h2⟩) id
theorem OI(h:d.Ok)(st:Hs):∃(D:Wv)(st':Hs),fh [d.w] st= .ok D st'/\du st.length d D st'/\Gr st st':=by
 obtain⟨i1,i2⟩:=Ni (st:=st) h;by_cases R:Rm d.ps
 ·obtain⟨w,t,s1,c1,c2⟩:=i1 R;exact⟨_,s1,c1,.inl ⟨R,w,t,rfl,c2.wl,c2.tl,c2.t0,c2.t1⟩,c2.g⟩
 ·obtain⟨s1,c1,c2⟩:=i2 R;exact⟨_,s1,c1,.inr ⟨R,rfl⟩,c2⟩
theorem aap(hd:d.Ok)(he:e.Ok)(st:Hs):∃(D E:Wv)(st':Hs),cZ [] pz iu ρ (none,[d.w,e.w]) st= .ok (.ref st.length) st'/\ao st' st.length=some [D,E]/\du (st.length+1) d D st'/\du (st.length+1) e E st'/\Gr st st':=by
 obtain⟨D,s1,e1,u1,g1⟩:=OI hd (st++[.lst []]);have n0:(st++[Ob.lst []]).length=st.length+1:=by simp
 rw[n0]at u1;have a1:s1[st.length]? =some (.lst []):=g1.get ja;obtain⟨s2,hs2⟩:∃s2,s1.set st.length (.lst ([]++[D]))=s2:=⟨_,rfl⟩;obtain⟨E,s3,e3,u3,g3⟩:=OI he s2;have a2:s2[st.length]? =some (.lst [D]):=by rw[<-hs2];exact eW a1
 have a3:=g3.get a2;have l1:=g1.1;have l2:s2.length=s1.length:=by rw[<-hs2];simp
 have G2:Gr st s2:=by rw[<-hs2];exact(Gr.push.trans g1).nj (ar _) cY.set
 have G4:Gr st (s3.set st.length (.lst ([D]++[E]))):=(G2.trans g3).nj (ar _) cY.set;refine⟨D,E,s3.set st.length (.lst ([D]++[E])),?_,c7 (eW a3),?_,?_,G4⟩
 ·have t1:∀(v:bX)(s:Hs),pz v s= .ok true s:=λ_ _=>rfl;have x1:iu [some d.w] (st++[.lst []])= .ok D s1:=by unfold iu;simp[e1]
  have x2:iu [some e.w] s2= .ok E s3:=by unfold iu;simp[e3]
  have p1:=sU (v:=D) a1 (by decide);have p2:=sU (v:=E) a3 (by show 1 < lim;decide);unfold cZ;unfold cX;simp only[qo];rw[iC,t1];dsimp only;rw[x1];dsimp only;rw[p1];dsimp only;rw[if_pos (show jn (none,[d.w,e.w]) _ from trivial),hs2,iC,t1];dsimp only;rw[x2];dsimp only;rw[p2];dsimp only;rw[if_pos (show jn (none,[d.w,e.w]) _ from trivial)];rfl
 ·refine(du.gr (st:=s2) ?_ g3).set (wt _);rw[<-hs2];exact u1.set (wt _)
 ·have:st.length+1<=s2.length:=by omega
  refine du.set (r:=st.length) ?_ (wt _);exact u3.imp (λ⟨R,w,t,e,n1,n2,h⟩=>⟨R,w,t,e,by omega,by omega,h⟩) id
theorem OJ(h:ao st l=some (ps.map pw)):a_ st (n+2) (.ref l)=some (.list (ps.map dP)):=by rw[Jq h,xh];rfl
theorem JK(h1:ao st w=some (W.map pw))(h2:ao st t=some (T.map pw)):a_ st (n+3) (.tup [.ref w,.ref t])=some (.tuple [.list (W.map dP),.list (T.map dP)]):=by show(dD (a_ st (n+2)) [.ref w,.ref t]).map B3=_;unfold dD;rw[OJ h1];unfold dD;rw[OJ h2];rfl
theorem SK{w' t':Nat}(h1:ao st w=some (W.map pw))(h2:ao st t=some (T.map pw))(k1:ao st w'=some (W.map pw))(k2:ao st t'=some (T.map pw)):vP (.tup [.ref w,.ref t]) (.tup [.ref w',.ref t']) st= .ok (.bl false) st :=
 So (JK h1 h2) (JK k1 k2) (by simp[bI,ft,JB])
theorem is_list(h:ao st l=some ws):iW jG fU [.ref l,.ty "list"] st= .ok (.bl true) st:=by
 show(if oN "list"=true then(match(ao st l).map (λ_=>("list" == "list":Bool))with |some b=>Re.ok (Wv.bl b) st |none=> .bad)else .bad)=_
 rw[h,if_pos (by decide)];rfl
theorem Nj{L:Nat}{E:Wv}(h:ao st L=some [D,E])(u:du n d D st)(v:du n e E st):rY true .bK (.ref L) st= .ok (.bl (decide (Rm d.ps/\Rm e.ps))) st:=by
 have one:∀{d:Dd}{D:Wv},du n d D st->∃z,a_ st 19 D=some z/\bI z .none=decide (¬Rm d.ps):=λ{d D} u=>by
  rcases u with ⟨R,w,t,rfl,_,_,h1,h2⟩ |⟨R,rfl⟩
  ·exact⟨_,JK h1 h2,by rw[decide_eq_false (λz=>z R)];simp[bI]⟩
  ·exact⟨_,rfl,by rw[decide_eq_true R];simp[bI]⟩
 obtain⟨z1,a1,b1⟩:=one u;obtain⟨z2,a2,b2⟩:=one v;have dl:a_ st 20 (.ref L)=some (.list [z1,z2]):=by rw[Jq h];unfold dD;rw[a1];unfold dD;rw[a2];rfl
 have dn:a_ st 20 .bK=some .none:=rfl;unfold rY;rw[dl,dn];dsimp only
 congr 2
 rw[iz,iz,b1,b2];by_cases R1:Rm d.ps<;>by_cases R2:Rm e.ps<;>simp[R1,R2]
theorem SM(A B C D:List Pt):(cm A (C++D)||cm C B)=(cm A C||(cm A D||cm B C))/\(cm C (A++B)||cm A D)=(cm A C||(cm A D||cm B C)):=by
 constructor<;>
 ·rw[qM];simp only[AA,BH,CP];constructor
  ·rintro(⟨p,h,h1 |h1⟩ |⟨p,h,h1⟩)
   all_goals first
    |exact .inl ⟨p,by assumption,by assumption⟩
    |exact .inr (.inl ⟨p,by assumption,by assumption⟩)
    |exact .inr (.inr ⟨p,by assumption,by assumption⟩)
  ·rintro(⟨p,h,h1⟩ |⟨p,h,h1⟩ |⟨p,h,h1⟩)
   all_goals first
    |exact .inl ⟨p,by assumption,.inl (by assumption)⟩
    |exact .inl ⟨p,by assumption,.inr (by assumption)⟩
    |exact .inr ⟨p,by assumption,by assumption⟩
theorem orG{A B:GE}{x y:Bool}(hA:∀s,Gr st s->∃s',A ρ s= .ok (.bl x) s'/\Gr s s')(hB:∀s,Gr st s->∃s',B ρ s= .ok (.bl y) s'/\Gr s s'):∀s,Gr st s->∃s',xI A B ρ s= .ok (.bl (x||y)) s'/\Gr s s':=λs g=>by
 obtain⟨s1,e1,g1⟩:=hA s g;obtain⟨s2,e2,g2⟩:=hB s1 (g.trans g1);cases x
 ·exact⟨s2,by simp[e1,e2],g1.trans g2⟩
 ·exact⟨s1,by simp[e1],g1⟩
theorem ask{o0 o2 o3 o7 o8 o9 zR:Option Wv}{j:Int}{x y:Dd}{L:Nat}(hs:xc a b)(hd:d.Ok)(hj:∀s:Hs,aQ (.tup [x.w,y.w]) (.int j) s= .ok d.w s)(hL:∀s:Hs,Gr st s->aQ (.ref L) (.int j) s= .ok D s)(u:du n d D st):
  ∃(v7:Option Wv)(st':Hs),lW [o0,some (tI [a,b]),o2,o3,some (.tup [x.w,y.w]),some (.ref L),some (.int j),o7,o8,o9,zR] st= .nx [o0,some (tI [a,b]),o2,o3,some (.tup [x.w,y.w]),some (.ref L),some (.int j),v7,o8,o9,zR] st'/\Gr st st':=by
 have XC:=hL st Gr.refl;unfold lW;rcases u with ⟨R,w,t,rfl,_,_,h1,h2⟩ |⟨R,rfl⟩
 ·obtain⟨w1,s1,e1,k1,g1⟩:=(writes (st:=st) hd).1 R;obtain⟨t1,s2,e2,k2,g2⟩:=(takes (st:=s1) hd).1 R;have G:=g1.trans g2;have hL2:=hL s2 G;have i0:J8 (.tup [.ref w,.ref t]) .bK st= .ok (.bl false) st:=rfl;have ne:=SK (g2.lst k1) k2 (G.lst h1) (G.lst h2);have l1:=is_list (g2.lst k1);have l2:=is_list k2;refine⟨some (.tup [.ref w1,.ref t1]),s2,?_,G⟩;simp[XC,i0,hj,e1,e2,hL2,ne,zM,l1,l2]
 ·have i0:J8 (.bK) .bK st= .ok (.bl true) st:=rfl;have co:(Dd.one (.clear a b)).Ok:=⟨by show 1<=3;decide,λq hq=>by rw[List.mem_singleton.mp hq];unfold xc at hs;show cI a b;unfold cI;omega⟩;obtain⟨bs,s1,c1,g1,G1,_⟩:=Dq (cs:=[("pair",4),("j",6),("spot",1)]) (gt:=vm) (ge:=pv) (ρ:=[o0,some (tI [a,b]),o2,o3,some (.tup [x.w,y.w]),some (.ref L),some (.int j),o7,o8,o9,zR]) (w:=(none,cg 0 4)) (st:=st) (λ_:Unit=> .bl true) (λ_ _=>trivial) (λ_ _=>rfl) (λv hv s G=>by obtain⟨i,rfl,i0,i1⟩:=wO hv;obtain⟨s',e,g⟩:=zQ hd co R (way:=i) (by omega) (by omega) s;refine⟨(),s',?_,g⟩;have e':dc [.int i,d.w,.tup [.str "clear",tI [a,b]]] s= .ok (.bl true) s':=e;unfold pv;simp[cX,hj,e']) (by rw[dq];decide);have al:rO [.ref st.length] s1= .ok (.bl true) s1:=qJ (n:=bs.length) (by rw[c7 g1,uns]);have c4:cW 4:=Bp (by decide) (by decide);have r4:rL [.int 4] st= .ok (none,cg 0 4) st:=by rw[Bo c4];rfl
  refine⟨o7,s1,?_,G1⟩;simp[XC,i0,r4,c1,al]
theorem turn{o3 o6 o7 o8 o9 zR:Option Wv}{k:Int}(hs:xc a b)(h:ao st l=some (ns.map Wv.int))(h0:0<=k)(h1:k<=1000):
  ∃(v3 v4 v5 v6 v7 v8 v9 v10:Option Wv)(st':Hs),lX [some (.ref l),some (tI [a,b]),some (.int k),o3,o4,o5,o6,o7,o8,o9,zR] st= .nx [some (.ref l),some (tI [a,b]),some (.int k),v3,v4,v5,v6,v7,v8,v9,v10] st'/\Gr st st':=by
 obtain⟨n,e1⟩:=M9 (k:=k) h h0 h1;have ro:Ro st.length (st++[.lst [.int n]]):=⟨n,ja⟩;obtain⟨d,s1,e2,dk,w1⟩:=Wt ro hs;obtain⟨e,s2,e3,ek,w2⟩:=Wt w1.2 hs;have G2:Gr st s2:=Gr.push.nj (ar _) (w1.trans w2).1;obtain⟨D,E,s3,c1,L3,u1,u2,g3⟩:=aap dk ek (ρ:=[some (.ref l),some (tI [a,b]),some (.int k),some (.ref st.length),some (.tup [d.w,e.w]),o5,o6,o7,o8,o9,zR]) s2;have G3:=G2.trans g3;have XC:∀s:Hs,Gr s3 s->aQ (.ref s2.length) (.int 0) s= .ok D s:=λs g=>Bm (g.lst L3) rfl;have hL1:∀s:Hs,Gr s3 s->aQ (.ref s2.length) (.int 1) s= .ok E s:=λs g=>Bm (g.lst L3) rfl;have p0:∀s:Hs,aQ (.tup [d.w,e.w]) (.int 0) s= .ok d.w s:=λ_=>rfl;have p1:∀s:Hs,aQ (.tup [d.w,e.w]) (.int 1) s= .ok e.w s:=λ_=>rfl;obtain⟨v7,s4,e4,g4⟩:=ask (o0:=some (.ref l)) (o2:=some (.int k)) (o3:=some (.ref st.length)) (o7:=o7) (o8:=o8) (o9:=o9) (zR:=zR) hs dk p0 XC u1;obtain⟨x7,s5,e5,g5⟩:=ask (o0:=some (.ref l)) (o2:=some (.int k)) (o3:=some (.ref st.length)) (o7:=v7) (o8:=o8) (o9:=o9) (zR:=zR) hs ek p1 (λs g=>hL1 s (g4.trans g)) (u2.gr g4);have Ka:=g4.trans g5;have G5:=G3.trans Ka;have L5:=Ka.lst L3;have ni:=Nj L5 (u1.gr Ka) (u2.gr Ka);have loop:c_ 6 lW (cg 0 2) [some (.ref l),some (tI [a,b]),some (.int k),some (.ref st.length),some (.tup [d.w,e.w]),some (.ref s2.length),o6,o7,o8,o9,zR] s3= .nx [some (.ref l),some (tI [a,b]),some (.int k),some (.ref st.length),some (.tup [d.w,e.w]),some (.ref s2.length),some (.int 1),x7,o8,o9,zR] s5:=by show c_ 6 lW [.int 0,.int 1] _ s3=_;unfold c_;simp only[qB,xf,e4];unfold c_;simp only[qB,xf,e5];rfl
 have c2:cW 2:=Bp (by decide) (by decide);by_cases R:Rm d.ps/\Rm e.ps
 ·rw[decide_eq_true R]at ni;rcases u1 with ⟨_,w,t,rfl,_,_,y1,y2⟩ |⟨z,_⟩
  rotate_left
  ·exact absurd R.1 z
  rcases u2 with ⟨_,w',t',rfl,_,_,y3,y4⟩ |⟨z,_⟩
  rotate_left
  ·exact absurd R.2 z
  have P:=XB dk R.1;have Q:=XB ek R.2;obtain⟨ρ,hρ⟩:∃ρ:bX,[some (.ref l),some (tI [a,b]),some (.int k),some (.ref st.length),some (.tup [d.w,e.w]),some (.ref s2.length),some (.int 1),x7,some (.tup [.ref w,.ref t]),some (.tup [.ref w',.ref t']),zR]=ρ:=⟨_,rfl⟩;have r8:ρ[8]? =some (some (.tup [.ref w,.ref t])):=by rw[<-hρ];rfl
  have r9:ρ[9]? =some (some (.tup [.ref w',.ref t'])):=by rw[<-hρ];rfl
  have q1:∀s,Gr s5 s->∃s',au 2 bL (aa (ah aQ (af 8) (gC (.int 0))) (aa (ah aQ (af 9) (gC (.int 0))) aj)) ρ s= .ok (.bl (cm (up (jH d.ps)) (up (jH e.ps)))) s'/\Gr s s':=λs g=>by obtain⟨s',c,g'⟩:=nC (g.lst (Ka.lst y1)) (g.lst (Ka.lst y3)) (by have:=P.wl;omega);exact⟨s',by simp[r8,r9,zM,c],g'⟩
  have q2:∀s,Gr s5 s->∃s',au 2 bL (aa (ah aQ (af 8) (gC (.int 0))) (aa (ah aQ (af 9) (gC (.int 1))) aj)) ρ s= .ok (.bl (cm (up (jH d.ps)) (up (mW e.ps)))) s'/\Gr s s':=λs g=>by obtain⟨s',c,g'⟩:=nC (g.lst (Ka.lst y1)) (g.lst (Ka.lst y4)) (by have:=P.wl;omega);exact⟨s',by simp[r8,r9,zM,c],g'⟩
  have q3:∀s,Gr s5 s->∃s',au 2 bL (aa (ah aQ (af 8) (gC (.int 1))) (aa (ah aQ (af 9) (gC (.int 0))) aj)) ρ s= .ok (.bl (cm (up (mW d.ps)) (up (jH e.ps)))) s'/\Gr s s':=λs g=>by obtain⟨s',c,g'⟩:=nC (g.lst (Ka.lst y2)) (g.lst (Ka.lst y3)) (by have:=P.tl;omega);exact⟨s',by simp[r8,r9,zM,c],g'⟩
  obtain⟨s6,e6,g6⟩:=orG q1 (orG q2 q3) s5 Gr.refl;obtain⟨s7,e7,g7⟩:=(meet (st:=s6) dk ek).1 R.1 R.2;obtain⟨s8,e8,g8⟩:=(meet (st:=s7) ek dk).1 R.2 R.1;obtain⟨m1,m2⟩:=SM (up (jH d.ps)) (up (mW d.ps)) (up (jH e.ps)) (up (mW e.ps));rw[m1]at e7;rw[m2]at e8;generalize (cm (up (jH d.ps)) (up (jH e.ps))||(cm (up (jH d.ps)) (up (mW e.ps))||cm (up (mW d.ps)) (up (jH e.ps))))=m at e6 e7 e8;obtain⟨s9,hs9⟩:∃s9,s8++[.lst [.bl m,.bl m]]=s9:=⟨_,rfl⟩;have g9:Gr s8 s9:=by rw[<-hs9];exact Gr.push
  have n9:ao s9 s8.length=some [.bl m,.bl m]:=by rw[<-hs9];exact fm
  have Wx:lV [some (.ref l),some (tI [a,b]),some (.int k),some (.ref st.length),some (.tup [d.w,e.w]),some (.ref s2.length),some (.int 1),some (.bl m),some (.tup [.ref w,.ref t]),some (.tup [.ref w',.ref t']),some (.bl m)] s9= .nx [some (.ref l),some (tI [a,b]),some (.int k),some (.ref st.length),some (.tup [d.w,e.w]),some (.ref s2.length),some (.int 1),some (.bl m),some (.tup [.ref w,.ref t]),some (.tup [.ref w',.ref t']),some (.bl m)] s9:=by
   have b1:iW jG fU [.bl m,.ty "bool"] s9= .ok (.bl true) s9:=rfl;have b2:vP (.bl m) (.bl m) s9= .ok (.bl false) s9:=by cases m<;>rfl
   unfold lV;simp[b1,b2]
  have lp:∀o7:Option Wv,forL 7 lV s8.length [.bl m,.bl m] [.bl m,.bl m] [some (.ref l),some (tI [a,b]),some (.int k),some (.ref st.length),some (.tup [d.w,e.w]),some (.ref s2.length),some (.int 1),o7,some (.tup [.ref w,.ref t]),some (.tup [.ref w',.ref t']),some (.bl m)] s9= .nx [some (.ref l),some (tI [a,b]),some (.int k),some (.ref st.length),some (.tup [d.w,e.w]),some (.ref s2.length),some (.int 1),some (.bl m),some (.tup [.ref w,.ref t]),some (.tup [.ref w',.ref t']),some (.bl m)] s9:=λo7=>by rw[pE Wx n9,pE Wx n9];rfl
  have kf:=λo7=>(Bn (i:=7) (gb:=lV) (ρ:=[some (.ref l),some (tI [a,b]),some (.int k),some (.ref st.length),some (.tup [d.w,e.w]),some (.ref s2.length),some (.int 1),o7,some (.tup [.ref w,.ref t]),some (.tup [.ref w',.ref t']),some (.bl m)]) n9).trans (lp o7);have sl:yP [8,9] (af 5) [some (.ref l),some (tI [a,b]),some (.int k),some (.ref st.length),some (.tup [d.w,e.w]),some (.ref s2.length),some (.int 1),x7,o8,o9,zR] s5= .nx [some (.ref l),some (tI [a,b]),some (.int k),some (.ref st.length),some (.tup [d.w,e.w]),some (.ref s2.length),some (.int 1),x7,some (.tup [.ref w,.ref t]),some (.tup [.ref w',.ref t']),zR] s5:=by unfold yP;simp[L5];rfl
  refine⟨some (.ref st.length),some (.tup [d.w,e.w]),some (.ref s2.length),some (.int 1),some (.bl m),some (.tup [.ref w,.ref t]),some (.tup [.ref w',.ref t']),some (.bl m),s9,?_,(((G5.trans g6).trans g7).trans g8).trans g9⟩;unfold lX;rw[<-hρ]at e6;simp[e1,e2,e3,c1,c2,loop,ni,sl];simp at e6;simp[e6,p0,p1,e7,e8,hs9,kf]
 ·rw[decide_eq_false R]at ni;refine⟨some (.ref st.length),some (.tup [d.w,e.w]),some (.ref s2.length),some (.int 1),x7,o8,o9,zR,s5,?_,G5⟩;unfold lX;simp[e1,e2,e3,c1,c2,loop,ni]
theorem law_true:∀ns:List Int,ns.length<=63->∃st,F_law [.ref 0] [.xm ns]= .ok (.bl true) st:=by
 intro ns hn;obtain⟨T3,Wy⟩:∃T3:Hs,[.xm ns]=T3:=⟨_,rfl⟩;have h0:ao T3 0=some (ns.map Wv.int):=by rw[<-Wy];rfl
 rw[Wy];obtain⟨a,b,s1,e1,hs,more,hm⟩:=spot h0;have g1:Gr T3 s1:=by rw[hm];exact Gr.app
 have ln:∀s:Hs,Gr T3 s->mK [.ref 0] s= .ok (.int (ns.length:Nat)) s:=λs g=>by have:=Jn (g.lst h0);rw[bf]at this;exact this
 have l1:=ln s1 g1;obtain⟨lo,hlo⟩:∃lo:Int,(if 10 < (ns.length:Int)then(ns.length:Int) - 10 else 0)=lo:=⟨_,rfl⟩;have b0:0<=lo/\lo<=100:=by rw[<-hlo];split<;>omega
 have cl:cW lo:=Bp (by omega) (by omega);have ch:cW ((ns.length:Int)+1):=Bp (by omega) (by omega);obtain⟨ρ1,s2,e2,⟨v2,v3,v4,v5,v6,v7,v8,v9,v10,rfl⟩,g2⟩:=sV (i:=2) (gb:=lX) (λρ s=>(∃v2 v3 v4 v5 v6 v7 v8 v9 v10:Option Wv,ρ=[some (.ref 0),some (tI [a,b]),v2,v3,v4,v5,v6,v7,v8,v9,v10])/\Gr T3 s)
  (cg lo ((ns.length:Int)+1 - lo).toNat) [some (.ref 0),some (tI [a,b]),none,none,none,none,none,none,none,none,none] s1 ⟨⟨_,_,_,_,_,_,_,_,_,rfl⟩,g1⟩ (by rintro w hw ρ s ⟨⟨v2,v3,v4,v5,v6,v7,v8,v9,v10,rfl⟩,g⟩;obtain⟨k,rfl,k0,k1⟩:=wO hw;obtain⟨x3,x4,x5,x6,x7,x8,x9,x10,s',e,g'⟩:=turn (o3:=v3) (o4:=v4) (o5:=v5) (o6:=v6) (o7:=v7) (o8:=v8) (o9:=v9) (zR:=v10) (k:=k) hs (g.lst h0) (by omega) (by omega);exact⟨_,s',e,⟨_,_,_,_,_,_,_,_,_,rfl⟩,g.trans g'⟩)
 refine⟨s2,vi (n:=11) (g:=Di) ?_⟩;unfold Di;simp[e1,l1,hlo,cl,ch,e2]
end K89
namespace PySem.W.Fast
def tw14588813364713178971:=()
def tw16693289004790538643:=()
def tw6939386854554662783:=()
def tw2498424833131395326:=()
def tw8652940811585577752:=()
def tw4873519817437427717:=()
def tw801615654650369051:=()
def tw10835989660798745512:=()
def tw3048118677521291238:=()
def tw2872694817096492672:=()
def tw16994927490323764530:=()
def tw4603226775692606094:=()
def tw10469685735511074458:=()
def tw9783576461733016183:=()
def tw15785533450699678750:=()
def tw5194922135481011780:=()
def tw923301263060657621:=()
def tw9924733322390322905:=()
def tw17356758757220728427:=()
def tw5430698682234292743:=()
def tw3047184843490783733:=()
def tw17177161360643211648:=()
def tw16798076819444055089:=()
def tw2380340136293658055:=()
def tw17828144914492743587:=()
def tw16724448679613086520:=()
def tw1131895952370851873:=()
def tw13744108741741287743:=()
def tw621884477147326032:=()
def tw6927188660887799328:=()
def tw8006634666945412814:=()
def tw3331184497159884288:=()
def tw12371250321565635631:=()
def tw10042974972589497322:=()
def tw4541860988207556923:=()
def tw4120906041169808644:=()
def tw1555517096144690158:=()
def tw260114293317099381:=()
def tw5416547294872779995:=()
def tw11233331137606673827:=()
def tw5367051760925778989:=()
def tw2422434230065945988:=()
def tw8311968243908003612:=()
def tw2330979594499801273:=()
def tw16551102275727157744:=()
def tw3578681147825724284:=()
def tw14578532960037420919:=()
def tw11928947360029370735:=()
def tw7228378738369122176:=()
def tw11579594026741903478:=()
def tw12053251853892751050:=()
def tw10168147005605035509:=()
def tw17218229836340089509:=()
def tw18243009952955670491:=()
def tw750495967729765393:=()
def tw7235084686798526162:=()
def tw7867843844042732763:=()
def tw513480818600423060:=()
def tw1219006230147353671:=()
def tw12758834709420089613:=()
def tw6827343183015623491:=()
def tw10119073334127815801:=()
def tw10549451857135576870:=()
def tw7114309652380965915:=()
def tw16710109040723075451:=()
def tw3488269070847049058:=()
def tw15575501842955636967:=()
def tw15733040124310282436:=()
def tw18370229012255252902:=()
def tw17331519903593230178:=()
def tw2447236647259711192:=()
def tw7732004560101348807:=()
def tw12927660161335752862:=()
def tw17104831600988051750:=()
def tw11095039228157970855:=()
def tw9701657419195451764:=()
def tw5064389292440681140:=()
def tw9941046460898537814:=()
def tw5936787779135771341:=()
def tw17382780653930784886:=()
def tw14480492151157331649:=()
def tw8839997794395707904:=()
def tw11307843231428847195:=()
def tw1851983851101316624:=()
def tw4986610845681804627:=()
def tw749191254936817137:=()
def tw18418156848938713609:=()
def tw13219366307001895111:=()
def tw8485684739312414806:=()
def tw10714521918840192740:=()
def tw3382645608749632312:=()
def tw10480361405038003774:=()
def tw15771174407052842263:=()
def tw18238165068675294578:=()
def tw12265816511775941304:=()
def tw14379724008901293057:=()
def tw7985820439386214366:=()
def tw1971186393081423327:=()
def tw8379972168473335356:=()
def tw15887049194754529205:=()
def tw14623071903543032106:=()
def tw9285911444821433672:=()
def tw14390893577358289086:=()
def tw8929793614421035611:=()
def tw5019757103580713073:=()
def tw6997751262934365371:=()
def tw3911562198049822962:=()
def tw2412257097978313452:=()
def tw16880078925506143683:=()
def tw1142256297313000299:=()
def tw13425434259953901734:=()
def tw1010495597858507550:=()
def tw8443710128660203914:=()
def tw2271507815164860239:=()
def tw9604706107858609179:=()
def tw2835911709027264351:=()
def tw9768515318997639189:=()
def tw10133279351281485125:=()
def tw16853066691432798:=()
def tw790564002382687358:=()
def tw4277842943292926471:=()
def tw4599779864305332675:=()
def tw15944131558520974608:=()
def tw15267394374340915739:=()
def tw8191173923330074647:=()
def tw5933763541959088561:=()
def tw13868994414666848572:=()
def tw11493277856948945076:=()
def tw15895398695532813505:=()
def tw18253998066135982300:=()
def tw7398859624848491963:=()
def tw18305292968712459895:=()
def tw17165855207744940139:=()
def tw18101030337480372380:=()
def tw8315463649245409550:=()
def tw5056504317277909231:=()
def tw9444590910283980160:=()
def tw8239689984398414036:=()
def tw3240527052473420884:=()
def tw14196412570161331009:=()
def tw15620678084565189408:=()
def tw1287110635165746782:=()
def tw5687541671445009327:=()
def tw12507472624380114855:=()
def tw5199373900781041094:=()
def tw2177193144646377097:=()
def tw10282227804985532186:=()
def tw4120159069053596710:=()
def tw9826465891114520679:=()
def tw9128372865803565409:=()
def tw15066935962527719631:=()
def tw10981165731553529270:=()
def tw9058820243721527967:=()
def tw2767597681622432854:=()
def tw5300230230320220737:=()
def tw14101027151964936059:=()
def tw1155646123134356370:=()
def tw1811844357117635527:=()
def tw3714320510382112676:=()
def tw4336177073099595155:=()
def tw6417747148910057704:=()
def tw13586834452142511170:=()
def tw13730727411057517597:=()
def tw10705994599597238789:=()
end PySem.W.Fast
namespace K89
open PySem PySem.W PyProof.Rows
set_option maxHeartbeats 0 in
open_top head for PySem.Challenge.rw_onelook_k89_written_and_taken
open PySem J
open PySem.W (nsIn kitOne findIn excIn mroIn mg_of mg_none_of)
open L2 (defScope defBody defArgs FnScope CX0 FnOk XK Hp)
set_option autoImplicit true in
theorem all_mk {l:PySem.W.OpenLaw} {w:World} {K:PySem.W.Frag} {h:Heap} {mg:Str → Option Value} {fa:Addr} (X:K.In h) (G:h.Ns mainGlobals mg) (hfa:mg "law" = some (.ref fa))
        {tk0 tk1 Rx Wz WA WB:Tok}{ca3:afR}{aar:Option afR}{cn3:Nat}{cs3:Array (Option afX)}{da0:afR}{de0:Nat}{OL OM ON OO OP:Int}{WC WD WE WG WH Nk Nl Nm Nn Np Nq Nr Nt Nu:Tok}{JL:afR}{SN:Option afR}{SQ:Nat}{SR:Array (Option afX)}{JM:afR}{SU:Option afR}{SV:Nat}{SX:Array (Option afX)}{JN:afR}{SY:Option afR}{S0:Nat}{S8:Array (Option afX)}{JP:afR}{S_:Option afR}{Tj:Nat}{To:Array (Option afX)}{JQ:afR}{Tp:Option afR}{Tq:Nat}{Tr:Array (Option afX)}{X0 X1 X2 X3:afR}
    (d1:J.bu K "_law_cell_at" fJ)
    (d2:J.bu K "_law_spot" jb)
    (d3:J.bu K "_law_mixed" hZ)
    (d4:J.bu K "_law_row" kx)
    (d5:J.bu K "_law_digit" h_)
    (d6:J.bu K "_law_place" ic)
    (d7:J.bu K "_law_area" jc)
    (d8:J.bu K "_law_pins" jd)
    (d9:J.bu K "_law_number" f')
    (d10:J.bu K "_law_leaf" je)
    (XD:J.bu K "_law_formula" fL)
    (TY:J.bu K "_law_content" fM)
    (d13:J.bu K "_law_small" ie)
    (d14:J.bu K "_law_deed" jf)
    (d15:J.bu K "_law_parts" ig)
    (d16:J.bu K "places_between" dW)
    (d17:J.bu K "is_place" kI)
    (d18:J.bu K "has_corners" gj)
    (d19:J.bu K "area_many" jg)
    (d20:J.bu K "is_area" mG)
    (d21:J.bu K "made_area" jh)
    (d22:J.bu K "area_places" gm)
    (d23:J.bu K "_law_due" kJ)
    (d24:J.bu K "_law_common" gq)
    (d25:J.bu K "is_whole" kK)
    (d26:J.bu K "is_number_row" e_)
    (XE:J.bu K "is_small" kM)
    (XF:J.bu K "is_entry" kO)
    (XG:J.bu K "is_deed" mH)
    (d30:J.bu K "small_deeds" gA)
    (d31:J.bu K "made_place" ij)
    (d32:J.bu K "area_come_to" fQ)
    (d33:J.bu K "small_reach" gB)
    (d34:J.bu K "reach_of" kT)
    (d35:J.bu K "have_common" gD)
    (d36:J.bu K "meet" xa)
    (d37:J.bu K "writes" oB)
    (d38:J.bu K "takes" qG)
    (d39:J.bu K "_law_refused" fS)
    (d40:J.bu K "law" Dh)
    (z0:nsIn K af7 "len"=some none)
    (z1:nsIn K af7 "range"=some none)
    (z2:nsIn K af7 "sum"=some none)
    (z3:nsIn K af7 "tuple"=some none)
    (z4:nsIn K af7 "min"=some none)
    (z5:nsIn K af7 "sorted"=some none)
    (z6:nsIn K af7 "set"=some none)
    (z7:nsIn K af7 "isinstance"=some none)
    (z8:nsIn K af7 "int"=some none)
    (z9:nsIn K af7 "bool"=some none)
    (z10:nsIn K af7 "all"=some none)
    (z11:nsIn K af7 "str"=some none)
    (z12:nsIn K af7 "zip"=some none)
    (z13:nsIn K af7 "max"=some none)
    (z14:nsIn K af7 "list"=some none)
    (v0:nsIn K af7 "ROWS"=some (some (.int 99 tk0)))
    (v1:nsIn K af7 "COLUMNS"=some (some (.int 26 tk1)))
    (v2:nsIn K af7 "MOST_PLACES"=some (some (.int 300 Rx)))
    (v3:nsIn K af7 "SMALL_WORDS"=some (some (.ref ca3))) (w3:K.lookup ca3=some ⟨.type "tuple",aar,.seq #[.str "put" Wz,.str "clear" WA,.str "copy" WB] cn3,cs3⟩)
    (dv0:nsIn K af7 "ENTRIES"=some (some (.ref da0))) (dw0:K.lookup da0=some ⟨.type "dict",none,.dict #[⟨OL,.str "put" WC,.ref JL⟩,⟨OM,.str "clear" WD,.ref JM⟩,⟨ON,.str "copy" WE,.ref JN⟩,⟨OO,.str "shift" WG,.ref JP⟩,⟨OP,.str "bundle" WH,.ref JQ⟩] de0,#[]⟩) (dm0:(da0 == sysModules)=false) (JR:OL=hashStr w "put") (JU:OM=hashStr w "clear") (JV:ON=hashStr w "copy") (JX:OO=hashStr w "shift") (JY:OP=hashStr w "bundle")
    (JZ:K.lookup JL=some ⟨.type "tuple",SN,.seq #[.str "place" Nk,.str "content" Nl] SQ,SR⟩)
    (J0:K.lookup JM=some ⟨.type "tuple",SU,.seq #[.str "place" Nm] SV,SX⟩)
    (J1:K.lookup JN=some ⟨.type "tuple",SY,.seq #[.str "area" Nn,.str "place" Np] S0,S8⟩)
    (J2:K.lookup JP=some ⟨.type "tuple",S_,.seq #[.str "text" Nq,.str "number" Nr,.str "number" Nt] Tj,To⟩)
    (J3:K.lookup JQ=some ⟨.type "tuple",Tp,.seq #[.str "deeds" Nu] Tq,Tr⟩)
    (Dt:nsIn K af7 "BadArea"=some (some (.ref X0))) (WI:excIn K X0 AF AG=true) (xg0:findIn K (.ref X0) "__getattribute__"=some (some (.builtin "BaseException.__getattribute__"))) (xx0:findIn K (.ref X0) "__getattr__"=some none) (xc0:findIn K (.ref X0) "__class__"=some (some (.builtin "object.__class__")))
    (Du:nsIn K af7 "NoDeed"=some (some (.ref X1))) (WJ:excIn K X1 AF AG=true) (xg1:findIn K (.ref X1) "__getattribute__"=some (some (.builtin "BaseException.__getattribute__"))) (xx1:findIn K (.ref X1) "__getattr__"=some none) (xc1:findIn K (.ref X1) "__class__"=some (some (.builtin "object.__class__")))
    (Dv:nsIn K af7 "BadPlace"=some (some (.ref X2))) (WK:excIn K X2 AF AG=true) (xg2:findIn K (.ref X2) "__getattribute__"=some (some (.builtin "BaseException.__getattribute__"))) (xx2:findIn K (.ref X2) "__getattr__"=some none) (xc2:findIn K (.ref X2) "__class__"=some (some (.builtin "object.__class__")))
    (vp:nsIn K af7 "NoRoom"=some (some (.ref X3))) (Kb:excIn K X3 AF AG=true) (xg3:findIn K (.ref X3) "__getattribute__"=some (some (.builtin "BaseException.__getattribute__"))) (xx3:findIn K (.ref X3) "__getattr__"=some none) (xc3:findIn K (.ref X3) "__class__"=some (some (.builtin "object.__class__")))
    (pk0:kitOne K (.ref X0) (.ref X0)=some true)
    (pk1:kitOne K (.ref X0) (.ref X1)=some false)
    (pk2:kitOne K (.ref X0) (.ref X2)=some false)
    (pk3:kitOne K (.ref X0) (.ref X3)=some false)
    (pk4:kitOne K (.ref X1) (.ref X0)=some false)
    (pk5:kitOne K (.ref X1) (.ref X1)=some true)
    (pk6:kitOne K (.ref X1) (.ref X2)=some false)
    (pk7:kitOne K (.ref X1) (.ref X3)=some false)
    (pk8:kitOne K (.ref X2) (.ref X0)=some false)
    (pk9:kitOne K (.ref X2) (.ref X1)=some false)
    (Ts:kitOne K (.ref X2) (.ref X2)=some true)
    (Tt:kitOne K (.ref X2) (.ref X3)=some false)
    (Tu:kitOne K (.ref X3) (.ref X0)=some false)
    (Tv:kitOne K (.ref X3) (.ref X1)=some false)
    (Tw:kitOne K (.ref X3) (.ref X2)=some false)
    (Tx:kitOne K (.ref X3) (.ref X3)=some true)
    (pm0:mroIn K X0 (.ref X3)=some false)
    (pm1:mroIn K X1 (.ref X3)=some false)
    (pm2:mroIn K X2 (.ref X3)=some false)
    (pm3:mroIn K X3 (.ref X3)=some true)
    (pt0:kitOne K (.ref X0) (.type "ValueError")=some true)
    (pt1:kitOne K (.ref X1) (.type "ValueError")=some true)
    (pt2:kitOne K (.ref X2) (.type "ValueError")=some true)
    (pt3:kitOne K (.ref X3) (.type "ValueError")=some true)
     :
    ∃fd:afT,(∀(s:afW)(u:afX),BindsTo s fd ⟨[u],[]⟩ [("script",u)])/\∀base:Heap,K.In base->base.Ns af7 mg->FnOk l.prog w K mg base (CXJ l.prog w) 13 fa fd ["script"] (spW K 1 F_law):=by
  refine J.M4 X G hfa d40 (λ_ _ _ _ _ _ s u=> .of_eq rfl) (λf fd Fu base kb nb=>?_);have Z0:=mg_none_of kb nb z0;have Z1:=mg_none_of kb nb z1;have Z2:=mg_none_of kb nb z2;have Z3:=mg_none_of kb nb z3;have Z4:=mg_none_of kb nb z4;have Z5:=mg_none_of kb nb z5;have Z6:=mg_none_of kb nb z6;have Z7:=mg_none_of kb nb z7;have Z8:=mg_none_of kb nb z8;have Z9:=mg_none_of kb nb z9;have XH:=mg_none_of kb nb z10;have Z11:=mg_none_of kb nb z11;have Z12:=mg_none_of kb nb z12;have Z13:=mg_none_of kb nb z13;have Z14:=mg_none_of kb nb z14;have V0:=mg_of kb nb v0;have V1:=mg_of kb nb v1;have V2:=mg_of kb nb v2;have V3:=mg_of kb nb v3;have E0:J.xU K X0:=⟨WI,xg0,xx0,xc0⟩;have E1:J.xU K X1:=⟨WJ,xg1,xx1,xc1⟩;have E2:J.xU K X2:=⟨WK,xg2,xx2,xc2⟩;have E3:J.xU K X3:=⟨Kb,xg3,xx3,xc3⟩;have TB:TabOk K jG fU ze:=J.Sf ⟨⟨X0,X0,Dt,Dt,E0,pk0⟩,⟨X0,X1,Dt,Du,E0,pk1⟩,⟨X0,X2,Dt,Dv,E0,pk2⟩,⟨X0,X3,Dt,vp,E0,pk3⟩,⟨X1,X0,Du,Dt,E1,pk4⟩,⟨X1,X1,Du,Du,E1,pk5⟩,⟨X1,X2,Du,Dv,E1,pk6⟩,⟨X1,X3,Du,vp,E1,pk7⟩,⟨X2,X0,Dv,Dt,E2,pk8⟩,⟨X2,X1,Dv,Du,E2,pk9⟩,⟨X2,X2,Dv,Dv,E2,Ts⟩,⟨X2,X3,Dv,vp,E2,Tt⟩,⟨X3,X0,vp,Dt,E3,Tu⟩,⟨X3,X1,vp,Du,E3,Tv⟩,⟨X3,X2,vp,Dv,E3,Tw⟩,⟨X3,X3,vp,vp,E3,Tx⟩,trivial⟩ ⟨⟨X0,Dt,E0,pt0⟩,⟨X1,Du,E1,pt1⟩,⟨X2,Dv,E2,pt2⟩,⟨X3,vp,E3,pt3⟩,trivial⟩ ⟨⟨X0,X3,Dt,vp,WI,Kb,pm0⟩,⟨X1,X3,Du,vp,WJ,Kb,pm1⟩,⟨X2,X3,Dv,vp,WK,Kb,pm2⟩,⟨X3,X3,vp,vp,Kb,Kb,pm3⟩,trivial⟩;have H1:J.fj l.prog w K mg base 1 "_law_cell_at" 2 cG:=J.aK (ps:=["script","k"]) kb nb d1 (J.aB (c:=iJ) (k:=0) trivial ⟨Z0,trivial⟩ trivial TB trivial trivial trivial) pZ rfl sW (λ_ _ _ _ _ _ us hl=>J.ln2 us hl λ_ _=>rfl);have H2:J.fj l.prog w K mg base 2 "_law_spot" 1 gI:=J.aK (ps:=["script"]) kb nb d2 (J.aB (c:=lG) (k:=1) trivial trivial ⟨H1.mono (by decide),trivial⟩ TB trivial trivial trivial) wQ rfl zf (λ_ _ _ _ _ _ us hl=>J.uc us hl λ_=>rfl);have H3:J.fj l.prog w K mg base 1 "_law_mixed" 2 fK:=J.aK (ps:=["cell","k"]) kb nb d3 (J.aB (c:=ku) (k:=0) trivial trivial trivial TB trivial trivial trivial) ud rfl wR (λ_ _ _ _ _ _ us hl=>J.ln2 us hl λ_ _=>rfl);have H4:J.fj l.prog w K mg base 2 "_law_row" 2 iK:=J.aK (ps:=["script","k"]) kb nb d4 (J.aB (c:=nq) (k:=1) trivial ⟨Z1,Z0,Z2,trivial⟩ ⟨H3.mono (by decide),H1.mono (by decide),trivial⟩ TB trivial trivial trivial) zg rfl Bq (λ_ _ _ _ _ _ us hl=>J.ln2 us hl λ_ _=>rfl);have H5:J.fj l.prog w K mg base 1 "_law_digit" 2 aq:=J.aK (ps:=["row","many"]) kb nb d5 (J.aB (c:=kA) (k:=0) trivial trivial trivial TB trivial trivial trivial) ue rfl wU (λ_ _ _ _ _ _ us hl=>J.ln2 us hl λ_ _=>rfl);have H6:J.fj l.prog w K mg base 2 "_law_place" 2 cO:=J.aK (ps:=["row","spot"]) kb nb d6 (J.aB (c:=kD) (k:=1) trivial trivial ⟨H5.mono (by decide),trivial⟩ TB trivial trivial trivial) uf rfl wV (λ_ _ _ _ _ _ us hl=>J.ln2 us hl λ_ _=>rfl);have H7:J.fj l.prog w K mg base 2 "_law_area" 2 cP:=J.aK (ps:=["row","spot"]) kb nb d7 (J.aB (c:=lI) (k:=1) trivial trivial ⟨H5.mono (by decide),trivial⟩ TB trivial trivial trivial) wW rfl zh (λ_ _ _ _ _ _ us hl=>J.ln2 us hl λ_ _=>rfl);have H8:J.fj l.prog w K mg base 2 "_law_pins" 2 bY:=J.aK (ps:=["row","many"]) kb nb d8 (J.aB (c:=lK) (k:=1) trivial ⟨Z3,Z1,trivial⟩ ⟨H5.mono (by decide),trivial⟩ TB trivial trivial trivial) wX rfl zi (λ_ _ _ _ _ _ us hl=>J.ln2 us hl λ_ _=>rfl);have H9:J.fj l.prog w K mg base 2 "_law_number" 1 eJ:=J.aK (ps:=["row"]) kb nb d9 (J.aB (c:=jv) (k:=1) trivial trivial ⟨H5.mono (by decide),trivial⟩ TB trivial trivial trivial) sX rfl ug (λ_ _ _ _ _ _ us hl=>J.uc us hl λ_=>rfl);have GX:J.fj l.prog w K mg base 3 "_law_leaf" 2 fo:=J.aK (ps:=["row","spot"]) kb nb d10 (J.aB (c:=lM) (k:=2) trivial trivial ⟨H5.mono (by decide),H7.mono (by decide),H8.mono (by decide),H9.mono (by decide),H6.mono (by decide),trivial⟩ TB trivial trivial trivial) wY rfl zj (λ_ _ _ _ _ _ us hl=>J.ln2 us hl λ_ _=>rfl);have G11:∀n:Nat,J.fj l.prog w K mg base (3+n) "_law_formula" 3 (bO n):=λn=>by
    induction n with
    |zero=>exact J.qx (ps:=["row","spot","deep"]) kb nb XD (λ_ _ _ _ _ _ us hl=>J.Xx us hl λ_ _ _=>rfl)
    |succ n ih=>exact J.hdf kb nb XD (J.tk (c:=(lN (bO n))) (k:=(3+n)) TB ⟨H5.mo,ih,GX.mo,H7.mo,H8.mo,trivial⟩) (p5 (bO n)) (sY (bO n))
  have YC:J.fj l.prog w K mg base 9 "_law_formula" 3 aR:=(G11 6);have H12:J.fj l.prog w K mg base 10 "_law_content" 3 dF:=J.aK (ps:=["row","spot","deep"]) kb nb TY (J.aB (c:=iM) (k:=9) trivial trivial ⟨H5.mono (by decide),YC.mono (by decide),trivial⟩ TB trivial trivial trivial) p7 rfl sZ (λ_ _ _ _ _ _ us hl=>J.Xx us hl λ_ _ _=>rfl);have H13:J.fj l.prog w K mg base 11 "_law_small" 2 dU:=J.aK (ps:=["row","spot"]) kb nb d13 (J.aB (c:=kF) (k:=10) trivial ⟨Z4,trivial⟩ ⟨H5.mono (by decide),H6.mono (by decide),H12.mono (by decide),H7.mono (by decide),trivial⟩ TB trivial trivial trivial) uh rfl wZ (λ_ _ _ _ _ _ us hl=>J.ln2 us hl λ_ _=>rfl);have H14:J.fj l.prog w K mg base 12 "_law_deed" 2 fq:=J.aK (ps:=["row","spot"]) kb nb d14 (J.aB (c:=lP) (k:=11) trivial ⟨Z3,Z1,trivial⟩ ⟨H13.mono (by decide),H5.mono (by decide),trivial⟩ TB trivial trivial trivial) w5 rfl zk (λ_ _ _ _ _ _ us hl=>J.ln2 us hl λ_ _=>rfl);have H15:J.fj l.prog w K mg base 1 "_law_parts" 1 fN:=J.aK (ps:=["deed"]) kb nb d15 (J.aB (c:=kH) (k:=0) trivial trivial trivial TB trivial trivial trivial) ui rfl w6 (λ_ _ _ _ _ _ us hl=>J.uc us hl λ_=>rfl);have H16:J.fj l.prog w K mg base 1 "places_between" 1 dY:=J.aK (ps:=["area"]) kb nb d16 (J.aB (c:=f6) (k:=0) trivial ⟨Z1,trivial⟩ trivial TB trivial trivial trivial) oA rfl pg (λ_ _ _ _ _ _ us hl=>J.uc us hl λ_=>rfl);have H17:J.fj l.prog w K mg base 1 "is_place" 1 dH:=J.aK (ps:=["place"]) kb nb d17 (J.aB (c:=nv) (k:=0) ⟨⟨_,V0⟩,⟨_,V1⟩,trivial⟩ trivial trivial TB trivial trivial trivial) zl rfl Br (λ_ _ _ _ _ _ us hl=>J.uc us hl λ_=>rfl);have H18:J.fj l.prog w K mg base 2 "has_corners" 1 cS:=J.aK (ps:=["area"]) kb nb d18 (J.aB (c:=jx) (k:=1) trivial trivial ⟨H17.mono (by decide),trivial⟩ TB trivial trivial trivial) s_ rfl uj (λ_ _ _ _ _ _ us hl=>J.uc us hl λ_=>rfl);have H19:J.fj l.prog w K mg base 1 "area_many" 1 gJ:=J.aK (ps:=["area"]) kb nb d19 (J.aB (c:=lR) (k:=0) trivial trivial trivial TB trivial trivial trivial) w8 rfl zm (λ_ _ _ _ _ _ us hl=>J.uc us hl λ_=>rfl);have H20:J.fj l.prog w K mg base 3 "is_area" 1 jS:=J.aK (ps:=["area"]) kb nb d20 (J.aB (c:=pj) (k:=2) ⟨⟨_,V2⟩,trivial⟩ trivial ⟨H18.mono (by decide),H19.mono (by decide),trivial⟩ TB trivial trivial trivial) Bs rfl ET (λ_ _ _ _ _ _ us hl=>J.uc us hl λ_=>rfl);have H21:J.fj l.prog w K mg base 4 "made_area" 4 dI:=J.aK (ps:=["top","left","bottom","right"]) kb nb d21 (J.aB (c:=lT) (k:=3) trivial trivial ⟨H20.mono (by decide),trivial⟩ TB ⟨⟨X0,mg_of kb nb Dt,⟨Dt,WI⟩⟩,trivial⟩ trivial trivial) w9 rfl zo (λ_ _ _ _ _ _ us hl=>J.ln4 us hl λ_ _ _ _=>rfl);have H22:J.fj l.prog w K mg base 5 "area_places" 1 bV:=J.aK (ps:=["area"]) kb nb d22 (J.aB (c:=jy) (k:=4) trivial trivial ⟨H16.mono (by decide),H21.mono (by decide),trivial⟩ TB trivial trivial trivial) tm rfl uk (λ_ _ _ _ _ _ us hl=>J.uc us hl λ_=>rfl);have H23:J.fj l.prog w K mg base 6 "_law_due" 1 fh:=J.aK (ps:=["deed"]) kb nb d23 (J.aB (c:=nz) (k:=5) trivial ⟨Z5,Z6,trivial⟩ ⟨H15.mono (by decide),H22.mono (by decide),trivial⟩ TB trivial trivial trivial) zq rfl Bt (λ_ _ _ _ _ _ us hl=>J.uc us hl λ_=>rfl);have H24:J.fj l.prog w K mg base 1 "_law_common" 2 bL:=J.aK (ps:=["some","others"]) kb nb d24 (J.aB (c:=jA) (k:=0) trivial trivial trivial TB trivial trivial trivial) tq rfl um (λ_ _ _ _ _ _ us hl=>J.ln2 us hl λ_ _=>rfl);have H25:J.fj l.prog w K mg base 1 "is_whole" 1 cT:=J.aK (ps:=["thing"]) kb nb d25 (J.aB (c:=nA) (k:=0) trivial ⟨Z7,Z8,Z9,trivial⟩ trivial TB trivial trivial trivial) zr rfl Bu (λ_ _ _ _ _ _ us hl=>J.uc us hl λ_=>rfl);have H26:J.fj l.prog w K mg base 2 "is_number_row" 2 bP:=J.aK (ps:=["thing","many"]) kb nb d26 (J.aB (c:=gQ) (k:=1) trivial ⟨Z7,Z3,XH,Z0,trivial⟩ ⟨H25.mono (by decide),trivial⟩ TB trivial trivial trivial) pq rfl p8 (λ_ _ _ _ _ _ us hl=>J.ln2 us hl λ_ _=>rfl);have G29:∀n:Nat,J.fj l.prog w K mg base (2+n) "is_small" 1 (aL n)/\J.fj l.prog w K mg base (2+n) "is_entry" 2 (aM n)/\J.fj l.prog w K mg base (2+n) "is_deed" 1 (aP n):=λn=>by
    induction n with
    |zero=>exact⟨J.qx (ps:=["thing"]) kb nb XE (λ_ _ _ _ _ _ us hl=>J.uc us hl λ_=>rfl),J.qx (ps:=["kind","entry"]) kb nb XF (λ_ _ _ _ _ _ us hl=>J.ln2 us hl λ_ _=>rfl),J.qx (ps:=["thing"]) kb nb XG (λ_ _ _ _ _ _ us hl=>J.uc us hl λ_=>rfl)⟩
    |succ n ih=>exact⟨J.aK (ps:=["thing"]) kb nb XE (J.aB (c:=(tw (aL n) (aM n) (aP n))) (k:=(2+n)) ⟨⟨_,[.str "put",.str "clear",.str "copy"],_,_,_,V3,w3,rfl,rfl,(show(3:Nat)<=af8 by decide),(.cons ⟨_,rfl⟩ (.cons ⟨_,rfl⟩ (.cons ⟨_,rfl⟩ .nil))),⟨⟨rfl,by decide+kernel⟩,⟨⟨rfl,by decide+kernel⟩,⟨⟨rfl,by decide+kernel⟩,trivial⟩⟩⟩⟩,trivial⟩ ⟨Z7,Z3,trivial⟩ ⟨ih.2.2,trivial⟩ TB trivial trivial trivial) (zt (aL n) (aM n) (aP n)) rfl (Bv (aL n) (aM n) (aP n)) (λ_ _ _ _ _ _ us hl=>J.uc us hl λ_=>rfl),J.aK (ps:=["kind","entry"]) kb nb XF (J.aB (c:=(tD (aL n) (aM n) (aP n))) (k:=(2+n)) trivial ⟨Z7,Z11,Z3,XH,trivial⟩ ⟨H26.mono (by omega),H25.mono (by omega),ih.1,trivial⟩ TB trivial trivial trivial) (zu (aL n) (aM n) (aP n)) rfl (Bw (aL n) (aM n) (aP n)) (λ_ _ _ _ _ _ us hl=>J.ln2 us hl λ_ _=>rfl),J.aK (ps:=["thing"]) kb nb XG (J.aB (c:=(vj (aL n) (aM n) (aP n))) (k:=(2+n)) trivial ⟨XH,Z7,Z3,Z0,Z11,Z12,trivial⟩ ⟨ih.2.1,trivial⟩ TB trivial trivial ⟨⟨_,_,_,mg_of kb nb dv0,dw0,dm0,⟨⟨JR,⟨_,rfl⟩,⟨_,[.str "place",.str "content"],rfl,⟨_,_,_,JZ,rfl,rfl,(show(2:Nat)<=af8 by decide),(.cons ⟨_,rfl⟩ (.cons ⟨_,rfl⟩ .nil))⟩,⟨⟨rfl,by decide+kernel⟩,⟨⟨rfl,by decide+kernel⟩,trivial⟩⟩⟩⟩,⟨JU,⟨_,rfl⟩,⟨_,[.str "place"],rfl,⟨_,_,_,J0,rfl,rfl,(show(1:Nat)<=af8 by decide),(.cons ⟨_,rfl⟩ .nil)⟩,⟨⟨rfl,by decide+kernel⟩,trivial⟩⟩⟩,⟨JV,⟨_,rfl⟩,⟨_,[.str "area",.str "place"],rfl,⟨_,_,_,J1,rfl,rfl,(show(2:Nat)<=af8 by decide),(.cons ⟨_,rfl⟩ (.cons ⟨_,rfl⟩ .nil))⟩,⟨⟨rfl,by decide+kernel⟩,⟨⟨rfl,by decide+kernel⟩,trivial⟩⟩⟩⟩,⟨JX,⟨_,rfl⟩,⟨_,[.str "text",.str "number",.str "number"],rfl,⟨_,_,_,J2,rfl,rfl,(show(3:Nat)<=af8 by decide),(.cons ⟨_,rfl⟩ (.cons ⟨_,rfl⟩ (.cons ⟨_,rfl⟩ .nil)))⟩,⟨⟨rfl,by decide+kernel⟩,⟨⟨rfl,by decide+kernel⟩,⟨⟨rfl,by decide+kernel⟩,trivial⟩⟩⟩⟩⟩,⟨JY,⟨_,rfl⟩,⟨_,[.str "deeds"],rfl,⟨_,_,_,J3,rfl,rfl,(show(1:Nat)<=af8 by decide),(.cons ⟨_,rfl⟩ .nil)⟩,⟨⟨rfl,by decide+kernel⟩,trivial⟩⟩⟩,trivial⟩,by decide+kernel⟩,trivial⟩) (Bx (aL n) (aM n) (aP n)) rfl (EU (aL n) (aM n) (aP n)) (λ_ _ _ _ _ _ us hl=>J.uc us hl λ_=>rfl)⟩
  have H27:J.fj l.prog w K mg base 8 "is_small" 1 aC:=(G29 6).1;have H28:J.fj l.prog w K mg base 8 "is_entry" 2 aD:=(G29 6).2.1;have H29:J.fj l.prog w K mg base 8 "is_deed" 1 aF:=(G29 6).2.2;have H30:J.fj l.prog w K mg base 9 "small_deeds" 1 bM:=J.aK (ps:=["deed"]) kb nb d30 (J.aB (c:=jC) (k:=8) trivial trivial ⟨H29.mono (by decide),trivial⟩ TB ⟨⟨X1,mg_of kb nb Du,⟨Du,WJ⟩⟩,trivial⟩ trivial trivial) tF rfl uo (λ_ _ _ _ _ _ us hl=>J.uc us hl λ_=>rfl);have H31:J.fj l.prog w K mg base 2 "made_place" 2 di:=J.aK (ps:=["row","column"]) kb nb d31 (J.aB (c:=kR) (k:=1) trivial trivial ⟨H17.mono (by decide),trivial⟩ TB ⟨⟨X2,mg_of kb nb Dv,⟨Dv,WK⟩⟩,trivial⟩ trivial trivial) ur rfl w_ (λ_ _ _ _ _ _ us hl=>J.ln2 us hl λ_ _=>rfl);have H32:J.fj l.prog w K mg base 5 "area_come_to" 2 dJ:=J.aK (ps:=["area","place"]) kb nb d32 (J.aB (c:=iR) (k:=4) trivial trivial ⟨H21.mono (by decide),H31.mono (by decide),H18.mono (by decide),trivial⟩ TB ⟨⟨X3,mg_of kb nb vp,⟨vp,Kb⟩⟩,trivial⟩ trivial trivial) p_ rfl tG (λ_ _ _ _ _ _ us hl=>J.ln2 us hl λ_ _=>rfl);have H33:J.fj l.prog w K mg base 6 "small_reach" 1 bW:=J.aK (ps:=["small"]) kb nb d33 (J.aB (c:=jD) (k:=5) trivial trivial ⟨H32.mono (by decide),H22.mono (by decide),H31.mono (by decide),trivial⟩ TB trivial trivial trivial) tH rfl uu (λ_ _ _ _ _ _ us hl=>J.uc us hl λ_=>rfl);have H34:J.fj l.prog w K mg base 7 "reach_of" 1 cH:=J.aK (ps:=["smalls"]) kb nb d34 (J.aB (c:=nB) (k:=6) trivial ⟨Z5,trivial⟩ ⟨H33.mono (by decide),trivial⟩ TB trivial trivial trivial) zv rfl By (λ_ _ _ _ _ _ us hl=>J.uc us hl λ_=>rfl);have H35:J.fj l.prog w K mg base 1 "have_common" 2 dv:=J.aK (ps:=["places","others"]) kb nb d35 (J.aB (c:=jF) (k:=0) trivial ⟨Z0,Z6,trivial⟩ trivial TB trivial trivial trivial) tJ rfl uv (λ_ _ _ _ _ _ us hl=>J.ln2 us hl λ_ _=>rfl);have H36:J.fj l.prog w K mg base 10 "meet" 2 gR:=J.aK (ps:=["one","other"]) kb nb d36 (J.aB (c:=Bz) (k:=9) trivial trivial ⟨H30.mono (by decide),H34.mono (by decide),H35.mono (by decide),trivial⟩ TB trivial trivial trivial) M7 rfl Sq (λ_ _ _ _ _ _ us hl=>J.ln2 us hl λ_ _=>rfl);have H37:J.fj l.prog w K mg base 10 "writes" 1 fR:=J.aK (ps:=["deed"]) kb nb d37 (J.aB (c:=tL) (k:=9) trivial trivial ⟨H34.mono (by decide),H30.mono (by decide),trivial⟩ TB trivial trivial trivial) EV rfl Jr (λ_ _ _ _ _ _ us hl=>J.uc us hl λ_=>rfl);have H38:J.fj l.prog w K mg base 10 "takes" 1 ip:=J.aK (ps:=["deed"]) kb nb d38 (J.aB (c:=xb) (k:=9) trivial trivial ⟨H34.mono (by decide),H30.mono (by decide),trivial⟩ TB trivial trivial trivial) Js rfl M8 (λ_ _ _ _ _ _ us hl=>J.uc us hl λ_=>rfl);have H39:J.fj l.prog w K mg base 11 "_law_refused" 3 dc:=J.aK (ps:=["way","deed","other"]) kb nb d39 (J.aB (c:=iU) (k:=10) trivial trivial ⟨H37.mono (by decide),H38.mono (by decide),H36.mono (by decide),trivial⟩ TB ⟨⟨X3,mg_of kb nb vp,⟨vp,Kb⟩⟩,trivial⟩ trivial trivial) qa rfl tM (λ_ _ _ _ _ _ us hl=>J.Xx us hl λ_ _ _=>rfl);exact J.Se Fu (J.aB (c:=Jt) (k:=12) trivial ⟨Z1,Z13,Z0,XH,Z7,Z14,Z9,trivial⟩ ⟨H2.mono (by decide),H4.mono (by decide),H14.mono (by decide),H23.mono (by decide),H24.mono (by decide),H36.mono (by decide),H37.mono (by decide),H38.mono (by decide),H39.mono (by decide),trivial⟩ TB trivial trivial trivial) Sr rfl Wh
end K89
open PySem PySem.W PyProof.Rows
set_option maxRecDepth 100000 in
set_option maxHeartbeats 0 in
theorem PySem.Challenge.cw_onelook_k89_written_and_taken_holds : PySem.Challenge.rw_onelook_k89_written_and_taken.Holds := by
  refine K89.head ?_
  k_fill
  refine L2.walk_of (l:=PySem.Challenge.rw_onelook_k89_written_and_taken) (n:=63) (k:=13) (x:="script") (CX:=fun w => J.CXJ PySem.Challenge.rw_onelook_k89_written_and_taken.prog w) (sp:=fun w => J.spW _ 1 K89.F_law) rfl (by decide) rfl ⟨rfl,by decide,by decide⟩ (fun w h Y => PySem.W.kIn_of Y) ?F (fun w H a ns hl hO hS => J.law_sp K89.law_true H a ns hl (J.OnlyT.of hO) hS (J.tb_none ?Ta ?Tb ?Tc ?Td ?Te ?Tf ?Tg ?Th ?Ti)) (fun _ _ _ _ _ z => z.elim fun _ y => y.elim fun _ x => x.2)
  case F=>
    intro w mg fa h KX G hmg;refine' K89.all_mk KX G hmg ?d1 ?d2 ?d3 ?d4 ?d5 ?d6 ?d7 ?d8 ?d9 ?d10 ?XD ?TY ?d13 ?d14 ?d15 ?d16 ?d17 ?d18 ?d19 ?d20 ?d21 ?d22 ?d23 ?d24 ?d25 ?d26 ?XE ?XF ?XG ?d30 ?d31 ?d32 ?d33 ?d34 ?d35 ?d36 ?d37 ?d38 ?d39 ?d40 ?z0 ?z1 ?z2 ?z3 ?z4 ?z5 ?z6 ?z7 ?z8 ?z9 ?z10 ?z11 ?z12 ?z13 ?z14 ?v0 ?v1 ?v2 ?v3 ?w3 ?dv0 ?dw0 ?dm0 ?JR ?JU ?JV ?JX ?JY ?JZ ?J0 ?J1 ?J2 ?J3 ?Dt ?WI ?xg0 ?xx0 ?xc0 ?Du ?WJ ?xg1 ?xx1 ?xc1 ?Dv ?WK ?xg2 ?xx2 ?xc2 ?vp ?Kb ?xg3 ?xx3 ?xc3 ?pk0 ?pk1 ?pk2 ?pk3 ?pk4 ?pk5 ?pk6 ?pk7 ?pk8 ?pk9 ?Ts ?Tt ?Tu ?Tv ?Tw ?Tx ?pm0 ?pm1 ?pm2 ?pm3 ?pt0 ?pt1 ?pt2 ?pt3
    case d1 |d2 |d3 |d4 |d5 |d6 |d7 |d8 |d9 |d10 |XD |TY |d13 |d14 |d15 |d16 |d17 |d18 |d19 |d20 |d21 |d22 |d23 |d24 |d25 |d26 |XE |XF |XG |d30 |d31 |d32 |d33 |d34 |d35 |d36 |d37 |d38 |d39 |d40=>refine' J.Qr ?a ?l ?c ?k;(case a=>k_is);(case l=>k_is);(case c=>k_is);(case k=>k_is)
    case z0 |z1 |z2 |z3 |z4 |z5 |z6 |z7 |z8 |z9 |z10 |z11 |z12 |z13 |z14 |v0 |v1 |v2 |v3 |w3 |dv0 |dw0=>k_is
    case dm0 |JR |JU |JV |JX |JY=>rfl
    case JZ |J0 |J1 |J2 |J3 |Dt=>k_is
    case WI=>k_exc
    case xg0 |xx0 |xc0 |Du=>k_is
    case WJ=>k_exc
    case xg1 |xx1 |xc1 |Dv=>k_is
    case WK=>k_exc
    case xg2 |xx2 |xc2 |vp=>k_is
    case Kb=>k_exc
    case xg3 |xx3 |xc3=>k_is
    case pk0 |pk1 |pk2 |pk3 |pk4 |pk5 |pk6 |pk7 |pk8 |pk9 |Ts |Tt |Tu |Tv |Tw |Tx=>kit_is
    case pm0 |pm1 |pm2 |pm3=>k_is
    case pt0 |pt1 |pt2 |pt3=>kit_is
  (case Ta=>k_is)
  (case Tb=>k_is)
  (case Tc=>k_is)
  (case Td=>k_is)
  (case Te=>k_is)
  (case Tf=>k_is)
  (case Tg=>k_is)
  (case Th=>k_is)
  (case Ti=>k_is)
