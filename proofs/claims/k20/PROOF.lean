import PyProof.Rows.All
import Wide.All
import OpenK.AllK
import Wide.FinOn
import Lean
import PyProof.EqAt
import PyProof.EqKinds
import PyProof.TupleCall
import PySem.Challenge.RW_onelook_k20_whole_a_look_hangs_on_its_re
open PySem.Around renaming under→Mt,under_plainId→MS
open Array renaming all_eq_true_iff_forall_mem→MH,forIn_toList→Mn,length_toList→Ba,size_append→MJ,toList_extract→T7
open PySem.AutoSeq1 renaming sub_tuple_tuple→Mu
open Bool renaming and_eq_true→dI,eq_iff_iff→xl,false_and→vn,false_eq_true→eS,false_ne_true→aH,not_false→v9,not_true→mN,or_eq_false_iff→Ih,or_eq_true→Fw,true_and→Gz
open PySem.Builtin.Dict renaming addKeywords→PU,dictSlotArgs→Ab,merge→PN,mergeDict→PR,readDirectly→PQ,samePairs→PV,selfAndRest→PM,showsAll→zV,updateFrom→z_
open PySem.Builtin.Dict_items renaming ownsTuple→Py
open PySem.Builtin.List renaming listTooLong→rL
open PySem.Builtin.Range renaming rangeSize→vo,small→PH
open PySem.Builtin.Slice renaming sliceAdjust→EO,sliceApplied→Oe,slicePlaces→zy
open PySem.Builtin.Str renaming occurrences→N0
open PySem.Builtin.Tuple renaming tupleCompareSizes→N',tupleExact→rB,tupleHashOf→y_,tupleIsExact→Pq,tupleItemsOf→zc
open PySem.Builtin renaming divisionGoesByPylong→PJ
open PySem.Calls renaming Name_function_global→NF,callWith_builtin→EU,evalArgs_plain→EV,spliced_cons→EK,spliced_nil→EJ
open Classical renaming choose→QQ,choose_spec→QR,propDecidable→FP
open PySem.Code renaming isFrame→EI
open PySem.EntryCells renaming newEntry→OE
open PySem.F renaming slot_int_rmul→zB
open False renaming elim→ab
open ForInStep renaming yield→oM
open PySem.Heap renaming MadeExcOf→Fd,SameBut→jE,get?_push_of_some→bt,get?_push_size→cj,get?_update_other→rE,get?_update_self→rD,lt_size→a7,size_push→zp
open PySem.Heap.SameBut renaming update→v5
open Int renaming fdiv_eq_ediv_of_nonneg→IA,fmod_eq_emod_of_nonneg→IB,fmod_lt_of_pos→ky,fmod_nonneg_of_pos→jg
open PySem.IntMulOk renaming of_bits→QI
open PyProof.Rows.IsTup renaming new→vB
open List renaming all_cons→dY,all_eq_true→Ai,any_cons→f7,any_eq_true→AD,append_assoc→kQ,append_nil→i6,cons_append→AK,drop_eq_getElem_cons→zO,drop_length→FK,drop_of_length_le→F8,drop_zero→F3,eq_nil_of_length_eq_zero→zJ,eraseIdx_cons_succ→Gu,ext_getElem?→Gh,extract_eq_take_drop→Pn,filterMap_cons→vg,filter_cons→gW,filter_cons_of_neg→FW,filter_cons_of_pos→FV,find?_cons→kT,flatten_append→H_,flatten_cons→rG,foldl→rH,foldl_append→Im,foldl_cons→rJ,forIn_cons→Em,getD_eq_getElem?_getD→zS,getElem?_append_left→f6,getElem?_append_right→kP,getElem?_cons_succ→HZ,getElem?_cons_zero→HY,getElem?_eq_getElem→cA,getElem?_eq_none→K7,getElem?_map→eo,getElem?_replicate→JJ,getElem?_set_ne→bN,getElem?_set_self→lT,getElem_mem→vX,length→fN,length_append→dA,length_cons→eh,length_filter_le→J6,length_map→bP,length_nil→nE,length_set→nI,length_singleton→J1,length_take→nD,lookup→jH,lookup_cons→eG,map_append→dH,map_congr_left→oz,map_cons→aK,map_id→Ce,map_map→dC,map_nil→jJ,mem_append→w9,mem_append_left→A_,mem_append_right→hU,mem_cons→fq,mem_cons_of_mem→bb,mem_cons_self→bC,mem_of_getElem?→vz,nil_append→lX,nodup_append→w5,nodup_nil→Bo,not_mem_nil→h8,of_mem_zip→Bb,range→dh,range_succ→qS,replicate→aU,replicate_succ→iN,set_cons_succ→Ci,set_cons_zero→Cg,set_set→Cr,size_toArray→bc,take_append_drop→KS,zip_cons_cons→Bc
open PySem.NameKind renaming cell→fj,free→fi
open Nat renaming le_of_eq→nC,le_of_lt→A7,le_refl→aE,le_succ→qG,le_trans→aV,lt_irrefl→fg,lt_of_lt_of_le→bT,lt_trans→vK,min_le_right→Be,mul_comm→Bj,ne_of_gt→qF,ne_of_lt→bU,sub_eq_zero_of_le→BG,sub_self→nK,succ_le_succ→qD,zero_add→mw,zero_le→cO
open Ne renaming symm→bA
open PySem.Obj renaming data_mapDictKeys→BQ,data_mapFields→qJ,isFreed_of_fields→Bp,mapFields→jK,mapSeq→nH
open Option renaming isSome_map→Bm,isSome_some→J5,map_some→nz
open Or renaming inr→lY
open PUnit renaming unit→nv
open PySem.PassesOwn renaming leaving→wj
open Prod renaming ext→jI
open PySem.PyData renaming canLayAll0→qC,depthAll→jD,eqv→aT,eqvAll→eF,list→Bw,strOk→aY,tuple→l5
open PyProof.Rows renaming callWith_type1→vp,intBits_le→Cf,slot_tuple_getitem→vA,Keyed→aeE,SortSt→aeF
open PySem.SeqAt.EqAt renaming int_int→JK,int_none→Jh,int_str→Jg,none_int→Jk,none_str→Jl,same→Jm,str_int→Ji,str_none→Jj
open PySem.SeqAt renaming eqBoolOverData→Jp
open PySem.Shared renaming TypeIs→qM
open Std.Legacy.Range renaming forIn_eq_forIn_range'→Lf
open PySem.Str renaming ofString→lV
open Subtype renaming ext→A6
open True renaming intro→gF
open PySem.Txt renaming slice→l_
open PySem.Value renaming bool→qE,int→hJ,none→cN,notImplemented→Bd,ref→aL,str→qB
open PySem renaming Addr→aed,Around→aee,FuncData→aef,NameKind→aeg,Program→aeh,Shared→aei,Value→aej,World→aek,behindInMarks→ael,binaryOp→aem,bootBuiltins→aen,codeAny→aeo,compPost→aep,compareOp→aeq,foldedSetIterable→aer,isSubtype_type→aes,mainGlobals→aet,sizeLine→aeu,starEach→aev,wpAny→aew,wpAny_bind→aex,wpAny_dictEntries→aey,wpAny_holding→aez,wpAny_mono→aeA,wpAny_newObj_type→aeB,wpAny_pure→aeC,wpAny_truthy_bool→aeD
noncomputable section
set_option Elab.async false
set_option linter.all false
set_option maxRecDepth 100000
namespace L2
open PySem PySem.Spec PyProof.Rows
inductive Key where
 |inl (i:Int) |inr (x:Str) |non
 deriving DecidableEq
def qX:Key->aej->Bool
 |.inl k,v=>Value.isInt k v
 |.inr x,v=>Value.isStrOf x v
 |.non,v=>(match v with |.none=>true |_=>false)
def Jf(w:aek):Key->Int
 |.inl k=>hashInt k
 |.inr x=>hashStr w x
 |.non=>reduceHash 4238894112
theorem eB:∀{k:Key}{v:aej},qX k v=true->(∃i t,k=Key.inl i/\v=hJ i t)\/(∃x t,k=Key.inr x/\v=qB x t)\/(k=Key.non/\v=cN)
 |.inl i,v,h=>by obtain⟨t,e⟩:=Value.isInt_shape (k:=i) (v:=v) h;exact .inl ⟨i,t,rfl,e⟩
 |.inr x,v,h=>by obtain⟨t,e⟩:=Value.isStrOf_shape (x:=x) (v:=v) h;exact .inr (.inl ⟨x,t,rfl,e⟩)
 |.non,v,h=>by cases v<;>first |exact .inr (.inr ⟨rfl,rfl⟩) |(unfold qX at h;cases h)
theorem CI(i:Int)(t:Tok):qX (.inl i) (.int i t)=true:=by simp[qX,Value.isInt]
theorem CJ(x:Str)(t:Tok):qX (.inr x) (.str x t)=true:=by simp[qX,Value.isStrOf]
theorem Nr(a b:Int):decide ((Key.inl a:Key)=Key.inl b)=(a == b):=by
 by_cases e:a=b
 ·subst e;simp
 ·have h:¬(Key.inl a:Key)=Key.inl b:=λq=>e (Key.inl.inj q);rw[decide_eq_false h];exact(beq_eq_false_iff_ne.mpr e).symm
theorem Nu(a b:Str):decide ((Key.inr a:Key)=Key.inr b)=decide (a=b):=by
 by_cases e:a=b
 ·subst e;simp
 ·have h:¬(Key.inr a:Key)=Key.inr b:=λq=>e (Key.inr.inj q);rw[decide_eq_false h,decide_eq_false e]
theorem qY{prog:aeh}{w:aek}{A:aee}{E:aej->aei->Prop}{s:aei}{Q:Int->aei->Prop}(h:Q (reduceHash 4238894112) { s with toks:=s.toks+1 }):aew (model prog w) A (PySem.pyHash .none) Q E s :=
 PySem.W.pyHash_slot (T:="NoneType") rfl F.slot_NoneType_hash F.entry_NoneType_hash (F.args_NoneType_hash_1 _) (beq_builtin_none _) (.inl rfl) (aex (aeC (aex (wpAny_mkInt (aeC ⟨_,_,rfl,h⟩)))))
def bH(prog:aeh)(w:aek):PySem.KeyKind prog w Key where
 is:=qX
 hash:=Jf w
 inj:=λv a b ha hb=>by rcases eB ha with ⟨i,t,rfl,rfl⟩ |⟨x,t,rfl,rfl⟩ |⟨rfl,rfl⟩<;>rcases eB hb with ⟨j,u,rfl,e⟩ |⟨y,u,rfl,e⟩ |⟨rfl,e⟩<;>cases e<;>rfl
 byValue:=λk v h=>by rcases eB h with ⟨i,t,rfl,rfl⟩ |⟨x,t,rfl,rfl⟩ |⟨rfl,rfl⟩<;>rfl
 pyHash:=λhv h=>by
  rcases eB hv with ⟨i,t,rfl,rfl⟩ |⟨x,t,rfl,rfl⟩ |⟨rfl,rfl⟩
  ·exact wpAny_pyHash_int h
  ·exact wpAny_pyHash_str h
  ·exact qY h
 eqBool:=λ{A E s a b u v Q} hu hv h=>by
  have no:a≠b->Q false s:=λn=>by rw[decide_eq_false n]at h;exact h
  rcases eB hu with ⟨i,t,rfl,rfl⟩ |⟨x,t,rfl,rfl⟩ |⟨rfl,rfl⟩<;>rcases eB hv with ⟨j,u,rfl,rfl⟩ |⟨y,u,rfl,rfl⟩ |⟨rfl,rfl⟩
  ·rw[Nr]at h;exact wpAny_eqBool_int h
  ·exact Jg i t y u _ _ _ _ (no nofun)
  ·exact Jh i t _ _ _ _ (no nofun)
  ·exact Ji x t j u _ _ _ _ (no nofun)
  ·rw[Nu]at h;exact wpAny_eqBool_str h
  ·exact Jj x t _ _ _ _ (no nofun)
  ·exact Jk j u _ _ _ _ (no nofun)
  ·exact Jl y u _ _ _ _ (no nofun)
  ·exact Jm .none _ _ _ _ (by simpa using h)
 «strs»:=λk x t v h=>by rcases eB h with ⟨i,u,rfl,e⟩ |⟨y,u,rfl,e⟩ |⟨rfl,e⟩<;>cases e;cases v<;>rfl
theorem xj(prog:aeh)(w:aek)(i:Int)(t:Tok):(bH prog w).is (.inl i) (.int i t)=true:=CI i t
theorem xk(prog:aeh)(w:aek)(x:Str)(t:Tok):(bH prog w).is (.inr x) (.str x t)=true:=CJ x t
end L2
namespace NK
open PySem L2
def kd:Nat->PyData->Bool
 |_,.none=>true
 |_,.int _=>true
 |_,.str x=>aY x
 |n+1,.tuple xs=>xs.all (kd n)
 |_,_=>false
def kh(w:aek):Nat->PyData->Int
 |_,.none=>Jf w .non
 |_,.int i=>Jf w (.inl i)
 |_,.str x=>Jf w (.inr x)
 |n+1,.tuple xs=>reduceHash (y_ (xs.map (kh w n)))
 |_,_=>0
def R_:Nat->PyData->Nat
 |n+1,.tuple xs=>(xs.map (R_ n)).sum+1
 |_,_=>1
def Rd(h:Heap)(v:aej)(d:PyData):Prop:=∃as,Reads h v d as
inductive A4(h:Heap):List aej->List PyData->Prop
 |nil:A4 h [] []
 |cons {v:aej}{d:PyData}{vs:List aej}{ds:List PyData}:Rd h v d->A4 h vs ds->A4 h (v::vs) (d::ds)
theorem A4.of{h:Heap}:∀{vs:List aej}{ds:List PyData}{as:List aed},ReadsAll h vs ds as->A4 h vs ds
 |_,_,_,.nil=> .nil
 |_,_,_,.cons r rs=> .cons ⟨_,r⟩ (A4.of rs)
variable{h:Heap}
theorem A4.all{vs:List aej}{ds:List PyData}(r:A4 h vs ds):∃as,ReadsAll h vs ds as:=by
 induction r with
 |nil=>exact⟨_,.nil⟩
 |cons a _ ih=>obtain⟨as,ra⟩:=a;obtain⟨bs,rb⟩:=ih;exact⟨_,.cons ra rb⟩
theorem Rd.tup{v:aej}{xs:List PyData}(r:Rd h v (.tuple xs)):∃a o vs n,v= .ref a/\h.get? a=some o/\o.cls= .type "tuple"/\o.data= .seq vs n/\A4 h vs.toList xs:=by
 obtain⟨as,r⟩:=r;cases r with
 |tuple h1 h2 h3 h4=>exact⟨_,_,_,_,rfl,h1,h2,h3,.of h4⟩
section
variable {prog:aeh}{w:aek}{E:aej->aei->Prop}
theorem uf{n:Nat}(ih:∀(d:PyData)(v:aej)(A:aee)(s:aei)(Q:Int->aei->Prop),kd n d=true->Rd s.heap v d->A.units+n < cLine->Q (kh w n d) { s with toks:=s.toks+R_ n d }->aew (model prog w) A (pyHash v) Q E s):
  ∀(xs:List PyData)(vs:List aej)(A:aee)(s:aei)(b:Array Int)(Q:Array Int->aei->Prop),xs.all (kd n)=true->A4 s.heap vs xs->A.units+n < cLine->
  (∀b':Array Int,b'.toList=b.toList++xs.map (kh w n)->Q b' { s with toks:=s.toks+(xs.map (R_ n)).sum })->
  aew (model prog w) A (forIn vs b λx r=>do let h <-pyHash x;pure nv;pure (oM (r.push h))) Q E s
 |[],_,A,s,b,Q,_,x,_,h=>by cases x;exact aeC (h b (by simp))
 |k::xs,_,A,s,b,Q,hk,x,hu,h=>by
  cases x with
  |cons x1 x2=>rw[dY,dI]at hk;rw[Em];refine aex (aex (ih k _ A s _ hk.1 x1 hu ?_));refine aex (aeC (aeC ?_));exact uf ih xs _ A _ _ Q hk.2 x2 hu λb' hb=>by have:=h b' (by rw[hb];simp);rw[aK,List.sum_cons,<-Nat.add_assoc]at this;exact this
theorem Nv:∀(n:Nat)(d:PyData)(v:aej)(A:aee)(s:aei)(Q:Int->aei->Prop),kd n d=true->Rd s.heap v d->A.units+n < cLine->Q (kh w n d) { s with toks:=s.toks+R_ n d }->aew (model prog w) A (pyHash v) Q E s:=by
 intro n
 induction n with
 |zero=>
  intro d v A s Q hk r hu h;obtain⟨as,r⟩:=r;cases r with
  |none=>exact qY h
  |int i t=>exact wpAny_pyHash_int h
  |str x t=>exact wpAny_pyHash_str h
  |_=>simp[kd]at hk
 |succ n ih=>
  intro d v A s Q hk r hu h;cases d with
  |tuple xs=>obtain⟨a,o,vs,m,rfl,h1,h2,h3,h4⟩:=r.tup;refine PySem.W.pyHash_slot (T:="tuple") ⟨o,h1,h2⟩ F.slot_tuple_hash F.entry_tuple_hash (F.args_tuple_hash_1 _) (beq_builtin_none _) (.inr (by omega)) ?_;show aew _ _ (zc (.ref a) >>= _) _ _ s;refine aex (wpAny_tupleItemsOf h1 h3 ?_);refine aex ?_;rw[<-Mn];refine uf ih xs vs.toList A.in1 s #[] _ hk h4 (by simp only[Around.in1_units];omega) λb hb=>?_;show aew _ _ (retInt (y_ b.toList)) _ _ _;rw[hb];exact aex (wpAny_mkInt (aeC ⟨_,_,rfl,h⟩))
  |none=>obtain⟨as,r⟩:=r;cases r;exact qY h
  |int i=>obtain⟨as,r⟩:=r;cases r;exact wpAny_pyHash_int h
  |str x=>obtain⟨as,r⟩:=r;cases r;exact wpAny_pyHash_str h
  |_=>simp[kd]at hk
end
theorem zd:∀(n:Nat)(d:PyData),kd n d=true->d.canLay0=true/\d.depth<=n:=by
 intro n
 induction n with
 |zero=>
  intro d h;cases d with
  |none=>exact⟨rfl,aE _⟩
  |int i=>exact⟨rfl,aE _⟩
  |str x=>exact⟨h,aE _⟩
  |_=>simp[kd]at h
 |succ n ih=>
  intro d h;cases d with
  |none=>exact⟨rfl,cO _⟩
  |int i=>exact⟨rfl,cO _⟩
  |str x=>exact⟨h,cO _⟩
  |tuple xs=>
   have hx:xs.all (kd n)=true:=h;have key:∀xs:List PyData,xs.all (kd n)=true->qC xs=true/\jD xs<=n:=by
    intro xs
    induction xs with
    |nil=>intro _;exact⟨rfl,cO _⟩
    |cons x r ihr=>
     intro h;rw[dY,dI]at h;obtain⟨a,b⟩:=ih x h.1;obtain⟨c,e⟩:=ihr h.2;refine⟨?_,?_⟩
     ·show(PyData.canLay0 x&&qC r)=true;rw[a,c];rfl
     ·show max x.depth (jD r)<=n;omega
   obtain⟨a,b⟩:=key xs hx;exact⟨a,qD b⟩
  |_=>simp[kd]at h
theorem A5:∀(n:Nat)(d e:PyData),kd n d=true->kd n e=true->(aT d e=true↔d=e):=by
 intro n
 induction n with
 |zero=>intro d e h k;cases d<;>cases e<;>first |(simp[kd]at h;done) |(simp[kd]at k;done) |simp[aT]
 |succ n ih=>
  intro d e h k;cases d with
  |tuple xs=>
   cases e with
   |tuple ys=>
    have key:∀xs ys:List PyData,xs.all (kd n)=true->ys.all (kd n)=true->(eF xs ys=true↔xs=ys):=by
     intro xs
     induction xs with
     |nil=>intro ys _ _;cases ys<;>simp[eF]
     |cons x r ihr=>
      intro ys h k;cases ys with
      |nil=>simp[eF]
      |cons y t=>rw[dY,dI]at h k;show(aT x y&&eF r t)=true↔_;rw[dI,ih x y h.1 k.1,ihr t h.2 k.2,List.cons.injEq]
    show eF xs ys=true↔_;rw[key xs ys h k,PyData.tuple.injEq]
   |_=>first |(simp[kd]at k;done) |simp[aT]
  |_=>cases e<;>first |(simp[kd]at h;done) |(simp[kd]at k;done) |simp[aT]
def VJ:PyData->Bool
 |.tuple _=>true
 |_=>false
def KD:Type:={ d:PyData // kd 8 d=true/\VJ d=true }
instance:DecidableEq KD:=λx y=>decidable_of_iff (aT x.1 y.1=true) ((A5 8 x.1 y.1 x.2.1 y.2.1).trans ⟨A6,λh=>by rw[h]⟩)
theorem KD.eqv{x y:KD}:aT x.1 y.1=decide (x=y):=by rw[xl,A5 8 x.1 y.1 x.2.1 y.2.1,decide_eq_true_eq];exact⟨A6,λh=>by rw[h]⟩
theorem Jn{h':Heap}{d0:aed}{o:Obj}{es ep}(ho:h.get? d0=some o)(hd:o.data= .dict es ep)(hs:jE d0 h h'):∀(n:Nat)(d:PyData)(v:aej),kd n d=true->Rd h v d->Rd h' v d:=by
 intro n
 induction n with
 |zero=>
  intro d v hk r;obtain⟨as,r⟩:=r;cases r with
  |none=>exact⟨_,.none⟩
  |int i t=>exact⟨_,.int i t⟩
  |str x t=>exact⟨_,.str x t⟩
  |_=>simp[kd]at hk
 |succ n ih=>
  intro d v hk r;cases d with
  |tuple xs=>
   obtain⟨a,o',vs,m,rfl,h1,h2,h3,h4⟩:=r.tup;have ne:a≠d0:=λz=>by subst z;rw[h1]at ho;cases ho;rw[h3]at hd;cases hd
   have key:∀(vs:List aej)(xs:List PyData),xs.all (kd n)=true->A4 h vs xs->A4 h' vs xs:=by
    intro vs xs hx r
    induction r with
    |nil=>exact .nil
    |cons a _ ihr=>rw[dY,dI]at hx;exact .cons (ih _ _ hx.1 a) (ihr hx.2)
   obtain⟨as,ra⟩:=(key _ _ hk h4).all;exact⟨_,.tuple ((hs.2 a ne).trans h1) h2 h3 ra⟩
  |none=>obtain⟨as,r⟩:=r;cases r;exact⟨_,.none⟩
  |int i=>obtain⟨as,r⟩:=r;cases r;exact⟨_,.int _ _⟩
  |str x=>obtain⟨as,r⟩:=r;cases r;exact⟨_,.str _ _⟩
  |_=>simp[kd]at hk
section
variable {prog:aeh}{w:aek}{A:aee}{E:aej->aei->Prop}{s:aei}
theorem Jo:∀(n:Nat)(d:PyData)(v:aej)(Q:Bool->aei->Prop),kd n d=true->Rd s.heap v d->Q true s->aew (model prog w) A (eqIsQuiet n v) Q E s:=by
 intro n
 induction n with
 |zero=>
  intro d v Q hk r h;obtain⟨as,r⟩:=r;cases r with
  |none=>rw[eqIsQuiet_byValue 0 rfl];exact aeC h
  |int i t=>rw[eqIsQuiet_byValue 0 rfl];exact aeC h
  |str x t=>rw[eqIsQuiet_byValue 0 rfl];exact aeC h
  |_=>simp[kd]at hk
 |succ n ih=>
  intro d v Q hk r h;cases d with
  |tuple xs=>
   obtain⟨a,o,vs,m,rfl,h1,h2,h3,h4⟩:=r.tup;have hT:s.TypeIs (.ref a) "tuple":=⟨o,h1,h2⟩;unfold eqIsQuiet;refine aex (wpAny_specialOf hT F.slot_tuple_eq.lookup ?_);show aew _ _ (isInstance (.ref a) (.type "tuple") >>= _) _ _ s;refine aex (wpAny_isInstance hT isSubtype_tuple_tuple ?_);simp only[mN,eS,if_false];refine aex (wpAny_seqItems h1 h3 ?_);refine aex ?_;show aew _ _ (forIn vs _ _) _ _ s;rw[<-Mn];refine wpAny_forIn_list _ (λrest r s'=>r.1=none/\s'=s/\∃ds,ds.all (kd n)=true/\A4 s.heap rest ds) _ ?_ ?_ _ _ ⟨rfl,rfl,xs,hk,h4⟩
   ·rintro v rest r s' ⟨hr,rfl,ds,hds,hall⟩;cases hall with
    |cons ra rr=>rw[dY,dI]at hds;refine aex (ih _ _ _ hds.1 ra ?_);simp only[mN,eS,if_false];exact aeC ⟨rfl,rfl,_,hds.2,rr⟩
   ·rintro⟨r1,r2⟩ s' ⟨hr,rfl,_⟩;simp only at hr;subst hr;exact aeC h
  |none=>obtain⟨as,r⟩:=r;cases r;rw[eqIsQuiet_byValue _ rfl];exact aeC h
  |int i=>obtain⟨as,r⟩:=r;cases r;rw[eqIsQuiet_byValue _ rfl];exact aeC h
  |str x=>obtain⟨as,r⟩:=r;cases r;rw[eqIsQuiet_byValue _ rfl];exact aeC h
  |_=>simp[kd]at hk
end
def ji(prog:aeh)(w:aek):HeapKind prog w KD where
 is:=λh k a=>Rd h (.ref a) k.1
 hash:=λk=>kh w 8 k.1
 draws:=λk=>R_ 8 k.1
 room:=λA=>A.units+8 < cLine
 inj:=λ{h a x y} hx hy=>by obtain⟨as,hx⟩:=hx;obtain⟨bs,hy⟩:=hy;exact A6 (SeqAt.Reads.unique _ _ _ _ _ (zd 8 _ x.2.1).1 hx hy)
 keeps:=λ{h h' k a d o es ep} x ho hd hs=>Jn ho hd hs 8 _ _ k.2.1 x
 pyHash:=λ{A E s k a Q} hu hk h=>Nv 8 _ _ A s Q k.2.1 hk hu h
 eqBool:=λ{A E s x y a b Q} hu hx hy h=>by
  obtain⟨as,hx⟩:=hx;obtain⟨bs,hy⟩:=hy;obtain⟨l1,d1⟩:=zd 8 _ x.2.1;obtain⟨l2,d2⟩:=zd 8 _ y.2.1;refine Jp prog w A E s _ _ _ _ as bs Q hx hy l1 l2 ?_ ?_
  ·have:min x.1.depth y.1.depth<=8:=by omega
   have hu':A.units+8 < cLine:=hu;omega
  ·rw[KD.eqv];exact h
 quiet:=λ{A E s k a Q} hk h=>Jo 8 _ _ Q k.2.1 hk h
end NK
namespace L2
open PySem PySem.Spec PyProof.Rows
inductive V where
 |non |bl (b:Bool) |int (i:Int) |str (x:Str) |RI (b:Array UInt8) |kK (b:UInt64) |ref (a:aed) |ty (n:String)
 deriving DecidableEq
def RelV:V->aej->Prop
 |.non,u=>u=cN
 |.bl b,u=>u=qE b
 |.int i,u=>∃t,u=hJ i t
 |.str x,u=>∃t,u=qB x t
 |.RI b,u=>∃t,u=Value.bytes b t
 |.kK b,u=>∃t,u=Value.float b t
 |.ref a,u=>u=aL a
 |.ty n,u=>u=Value.type n
abbrev Vals:List V->List aej->Prop:=Paired RelV
variable{xs:List V}{us:List aej}
theorem Vals.length(r:Vals xs us):xs.length=us.length:=Paired.length r
theorem Vals.get:∀{xs:List V}{us:List aej}{i:Nat}{x:V},Vals xs us->xs[i]? =some x->∃u,us[i]? =some u/\RelV x u
 |_,_,_,_,.nil,e=>by simp at e
 |_,_,0,_,.cons r _,e=>by simp at e;subst e;exact⟨_,rfl,r⟩
 |_,_,i+1,x,.cons _ t,e=>by obtain⟨u,h1,h2⟩:=Vals.get (i:=i) (x:=x) t (by simpa using e);exact⟨u,by simpa using h1,h2⟩
theorem Vals.set{x:V}{u:aej}(r:RelV x u):∀{xs:List V}{us:List aej}(i:Nat),Vals xs us->Vals (xs.set i x) (us.set i u)
 |_,_,_,.nil=> .nil
 |_,_,0,.cons _ t=> .cons r t
 |_,_,i+1,.cons q t=> .cons q (Vals.set r i t)
theorem Vals.append:∀{xs ys:List V}{us ws:List aej},Vals xs us->Vals ys ws->Vals (xs++ys) (us++ws)
 |_,_,_,_,.nil,s=>s
 |_,_,_,_,.cons r t,s=> .cons r (Vals.append t s)
theorem Vals.take:∀{xs:List V}{us:List aej}(n:Nat),Vals xs us->Vals (xs.take n) (us.take n)
 |_,_,0,_=> .nil
 |_,_,_+1,.nil=> .nil
 |_,_,n+1,.cons r t=> .cons r (Vals.take n t)
theorem Vals.drop:∀{xs:List V}{us:List aej}(n:Nat),Vals xs us->Vals (xs.drop n) (us.drop n)
 |_,_,0,r=>r
 |_,_,_+1,.nil=> .nil
 |_,_,n+1,.cons _ t=>Vals.drop n t
def i5:Option V->Option aej->Prop
 |some v,some u=>RelV v u
 |none,none=>True
 |_,_=>False
variable{κ:Type}
def KV:List (κ×V)->List (κ×aej)->Prop:=Paired λ(p:κ×V)(q:κ×aej)=>p.1=q.1/\RelV p.2 q.2
def kV:Key->V
 |.inl i=> .int i
 |.inr x=> .str x
 |.non=> .non
inductive HO where
 |dN (kvs:List (NK.KD×V))
  |lst (xs:List V)
  |tup (xs:List V)
  |dK (kvs:List (Key×V)) |dT (kvs:List (List Key×V))
  |set (S:Int->Bool) (n:Nat)
  |ins (C dx:aed) (fs:List (Str×V))
  |own (x:aed)
  |xd (fs:List (Str×V))
  |met (f x:aed)
  |VL (lo hi:Int)
  |oI (o:Obj) (u:HO)
  |mx (ps:Array aej)
  |ext (φ:Heap->Prop)
abbrev Hp:=aed->Option HO
def upd(H:Hp)(a:aed)(o:HO):Hp:=λb=>if b=a then some o else H b
variable{H:Hp}{a:aed}{o:HO}
theorem bE:upd H a o a=some o:=by unfold upd;rw[if_pos rfl]
variable{b:aed}
theorem aZ(h:b≠a):upd H a o b=H b:=by unfold upd;rw[if_neg h]
variable{u:HO}
theorem En(h:H a=some o)(h':H b=some u)(d:o≠u):a≠b:=by intro e;subst e;rw[h]at h';exact d (Option.some.inj h')
theorem c_(h:H a=some o)(h':H b=none):a≠b:=by intro e;subst e;rw[h]at h';cases h'
def vc(h:Heap)(a:aed):Prop:=∀o,h.get? a=some o->o.dict=none
theorem vc.new(h:Heap)(us:Array aej):vc (h.push { cls:=.type "tuple",data:=.seq us }) h.objs.size:=λo q=>by rw[cj _ rfl]at q;cases q;rfl
def KA(H:Hp):Nat->V->PyData->Prop
 |_,.non,.none=>True
 |_,.int i,.int j=>i=j
 |_,.str x,.str y=>x=y
 |n+1,.ref a,.tuple ds=>∃vs,H a=some (.tup vs)/\Paired (KA H n) vs ds
 |_,_,_=>False
section
variable (P:aeh) (w:aek)
def du(H:Hp)(h:Heap)(a:aed):HO->Prop
 |.lst xs=>xs.length<=aeu/\∃(its:List aej)(n:Nat),Vals xs its/\h.get? a=some { cls:=.type "list",data:=.seq its.toArray n }
 |.tup xs=>xs.length<=aeu/\∃its:List aej,Vals xs its/\IsTup h a its.toArray/\vc h a
 |.dN kvs=>kvs.length<=aeu/\(a == sysModules)=false/\∃xs:List (NK.KD×aed×aej),
   Paired (λ(p:NK.KD×V)(q:NK.KD×aed×aej)=>p.1=q.1/\KA H 8 (.ref q.2.1) p.1.1/\RelV p.2 q.2.2) kvs xs/\
   ∃o es ep,h.get? a=some o/\o.ExactDict/\o.data= .dict es ep/\es.toList=xs.map (entryOfKey (NK.ji P w))/\(xs.map (·.1)).Nodup
 |.dK kvs=>kvs.length<=aeu/\(a == sysModules)=false/\∃vs,KV kvs vs/\h.DictOf (bH P w) a vs
 |.dT kvs=>kvs.length<=aeu/\(a == sysModules)=false/\∃xs:List (List Key×aed×aej),
   Paired (λ(p:List Key×V)(q:List Key×aed×aej)=>p.1=q.1/\H q.2.1=some (.tup (p.1.map kV))/\RelV p.2 q.2.2) kvs xs/\
   ∃o es ep,h.get? a=some o/\o.ExactDict/\o.data= .dict es ep/\es.toList=xs.map (entryOfKey (tupleKind (bH P w)))/\(xs.map (·.1)).Nodup
 |.set S n=>h.SetOf (intKind P w) a S n
 |.ins C dx fs=>H dx=some (.own a)/\fs.length<=1000/\dx≠a/\h.get? a=some (PySem.W.instObj C dx)/\
   ∃mA,h.Ns1 dx mA/\(∀f,i5 (fs.lookup f) (mA f))/\PySem.Within mA (fs.map (·.1))
 |.own _=>∃o,h.get? a=some o
 |.xd fs=>∃mA,h.Ns1 a mA/\∀f,i5 (fs.lookup f) (mA f)
 |.VL lo hi=>∃t u v,h.get? a=some { cls:=.type "range",data:=.fields #[.int lo t,.int hi u,.int 1 v] }
 |.oI o u=>h.get? a=some o/\du H h a u
 |.mx ps=>h.get? a=some { cls:=.none,data:=.fields ps }
 |.met f x=>h.get? a=some (PySem.W.methodObj (.ref f) (.ref x))
 |.ext φ=>φ h/\(∃o,h.get? a=some o)/\∀h1 h2:Heap,φ h1->(∀o,h1.get? a=some o->h2.get? a=some o)->φ h2
def kL(H:Hp)(h:Heap):Prop:=∀a o,H a=some o->du P w H h a o
end
section
variable {P:aeh}{w:aek}{H H':Hp}{h h':Heap}{a:aed}{o:HO}
theorem KA.rd(x:kL P w H h):∀(n:Nat)(v:V)(d:PyData)(u:aej),KA H n v d->RelV v u->NK.Rd h u d:=by
  intro n
  induction n with
  |zero=>
    intro v d u x r;cases v<;>cases d<;>first |exact ab x |skip
    · cases r;exact⟨_,.none⟩
    · obtain⟨t,rfl⟩:=r;cases (show _=_ from x);exact⟨_,.int _ _⟩
    · obtain⟨t,rfl⟩:=r;cases (show _=_ from x);exact⟨_,.str _ _⟩
  |succ n ih=>
    intro v d u x' r;cases v with
    |ref a=>
      cases d with
      |tuple ds=>
        obtain⟨vs,e,p⟩:=x';obtain⟨_,its,rv,⟨o,ho,hc,k,hd⟩,_⟩:=x a _ e;cases (show u=aL a from r);have key:∀(vs:List V)(its:List aej)(ds:List PyData),Vals vs its->Paired (KA H n) vs ds->NK.A4 h its ds:=by
          intro vs its ds rv p
          induction p generalizing its with
          |nil=>cases rv;exact .nil
          |cons a _ ihr=>
            cases rv with
            |cons r1 r2=>exact .cons (ih _ _ _ a r1) (ihr _ r2)
        obtain⟨as,ra⟩:=(key _ _ _ rv p).all;exact⟨_,.tuple ho hc hd (by simpa using ra)⟩
      |_=>exact ab x'
    | non => cases d <;> first | exact False.elim x' | skip
             cases r;exact⟨_,.none⟩
    | int i => cases d <;> first | exact False.elim x' | skip
               obtain⟨t,rfl⟩:=r;cases (show _=_ from x');exact⟨_,.int _ _⟩
    | str z => cases d <;> first | exact False.elim x' | skip
               obtain⟨t,rfl⟩:=r;cases (show _=_ from x');exact⟨_,.str _ _⟩
    |_=>cases d<;>exact ab x'
theorem du.lt(x:du P w H h a o):a < h.objs.size:=by
 cases o with
 |lst xs=>obtain⟨_,_,_,_,e⟩:=x;exact a7 e
 |tup xs=>obtain⟨_,_,_,p,_⟩:=x;exact p.lt
 |dK kvs=>obtain⟨_,_,_,_,o,_,_,e,_⟩:=x;exact a7 e
 |dT kvs=>obtain⟨_,_,_,_,o,_,_,e,_⟩:=x;exact a7 e
 |dN kvs=>obtain⟨_,_,_,_,o,_,_,e,_⟩:=x;exact a7 e
 |set S n=>obtain⟨o,_,_,_,e,_⟩:=x;exact a7 e
 |ins C dx fs=>obtain⟨_,_,_,e,_⟩:=x;exact a7 e
 |own y=>obtain⟨_,e⟩:=x;exact a7 e
 |xd fs=>obtain⟨_,⟨_,_,_,e,_⟩,_⟩:=x;exact a7 e
 |VL lo hi=>obtain⟨_,_,_,e⟩:=x;exact a7 e
 |oI ob u=>obtain⟨e,_⟩:=x;exact a7 e
 |mx ps=>exact a7 (show h.get? a=some _ from x)
 |met f y=>exact a7 (show h.get? a=some _ from x)
 |ext φ=>obtain⟨_,⟨_,e⟩,_⟩:=x;exact a7 e
theorem Paired.CK{α β:Type}{F G:α->β->Prop}:∀{l₁:List α}{l₂:List β},Paired F l₁ l₂->(∀a b,F a b->G a b)->Paired G l₁ l₂
 |_,_,.nil,_=> .nil
 |_,_,.cons r t,f=> .cons (f _ _ r) (Paired.CK t f)
theorem KA.stay(ht:∀b xs,H b=some (.tup xs)->H' b=some (.tup xs)):∀(n:Nat)(v:V)(d:PyData),KA H n v d->KA H' n v d:=by
 intro n
 induction n with
 |zero=>intro v d x;cases v<;>cases d<;>first |exact x |exact ab x
 |succ n ih=>
  intro v d x;cases v with
  |ref a=>
   cases d with
   |tuple ds=>obtain⟨vs,e,p⟩:=x;exact⟨vs,ht _ _ e,Paired.CK p λv d=>ih v d⟩
   |_=>exact ab x
  |_=>cases d<;>first |exact x |exact ab x
theorem du.stay(x:du P w H h a o)(k:∀b u,(b=a\/H b=some (.own a))->h.get? b=some u->h'.get? b=some u)
  (ho:∀b,H b=some (.own a)->H' b=some (.own a))(ht:∀b xs,H b=some (.tup xs)->H' b=some (.tup xs)):du P w H' h' a o:=by
 induction o with
 |lst xs=>obtain⟨z,its,n,r,e⟩:=x;exact⟨z,its,n,r,k _ _ (.inl rfl) e⟩
 |tup xs=>obtain⟨z,us,r,⟨ob,e,c⟩,nd⟩:=x;exact⟨z,us,r,⟨ob,k _ _ (.inl rfl) e,c⟩,λo q=>by rw[k _ _ (.inl rfl) e]at q;cases q;exact nd _ e⟩
 |dK kvs=>obtain⟨z,y,vs,r,ob,es,ep,e,c⟩:=x;exact⟨z,y,vs,r,ob,es,ep,k _ _ (.inl rfl) e,c⟩
 |dT kvs=>obtain⟨z,y,xs,r,ob,es,ep,e,c⟩:=x;exact⟨z,y,xs,Paired.CK r λp q z=>⟨z.1,ht _ _ z.2.1,z.2.2⟩,ob,es,ep,k _ _ (.inl rfl) e,c⟩
 |dN kvs=>obtain⟨z,y,xs,r,ob,es,ep,e,c⟩:=x;exact⟨z,y,xs,Paired.CK r λp q z=>⟨z.1,KA.stay ht _ _ _ z.2.1,z.2.2⟩,ob,es,ep,k _ _ (.inl rfl) e,c⟩
 |set S n=>obtain⟨ob,es,ep,t,e,c⟩:=x;exact⟨ob,es,ep,t,k _ _ (.inl rfl) e,c⟩
 |ins C dx fs=>obtain⟨d,z,ne,e,mA,⟨od,es,ep,e2,c⟩,r⟩:=x;exact⟨ho _ d,z,ne,k _ _ (.inl rfl) e,mA,⟨od,es,ep,k _ _ (.inr d) e2,c⟩,r⟩
 |own y=>obtain⟨ob,e⟩:=x;exact⟨ob,k _ _ (.inl rfl) e⟩
 |xd fs=>obtain⟨mA,⟨od,es,ep,e,c⟩,r⟩:=x;exact⟨mA,⟨od,es,ep,k _ _ (.inl rfl) e,c⟩,r⟩
 |VL lo hi=>obtain⟨t,u,v,e⟩:=x;exact⟨t,u,v,k _ _ (.inl rfl) e⟩
 |oI ob u ih=>obtain⟨e,q⟩:=x;exact⟨k _ _ (.inl rfl) e,ih q⟩
 |mx ps=>have e:h.get? a=some { cls:=.none,data:=.fields ps }:=x;show h'.get? a=some { cls:=.none,data:=.fields ps };exact k a _ (.inl rfl) e
 |met f y=>have e:h.get? a=some (PySem.W.methodObj (.ref f) (.ref y)):=x;show h'.get? a=some (PySem.W.methodObj (.ref f) (.ref y));exact k a _ (.inl rfl) e
 |ext φ=>obtain⟨p,⟨o,e⟩,st⟩:=x;exact⟨st _ _ p λo q=>k _ _ (.inl rfl) q,⟨o,k _ _ (.inl rfl) e⟩,st⟩
theorem kL.lt(x:kL P w H h)(e:H a=some o):a < h.objs.size:=(x a o e).lt
theorem kL.fresh(x:kL P w H h)(e:h.objs.size<=a):H a=none:=by
 cases q:H a with
 |none=>rfl
 |some u=>exact absurd (bT (x.lt q) e) (fg _)
theorem kL.kept(x:kL P w H h)(k:∀b u,h.get? b=some u->h'.get? b=some u):kL P w H h':=λa o e=>
 (x a o e).stay (λb u _ q=>k b u q) (λ_ q=>q) λ_ _ q=>q
theorem kL.laid(x:kL P w H h)(k:∀b u,h.get? b=some u->h'.get? b=some u)(hp:h.objs.size<=a)(new:du P w (upd H a o) h' a o):kL P w (upd H a o) h':=λb u e=>by
 have hn:=x.fresh hp;by_cases hb:b=a
 ·subst hb;rw[bE]at e;cases e;exact new
 ·rw[aZ hb]at e;exact(x b u e).stay (λc v _ q=>k c v q) (λc q=>by rw[aZ (c_ q hn)];exact q) λc xs q=>by rw[aZ (c_ q hn)];exact q
end
def Rd(H:Hp)(a:aed)(u:HO):Prop:=H a=some u\/∃o,H a=some (.oI o u)
variable{P:aeh}{w:aek}{h:Heap}
theorem Rd.ok(r:Rd H a u)(x:kL P w H h):du P w H h a u:=by
 rcases r with r |⟨o,r⟩
 ·exact x a u r
 ·obtain⟨_,q⟩:=x a _ r;exact q
def Sa:Option HO->Prop
 |some (.lst _)=>True
 |some (.dK _)=>True
 |some (.dT _)=>True
 |some (.dN _)=>True
 |some (.set _ _)=>True
 |some (.ins _ _ _)=>True
 |some (.ext _)=>True
 |_=>False
section
variable {P:aeh}{w:aek}{H:Hp}{h h':Heap}{x e:aed}{o':HO}
theorem kL.write(ok:kL P w H h)(mu:Sa (H x))(he:e=x\/H e=some (.own x))(k:∀b u,b≠e->h.get? b=some u->h'.get? b=some u)(RJ:∃u,h'.get? e=some u)
  (new:du P w (upd H x o') h' x o'):kL P w (upd H x o') h':=λb u q=>by
 have Sb:∀c y,H c=some (.own y)->c≠x:=λc y r z=>by subst z;rw[r]at mu;exact mu
 have W0:∀c xs,H c=some (.tup xs)->c≠x:=λc xs r z=>by subst z;rw[r]at mu;exact mu
 by_cases hb:b=x
 ·subst hb;rw[bE]at q;cases q;exact new
 ·rw[aZ hb]at q;by_cases Nw:b=e
  ·have q':H b=some (.own x):=by
    rcases he with z |z
    ·exact absurd (Nw.trans z) hb
    ·rw[Nw];exact z
   rw[q]at q';cases q';obtain⟨v,hv⟩:=RJ;exact⟨v,by rw[Nw];exact hv⟩
  ·refine(ok b u q).stay (λc v hc r=>k c v ?_ r) (λc r=>by rw[aZ (Sb c b r)];exact r) λc xs r=>by rw[aZ (W0 c xs r)];exact r
   rcases hc with rfl |hc
   ·exact Nw
   ·rintro rfl;rcases he with z |z
    ·exact Sb c b hc z
    ·rw[hc]at z;cases z;exact hb rfl
end
structure Un(fs ex:List aed)(H H':Hp)(h h':Heap):Prop where
 keep:∀b o,h.get? b=some o->H b=none->b∉fs->b∉ex->h'.get? b=some o
 slot:∀b o,h.get? b=some o->H b=none->b∈fs->b∉ex->∃sl,h'.get? b=some { o with slots:=sl }
 free:∀b o,h.get? b=some o->H b=none->b∉ex->H' b=none
 there:∀b o,h.get? b=some o->b∉ex->∃o',h'.get? b=some o'
 tups:∀b xs,H b=some (.tup xs)->H' b=some (.tup xs)
 qi:∀b o u,H b=some (.oI o u)->H' b=some (.oI o u)
 tK:∀b ps,H b=some (.mx ps)->∃more,H' b=some (.mx (ps++more))
section
variable {fs fs' ex ex':List aed}{H H1 H2:Hp}{h h1 h2 h':Heap}{a x e:aed}{o:HO}
theorem Un.any(u:Un fs ex H H1 h h1){ob:Obj}(q:h.get? b=some ob)(n:H b=none)(hx:b∉ex):∃sl,h1.get? b=some { ob with slots:=sl }:=by
 by_cases hb:b∈fs
 ·exact u.slot b ob q n hb hx
 ·exact⟨ob.slots,u.keep b ob q n hb hx⟩
theorem Un.kept(k:∀b u,h.get? b=some u->h'.get? b=some u):Un fs ex H H h h' :=
 ⟨λb ob q _ _ _=>k b ob q,λb ob q _ _ _=>⟨ob.slots,k b ob q⟩,λ_ _ _ n _=>n,λb ob q _=>⟨ob,k b ob q⟩,λ_ _ q=>q,λ_ _ _ q=>q,λ_ ps q=>⟨#[],by rw[q];simp⟩⟩
theorem Un.refl:Un fs ex H H h h:=Un.kept λ_ _ q=>q
theorem Un.laid(k:∀b u,h.get? b=some u->h'.get? b=some u)(hp:h.objs.size<=a)(hn:H a=none):Un fs ex H (upd H a o) h h' where
 keep:=λb u q _ _ _=>k b u q
 slot:=λb u q _ _ _=>⟨u.slots,k b u q⟩
 free:=λb u q n _=>by rw[aZ (bU (bT (a7 q) hp))];exact n
 there:=λb u q _=>⟨u,k b u q⟩
 tups:=λb xs q=>by rw[aZ (c_ q hn)];exact q
 qi:=λb u xs q=>by rw[aZ (c_ q hn)];exact q
 tK:=λb ps q=>⟨#[],by rw[aZ (c_ q hn),q];simp⟩
theorem Un.write(mu:Sa (H x))(he:e=x\/H e=some (.own x))(k:∀b u,b≠e->h.get? b=some u->h'.get? b=some u)(RJ:∃u,h'.get? e=some u):Un fs ex H (upd H x o) h h':=by
 have hx:∀b,H b=none->b≠x:=λb n z=>by subst z;rw[n]at mu;exact mu
 have hb:∀b,H b=none->b≠e:=λb n z=>by
  subst z;rcases he with r |r
  ·exact hx b n r
  ·rw[n]at r;cases r
 have hm:∀b u,H b=some u->¬Sa (some u)->b≠x:=λb u q nm z=>by subst z;rw[q]at mu;exact nm mu
 refine⟨λb u q n _ _=>k b u (hb b n) q,λb u q n _ _=>⟨u.slots,k b u (hb b n) q⟩,λb u q n _=>by rw[aZ (hx b n)];exact n,λb u q _=>?_,
  λb xs q=>by rw[aZ (hm b _ q λz=>z)];exact q,λb u xs q=>by rw[aZ (hm b _ q λz=>z)];exact q,λb ps q=>⟨#[],by rw[aZ (hm b _ q λz=>z),q];simp⟩⟩
 by_cases Nw:b=e
 ·subst Nw;exact RJ
 ·exact⟨u,k b u Nw q⟩
end
def VM(h:Heap)(H:Hp):List aed:=(dh h.objs.size).filter λa=>(H a).isSome
def ve(h:Heap)(H:Hp):Heap:=PySem.W.hideAll h (VM h H)
theorem CL(h:Heap)(H:Hp):(ve h H).objs.size=h.objs.size:=PySem.W.hideAll_size _ _
variable{o:Obj}
theorem Eo(e:h.get? b=some o)(n:H b=none):(ve h H).get? b=some o :=
 PySem.W.hideAll_get _ e λhm=>by have q:(H b).isSome=true:=(List.mem_filter.mp hm).2;rw[n]at q;simp at q
theorem Jq(e:(ve h H).get? b=some o):h.get? b=some o/\H b=none:=by
 have e':h.get? b=some o:=PySem.W.of_hideAll (VM h H) e;refine⟨e',?_⟩;cases q:H b with
 |none=>rfl
 |some x=>have hm:b∈VM h H:=List.mem_filter.mpr ⟨List.mem_range.mpr (a7 e'),by simp[q]⟩;have z:(ve h H).get? b=none:=PySem.W.hideAll_none (VM h H) hm;rw[z]at e;cases e
def vf(g h:Heap)(L:aed):List (aed×Obj):=(dh h.objs.size).filterMap λa=>if a=L\/(g.get? a).isSome=true then none else(h.get? a).map λo=>(a,o)
variable{g:Heap}{L:aed}
theorem pQ(h1:a≠L)(h2:g.get? a=none)(h3:h.get? a=some o):(a,o)∈vf g h L :=
 List.mem_filterMap.mpr ⟨a,List.mem_range.mpr (a7 h3),by simp[h1,h2,h3]⟩
variable{p:aed×Obj}
theorem qZ(hp:p∈vf g h L):p.1≠L/\g.get? p.1=none/\h.get? p.1=some p.2:=by
 obtain⟨b,_,e⟩:=List.mem_filterMap.mp hp;split at e
 ·cases e
 ·rename_i hn;cases q:h.get? b with
  |none=>rw[q]at e;simp at e
  |some u=>
   rw[q]at e;simp only[nz,Option.some.injEq]at e;subst e;refine⟨λz=>hn (.inl z),?_,q⟩;show g.get? b=none;cases r:g.get? b with
   |none=>rfl
   |some v=>exact(hn (.inr (by simp[r]))).elim
theorem Ep:News g L h (vf g h L):=λp hp=>let ⟨a,b,c⟩:=qZ hp;⟨c,a,b⟩
structure Mod(K:PySem.W.Frag)(mg:Str->Option aej)(base:Heap):Prop where
 RK:K.In base
 glob:base.Ns aet mg
 blt:∃mb,base.Ns builtinsNs mb/\∀x:Str,x≠"__name__"->mb x=aen x
 nolimit:base.NoLimit
structure Cx where
 prog:aeh
 w:aek
 K:PySem.W.Frag
 mg:Str->Option aej
 base:Heap
 A:aee
 N:List Str
 s₀:aei
 H₀:Hp
 env:Env
 outer:List Env
 stack:List Env
 ex:List aed
 fn:Str->Bool
 calm:Bool
 pn:List (aed×Obj)
 xe:aej->aei->Prop
def frs(l:List Env):List aed:=l.filterMap (·.frame)
abbrev Cx.fs(X:Cx):List aed:=frs X.outer
def W3(sc:Scope)(x:Str):Prop:=sc.names.lookup x=some .local\/sc.names.lookup x=some .cell\/sc.names.lookup x=some .free
def Loc(sc:Scope)(x:Str):Prop:=sc.names.lookup x=some .local\/sc.names.lookup x=some .cell
def Look(env:Env)(h:Heap)(m:Str->Option aej)(x:Str)(u:aej):Prop :=
 (env.kindOf x=some .local/\m x=some u)\/((env.kindOf x=some .cell\/env.kindOf x=some .free)/\∃c,env.cells.lookup x=some c/\h.IsCell c (some u))
structure Cx.Ok(X:Cx):Prop where
 mod:Mod X.K X.mg X.base
 kind:X.env.scope.kind= .function
 glob:X.env.globals=aet
 blt:X.env.builtins=builtinsNs
 above:X.s₀.heap.objs.size<=X.env.locals
 inj:∀x y c,X.env.cells.lookup x=some c->X.env.cells.lookup y=some c->x=y
 has:∀x,(X.env.kindOf x=some .cell\/X.env.kindOf x=some .free)->∃c,X.env.cells.lookup x=some c
 W4:∀x c,X.fn x=true->X.env.cells.lookup x=some c->X.s₀.heap.objs.size<=c
 hd:X.calm=true->X.A.handled=none
 frames:X.A.frames=some X.stack
 stk:X.stack=X.outer\/(X.stack=X.env::X.outer/\X.env.frame=some X.env.locals)
 exf:∀b∈X.ex,b≠X.env.locals/\∀x c,X.env.cells.lookup x=some c->c≠b
 bs:∀b o,X.base.get? b=some o->X.s₀.heap.get? b=some o/\X.H₀ b=none
 Nx:X.base.objs.size<=X.s₀.heap.objs.size
 Ny:∀b o,X.base.get? b=some o->b∉X.ex
 Se:∀b∈X.ex,b∉X.fs
 q_:X.s₀.heap.FunFrames X.base X.outer
 RL:∀b∈X.fs,X.H₀ b=none
structure Inv(X:Cx)(pins:List (aed×Obj))(σ:List (Option V))(H:Hp)(s:aei):Prop where
 ok:X.Ok
 os:s.os=X.s₀.os
 bare:AllBare s.gens
 base:Un X.fs X.ex X.H₀ H X.s₀.heap s.heap
 loc:∃m,s.heap.Ns X.env.locals m/\∀(i:Nat)(x:Str)(v:V),X.N[i]? =some x->σ[i]? =some (some v)->W3 X.env.scope x->∃u,RelV v u/\Look X.env s.heap m x u
 cell:∀x c,X.env.cells.lookup x=some c->∃v,s.heap.IsCell c v
 free:H X.env.locals=none
 pR:∀x c,X.env.cells.lookup x=some c->H c=none
 pin:∀p∈X.pn++pins,s.heap.get? p.1=some p.2/\H p.1=none/\p.1≠X.env.locals/\p.1∉X.fs/\∀v,p.2.data≠.cell v
 hok:kL X.prog X.w H s.heap
 len:σ.length=X.N.length
variable{u:aej}{g':Array GenState}{t' i j:Nat}{d':Drawn}{ch:List aed}{it:aed}{x:Str}{N:List Str}{M:Model}{A:aee}{E:aej->aei->Prop}{v:V}{Q:Unit->aei->Prop}
section
variable {X:Cx}{pins:List (aed×Obj)}{σ:List (Option V)}{H H':Hp}{s:aei}{h':Heap}
theorem Cx.Ok.W5(ok:X.Ok)(e:X.base.get? b=some o):b∉X.fs:=λhb=>by have:=(ok.q_.mem hb).1;rw[e]at this;cases this
theorem Inv.bs(I:Inv X pins σ H s):∀b o,X.base.get? b=some o->s.heap.get? b=some o/\H b=none:=λb o e=>
 ⟨I.base.keep b o (I.ok.bs b o e).1 (I.ok.bs b o e).2 (I.ok.W5 e) (I.ok.Ny b o e),I.base.free b o (I.ok.bs b o e).1 (I.ok.bs b o e).2 (I.ok.Ny b o e)⟩
theorem Inv.bk(I:Inv X pins σ H s):∀b o,X.base.get? b=some o->s.heap.get? b=some o:=λb o e=>(I.bs b o e).1
theorem Inv.mod(I:Inv X pins σ H s):Mod X.K X.mg X.base:=I.ok.mod
theorem Inv.ze(I:Inv X pins σ H s):X.K.In s.heap:=I.ok.mod.RK.keeps I.bk
theorem Inv.lt(I:Inv X pins σ H s):X.env.locals < s.heap.objs.size:=let ⟨_,hn,_⟩:=I.loc;hn.lt
theorem Inv.sz(I:Inv X pins σ H s):X.s₀.heap.objs.size<=s.heap.objs.size:=aV I.ok.above (A7 I.lt)
theorem Inv.W6(I:Inv X pins σ H s)(h:s.heap.objs.size<=a):a∉X.fs:=λhb=>by obtain⟨_,o,ho,_⟩:=I.ok.q_.mem hb;exact absurd (bT (a7 ho) (aV I.sz h)) (fg _)
theorem Inv.Nz(I:Inv X pins σ H s):∀x c,X.env.cells.lookup x=some c->c≠X.env.locals:=λx c e z=>by obtain⟨v,o,ho,hd⟩:=I.cell x c e;obtain⟨m,⟨o',es,ep,ho',hd',_⟩,_⟩:=I.loc;rw[z,ho']at ho;cases ho;rw[hd']at hd;cases hd
theorem Inv.q_(I:Inv X pins σ H s):s.heap.FunFrames X.base X.outer:=by
 have all:∀(l:List Env),(∀b∈frs l,b∈X.fs)->X.s₀.heap.FunFrames X.base l->s.heap.FunFrames X.base l:=by
  intro l
  induction l with
  |nil=>intro _ _;trivial
  |cons env r ih=>intro hs hl;obtain⟨hk,⟨L,o,hf,hn,ho,hd⟩,hr⟩:=hl;have hL:L∈X.fs:=hs L (by unfold frs;rw[vg,hf];exact bC);obtain⟨sl,e⟩:=I.base.slot L o ho (I.ok.RL L hL) hL λz=>I.ok.Se L z hL;exact⟨hk,⟨L,_,hf,hn,e,hd⟩,ih (λb hb=>hs b (by unfold frs;rw[vg,hf];exact bb _ hb)) hr⟩
 exact all X.outer (λ_ hb=>hb) I.ok.q_
theorem Inv.stack(I:Inv X pins σ H s):s.heap.FunFrames X.base X.stack:=by
 rcases I.ok.stk with e |⟨e,hf⟩
 ·rw[e];exact I.q_
 ·rw[e];obtain⟨m,hn,_⟩:=I.loc;refine .cons (by rw[I.ok.kind];decide) hf hn ?_ I.q_;exact Heap.get?_none_of_le (aV I.ok.Nx I.ok.above)
theorem Inv.vh(I:Inv X pins σ H s):∀b∈frs X.stack,b∈X.env.locals::X.fs:=λb hb=>by
 rcases I.ok.stk with e |⟨e,hf⟩
 ·rw[e]at hb;exact bb _ hb
 ·rw[e]at hb;unfold frs at hb;rw[vg,hf]at hb;exact hb
theorem Inv.vj(I:Inv X pins σ H s):∀b∈frs X.stack,H b=none:=λb hb=>by
 rcases List.mem_cons.mp (I.vh b hb)with e |hb
 ·rw[e];exact I.free
 ·obtain⟨_,o,ho,_⟩:=I.ok.q_.mem hb;exact I.base.free b o ho (I.ok.RL b hb) λz=>I.ok.Se b z hb
theorem Inv.step(I:Inv X pins σ H s)
  (hch:∀b∈ch,(b∈X.ex\/X.s₀.heap.objs.size<=b)/\b≠X.env.locals/\(∀x c,X.env.cells.lookup x=some c->c≠b)/\∀p∈X.pn++pins,p.1≠b)
  (keep:∀b o,b≠X.env.locals->b∉X.fs->b∉ch->s.heap.get? b=some o->H b=none->h'.get? b=some o)
  (slot:∀b o,b≠X.env.locals->b∈X.fs->b∉ch->s.heap.get? b=some o->H b=none->∃sl,h'.get? b=some { o with slots:=sl })(free:∀b o,b∉ch->s.heap.get? b=some o->H b=none->H' b=none)
  (there:∀b o,b∉ch->s.heap.get? b=some o->∃o',h'.get? b=some o')
  (tups:∀b xs,H b=some (.tup xs)->H' b=some (.tup xs))(qi:∀b o u,H b=some (.oI o u)->H' b=some (.oI o u))(tK:∀b ps,H b=some (.mx ps)->∃more,H' b=some (.mx (ps++more)))
  (ns:∀m,s.heap.Ns X.env.locals m->h'.Ns X.env.locals m)(hok:kL X.prog X.w H' h')(hg:AllBare g'):
  Inv X pins σ H' { s with heap:=h',gens:=g',drawn:=d',toks:=t' }:=by
 have Sf:∀b o,X.s₀.heap.get? b=some o->b≠X.env.locals:=λb o e=>bU (bT (a7 e) I.ok.above);have VN:∀b o,X.s₀.heap.get? b=some o->b∉X.ex->b∉ch:=λb o e hx hb=>by
  rcases(hch b hb).1 with z |z
  ·exact hx z
  ·exact absurd (bT (a7 e) z) (fg _)
 have cellK:∀x c,X.env.cells.lookup x=some c->∀v,s.heap.IsCell c v->h'.IsCell c v:=λx c e v ⟨o,ho,hd⟩=>by
  have Sh:c∉ch:=λz=>(hch c z).2.2.1 x c e rfl;by_cases hc:c∈X.fs
  ·obtain⟨sl,q⟩:=slot c o (I.Nz x c e) hc Sh ho (I.pR x c e);exact⟨_,q,hd⟩
  ·exact⟨o,keep c o (I.Nz x c e) hc Sh ho (I.pR x c e),hd⟩
 refine⟨I.ok,I.os,hg,⟨λb o e n hb hx=>?_,λb o e n hb hx=>?_,λb o e n hx=>?_,λb o e hx=>?_,λb xs e=>tups b xs (I.base.tups b xs e),λb o xs e=>qi b o xs (I.base.qi b o xs e),λb ps e=>?_⟩,?_,λx c e=>?_,?_,λx c e=>?_,λp hp=>?_,hok,I.len⟩
 ·exact keep b o (Sf b o e) hb (VN b o e hx) (I.base.keep b o e n hb hx) (I.base.free b o e n hx)
 ·obtain⟨sl,e1⟩:=I.base.slot b o e n hb hx;obtain⟨sl',e2⟩:=slot b _ (Sf b o e) hb (VN b o e hx) e1 (I.base.free b o e n hx);exact⟨sl',e2⟩
 ·obtain⟨o',e1⟩:=I.base.there b o e hx;exact free b o' (VN b o e hx) e1 (I.base.free b o e n hx)
 ·obtain⟨o',e1⟩:=I.base.there b o e hx;exact there b o' (VN b o e hx) e1
 ·obtain⟨m1,e1⟩:=I.base.tK b ps e;obtain⟨m2,e2⟩:=tK b _ e1;exact⟨m1++m2,by rw[e2,Array.append_assoc]⟩
 ·obtain⟨m,hn,hl⟩:=I.loc;refine⟨m,ns m hn,λi x v e1 e2 e3=>?_⟩;obtain⟨u,r,l⟩:=hl i x v e1 e2 e3;refine⟨u,r,?_⟩;rcases l with l |⟨k,c,e,z⟩
  ·exact .inl l
  ·exact .inr ⟨k,c,e,cellK x c e _ z⟩
 ·obtain⟨v,z⟩:=I.cell x c e;exact⟨v,cellK x c e v z⟩
 ·obtain⟨m,⟨o,_,_,ho,_⟩,_⟩:=I.loc;exact free _ o (λz=>(hch _ z).2.1 rfl) ho I.free
 ·obtain⟨v,o,ho,hd⟩:=I.cell x c e;exact free c o (λz=>(hch c z).2.2.1 x c e rfl) ho (I.pR x c e)
 ·obtain⟨e,n,ne,nf,d⟩:=I.pin p hp;have Sh:p.1∉ch:=λz=>(hch p.1 z).2.2.2 p hp rfl;exact⟨keep p.1 p.2 ne nf Sh e n,free p.1 p.2 Sh e n,ne,nf,d⟩
theorem Inv.un(I:Inv X pins σ H s)(u:Un X.fs [] H H' s.heap h')(hok:kL X.prog X.w H' h'):Inv X pins σ H' { s with heap:=h',toks:=t' }:=by obtain⟨m,⟨o,es,ep,ho,r⟩,_⟩:=id I.loc;obtain⟨sl,hL⟩:=u.any ho I.free (by simp);exact I.step (g':=s.gens) (d':=s.drawn) (ch:=[]) (λ_ z=>nomatch z) (λb o _ hb _ e n=>u.keep b o e n hb (by simp)) (λb o _ hb _ e n=>u.slot b o e n hb (by simp)) (λb o _ e n=>u.free b o e n (by simp)) (λb o _ e=>u.there b o e (by simp)) u.tups u.qi u.tK (λm' hm=>by obtain⟨o',es',Mo,ho',r'⟩:=hm;rw[ho]at ho';cases ho';exact⟨_,es',Mo,hL,r'⟩) hok I.bare
theorem Inv.call(I:Inv X pins σ H s)(u:Un (frs X.stack) ch H H' s.heap h')(hok:kL X.prog X.w H' h')(hg:AllBare g')
  (hch:∀b∈ch,(b∈X.ex\/X.s₀.heap.objs.size<=b)/\b≠X.env.locals/\(∀x c,X.env.cells.lookup x=some c->c≠b)/\∀p∈X.pn++pins,p.1≠b):
  Inv X pins σ H' { s with heap:=h',gens:=g',drawn:=d',toks:=t' }:=by
 obtain⟨m,⟨o,es,ep,ho,r⟩,_⟩:=id I.loc;obtain⟨sl,hL⟩:=u.any ho I.free λz=>(hch _ z).2.1 rfl;exact I.step (ch:=ch) hch (λb o hL hb hc e n=>u.keep b o e n (λz=>(List.mem_cons.mp (I.vh b z)).elim hL hb) hc) (λb o _ _ hc e n=>u.any e n hc) (λb o hc e n=>u.free b o e n hc) (λb o hc e=>u.there b o e hc) u.tups u.qi u.tK (λm' hm=>by obtain⟨o',es',Mo,ho',r'⟩:=hm;rw[ho]at ho';cases ho';exact⟨_,es',Mo,hL,r'⟩) hok hg
theorem Inv.turned(I:Inv X pins σ H s)(k:∀b o,b≠it->s.heap.get? b=some o->h'.get? b=some o)(hn:H it=none)(hL:it≠X.env.locals)
  (h1:it∈X.ex\/X.s₀.heap.objs.size<=it)(h2:∀x c,X.env.cells.lookup x=some c->c≠it)(h3:∀p∈X.pn++pins,p.1≠it):Inv X pins σ H { s with heap:=h',toks:=t' }:=by
 have ZU:∀b u,H b=some u->b≠it:=λb u e z=>by rw[z,hn]at e;cases e
 refine I.step (g':=s.gens) (d':=s.drawn) (ch:=[it]) (λb hb=>?_) (λb o _ _ hc e _=>k b o (λz=>hc (by simp[z])) e) (λb o _ _ hc e _=>⟨o.slots,k b o (λz=>hc (by simp[z])) e⟩) (λ_ _ _ _ n=>n)
  (λb o hc e=>⟨o,k b o (λz=>hc (by simp[z])) e⟩) (λ_ _ e=>e) (λ_ _ _ e=>e) (λb ps e=>⟨#[],by rw[e];simp⟩) (λm hm=>?_) (λb u e=>?_) I.bare
 ·have e:b=it:=by simpa using hb
  subst e;exact⟨h1,hL,h2,h3⟩
 ·obtain⟨o,es,ep,ho,r⟩:=hm;exact⟨o,es,ep,k _ o (bA hL) ho,r⟩
 ·refine(I.hok b u e).stay (λc v hc q=>k c v ?_ q) (λ_ q=>q) λ_ _ q=>q;rcases hc with z |z
  ·rw[z];exact ZU b u e
  ·exact ZU c _ z
theorem Inv.tok(I:Inv X pins σ H s)(t:Nat):Inv X pins σ H { s with toks:=t }:=I.un (h':=s.heap) (t':=t) Un.refl I.hok
theorem Inv.kept(I:Inv X pins σ H s)(k:∀b u,s.heap.get? b=some u->h'.get? b=some u):Inv X pins σ H { s with heap:=h',toks:=t' }:=I.un (Un.kept k) (I.hok.kept k)
theorem Inv.laid{o:HO}(I:Inv X pins σ H s)(k:∀b u,s.heap.get? b=some u->h'.get? b=some u)(hp:s.heap.objs.size<=a)(new:du X.prog X.w (upd H a o) h' a o):
  Inv X pins σ (upd H a o) { s with heap:=h',toks:=t' }:=I.un (Un.laid k hp (I.hok.fresh hp)) (I.hok.laid k hp new)
theorem Inv.write{x e:aed}{o:HO}(I:Inv X pins σ H s)(mu:Sa (H x))(he:e=x\/H e=some (.own x))(k:∀b u,b≠e->s.heap.get? b=some u->h'.get? b=some u)(RJ:∃u,h'.get? e=some u)
  (new:du X.prog X.w (upd H x o) h' x o):Inv X pins σ (upd H x o) { s with heap:=h',toks:=t' }:=I.un (Un.write mu he k RJ) (I.hok.write mu he k RJ new)
theorem Inv.A8{A9:List (aed×Obj)}(I:Inv X pins σ H s)(h:∀p∈A9,s.heap.get? p.1=some p.2/\H p.1=none/\p.1≠X.env.locals/\p.1∉X.fs/\∀v,p.2.data≠.cell v):Inv X A9 σ H s :=
 ⟨I.ok,I.os,I.bare,I.base,I.loc,I.cell,I.free,I.pR,λp hp=>(List.mem_append.mp hp).elim (λz=>I.pin p (A_ _ z)) (h p),I.hok,I.len⟩
theorem xm(hN:N.Nodup)(a:N[i]? =some x)(b:N[j]? =some x):i=j:=by obtain⟨h1,e1⟩:=List.getElem?_eq_some_iff.mp a;obtain⟨h2,e2⟩:=List.getElem?_eq_some_iff.mp b;exact(List.getElem_inj hN).mp (e1.trans e2.symm)
theorem ug(I:Inv X pins σ H s)(hN:X.N.Nodup)(hi:X.N[i]? =some x)(hx:Loc X.env.scope x)(r:RelV v u)
  (h:∀s',Inv X pins (σ.set i (some v)) H s'->(∃a,jE a s.heap s'.heap/\(a=X.env.locals\/X.env.cells.lookup x=some a))->Q () s')(hf:X.fn x=true\/X.env.scope.names.lookup x=some .local:=by first |exact .inl rfl |exact .inr rfl |assumption):aew M A (storeName X.env x u) Q E s:=by
 obtain⟨m,hn,hl⟩:=id I.loc;have hcls:(X.env.scope.kind == .class||(X.env.scope.kind == .module&&X.env.locals != X.env.globals))=false:=by rw[I.ok.kind];rfl
 have Si:i < σ.length:=by rw[I.len];exact(List.getElem?_eq_some_iff.mp hi).1
 have Nz:=I.Nz;have tracked:∀{a:aed}{h':Heap},(∃o,s.heap.get? a=some o/\H a=none)->jE a s.heap h'->kL X.prog X.w H h':=λ{a h'} ha hs b ob e=>by
  obtain⟨_,_,hfree⟩:=ha;refine(I.hok b ob e).stay (λc w' hc q=>(hs.2 c ?_).trans q) (λ_ q=>q) λ_ _ q=>q;rintro rfl;rcases hc with rfl |hc
  ·rw[hfree]at e;cases e
  ·rw[hfree]at hc;cases hc
 rcases hx with hk |hk
 ·refine wpAny_storeName_local hk hn (λh' hn' hs=>?_) hcls;obtain⟨oL,_,_,hoL,_⟩:=id hn;refine h _ ⟨I.ok,I.os,I.bare,⟨λb o e n hb hx=>?_,λb o e n hb hx=>?_,I.base.free,λb o e hx=>?_,I.base.tups,I.base.qi,I.base.tK⟩,⟨_,hn',λj y v' e1 e2 e3=>?_⟩,λy c e=>?_,I.free,I.pR,λp hp=>?_,tracked ⟨oL,hoL,I.free⟩ hs,by simpa using I.len⟩ ⟨_,hs,.inl rfl⟩
  ·exact(hs.2 b (bU (bT (a7 e) I.ok.above))).trans (I.base.keep b o e n hb hx)
  ·obtain⟨sl,e1⟩:=I.base.slot b o e n hb hx;exact⟨sl,(hs.2 b (bU (bT (a7 e) I.ok.above))).trans e1⟩
  ·obtain⟨o',e1⟩:=I.base.there b o e hx;exact⟨o',(hs.2 b (bU (bT (a7 e) I.ok.above))).trans e1⟩
  ·by_cases hj:j=i
   ·subst hj;rw[hi]at e1;cases e1;rw[lT Si]at e2;cases e2;exact⟨u,r,.inl ⟨hk,by simp⟩⟩
   ·rw[bN (bA hj)]at e2;obtain⟨u',r',q⟩:=hl j y v' e1 e2 e3;refine⟨u',r',?_⟩;rcases q with ⟨k,e⟩ |⟨k,c,e,z⟩
    ·refine .inl ⟨k,?_⟩;have:y≠x:=λe=>hj (xm hN e1 (e ▸ hi));simp[this,e]
    ·exact .inr ⟨k,c,e,z.sameBut hs (Nz y c e)⟩
  ·obtain⟨w',z⟩:=I.cell y c e;exact⟨w',z.sameBut hs (Nz y c e)⟩
  ·obtain⟨e,n,ne,nf,d⟩:=I.pin p hp;exact⟨(hs.2 p.1 ne).trans e,n,ne,nf,d⟩
 ·have hfn:X.fn x=true:=by
   rcases hf with z |z
   ·exact z
   ·rw[z]at hk;cases hk
  obtain⟨c,hc⟩:=I.ok.has x (.inl hk);obtain⟨w',z⟩:=I.cell x c hc;refine wpAny_storeName_cell I.ok.kind hk hc z (λh' hc' hs=>?_);obtain⟨oc,hoc,W7⟩:=id z;refine h { s with heap:=h' } ⟨I.ok,I.os,I.bare,⟨λb o e n hb hx=>?_,λb o e n hb hx=>?_,I.base.free,λb o e hx=>?_,I.base.tups,I.base.qi,I.base.tK⟩,⟨m,hn.sameBut hs (bA (Nz x c hc)),λj y v' e1 e2 e3=>?_⟩,λy c' e=>?_,I.free,I.pR,λp hp=>?_,tracked ⟨oc,hoc,I.pR x c hc⟩ hs,by simpa using I.len⟩ ⟨c,hs,.inr hc⟩
  ·exact(hs.2 b (bU (bT (a7 e) (I.ok.W4 x c hfn hc)))).trans (I.base.keep b o e n hb hx)
  ·obtain⟨sl,e1⟩:=I.base.slot b o e n hb hx;exact⟨sl,(hs.2 b (bU (bT (a7 e) (I.ok.W4 x c hfn hc)))).trans e1⟩
  ·obtain⟨o',e1⟩:=I.base.there b o e hx;exact⟨o',(hs.2 b (bU (bT (a7 e) (I.ok.W4 x c hfn hc)))).trans e1⟩
  ·by_cases hj:j=i
   ·subst hj;rw[hi]at e1;cases e1;rw[lT Si]at e2;cases e2;exact⟨u,r,.inr ⟨.inl hk,c,hc,hc'⟩⟩
   ·rw[bN (bA hj)]at e2;obtain⟨u',r',q⟩:=hl j y v' e1 e2 e3;refine⟨u',r',?_⟩;rcases q with q |⟨k,c',e,z'⟩
    ·exact .inl q
    ·refine .inr ⟨k,c',e,z'.sameBut hs ?_⟩;rintro rfl;exact hj (xm hN e1 (I.ok.inj _ _ _ e hc ▸ hi))
  ·by_cases hcc:c'=c
   ·subst hcc;exact⟨_,hc'⟩
   ·obtain⟨w2,z2⟩:=I.cell y c' e;exact⟨w2,z2.sameBut hs hcc⟩
  ·obtain⟨e,n,ne,nf,d⟩:=I.pin p hp;refine⟨(hs.2 p.1 ?_).trans e,n,ne,nf,d⟩;intro q;rw[q,hoc]at e;have q':oc=p.2:=Option.some.inj e;exact d w' (by rw[<-q'];exact W7)
theorem rf(I:Inv X pins σ H s)(hN:X.N.Nodup)(hi:X.N[i]? =some x)(hx:Loc X.env.scope x)(r:RelV v u)
  (h:∀s',Inv X pins (σ.set i (some v)) H s'->Q () s')(hf:X.fn x=true\/X.env.scope.names.lookup x=some .local:=by first |exact .inl rfl |exact .inr rfl |assumption):aew M A (storeName X.env x u) Q E s :=
 ug I hN hi hx r (λs' I' _=>h s' I') hf
theorem Inv.Sj{s':aei}(I:Inv X pins σ H s)(ho:s'.os=s.os)(u:Un (frs X.stack) ch H H' s.heap s'.heap)(hok:kL X.prog X.w H' s'.heap)(hg:AllBare s'.gens)
  (hch:∀b∈ch,(b∈X.ex\/X.s₀.heap.objs.size<=b)/\b≠X.env.locals/\(∀x c,X.env.cells.lookup x=some c->c≠b)/\∀p∈X.pn++pins,p.1≠b):Inv X pins σ H' s':=by
 obtain⟨h',g',d',t',o'⟩:=s';have e:o'=s.os:=ho;subst e;exact I.call (g':=g') (t':=t') (d':=d') u hok hg hch
end
abbrev XK:=aej->Option aed->Hp->Prop
abbrev St:=List (Option V)
abbrev VK:=V->Hp->Prop
abbrev TE:=St->Hp->VK->Prop
abbrev TT:=St->Hp->(Bool->Hp->Prop)->Prop
abbrev TA:=St->Hp->(List V->Hp->Prop)->Prop
structure Ends where
 nx:St->Hp->Prop
 rt:VK
 bk:St->Hp->Prop:=λ_ _=>False
 ct:St->Hp->Prop:=λ_ _=>False
abbrev TS:=Ends->St->Hp->Prop
def EP(X:Cx)(pins:List (aed×Obj))(σ:St)(Q:VK)(u:aej)(s':aei):Prop:=∃v H',Inv X pins σ H' s'/\RelV v u/\Q v H'
def TP(X:Cx)(pins:List (aed×Obj))(σ:St)(Q:Bool->Hp->Prop)(b:Bool)(s':aei):Prop:=∃H',Inv X pins σ H' s'/\Q b H'
def AP(X:Cx)(pins:List (aed×Obj))(σ:St)(Q:List V->Hp->Prop)(us:List aej)(s':aei):Prop:=∃vs H',Inv X pins σ H' s'/\Vals vs us/\Q vs H'
def SP(X:Cx)(pins:List (aed×Obj))(D:Ends)(f:Flow)(s':aei):Prop :=
 match f with
 |.next=>∃σ' H',Inv X pins σ' H' s'/\D.nx σ' H'
 |.brk=>∃σ' H',Inv X pins σ' H' s'/\D.bk σ' H'
 |.cont=>∃σ' H',Inv X pins σ' H' s'/\D.ct σ' H'
 |.ret u=>∃v σ' H',Inv X pins σ' H' s'/\RelV v u/\D.rt v H'
def PE(X:Cx)(e:Expr)(t:TE):Prop :=
 ∀(pins:List (aed×Obj))(s:aei)(σ:St)(H:Hp)(Q:VK),Inv X pins σ H s->t σ H Q->aew (model X.prog X.w) X.A (eval e X.env) (EP X pins σ Q) X.xe s
def PT(X:Cx)(e:Expr)(t:TT):Prop :=
 ∀(pins:List (aed×Obj))(s:aei)(σ:St)(H:Hp)(Q:Bool->Hp->Prop),Inv X pins σ H s->t σ H Q->aew (model X.prog X.w) X.A (isTrue e X.env (eval e X.env)) (TP X pins σ Q) X.xe s
def PW(X:Cx)(e:Expr)(t:TT):Prop :=
 ∀(whole:Sem aej)(pins:List (aed×Obj))(s:aei)(σ:St)(H:Hp)(Q:Bool->Hp->Prop),Inv X pins σ H s->t σ H Q->aew (model X.prog X.w) X.A (isTrue e X.env whole) (TP X pins σ Q) X.xe s
def PA(X:Cx)(es:List Expr)(t:TA):Prop :=
 ∀(pos:Pos)(pins:List (aed×Obj))(s:aei)(σ:St)(H:Hp)(Q:List V->Hp->Prop),Inv X pins σ H s->t σ H Q->aew (model X.prog X.w) X.A (spliced (backTo pos (aev es X.env))) (AP X pins σ Q) X.xe s
def PS(X:Cx)(st:Stmt)(t:TS):Prop :=
 ∀(pins:List (aed×Obj))(s:aei)(σ:St)(H:Hp)(D:Ends),Inv X pins σ H s->t D σ H->aew (model X.prog X.w) X.A (exec st X.env) (SP X pins D) X.xe s
def Er(X:Cx)(st:List Stmt)(t:TS):Prop :=
 ∀(pins:List (aed×Obj))(s:aei)(σ:St)(H:Hp)(D:Ends),Inv X pins σ H s->t D σ H->aew (model X.prog X.w) X.A (execs st X.env) (SP X pins D) X.xe s
variable{s:aei}
theorem bK{α:Type}{t:Sem α}{Q Q':α->aei->Prop}(h:aew M A t Q E s)(hQ:∀a s,Q a s->Q' a s):aew M A t Q' E s:=aeA h hQ λ_ _ x=>x
variable{Q:aej->aei->Prop}{pos:Pos}{σ:St}{c:Expr}
section
variable {X:Cx}
def W8(i:Nat):TE:=λσ H Q=>∃v,σ[i]? =some (some v)/\Q v H
def tC(v:V):TE:=λ_ H Q=>Q v H
theorem NA(hN:X.N[i]? =some x)(hv:W3 X.env.scope x)(hd:(x == ("__debug__":Str))=false:=by decide)(hcd:(x == ("__classdict__":Str))=false:=by decide):PE X (.Name x pos) (W8 i):=by
 intro pins s σ H Q I h;obtain⟨v,e,h⟩:=h;obtain⟨m,hn,hl⟩:=I.loc;obtain⟨u,r,l⟩:=hl i x v hN e hv;have fin:EP X pins σ Q u s:=⟨v,H,I,r,h⟩;rcases l with ⟨hk,hm⟩ |⟨hk,c,hc,hcell⟩
 ·exact wpAny_Name (wpAny_loadName_local I.ok.kind hk hn hm fin) hd
 ·rcases hk with hk |hk
  ·exact wpAny_Name (wpAny_loadName_cell I.ok.kind hk hc hcell fin) hd
  ·exact wpAny_Name (wpAny_loadName_free I.ok.kind hk hc hcell fin hcd) hd
theorem NB{i j pos}:PE X (.Constant (.int i) j pos) (tC (.int i)):=λ_ _ _ H _ I h=>wpAny_Constant_int ⟨.int i,H,I.tok _,⟨_,rfl⟩,h⟩
theorem Sk{b j pos}:PE X (.Constant (.bool b) j pos) (tC (.bl b)):=λ_ _ _ H _ I h=>Constant_bool ⟨.bl b,H,I,rfl,h⟩
theorem NC{j pos}:PE X (.Constant .none j pos) (tC .non):=λ_ _ _ H _ I h=>Constant_none ⟨.non,H,I,rfl,h⟩
theorem ND{x j pos}:PE X (.Constant (.str x) j pos) (tC (.str x)):=λ_ _ _ H _ I h=>Calls.Constant_str ⟨.str x,H,I.tok _,⟨_,rfl⟩,h⟩
def Gl(X:Cx)(x:Str):Prop:=X.env.kindOf x=some .globalImplicit
theorem vm{pins:List (aed×Obj)}(I:Inv X pins σ H s)(hg:Gl X x)(hm:X.mg x=some u)(h:Q u s)
  (hd:(x == ("__debug__":Str))=false:=by decide):aew (model X.prog X.w) X.A (eval (.Name x pos) X.env) Q E s :=
 NF I.ok.kind hg (Calls.loadGlobal_global (by rw[I.ok.glob];exact I.mod.glob.keeps I.bk) hm h) hd
theorem oN{pins:List (aed×Obj)}(I:Inv X pins σ H s)(hg:Gl X x)(hm:X.mg x=none)(hv:aen x=some u)(h:Q u s)
  (hn:x≠"__name__":=by decide)(hd:(x == ("__debug__":Str))=false:=by decide):aew (model X.prog X.w) X.A (eval (.Name x pos) X.env) Q E s:=by
 obtain⟨mb,h1,h2⟩:=I.mod.blt;exact NF I.ok.kind hg (Calls.loadGlobal_builtin (by rw[I.ok.glob];exact I.mod.glob.keeps I.bk) hm (by rw[I.ok.blt];exact h1.keeps I.bk) ((h2 x hn).trans hv) h) hd
theorem lU(hg:Gl X x)(hm:X.mg x=some u)(r:RelV v u)(hd:(x == ("__debug__":Str))=false:=by decide):PE X (.Name x pos) (tC v) :=
 λ_ _ _ H _ I h=>vm I hg hm ⟨v,H,I,r,h⟩ hd
theorem Jr(hg:Gl X x)(hm:X.mg x=none)(hv:aen x=some u)(r:RelV v u)(hn:x≠"__name__":=by decide)(hd:(x == ("__debug__":Str))=false:=by decide):PE X (.Name x pos) (tC v) :=
 λ_ _ _ H _ I h=>oN I hg hm hv ⟨v,H,I,r,h⟩ hn hd
variable {a b:Expr}{ta tb:TE}{pos:Pos}
variable {tA VO:TT}{rest:List Expr}
def W9(t u:TT):TT:=λσ H Q=>t σ H λc H1=>if c=true then u σ H1 Q else Q false H1
def tOr(t u:TT):TT:=λσ H Q=>t σ H λc H1=>if c=true then Q true H1 else u σ H1 Q
def W_(t:TT):TT:=λσ H Q=>t σ H λc H1=>Q (!c) H1
theorem Js(ha:PT X a tA):PW X (.BoolOp .And [a] pos) tA:=by
 intro wh pins s σ H Q I h;refine isTrue_and (bK (ha pins s σ H Q I h) λc s1 e=>?_);cases c with
 |true=>exact isTrue_and_nil e
 |false=>exact e
theorem NG(ha:PT X a tA):PW X (.BoolOp .Or [a] pos) tA:=by
 intro wh pins s σ H Q I h;refine isTrue_or (bK (ha pins s σ H Q I h) λc s1 e=>?_);cases c with
 |false=>exact isTrue_or_nil e
 |true=>exact e
theorem NH(ha:PT X a tA)(hb:PW X (.BoolOp .And (b::rest) pos) VO):PW X (.BoolOp .And (a::b::rest) pos) (W9 tA VO):=by
 intro wh pins s σ H Q I h;refine isTrue_and (bK (ha pins s σ H _ I h) λc s1 ⟨H1,I1,q1⟩=>?_);cases c with
 |true=>exact hb wh pins s1 σ H1 Q I1 q1
 |false=>exact⟨H1,I1,q1⟩
theorem Sl(ha:PT X a tA)(hb:PW X (.BoolOp .Or (b::rest) pos) VO):PW X (.BoolOp .Or (a::b::rest) pos) (tOr tA VO):=by
 intro wh pins s σ H Q I h;refine isTrue_or (bK (ha pins s σ H _ I h) λc s1 ⟨H1,I1,q1⟩=>?_);cases c with
 |true=>exact⟨H1,I1,q1⟩
 |false=>exact hb wh pins s1 σ H1 Q I1 q1
theorem NI(ha:PT X a tA):PT X (.UnaryOp .Not a pos) (W_ tA):=by intro pins s σ H Q I h;exact isTrue_not (ha pins s σ H (λc H1=>Q (!c) H1) I h)
def Sm(ta tb:TE):TE:=λσ H Q=>ta σ H λx H1=>∃c,x= .bl c/\if c=true then tb σ H1 Q else Q (.bl false) H1
theorem NJ{op}{t:TE}(h:PE X a t):PE X (.BoolOp op [a] pos) t:=λpins s σ H Q I hw=>BoolOp_one (h pins s σ H Q I hw)
theorem NL(ha:PE X a ta)(hb:PE X (.BoolOp .And (b::rest) pos) tb):PE X (.BoolOp .And (a::b::rest) pos) (Sm ta tb):=by
 intro pins s σ H Q I h;refine BoolOp_and (bK (ha pins s σ H _ I h) λv s1 ⟨x,H1,I1,r1,q1⟩=>?_);obtain⟨c,rfl,q1⟩:=q1;cases r1;refine aeD ?_;cases c with
 |true=>exact hb pins s1 σ H1 Q I1 q1
 |false=>exact⟨.bl false,H1,I1,rfl,q1⟩
def tIf(t:TT)(ta tb:TE):TE:=λσ H Q=>t σ H λc H1=>if c=true then ta σ H1 Q else tb σ H1 Q
theorem Es(hc:PT X c tA)(ha:PE X a ta)(hb:PE X b tb):PE X (.IfExp c a b pos) (tIf tA ta tb):=by
 intro pins s σ H Q I h;refine wpAny_IfExp (bK (hc pins s σ H _ I h) λd s1 ⟨H1,I1,q1⟩=>?_);cases d with
 |true=>exact ha pins s1 σ H1 Q I1 q1
 |false=>exact hb pins s1 σ H1 Q I1 q1
end
def mO(K:PySem.W.Frag)(H:Hp)(a:aed)(xs:List V):Prop :=
 Rd H a (.lst xs)\/
  ∃(o:Obj)(its:Array aej)(n:Nat),K.lookup a=some o/\o.cls= .type "list"/\o.dict=none/\o.data= .seq its n/\its.size<=aeu/\Vals xs its.toList
def fM(K:PySem.W.Frag)(H:Hp)(a:aed)(xs:List V):Prop :=
 Rd H a (.tup xs)\/
  ∃(o:Obj)(its:Array aej)(n:Nat),K.lookup a=some o/\o.cls= .type "tuple"/\o.data= .seq its n/\its.size<=aeu/\Vals xs its.toList
def Xa:aej->Option V
 |.none=>some .non
 |.bool b=>some (.bl b)
 |.int i _=>some (.int i)
 |.str x _=>some (.str x)
 |.bytes b _=>some (.RI b)
 |.float b _=>some (.kK b)
 |.ref a=>some (.ref a)
 |.type n=>some (.ty n)
 |_=>none
theorem RelV.abs{x:V}(r:RelV x u):Xa u=some x:=by
 cases x with
 |non=>cases r;rfl
 |bl _=>cases r;rfl
 |int _=>obtain⟨t,rfl⟩:=r;rfl
 |str _=>obtain⟨t,rfl⟩:=r;rfl
 |RI _=>obtain⟨t,rfl⟩:=r;rfl
 |kK _=>obtain⟨t,rfl⟩:=r;rfl
 |ref _=>cases r;rfl
 |ty _=>cases r;rfl
variable{y:V}
theorem RelV.inj{x:V}(r:RelV x u)(q:RelV y u):x=y:=Option.some.inj (r.abs.symm.trans q.abs)
theorem Vals.inj:∀{xs ys:List V}{us:List aej},Vals xs us->Vals ys us->xs=ys
 |_,_,_,.nil,.nil=>rfl
 |_,_,_,.cons r t,.cons r' t'=>by rw[r.inj r',Vals.inj t t']
variable{K:PySem.W.Frag}
section
variable {X:Cx}{pins:List (aed×Obj)}{σ:St}{H:Hp}{s:aei}{a:aed}{xs ys:List V}
theorem mO.of(h:H a=some (.lst xs)):mO K H a xs:=.inl (.inl h)
theorem fM.of(h:H a=some (.tup xs)):fM K H a xs:=.inl (.inl h)
theorem Inv.list(I:Inv X pins σ H s)(h:mO X.K H a xs):∃its:List aej,Vals xs its/\PlainL s.heap a its.toArray/\xs.length<=aeu:=by
 rcases h with h |⟨o,its,n,hk,hc,hd,hs,hz,r⟩
 ·obtain⟨z,its,n,r,e⟩:=h.ok I.hok;exact⟨its,r,⟨_,n,e,rfl,rfl,rfl⟩,z⟩
 ·refine⟨its.toList,r,⟨o,n,I.ze a o hk,hc,hd,by simpa using hs⟩,?_⟩;have e:=r.length;simp only[Ba]at e;omega
theorem Inv.tuple(I:Inv X pins σ H s)(h:fM X.K H a xs):∃its:List aej,Vals xs its/\IsTup s.heap a its.toArray/\xs.length<=aeu:=by
 rcases h with h |⟨o,its,n,hk,hc,hs,hz,r⟩
 ·obtain⟨z,its,r,p,_⟩:=h.ok I.hok;exact⟨its,r,p,z⟩
 ·refine⟨its.toList,r,⟨o,I.ze a o hk,hc,n,by simpa using hs⟩,?_⟩;have e:=r.length;simp only[Ba]at e;omega
theorem Inv.Et(I:Inv X pins σ H s)(h:mO X.K H a xs)(h':mO X.K H a ys):xs=ys:=by
 obtain⟨its,r,⟨o,n,e,_,_,d⟩,_⟩:=I.list h;obtain⟨its',r',⟨o',n',e',_,_,d'⟩,_⟩:=I.list h';rw[e]at e';cases e';rw[d]at d';injection d' with d1 _;have:its=its':=by simpa using congrArg Array.toList d1
 subst this;exact r.inj r'
theorem Inv.CM(I:Inv X pins σ H s)(h:fM X.K H a xs)(h':fM X.K H a ys):xs=ys:=by
 obtain⟨its,r,⟨o,e,_,n,d⟩,_⟩:=I.tuple h;obtain⟨its',r',⟨o',e',_,n',d'⟩,_⟩:=I.tuple h';rw[e]at e';cases e';rw[d]at d';injection d' with d1 _;have:its=its':=by simpa using congrArg Array.toList d1
 subst this;exact r.inj r'
end
section
variable {X:Cx}{st:Stmt}{rest:List Stmt}{t u:TS}{e:Expr}{te:TE}{pos:Pos}
def Sn:TS:=λD σ H=>D.nx σ H
def Xb(t u:TS):TS:=λD σ H=>t { D with nx:=u D } σ H
theorem Jt:Er X [] Sn:=λ_ _ σ H _ I h=>wpAny_execs_nil ⟨σ,H,I,h⟩
theorem Eu(h1:PS X st t)(h2:Er X rest u):Er X (st::rest) (Xb t u):=by
 intro pins s σ H D I h;refine wpAny_execs_cons (bK (h1 pins s σ H { D with nx:=u D } I h) λf s1 q=>?_);cases f with
 |next=>obtain⟨σ',H',I',q⟩:=q;exact h2 pins s1 σ' H' D I' q
 |ret v=>exact q
 |brk=>exact q
 |cont=>exact q
theorem Ju(h1:PS X st t):Er X [st] t:=by
 intro pins s σ H D I h;refine wpAny_execs_cons (bK (h1 pins s σ H D I h) λf s1 q=>?_);cases f with
 |next=>exact wpAny_execs_nil q
 |ret v=>exact q
 |brk=>exact q
 |cont=>exact q
theorem Inv.quiet{pins:List (aed×Obj)}(I:Inv X pins σ H s):interactive X.env=false:=by simp[interactive,I.ok.kind]
def So(te:TE):TS:=λD σ H=>te σ H λ_ H1=>D.nx σ H1
theorem Jv(he:PE X e te)(hs:swapsWith e none pos.line X.env=pure false:=by rfl):PS X (.Expr e pos) (So te):=by intro pins s σ H D I h;exact wpAny_Expr_any (bK (he pins s σ H _ I h) λv s1 ⟨x,H1,I1,r1,q1⟩=>⟨σ,H1,I1,q1⟩) I.quiet hs
def Xd(te:TE):TS:=λD σ H=>te σ H D.rt
theorem NM(he:PE X e te):PS X (.Return (some e) pos) (Xd te):=by intro pins s σ H D I h;exact wpAny_Return_some (bK (he pins s σ H _ I h) λv s1 ⟨x,H1,I1,r1,q1⟩=>⟨x,σ,H1,I1,r1,q1⟩)
def Sq:TS:=λD _ H=>D.rt .non H
theorem Jw:PS X (.Return none pos) Sq:=λ_ _ σ H _ I h=>wpAny_Return_none ⟨.non,σ,H,I,rfl,h⟩
def Xe(c:TT)(t u:TS):TS:=λD σ H=>c σ H λb H1=>if b=true then t D σ H1 else u D σ H1
theorem Sr{a b:List Stmt}{tc:TT}(hc:PT X c tc)(ha:Er X a t)(hb:Er X b u):PS X (.If c a b pos) (Xe tc t u):=by
 intro pins s σ H D I h;refine wpAny_If (bK (hc pins s σ H _ I h) λd s1 ⟨H1,I1,q1⟩=>?_);cases d with
 |true=>exact ha pins s1 σ H1 D I1 q1
 |false=>exact hb pins s1 σ H1 D I1 q1
def Ew:TS:=λ_ _ _=>False
theorem Ex:PS X st Ew:=λ_ _ _ _ _ _ h=>h.elim
theorem CN{sts:List Stmt}:Er X sts Ew:=λ_ _ _ _ _ _ h=>h.elim
end
abbrev TG:=V->St->Hp->(St->Hp->Prop)->Prop
abbrev Mq:=List V->St->Hp->(St->Hp->Prop)->Prop
def PG(X:Cx)(target:Expr)(t:TG):Prop :=
 ∀(pins:List (aed×Obj))(s:aei)(σ:St)(H:Hp)(v:V)(u:aej)(Q:St->Hp->Prop),Inv X pins σ H s->RelV v u->t v σ H Q->
  aew (model X.prog X.w) X.A (assign target X.env u) (λ_ s'=>∃σ' H',Inv X pins σ' H' s'/\Q σ' H') X.xe s
def Ss(X:Cx)(ts:List Expr)(t:Mq):Prop :=
 ∀(pins:List (aed×Obj))(s:aei)(σ:St)(H:Hp)(vs:List V)(us:List aej)(Q:St->Hp->Prop),Inv X pins σ H s->Vals vs us->t vs σ H Q->
  aew (model X.prog X.w) X.A (assignInOrder ((assignEach ts X.env).map (·.2)) us) (λ_ s'=>∃σ' H',Inv X pins σ' H' s'/\Q σ' H') X.xe s
abbrev Jx:=V->V->V->Hp->(Hp->Prop)->Prop
def Su(X:Cx)(t:Jx):Prop :=
 ∀(pins:List (aed×Obj))(s:aei)(σ:St)(H:Hp)(o i v:V)(ov iv u:aej)(Q:Hp->Prop),Inv X pins σ H s->RelV o ov->RelV i iv->RelV v u->t o i v H Q->
  aew (model X.prog X.w) X.A (setItem ov iv u) (λ_ s'=>∃H',Inv X pins σ H' s'/\Q H') X.xe s
variable{g:TG}{e tg:Expr}{es:List Expr}{k n:Nat}{te:TE}
section
variable {X:Cx}{pos:Pos}
def xn(i:Nat):TG:=λv σ H Q=>Q (σ.set i (some v)) H
theorem nA(hN:X.N.Nodup)(hi:X.N[i]? =some x)(hx:Loc X.env.scope x)(hf:X.fn x=true\/X.env.scope.names.lookup x=some .local:=by first |exact .inl rfl |exact .inr rfl |assumption):PG X (.Name x pos) (xn i):=by intro pins s σ H v u Q I r h;exact wpAny_assign_Name (rf I hN hi hx r (λs' I'=>⟨_,H,I',h⟩) hf)
def aj:Mq:=λvs σ H Q=>vs=[]/\Q σ H
def aa(t:TG)(u:Mq):Mq:=λvs σ H Q=>∃v r,vs=v::r/\t v σ H λσ' H'=>u r σ' H' Q
theorem Jy:Ss X [] aj:=by intro pins s σ H vs us Q I r h;obtain⟨e,h⟩:=h;subst e;cases r;exact assignInOrder_nil ⟨σ,H,I,h⟩
theorem Ey{t:TG}{u:Mq}(h1:PG X e t)(h2:Ss X es u)
  (hs:(assignEach (e::es) X.env).map (·.2)=assign e X.env::(assignEach es X.env).map (·.2):=by rfl):Ss X (e::es) (aa t u):=by
 intro pins s σ H vs us Q I r h;obtain⟨v,vr,e1,h⟩:=h;subst e1;cases r with
 |cons r rr=>rw[hs];refine assignInOrder_cons (bK (h1 pins s σ H _ _ _ I r h) λ_ s1 ⟨σ1,H1,I1,q1⟩=>?_);exact h2 pins s1 σ1 H1 _ _ Q I1 rr q1
def cT(K:PySem.W.Frag)(n:Nat)(t:Mq):TG:=λv σ H Q=>∃a xs,v= .ref a/\fM K H a xs/\xs.length=n/\t xs σ H Q
theorem NN{t:Mq}(hc:X.calm=true)(h:Ss X es t)
  (hn:(assignEach es X.env).length=n:=by rfl)(hst:(assignEach es X.env).findIdx? (·.1)=none:=by rfl):PG X (.Tuple es k pos) (cT X.K n t):=by
 intro pins s σ H v u Q I r hw;obtain⟨a,xs,e1,hq,hl,hw⟩:=hw;subst e1;cases r;obtain⟨its,rv,ht,hz⟩:=I.tuple hq;refine assign_Tuple_tuple (I.ok.hd hc) ht (by simp[hn,<-hl,rv.length]) hst λh' hx=>?_;have I1:Inv X pins σ H { s with heap:=h' }:=I.kept (t':=s.toks) λb o e=>hx b o (bU (a7 e)) e;exact h pins _ σ H xs _ Q I1 (by simpa using rv) hw
def Xf(to ti:TE)(t:Jx):TG:=λv σ H Q=>to σ H λo H1=>ti σ H1 λi H2=>t o i v H2 λH3=>Q σ H3
theorem NO{o i:Expr}{to ti:TE}{t:Jx}(ho:PE X o to)(hi:PE X i ti)(hs:Su X t)
  (ha:∀v,assign (.Subscript o i pos) X.env v=(do
   let ov <-holding [v] (eval o X.env)
   let iv <-holding [v,ov] (eval i X.env)
   standAt pos
   holding [v,ov,iv] (setItem ov iv v)
   release [v,ov,iv] []):=by intro _;rfl):PG X (.Subscript o i pos) (Xf to ti t):=by
 intro pins s σ H v u Q I r h;rw[ha];refine aex (aez (bK (ho pins s σ H _ I h) λov s1 ⟨x,H1,I1,r1,q1⟩=>?_));refine aex (aez (bK (hi pins s1 σ H1 _ I1 q1) λiv s2 ⟨y,H2,I2,r2,q2⟩=>?_));refine aex (wpAny_standAt (aex (aez (bK (hs pins s2 σ H2 x y v ov iv u _ I2 r1 r2 r q2) λ_ s3 ⟨H3,I3,q3⟩=>?_))));exact wpAny_release ⟨σ,H3,I3,q3⟩
def Sv(te:TE)(g:TG):TS:=λD σ H=>te σ H λx H1=>g x σ H1 D.nx
theorem Ez(he:PE X e te)(hg:PG X tg g)(hs:swapsWithSole [tg] e pos.line X.env=pure false:=by rfl)(hw:swappedStores [tg] e X.env=pure none:=by rfl)
  (h1:(assignEach [tg] X.env).map (·.2)=[assign tg X.env]:=by rfl):PS X (.Assign [tg] e pos) (Sv te g):=by
 intro pins s σ H D I h;refine wpAny_Assign_stores (bK (he pins s σ H _ I h) λv s1 ⟨x,H1,I1,r1,q1⟩=>?_) hs hw;rw[h1];exact bK (hg pins s1 σ H1 x v _ I1 r1 q1) λ_ s2 q=>q
theorem NP{pos':Pos}(hN:X.N.Nodup)(hi:X.N[i]? =some x)(hx:Loc X.env.scope x)(he:PE X e te)(hs:swapsWith e (some (.Name x pos')) pos.line X.env=pure false:=by rfl)(hf:X.fn x=true\/X.env.scope.names.lookup x=some .local:=by first |exact .inl rfl |exact .inr rfl |assumption):
  PS X (.Assign [.Name x pos'] e pos) (Sv te (xn i)):=by
 intro pins s σ H D I h;refine wpAny_Assign_Name (bK (he pins s σ H _ I h) λv s1 ⟨y,H1,I1,r1,q1⟩=>?_) hs;exact rf I1 hN hi hx r1 (λs2 I2=>⟨_,H1,I2,q1⟩) hf
end
structure It where
 go:Nat->Hp->Prop
 Ed:Nat->Hp->V->Hp->Prop
 stop:Nat->Hp->Prop
def iL(X:Cx)(pins:List (aed×Obj))(H:Hp)(b:aed):Prop :=
 H b=none/\b≠X.env.locals/\b∉X.fs/\(b∈X.ex\/X.s₀.heap.objs.size<=b)/\(∀x c,X.env.cells.lookup x=some c->c≠b)/\∀p∈X.pn++pins,p.1≠b
theorem Inv.EA{X:Cx}{pins:List (aed×Obj)}{H':Hp}(I:Inv X pins σ H s)(hb:s.heap.objs.size<=b)(hn:H' b=none):iL X pins H' b:=by
 refine⟨hn,qF (bT I.lt hb),I.W6 hb,.inr (aV I.sz hb),λx c e z=>?_,λp hp z=>?_⟩
 ·obtain⟨v,q⟩:=I.cell x c e;exact absurd (bT q.lt (by rw[z];exact hb)) (fg _)
 ·exact absurd (bT (a7 (I.pin p hp).1) (by rw[z];exact hb)) (fg _)
structure Turn(P:aeh)(w:aek)(K:PySem.W.Frag)(tg:Expr)(J:It)(fp:List aed)(it:aed)(tn:Nat->Heap->Prop):Prop where
 mem:it∈fp
 obj:∀i h,tn i h->∀b∈fp,∃o,h.get? b=some o/\∀v,o.data≠.cell v
 keep:∀i h h',tn i h->(∀b∈fp,∀o,h.get? b=some o->h'.get? b=some o)->tn i h'
 item:∀(X:Cx),X.prog=P->X.w=w->X.K=K->X.calm=true->∀(i:Nat)(pins:List (aed×Obj))(s:aei)(σ:St)(H:Hp)(E:aej->aei->Prop),Inv X pins σ H s->(∀b∈fp,iL X pins H b)->tn i s.heap->J.go i H->
  aew (model P w) X.A (pyNext (.ref it)) (λr s1=>∃u,r=some u/\
   aew (model P w) X.A (letOwnedTupleGo tg (.ref it) u) (λ_ s2=>∃x H',Inv X pins σ H' s2/\RelV x u/\J.Ed i H x H'/\tn (i+1) s2.heap/\∀b∈fp,H' b=none) E s1) E s
 done:∀(X:Cx),X.prog=P->X.w=w->X.K=K->X.calm=true->∀(i:Nat)(pins:List (aed×Obj))(s:aei)(σ:St)(H:Hp)(E:aej->aei->Prop),Inv X pins σ H s->(∀b∈fp,iL X pins H b)->tn i s.heap->J.stop i H->
  aew (model P w) X.A (pyNext (.ref it)) (λr s1=>r=none/\Inv X pins σ H s1) E s
 self:∀(A:aee)(i:Nat)(s:aei)(Q:aej->aei->Prop)(E:aej->aei->Prop),tn i s.heap->Q (.ref it) s->aew (model P w) A (pyIter (.ref it)) Q E s
abbrev TI:=St->Hp->(It->Hp->Prop)->Prop
def ZV(X:Cx)(pins:List (aed×Obj))(σ:St)(tg:Expr)(R:It->Hp->Prop)(itv:aej)(s2:aei):Prop :=
 ∃(it:aed)(fp:List aed)(tn:Nat->Heap->Prop)(J:It)(H':Hp),itv= .ref it/\Inv X pins σ H' s2/\Turn X.prog X.w X.K tg J fp it tn/\tn 0 s2.heap/\(∀b∈fp,iL X pins H' b)/\R J H'
def PI(X:Cx)(tg iter:Expr)(wi:TI):Prop :=
 ∀(pins:List (aed×Obj))(s:aei)(σ:St)(H:Hp)(R:It->Hp->Prop),Inv X pins σ H s->wi σ H R->
  aew (model X.prog X.w) X.A (eval iter X.env) (λv s1=>aew (model X.prog X.w) X.A (pyIter v) (ZV X pins σ tg R) X.xe s1) X.xe s
theorem uh{n:String}{vs:Array aej}{Q:Unit->aei->Prop}(ho:s.heap.get? it=some o)(hc:o.cls= .type n)(hd:o.data= .fields vs)
    (hn:["enumerate","zip","dict_itemiterator","dict_reverseitemiterator","odict_iterator","itertools.zip_longest","itertools.pairwise"].contains n=false)(hQ:Q () s):aew M A (letOwnedTupleGo tg (.ref it) u) Q E s:=by
  unfold letOwnedTupleGo;cases tg<;>first
    |exact aeC hQ
    | (cases u<;>first
        |exact aeC hQ
        | (refine aex (wpAny_load ho ?_)
           rw[hc,hd];show aew M A (if(["enumerate","zip","dict_itemiterator","dict_reverseitemiterator","odict_iterator","itertools.zip_longest","itertools.pairwise"].contains n&&vs[0]? == some (rawInt _))=true then _ else _) Q E s;rw[if_neg (by intro h;rw[hn,vn]at h;cases h)];exact aeC hQ))
def ZW(K:PySem.W.Frag)(a:aed):It :=
 ⟨λi H=>∃xs x,mO K H a xs/\xs[i]? =some x,λi H x H'=>H'=H/\∀xs,mO K H a xs->xs[i]? =some x,λi H=>∃xs,mO K H a xs/\xs.length<=i⟩
def ZX(K:PySem.W.Frag)(a:aed):It :=
 ⟨λi H=>∃xs x,fM K H a xs/\xs[i]? =some x,λi H x H'=>H'=H/\∀xs,fM K H a xs->xs[i]? =some x,λi H=>∃xs,fM K H a xs/\xs.length<=i⟩
def Mr(lo:Int)(n:Nat):It:=⟨λi _=>i < n,λi H x H'=>H'=H/\x= .int (lo+i),λi _=>n<=i⟩
theorem CO(a it:aed):Turn P w K tg (ZW K a) [it] it (λi h=>h.IsListIter it a i) where
 mem:=by simp
 obj:=λi h st b hb=>by
  have e:b=it:=by simpa using hb
  subst e;obtain⟨o,e,c,d⟩:=st;exact⟨o,e,λv z=>by rw[d]at z;cases z⟩
 keep:=λi h h' st k=>st.at λo e=>k it (by simp) o e
 item:=by intro X hP hw hK hc i pins s σ H E I hf st hg;subst hP hw hK;obtain⟨xs,x,hq,hx⟩:=hg;obtain⟨its,rv,p,hz⟩:=I.list hq;obtain⟨u,hu,ru⟩:=rv.get hx;obtain⟨f0,f1,f2,f3,f4,f5⟩:=hf it (by simp);refine wpAny_pyNext_list_item st p.isList (x:=u) (by simpa using hu) λh' st' sb=>?_;have I1:Inv X pins σ H { s with heap:=h' }:=I.turned (t':=s.toks) (λb o hb e=>(sb.2 b hb).trans e) f0 f1 f3 f4 f5;obtain⟨o,e,c,d⟩:=id st';exact⟨u,rfl,uh (s:={ s with heap:=h' }) e c d (by decide) ⟨x,H,I1,ru,⟨rfl,λys hy=>by rw[I.Et hy hq];exact hx⟩,st',λb hb=>(hf b hb).1⟩⟩
 done:=by intro X hP hw hK hc i pins s σ H E I hf st hg;subst hP hw hK;obtain⟨xs,hq,hx⟩:=hg;obtain⟨its,rv,p,hz⟩:=I.list hq;obtain⟨f0,f1,f2,f3,f4,f5⟩:=hf it (by simp);have hl:=rv.length;exact wpAny_pyNext_list_end (I.ok.hd hc) st p.isList (by simp;omega) λh' eb=>⟨rfl,I.turned (t':=s.toks) (λb o hb e=>eb b o hb e) f0 f1 f3 f4 f5⟩
 self:=λ_ _ _ _ _ st h=>wpAny_pyIter_listiter st h
theorem zf(a it:aed):Turn P w K tg (ZX K a) [it] it (λi h=>h.IsTupleIter it a i) where
 mem:=by simp
 obj:=λi h st b hb=>by
  have e:b=it:=by simpa using hb
  subst e;obtain⟨o,e,c,d⟩:=st;exact⟨o,e,λv z=>by rw[d]at z;cases z⟩
 keep:=λi h h' st k=>st.at λo e=>k it (by simp) o e
 item:=by intro X hP hw hK hc i pins s σ H E I hf st hg;subst hP hw hK;obtain⟨xs,x,hq,hx⟩:=hg;obtain⟨its,rv,p,hz⟩:=I.tuple hq;obtain⟨u,hu,ru⟩:=rv.get hx;obtain⟨f0,f1,f2,f3,f4,f5⟩:=hf it (by simp);refine wpAny_pyNext_tuple_item st (show s.heap.IsTuple a its.toArray from p) (x:=u) (by simpa using hu) λh' st' sb=>?_;have I1:Inv X pins σ H { s with heap:=h' }:=I.turned (t':=s.toks) (λb o hb e=>(sb.2 b hb).trans e) f0 f1 f3 f4 f5;obtain⟨o,e,c,d⟩:=id st';exact⟨u,rfl,uh (s:={ s with heap:=h' }) e c d (by decide) ⟨x,H,I1,ru,⟨rfl,λys hy=>by rw[I.CM hy hq];exact hx⟩,st',λb hb=>(hf b hb).1⟩⟩
 done:=by intro X hP hw hK hc i pins s σ H E I hf st hg;subst hP hw hK;obtain⟨xs,hq,hx⟩:=hg;obtain⟨its,rv,p,hz⟩:=I.tuple hq;obtain⟨f0,f1,f2,f3,f4,f5⟩:=hf it (by simp);have hl:=rv.length;exact wpAny_pyNext_tuple_end (I.ok.hd hc) st (show s.heap.IsTuple a its.toArray from p) (by simp;omega) λh' eb=>⟨rfl,I.turned (t':=s.toks) (λb o hb e=>eb b o hb e) f0 f1 f3 f4 f5⟩
 self:=λ_ _ _ _ _ st h=>wpAny_pyIter_tupleiter st h
theorem zg(it:aed)(lo:Int)(n:Nat):Turn P w K tg (Mr lo n) [it] it (λi h=>IsRangeIter h it (lo+(i:Nat) * 1) ((n:Int) - (i:Nat)) 1) where
 mem:=by simp
 obj:=λi h st b hb=>by
  have e:b=it:=by simpa using hb
  subst e;exact⟨_,st,λv z=>by have z':Data.fields _=Data.cell v:=z;cases z'⟩
 keep:=λi h h' st k=>k it (by simp) _ st
 item:=by intro X hP hw hK hc i pins s σ H E I hf st hg;subst hP hw hK;obtain⟨f0,f1,f2,f3,f4,f5⟩:=hf it (by simp);have W:=Walks.range (prog:=X.prog) (w:=X.w) (I.ok.hd hc) it lo 1 n;refine W.item i s _ _ hg st λv h' tk hv st' kk=>?_;obtain⟨t,rfl⟩:=hv;have I1:Inv X pins σ H { s with heap:=h',toks:=tk }:=I.turned (λb o hb e=>kk b o (by simpa using hb) e) f0 f1 f3 f4 f5;refine⟨_,rfl,uh (s:={ s with heap:=h',toks:=tk }) (n:="range_iterator") st' rfl rfl (by decide) ⟨.int (lo+i),H,I1,⟨t,?_⟩,⟨rfl,rfl⟩,st',λb hb=>(hf b hb).1⟩⟩;rw[Int.mul_one]
 done:=by intro X hP hw hK hc i pins s σ H E I hf st hg;subst hP hw hK;obtain⟨f0,f1,f2,f3,f4,f5⟩:=hf it (by simp);exact wpAny_pyNext_range_end (I.ok.hd hc) st (by have:n<=i:=hg;omega) λh' eb=>⟨rfl,I.turned (t':=s.toks) (λb o hb e=>eb b o hb e) f0 f1 f3 f4 f5⟩
 self:=λ_ _ _ _ _ st h=>wpAny_pyIter_rangeiter st h
variable{a:Expr}{ta:TA}{fp:List aed}{body:List Stmt}
section
variable {X:Cx}{tg:Expr}
theorem xo{pins:List (aed×Obj)}{R:It->Hp->Prop}{lo hi:Int}{t u v:Tok}{tk:Nat}(I:Inv X pins σ H s)(h1:-(2 ^ 62)<=lo)(h2:lo < 2 ^ 62)(h3:-(2 ^ 62)<=hi)(h4:hi < 2 ^ 62)
  (q:R (Mr lo (hi - lo).toNat) H):aew (model X.prog X.w) X.A (pyIter (.ref s.heap.objs.size)) (ZV X pins σ tg R) E { s with heap:=s.heap.push { cls:=.type "range",data:=.fields #[.int lo t,.int hi u,.int 1 v] },toks:=tk }:=by
 refine wpAny_pyIter_range (IsRange.new ..) (small_one h1 h2 h3 h4) ?_;have I1:Inv X pins σ H { s with heap:=s.heap.push { cls:=.type "range",data:=.fields #[.int lo t,.int hi u,.int 1 v] },toks:=tk }:=I.kept λb o e=>bt _ e;refine⟨(s.heap.push { cls:=.type "range",data:=.fields #[.int lo t,.int hi u,.int 1 v] }).objs.size,[(s.heap.push { cls:=.type "range",data:=.fields #[.int lo t,.int hi u,.int 1 v] }).objs.size],_,_,H,rfl,
  I1.kept (t':=tk) λb o e=>bt _ e,zg _ lo (hi - lo).toNat,?_,λb hb=>?_,q⟩
 ·have e1:lo+((0:Nat):Int) * 1=lo:=by simp
  have e2:(((hi - lo).toNat:Nat):Int) - ((0:Nat):Int)=vo lo hi 1:=by rw[rangeSize_one];split<;>omega
  show IsRangeIter _ _ (lo+((0:Nat):Int) * 1) ((((hi - lo).toNat:Nat):Int) - ((0:Nat):Int)) 1;rw[e1,e2];exact cj _ rfl
 ·have e:b=(s.heap.push { cls:=.type "range",data:=.fields #[.int lo t,.int hi u,.int 1 v] }).objs.size:=by simpa using hb
  subst e;exact I1.EA (aE _) (I1.hok.fresh (aE _))
def Sw(ta:TA):TI:=λσ H R=>ta σ H λvs H1=>∃j:Int,vs=[.int j]/\-(2 ^ 62)<=j/\j < 2 ^ 62/\R (Mr 0 j.toNat) H1
def Sx(ta:TA):TI:=λσ H R=>ta σ H λvs H1=>∃i j:Int,vs=[.int i,.int j]/\(-(2 ^ 62)<=i/\i < 2 ^ 62/\-(2 ^ 62)<=j/\j < 2 ^ 62)/\R (Mr i (j - i).toNat) H1
theorem uj{p:Pos}(hg:Gl X "range")(hm:X.mg "range"=none)(ha:PA X [a] ta)(hs:aev [a] X.env=[(false,eval a X.env)]:=by rfl):PI X tg (.Call (.Name "range" p) [a] [] pos) (Sw ta):=by
 intro pins s σ H R I h;refine Call_ (oN I hg hm boot_range (vp (bK (ha pos pins s σ H _ I h) λus s1 ⟨vs,H1,I1,r1,q1⟩=>?_) hs rfl));obtain⟨j,e,q1,q2,q⟩:=q1;subst e;cases r1 with
 |cons r rr=>cases rr;obtain⟨t,rfl⟩:=r;exact call_range_1 (xo I1 (by omega) (by omega) q1 q2 (by simpa using q))
theorem uk{b:Expr}{p:Pos}(hg:Gl X "range")(hm:X.mg "range"=none)(ha:PA X [a,b] ta)(hs:aev [a,b] X.env=[(false,eval a X.env),(false,eval b X.env)]:=by rfl)(hs2:aev [b] X.env=[(false,eval b X.env)]:=by rfl):
  PI X tg (.Call (.Name "range" p) [a,b] [] pos) (Sx ta):=by
 intro pins s σ H R I h;refine Call_ (oN I hg hm boot_range (vp (bK (ha pos pins s σ H _ I h) λus s1 ⟨vs,H1,I1,r1,q1⟩=>?_) (by rw[hs,hs2]) (by rw[hs2];rfl)));obtain⟨i,j,e,⟨q1,q2,q3,q4⟩,q⟩:=q1;subst e;cases r1 with
 |cons r rr=>
  cases rr with
  |cons r' rr=>cases rr;obtain⟨t,rfl⟩:=r;obtain⟨t',rfl⟩:=r';exact call_range_2 (xo I1 q1 q2 q3 q4 q)
def Xg(wi:TI)(g:TG)(tb:TS):TS:=λD σ H=>wi σ H λJ H1=>∃W:Nat->Nat->St->Hp->Prop,(∃m,W 0 m σ H1)/\∀i m σ H,W i m σ H->
 (J.stop i H/\D.nx σ H)\/(J.go i H/\∃N:St->Hp->Prop,(∀σ' H',N σ' H'->∃m',m' < m/\W (i+1) m' σ' H')/\∀x H',J.Ed i H x H'->g x σ H' λσ2 H2=>tb { D with nx:=N,ct:=N,bk:=D.nx } σ2 H2)
def iw(fp:List aed)(h:Heap):List (aed×Obj):=fp.filterMap λb=>(h.get? b).map λo=>(b,o)
theorem jF(hb:b∈fp)(e:h.get? b=some o):(b,o)∈iw fp h:=List.mem_filterMap.mpr ⟨b,hb,by rw[e];rfl⟩
theorem CP(hp:p∈iw fp h):p.1∈fp/\h.get? p.1=some p.2:=by
 obtain⟨b,hb,e⟩:=List.mem_filterMap.mp hp;cases q:h.get? b with
 |none=>rw[q]at e;cases e
 |some o=>rw[q]at e;have e':(b,o)=p:=Option.some.inj e;subst e';exact⟨hb,q⟩
theorem Inv.pinned{pins:List (aed×Obj)}(I:Inv X pins σ H s)(hf:∀b∈fp,iL X pins H b)(ho:∀b∈fp,∃o,s.heap.get? b=some o/\∀v,o.data≠.cell v):Inv X (pins++iw fp s.heap) σ H s :=
 I.A8 λp hp=>(List.mem_append.mp hp).elim (λz=>I.pin p (hU _ z)) λz=>by obtain⟨hb,e⟩:=CP z;obtain⟨f0,f1,f2,_⟩:=hf p.1 hb;obtain⟨o,e',d⟩:=ho p.1 hb;rw[e]at e';cases e';exact⟨e,f0,f1,f2,d⟩
theorem Inv.nB{pins pl:List (aed×Obj)}(I:Inv X (pins++pl) σ H s):Inv X pins σ H s:=I.A8 λp hp=>I.pin p (hU _ (A_ _ hp))
theorem vq{iter:Expr}{wi:TI}{tb:TS}(hp:PassesOwn (model X.prog X.w) X.A X.env X.xe)(hc:X.calm=true)(hi:PI X tg iter wi)(hg:PG X tg g)(hb:Er X body tb)
  (hs:∀x,aer iter X.env x=pure x:=by intro _;rfl):PS X (.For tg iter body [] pos) (Xg wi g tb):=by
 intro pins s σ H D I h;refine wpAny_For (bK (hi pins s σ H _ I h) λv s1 h1=>bK h1 λitv s2 h2=>?_) hs;obtain⟨it,fp,tn,J,H2,e,I2,T,st2,f2,W,⟨m0,w0⟩,turn⟩:=h2;subst e
 -- what stays true of the NQ objects through the loop
 have NR:∀{H':Hp},(∀b∈fp,H' b=none)->∀b∈fp,iL X pins H' b:=λhn b hb=>⟨hn b hb,(f2 b hb).2⟩;refine codeAny_forLoop_any (λn s'=>∃i σ' H',Inv X pins σ' H' s'/\tn i s'.heap/\(∀b∈fp,H' b=none)/\W i n σ' H') ?_ m0 ⟨0,σ,H2,I2,st2,λb hb=>(f2 b hb).1,w0⟩;rintro n s3 ⟨i,σ3,H3,I3,st3,ZY,w3⟩;rcases turn i n σ3 H3 w3 with ⟨stop,qn⟩ |⟨go,N,hN,step⟩
 ·refine wpAny_passesOwn hp (bK (T.done X rfl rfl rfl hc i pins s3 σ3 H3 X.xe I3 (NR ZY) st3 stop) λr s4 ⟨hr,I4⟩=>?_);subst hr;exact wpAny_execs_nil ⟨σ3,H3,I4,qn⟩
 ·refine wpAny_passesOwn hp (bK (T.item X rfl rfl rfl hc i pins s3 σ3 H3 X.xe I3 (NR ZY) st3 go) λr s4 ⟨u,hr,h4⟩=>?_);subst hr;refine wpAny_passesOwn hp (bK h4 λ_ s5 ⟨x,H5,I5,r5,y5,EB,VP⟩=>?_);have I5':=I5.pinned (NR VP) (T.obj _ _ EB);refine wpAny_passesOwn hp (bK (hg _ s5 σ3 H5 x u _ I5' r5 (step x H5 y5)) λ_ s6 ⟨σ6,H6,I6,q6⟩=>?_);refine wpAny_passesOwn hp (bK (hb _ s6 σ6 H6 _ I6 q6) λf s7 q7=>?_);have again:∀{σ7:St}{H7:Hp},Inv X (pins++iw fp s5.heap) σ7 H7 s7->N σ7 H7->∃m,m < n/\∃i σ' H',Inv X pins σ' H' s7/\tn i s7.heap/\(∀b∈fp,H' b=none)/\W i m σ' H':=λ{σ7 H7} I7 n7=>by obtain⟨m',hm,w7⟩:=hN σ7 H7 n7;refine⟨m',hm,i+1,σ7,H7,I7.nB,T.keep _ _ _ EB λb hb o e=>(I7.pin (b,o) (hU _ (hU _ (jF hb e)))).1,λb hb=>?_,w7⟩;obtain⟨o,e,d⟩:=T.obj _ _ EB b hb;exact(I7.pin (b,o) (hU _ (hU _ (jF hb e)))).2.1
  cases f with
  |next=>obtain⟨σ7,H7,I7,n7⟩:=q7;exact again I7 n7
  |cont=>obtain⟨σ7,H7,I7,n7⟩:=q7;exact again I7 n7
  |brk=>obtain⟨σ7,H7,I7,q7⟩:=q7;exact⟨σ7,H7,I7.nB,q7⟩
  |ret v=>obtain⟨x7,σ7,H7,I7,r7,q7⟩:=q7;exact⟨x7,σ7,H7,I7.nB,r7,q7⟩
end
abbrev R2:=V->V->Hp->VK->Prop
def fh(X:Cx)(f:aej->aej->Sem aej)(r:R2):Prop :=
 ∀(pins:List (aed×Obj))(s:aei)(σ:St)(H:Hp)(x y:V)(v u:aej)(Q:VK),Inv X pins σ H s->RelV x v->RelV y u->r x y H Q->
  aew (model X.prog X.w) X.A (f v u) (EP X pins σ Q) X.xe s
def Xh(X:Cx)(f:aej->Sem aej)(r:V->Hp->VK->Prop):Prop :=
 ∀(pins:List (aed×Obj))(s:aei)(σ:St)(H:Hp)(x:V)(v:aej)(Q:VK),Inv X pins σ H s->RelV x v->r x H Q->
  aew (model X.prog X.w) X.A (f v) (EP X pins σ Q) X.xe s
def dJ(X:Cx)(f:aej)(r:List V->Hp->VK->Prop):Prop :=
 ∀(pins:List (aed×Obj))(s:aei)(σ:St)(H:Hp)(xs:List V)(us:List aej)(Q:VK),Inv X pins σ H s->Vals xs us->r xs H Q->
  aew (model X.prog X.w) X.A (call f us) (EP X pins σ Q) X.xe s
def Xi(X:Cx)(r:V->Hp->(Bool->Hp->Prop)->Prop):Prop :=
 ∀(pins:List (aed×Obj))(s:aei)(σ:St)(H:Hp)(x:V)(v:aej)(Q:Bool->Hp->Prop),Inv X pins σ H s->RelV x v->r x H Q->
  aew (model X.prog X.w) X.A (truthy v) (TP X pins σ Q) X.xe s
def Sy(r:R2)(ta tb:TE):TE:=λσ H Q=>ta σ H λx H1=>tb σ H1 λy H2=>r x y H2 Q
def tUn(r:V->Hp->VK->Prop)(ta:TE):TE:=λσ H Q=>ta σ H λx H1=>r x H1 Q
def rI(C:Int->Int->Prop)(g:Int->Int->V):R2:=λx y H Q=>∃i j,x= .int i/\y= .int j/\C i j/\Q (g i j) H
def NT(g:Int->Int->V):R2:=λx y H Q=>∃i j,x= .int i/\y= .int j/\Q (g i j) H
def rU(g:Int->V):V->Hp->VK->Prop:=λx H Q=>∃i,x= .int i/\Q (g i) H
variable{g:Int->Int->Int}{f:aej->aej->Sem aej}{r:R2}
section
variable {X:Cx}{a b c:Expr}{ta tb tc:TE}{pos:Pos}
theorem NU(ha:PE X a ta)(hb:PE X b tb){pins:List (aed×Obj)}{R:V->V->Hp->Prop}(I:Inv X pins σ H s)
  (h:ta σ H λx H1=>tb σ H1 λy H2=>R x y H2)
  (hf:∀v u s2 x y H2,Inv X pins σ H2 s2->RelV x v->RelV y u->R x y H2->aew (model X.prog X.w) X.A (f v u) Q X.xe s2):
  aew (model X.prog X.w) X.A (eval a X.env) (λv s₁=>aew (model X.prog X.w) X.A (eval b X.env) (λu s₂=>aew (model X.prog X.w) X.A (f v u) Q X.xe s₂) X.xe s₁) X.xe s:=by
 refine bK (ha pins s σ H _ I h) λv s1 ⟨x,H1,I1,r1,q1⟩=>?_;refine bK (hb pins s1 σ H1 _ I1 q1) λu s2 ⟨y,H2,I2,r2,q2⟩=>?_;exact hf v u s2 x y H2 I2 r1 r2 q2
theorem Sz{op:Operator}(ho:fh X (aem op) r)(ha:PE X a ta)(hb:PE X b tb):PE X (.BinOp a op b pos) (Sy r ta tb):=by intro pins s σ H Q I h;exact wpAny_BinOp (NU ha hb I h λv u s2 x y H2 I2 rx ry q=>ho pins s2 σ H2 x y v u Q I2 rx ry q)
theorem SD{op:UnaryOp}{r:V->Hp->VK->Prop}(ho:Xh X (unaryOp op) r)(ha:PE X a ta):PE X (.UnaryOp op a pos) (tUn r ta):=by intro pins s σ H Q I h;exact UnaryOp_ (bK (ha pins s σ H _ I h) λv s1 ⟨x,H1,I1,r1,q1⟩=>ho pins s1 σ H1 x v Q I1 r1 q1)
theorem VQ{C:Int->Int->Prop}
  (rule:∀(i j:Int)(t u:Tok)(s:aei)(Q:aej->aei->Prop)(E:aej->aei->Prop),C i j->Q (.int (g i j) s.toks) { s with toks:=s.toks+1 }->aew (model X.prog X.w) X.A (f (.int i t) (.int j u)) Q E s):
  fh X f (rI C λi j=> .int (g i j)):=by
 intro pins s σ H x y v u Q I rx ry h;obtain⟨i,j,rfl,rfl,hc,q⟩:=h;obtain⟨t,rfl⟩:=rx;obtain⟨t',rfl⟩:=ry;exact rule i j t t' s _ _ hc ⟨.int (g i j),H,I.tok _,⟨_,rfl⟩,q⟩
theorem SF
  (rule:∀(i j:Int)(t u:Tok)(s:aei)(Q:aej->aei->Prop)(E:aej->aei->Prop),Q (.int (g i j) s.toks) { s with toks:=s.toks+1 }->aew (model X.prog X.w) X.A (f (.int i t) (.int j u)) Q E s):
  fh X f (NT λi j=> .int (g i j)):=by
 intro pins s σ H x y v u Q I rx ry h;obtain⟨i,j,rfl,rfl,q⟩:=h;obtain⟨t,rfl⟩:=rx;obtain⟨t',rfl⟩:=ry;exact rule i j t t' s _ _ ⟨.int (g i j),H,I.tok _,⟨_,rfl⟩,q⟩
theorem NV{g:Int->Int->Bool}
  (rule:∀(i j:Int)(t u:Tok)(s:aei)(Q:aej->aei->Prop)(E:aej->aei->Prop),Q (.bool (g i j)) s->aew (model X.prog X.w) X.A (f (.int i t) (.int j u)) Q E s):
  fh X f (NT λi j=> .bl (g i j)):=by
 intro pins s σ H x y v u Q I rx ry h;obtain⟨i,j,rfl,rfl,q⟩:=h;obtain⟨t,rfl⟩:=rx;obtain⟨t',rfl⟩:=ry;exact rule i j t t' s _ _ ⟨.bl (g i j),H,I,rfl,q⟩
def Xj(i j:Int):Prop:=0<=j/\j<=1000000/\i.natAbs < 2 ^ 64
theorem NW:fh X (aem .Add) (NT λi j=> .int (i+j)):=SF λ_ _ _ _ _ _ _ q=>add_int q
theorem NX:fh X (aem .Sub) (NT λi j=> .int (i - j)):=SF λ_ _ _ _ _ _ _ q=>sub_int q
theorem NY:fh X (aem .Pow) (rI Xj λi j=> .int (i ^ j.toNat)):=VQ λ_ _ _ _ _ _ _ hc q=>pow_int_small hc.1 hc.2.1 hc.2.2 q
theorem unI{f:aej->Sem aej}{g:Int->Int}
  (rule:∀(i:Int)(t:Tok)(s:aei)(Q:aej->aei->Prop)(E:aej->aei->Prop),Q (.int (g i) s.toks) { s with toks:=s.toks+1 }->aew (model X.prog X.w) X.A (f (.int i t)) Q E s):
  Xh X f (rU λi=> .int (g i)):=by
 intro pins s σ H x v Q I rx h;obtain⟨i,rfl,q⟩:=h;obtain⟨t,rfl⟩:=rx;exact rule i t s _ _ ⟨.int (g i),H,I.tok _,⟨_,rfl⟩,q⟩
theorem NZ:Xh X (unaryOp .USub) (rU λi=> .int (-i)):=unI λ_ _ _ _ _ q=>neg_int q
end
variable{op op':CmpOp}
section
variable {X:Cx}{a b c:Expr}{ta tb tc:TE}{pos:Pos}
theorem vw{pins:List (aed×Obj)}{Q:VK}{k k':Bool}(I:Inv X pins σ H s)(q:Q (.bl k) H)(e:k=k'):EP X pins σ Q (.bool k') s:=by subst e;exact⟨.bl k,H,I,rfl,q⟩
theorem SG:fh X (aeq .Lt) (NT λi j=> .bl (decide (i < j))):=NV λ_ _ _ _ _ _ _ q=>lt_int q
theorem SH:fh X (aeq .LtE) (NT λi j=> .bl (decide (i<=j))):=NV λ_ _ _ _ _ _ _ q=>le_int q
theorem SI:fh X (aeq .Gt) (NT λi j=> .bl (decide (j < i))):=NV λ_ _ _ _ _ _ _ q=>gt_int q
theorem CQ:fh X (aeq .Lt) (λx y H Q=>∃i j,x= .str i/\y= .str j/\Q (.bl (decide (i.cps.toList < j.cps.toList))) H):=by intro pins s σ H x y v u Q I rx ry h;obtain⟨i,j,rfl,rfl,q⟩:=h;obtain⟨t,rfl⟩:=rx;obtain⟨t',rfl⟩:=ry;exact lt_str (vw I q rfl)
theorem CT:fh X (aeq .In) (λx y H Q=>∃i j,x= .str i/\y= .str j/\Q (.bl (!(N0 j i 0 j.length 1).isEmpty)) H):=by intro pins s σ H x y v u Q I rx ry h;obtain⟨i,j,rfl,rfl,q⟩:=h;obtain⟨t,rfl⟩:=rx;obtain⟨t',rfl⟩:=ry;exact in_str (vw I q rfl)
theorem N1:fh X (aeq .Is) (λx y H Q=>y= .non/\Q (.bl (decide (x= .non))) H):=by
 intro pins s σ H x y v u Q I rx ry h;obtain⟨rfl,q⟩:=h;cases ry;refine is_none_gen (vw I q ?_);cases x<;>first
  |(cases rx;rfl)
  |(obtain⟨t,rfl⟩:=rx;rfl)
theorem Jz:fh X (aeq .IsNot) (λx y H Q=>y= .non/\Q (.bl (!decide (x= .non))) H):=by
 intro pins s σ H x y v u Q I rx ry h;obtain⟨rfl,q⟩:=h;cases ry;refine isnot_none_gen (vw I q ?_);cases x<;>first
  |(cases rx;rfl)
  |(obtain⟨t,rfl⟩:=rx;rfl)
theorem JB(ho:fh X (aeq op) r)(ha:PE X a ta)(hb:PE X b tb)(hm:ael op b=false):PE X (.Compare a [op] [b] pos) (Sy r ta tb):=by intro pins s σ H Q I h;exact wpAny_Compare1 (NU ha hb I h λv u s2 x y H2 I2 rx ry q=>ho pins s2 σ H2 x y v u Q I2 rx ry q) hm
def Ms(t:TE):TT:=λσ H Q=>t σ H λx H'=>∃k,x= .bl k/\Q k H'
theorem JC(ho:fh X (aeq op) r)(ha:PE X a ta)(hb:PE X b tb)(hm:ael op b=false):PT X (.Compare a [op] [b] pos) (Ms (Sy r ta tb)):=by
 intro pins s σ H Q I h;refine wpAny_isTrue_Compare1 (bK (ha pins s σ H _ I h) λv s1 ⟨x,H1,I1,r1,q1⟩=>bK (hb pins s1 σ H1 _ I1 q1) λu s2 ⟨y,H2,I2,r2,q2⟩=>
  bK (ho pins s2 σ H2 x y v u _ I2 r1 r2 q2) λc s3 ⟨z,H3,I3,r3,k,e,q3⟩=>?_) hm
 subst e;cases r3;exact aeD ⟨H3,I3,q3⟩
def zh(r r':R2)(ta tb tc:TE):TE:=λσ H Q=>ta σ H λx H1=>tb σ H1 λy H2=>r x y H2 λz H3=>∃k,z= .bl k/\
 (if k=true then tc σ H3 λw' H4=>r' y w' H4 Q else Q (.bl false) H3)
theorem EC{r':R2}(ho:fh X (aeq op) r)(ho':fh X (aeq op') r')(ha:PE X a ta)(hb:PE X b tb)(hc:PE X c tc)
  (hm:lastMarks [op,op'] [b,c]=false:=by with_unfolding_all rfl):PE X (.Compare a [op,op'] [b,c] pos) (zh r r' ta tb tc):=by
 intro pins s σ H Q I h;refine Compare_chain (bK (ha pins s σ H _ I h) λv s1 ⟨x,H1,I1,r1,q1⟩=>chain_link (bK (hb pins s1 σ H1 _ I1 q1) λu s2 ⟨y,H2,I2,r2,q2⟩=>
  bK (ho pins s2 σ H2 x y v u _ I2 r1 r2 q2) λd s3 ⟨z,H3,I3,r3,k,e,q3⟩=>?_)) hm
 subst e;cases r3;refine aeD ?_;cases k with
 |false=>exact ite_ff ⟨.bl false,H3,I3,rfl,q3⟩
 |true=>exact ite_tt (chain_last (bK (hc pins s3 σ H3 _ I3 q3) λw' s4 ⟨z',H4,I4,r4,q4⟩=>ho' pins s4 σ H4 y z' u w' Q I4 r2 r4 q4))
theorem ED{r':R2}(ho:fh X (aeq op) r)(ho':fh X (aeq op') r')(ha:PE X a ta)(hb:PE X b tb)(hc:PE X c tc)
  (hm:lastMarks [op,op'] [b,c]=false:=by with_unfolding_all rfl):PT X (.Compare a [op,op'] [b,c] pos) (Ms (zh r r' ta tb tc)):=by
 intro pins s σ H Q I h;refine isTrue_chain (bK (ha pins s σ H _ I h) λv s1 ⟨x,H1,I1,r1,q1⟩=>test_link (bK (hb pins s1 σ H1 _ I1 q1) λu s2 ⟨y,H2,I2,r2,q2⟩=>
  bK (ho pins s2 σ H2 x y v u _ I2 r1 r2 q2) λd s3 ⟨z,H3,I3,r3,k,e,q3⟩=>?_)) hm
 subst e;cases r3;refine aeD ?_;cases k with
 |false=>obtain⟨k',e',q'⟩:=q3;cases e';exact ite_ff ⟨H3,I3,q'⟩
 |true=>refine ite_tt (test_last (bK (hc pins s3 σ H3 _ I3 q3) λw' s4 ⟨z',H4,I4,r4,q4⟩=>bK (ho' pins s4 σ H4 y z' u w' _ I4 r2 r4 q4) λd' s5 ⟨z2,H5,I5,r5,k2,e2,q5⟩=>?_));subst e2;cases r5;exact aeD ⟨H5,I5,q5⟩
def SJ(K:PySem.W.Frag)(x:V)(H:Hp)(k:Bool):Prop :=
 match x with
 |.non=>k=false
 |.bl b=>k=b
 |.int i=>k=(i != 0)
 |.str y=>y.length<=aeu/\k=((y.length:Int) != 0)
 |.RI y=>y.size<=aeu/\k=((y.size:Int) != 0)
 |.ref p=>(∃xs,mO K H p xs/\k= !xs.isEmpty)\/(∃xs,fM K H p xs/\k= !xs.isEmpty)\/∃kvs,H p=some (.dK kvs)/\k= !kvs.isEmpty
 |_=>False
theorem zi{kvs:List (κ×V)}{vs:List (κ×aej)}(r:KV kvs vs):(!vs.isEmpty)= !kvs.isEmpty:=by cases r<;>rfl
theorem rh{its:List aej}(r:Vals xs its):(!its.toArray.isEmpty)= !xs.isEmpty:=by cases r<;>simp
theorem mP:(aeu:Nat) < 2 ^ 63:=by rw[sizeLine_eq];decide
theorem N2:Xi X (λx H Q=>∃k,SJ X.K x H k/\Q k H):=by
 intro pins s σ H x v Q I rx h;obtain⟨k,e,q⟩:=h;have hl:=mP;have hs:aeu=16777216:=sizeLine_eq;cases x with
 |non=>cases rx;have e':k=false:=e;subst e';exact truthy_none ⟨H,I,q⟩
 |bl b=>cases rx;have e':k=b:=e;subst e';exact aeD ⟨H,I,q⟩
 |int i=>obtain⟨t,rfl⟩:=rx;have e':k=(i != 0):=e;subst e';exact PySem.P.truthy_int ⟨H,I,q⟩
 |str y=>obtain⟨t,rfl⟩:=rx;obtain⟨hy,e'⟩:y.length<=aeu/\k=((y.length:Int) != 0):=e;subst e';exact PySem.P.truthy_str (by omega) ⟨H,I.tok _,q⟩
 |RI y=>obtain⟨t,rfl⟩:=rx;obtain⟨hy,e'⟩:y.size<=aeu/\k=((y.size:Int) != 0):=e;subst e';exact PySem.W.truthy_bytes (by omega) ⟨H,I.tok _,q⟩
 |ref p=>
  cases rx;have e':(∃xs,mO X.K H p xs/\k= !xs.isEmpty)\/(∃xs,fM X.K H p xs/\k= !xs.isEmpty)\/∃kvs,H p=some (.dK kvs)/\k= !kvs.isEmpty:=e;rcases e' with ⟨xs,hx,e'⟩ |⟨xs,hx,e'⟩ |⟨kvs,hx,e'⟩
  ·subst e';obtain⟨its,r,pl,hz⟩:=I.list hx;have hlen:=r.length;exact wpAny_truthy_list pl.isList (by simp only[bc];omega) ⟨H,I.tok _,by rw[rh r];exact q⟩
  ·subst e';obtain⟨its,r,pl,hz⟩:=I.tuple hx;have hlen:=r.length;exact truthy_tuple pl (by simp only[bc];omega) ⟨H,I.tok _,by rw[rh r];exact q⟩
  ·subst e';obtain⟨hz,hS,vs,r,m⟩:kvs.length<=aeu/\(p == sysModules)=false/\∃vs,KV kvs vs/\s.heap.DictOf (bH X.prog X.w) p vs:=I.hok p _ hx;have hlen:kvs.length=vs.length:=Paired.length r;exact wpAny_truthy_dict hS m (by omega) ⟨H,I.tok _,by rw[zi r];exact q⟩
 |_=>exact(show False from e).elim
theorem EE(ha:PE X a ta)(he:∀whole,isTrue a X.env whole=(do let v <-whole;standAt a.pos;holding [v] (truthy v))):
  PT X a (λσ H Q=>ta σ H λx H'=>∃k,SJ X.K x H' k/\Q k H'):=by
 intro pins s σ H Q I h;exact isTrue_plain (bK (ha pins s σ H _ I h) λv s1 ⟨x,H1,I1,r1,q1⟩=>N2 pins s1 σ H1 x v Q I1 r1 q1) (he _)
theorem zj:fh X (aem .Add) (λx y H Q=>∃i j,x= .str i/\y= .str j/\i.length+j.length<=aeu/\Q (.str (i++j)) H):=by intro pins s σ H x y v u Q I rx ry h;obtain⟨i,j,rfl,rfl,hz,q⟩:=h;obtain⟨t,rfl⟩:=rx;obtain⟨t',rfl⟩:=ry;exact add_str (λt' tk=>⟨.str (i++j),H,I.tok _,⟨_,rfl⟩,q⟩) hz
theorem vals1{x:V}(r:Vals [x] us):∃u,us=[u]/\RelV x u:=by
 cases r with
 |cons r1 r2=>cases r2;exact⟨_,rfl,r1⟩
theorem vals2{x:V}(r:Vals [x,y] us):∃u w',us=[u,w']/\RelV x u/\RelV y w':=by
 cases r with
 |cons r1 r2=>
  cases r2 with
  |cons r3 r4=>cases r4;exact⟨_,_,rfl,r1,r3⟩
theorem EF:dJ X (.builtin "abs") (λxs H Q=>∃i,xs=[.int i]/\Q (.int (if i < 0 then -i else i)) H):=by intro pins s σ H xs us Q I r h;obtain⟨i,rfl,q⟩:=h;obtain⟨u,rfl,t,rfl⟩:=vals1 r;exact call_abs_int λu tk=>⟨.int (if i < 0 then -i else i),H,I.tok _,⟨_,rfl⟩,q⟩
theorem CU(hc:X.calm=true):dJ X (.builtin "max") (λxs H Q=>∃i j,xs=[.int i,.int j]/\Q (.int (if j > i then j else i)) H):=by
 intro pins s σ H xs us Q I r h;obtain⟨i,j,rfl,q⟩:=h;obtain⟨u,w',rfl,⟨t,rfl⟩,⟨t',rfl⟩⟩:=vals2 r;refine max_two_ints (I.ok.hd hc) λh' tk k=>⟨_,H,I.kept k,?_,q⟩;by_cases hj:j > i
 ·rw[if_pos hj,if_pos hj];exact⟨_,rfl⟩
 ·rw[if_neg hj,if_neg hj];exact⟨_,rfl⟩
theorem CV(hc:X.calm=true):dJ X (.builtin "min") (λxs H Q=>∃i j,xs=[.int i,.int j]/\Q (.int (if j < i then j else i)) H):=by
 intro pins s σ H xs us Q I r h;obtain⟨i,j,rfl,q⟩:=h;obtain⟨u,w',rfl,⟨t,rfl⟩,⟨t',rfl⟩⟩:=vals2 r;refine min_two_ints (I.ok.hd hc) λh' tk k=>⟨_,H,I.kept k,?_,q⟩;by_cases hj:j < i
 ·rw[if_pos hj,if_pos hj];exact⟨_,rfl⟩
 ·rw[if_neg hj,if_neg hj];exact⟨_,rfl⟩
theorem vx:dJ X (.type "str") (λxs H Q=>∃i,xs=[.int i]/\i.natAbs.log2 < 1920/\Q (.str (toString i)) H):=by intro pins s σ H xs us Q I r h;obtain⟨i,rfl,hz,q⟩:=h;obtain⟨u,rfl,t,rfl⟩:=vals1 r;exact PySem.P.str_of_int hz ⟨.str _,H,I.tok _,⟨_,rfl⟩,q⟩
end
structure zk(h:Heap)(x dx C:aed)(mA:Str->Option aej):Prop where
 obj:h.get? x=some (PySem.W.instObj C dx)
 ns:h.Ns1 dx mA
 ne:dx≠x
variable{dx:aed}{mA:Str->Option aej}
theorem CW(n:h.Ns1 dx mA):∃od,h.get? dx=some od/\∀name,PySem.W.lookIn name od=some (mA name):=by
 obtain⟨o,es,ep,ho,hd,hk,_,hm⟩:=n;refine⟨o,ho,λname=>?_⟩;have e:=hm name;unfold nsFind findBy at e;rw[<-Array.find?_toList]at e;unfold PySem.W.lookIn;rw[hd];dsimp only;split
 ·rename_i y q;rw[q]at e;exact congrArg some e
 ·rename_i q;rw[q]at e;have a:es.toList.any (·.refKey)=false:=by rw[List.any_eq_false];intro y hy;obtain⟨z,t,hkey⟩:=hk y (Array.mem_toList_iff.mp hy);simp[DictEntry.refKey,hkey]
  have a':¬es.toList.any (·.refKey)=true:=by rw[a];exact aH
  rw[if_neg a'];exact congrArg some e
variable{C:aed}
theorem zk.look{x:aed}(I:zk h x dx C mA):∃od,PySem.W.InstAt h x (PySem.W.instObj C dx) C (some od)/\∀name,PySem.W.lookIn name od=some (mA name) :=
 let ⟨od,ho,hl⟩:=CW I.ns
 ⟨od,⟨I.obj,rfl,rfl,ho⟩,hl⟩
variable{pl:Sem Bool}{kw:List (Str×aej)}
section
variable {prog:aeh}{w:aek}{A:aee}{E:aej->aei->Prop}{s:aei}{K:PySem.W.Frag}{x dx C f:aed}{mA:Str->Option aej}{name:Str}{v:aej}
theorem get_map{expr:Bool}(X:K.In s.heap)(I:zk s.heap x dx C mA)(hg:PySem.W.plainGet K C name=true)(hh:PySem.W.hasDictIn K C=true)
  (ha:PySem.W.findIn K (.ref C) name=some none)(hv:mA name=some v)(hv':PySem.W.handedIn v=true)(h:Q v { s with toks:=s.toks+1 }):
  aew (model prog w) A (getAttr (.ref x) name expr) Q E s:=by
 obtain⟨od,J,hl⟩:=I.look;exact PySem.W.get_value X J (PySem.W.plainGet_of hg).1 (PySem.W.findObj_own hh ha rfl (by rw[hl,hv])) hv' h
theorem EG{Q:aej×List aej->aei->Prop}(X:K.In s.heap)(I:zk s.heap x dx C mA)(hg:PySem.W.plainGet K C name=true)
  (hf:PySem.W.findIn K (.ref C) name=some (some (.ref f)))(ht:PySem.W.isFn K (.ref f)=true)(hv:mA name=none)(h:Q (.ref f,[.ref x]) s):
  aew (model prog w) A (getMethod (.ref x) name pl) Q E s:=by
 obtain⟨od,J,hl⟩:=I.look;exact PySem.W.method_fn X J (PySem.W.plainGet_of hg).1 (PySem.W.plainGet_of hg).2 hf (beq_iff_eq.mp ht) (by show(PySem.W.lookIn name od).map (·.isSome)=some false;rw[hl,hv];rfl) h
theorem JD{ns:List Str}{Q:Unit->aei->Prop}(X:K.In s.heap)(I:zk s.heap x dx C mA)
  (hs:PySem.W.findIn K (.ref C) "__setattr__"=some (some (.builtin "object.__setattr__")))(hp:PySem.W.plainOver K C=true)(ht:PySem.W.takerIn K C name=some none)(hh:PySem.W.hasDictIn K C=true)
  (hw:PySem.Within mA ns)(hsz:ns.length<=aeu)
  (h:∀h',zk h' x dx C (λy=>if y=name then some v else mA y)->jE dx s.heap h'->Q () { s with heap:=h',toks:=s.toks+2 }):
  aew (model prog w) A (setAttr (.ref x) name v) Q E s:=by
 obtain⟨od,J,hl⟩:=I.look;refine PySem.W.set_plain X J hs (PySem.W.osa_open (s:={ s with toks:=s.toks+1 }) (r:=none) X J hp ht λb=>?_);obtain⟨cd,hc,hd'⟩:=PySem.W.any_some hh;have hx:s.heap.get? x=some ⟨.ref C,some dx,.plain,#[]⟩:=I.obj;refine aex (aeC (aex (aex (wpAny_loadPart hx (aex (PySem.W.Looks.here (s:={ s with toks:=s.toks+1 }) (PySem.W.looks_clsIn X hc) ?_))))));rw[hd'];refine aeC (a:=some dx) (aex (aeC (aex ?_)));refine wpAny_nsSet1 (s:={ s with toks:=s.toks+1 }) I.ns λh' hn2 hs2=>?_;obtain⟨oD,esD,epD,hoD,hdD,hcD⟩:=hn2.count (PySem.Within.cons name v hw);refine aex (wpAny_lookBehind hoD (by rw[hdD];exact pastItsLine_dict (aV hcD (by rw[eh];omega))) ?_);exact aeC (h _ ⟨(hs2.2 _ (bA I.ne)).trans I.obj,hn2,I.ne⟩ hs2)
theorem EH{R:Result->aei->Prop}{vs:List aej}(X:K.In s.heap)(hm:PySem.W.makesIn K C=true)
  (hi:PySem.W.findIn K (.ref C) "__init__"=some (some (.ref f)))(hf:PySem.W.typeIn K (.ref f)=some (.type "function"))
  (h:aeo (model prog w) (A.under (.builtin "type.__call__" ⟨.ref C::vs,kw⟩)) (.call (.ref f) ⟨.ref (s.heap.objs.size+1)::vs,kw⟩) (PySem.W.InitBack (s.heap.objs.size+1) R)
   { s with heap:=(s.heap.push PySem.W.emptyDict).push (PySem.W.instObj C s.heap.objs.size) }):
  aeo (model prog w) A (.call (.ref C) ⟨vs,kw⟩) R s:=by
 obtain⟨hh,g,d,t,os⟩:=s;exact PySem.W.make_core (PySem.W.makes_of X hm) (PySem.W.looks_findIn X hi) (λself=>PySem.W.bind_fn X self hf) (.inl rfl) h
end
def jG(f:Str)(v:V):List (Str×V)->List (Str×V)
 |[]=>[(f,v)]
 |(g,x)::r=>if g=f then(g,v)::r else(g,x)::jG f v r
theorem pS(f g:Str)(v:V):∀fs:List (Str×V),(jG f v fs).lookup g=if g=f then some v else fs.lookup g
 |[]=>by
  show jH g [(f,v)]=_;by_cases h:g=f
  ·have hb:(g == f)=true:=beq_iff_eq.mpr h;simp only[jH,hb,if_pos h]
  ·have hb:(g == f)=false:=beq_eq_false_iff_ne.mpr h;simp only[jH,hb,if_neg h]
 |(k,x)::r=>by
  have ih:=pS f g v r;rw[show jG f v ((k,x)::r)=(if k=f then(k,v)::r else(k,x)::jG f v r) from rfl];by_cases hk:k=f
  ·rw[if_pos hk];by_cases h:g=k
   ·have hb:(g == k)=true:=beq_iff_eq.mpr h;simp only[jH,hb,if_pos (h.trans hk)]
   ·have hb:(g == k)=false:=beq_eq_false_iff_ne.mpr h;simp only[jH,hb,if_neg (λe:g=f=>h (e.trans hk.symm))]
  ·rw[if_neg hk];by_cases h:g=k
   ·have hb:(g == k)=true:=beq_iff_eq.mpr h;simp only[jH,hb,if_neg (λe:g=f=>hk (h.symm.trans e))]
   ·have hb:(g == k)=false:=beq_eq_false_iff_ne.mpr h;simp only[jH,hb];exact ih
theorem oO(f:Str)(v:V):∀fs:List (Str×V),f∈(jG f v fs).map (·.1)/\∀g,g∈fs.map (·.1)->g∈(jG f v fs).map (·.1)
 |[]=>⟨by simp[jG],λg h=>by simp at h⟩
 |(k,x)::r=>by
  obtain⟨i1,i2⟩:=oO f v r;rw[show jG f v ((k,x)::r)=(if k=f then(k,v)::r else(k,x)::jG f v r) from rfl];by_cases hk:k=f
  ·rw[if_pos hk];subst hk;exact⟨by simp,λg h=>by simpa using h⟩
  ·rw[if_neg hk];refine⟨?_,λg h=>?_⟩
   ·rw[aK];exact bb _ i1
   ·rw[aK]at h ⊢;rcases List.mem_cons.mp h with e |e
    ·exact List.mem_cons.mpr (.inl e)
    ·exact bb _ (i2 g e)
theorem pT(f:Str)(v:V):∀fs:List (Str×V),(jG f v fs).length<=fs.length+1
 |[]=>by simp[jG]
 |(k,x)::r=>by
  have ih:=pT f v r;rw[show jG f v ((k,x)::r)=(if k=f then(k,v)::r else(k,x)::jG f v r) from rfl];by_cases hk:k=f
  ·rw[if_pos hk,eh,eh];omega
  ·rw[if_neg hk,eh,eh];omega
variable{o:Option aej}
theorem i5.some_of(r:i5 (some v) o):∃u,o=some u/\RelV v u:=by
 cases o with
 |none=>exact(show False from r).elim
 |some u=>exact⟨u,rfl,r⟩
theorem i5.none_of(r:i5 none o):o=none:=by
 cases o with
 |none=>rfl
 |some u=>exact(show False from r).elim
theorem CY(r:RelV v u):PySem.W.handedIn u=true:=by
 cases v with
 |non=>cases (show u=cN from r);rfl
 |bl b=>cases (show u=qE b from r);rfl
 |int i=>obtain⟨t,e⟩:=(show ∃t,u=hJ i t from r);cases e;rfl
 |str x=>obtain⟨t,e⟩:=(show ∃t,u=qB x t from r);cases e;rfl
 |RI b=>obtain⟨t,e⟩:=(show ∃t,u=Value.bytes b t from r);cases e;rfl
 |kK b=>obtain⟨t,e⟩:=(show ∃t,u=Value.float b t from r);cases e;rfl
 |ref a=>cases (show u=aL a from r);rfl
 |ty n=>cases (show u=Value.type n from r);rfl
section
variable {P:aeh}{w:aek}{H H':Hp}{h h':Heap}{a C dx:aed}{fs fs':List (Str×V)}
theorem vy(hok:kL P w H h)(e:H a=some (.ins C dx fs)):∃mA,zk h a dx C mA/\(∀f,i5 (fs.lookup f) (mA f))/\PySem.Within mA (fs.map (·.1))/\fs.length<=1000/\H dx=some (.own a):=by obtain⟨d,z,ne,ob,mA,n,r,q⟩:=(show du P w H h a (.ins C dx fs) from hok a _ e);exact⟨mA,⟨ob,n,ne⟩,r,q,z,d⟩
end
structure Ee(K:PySem.W.Frag)(C:aed):Prop where
 pg:PySem.W.plainGet K C Str.empty=true
 hd:PySem.W.hasDictIn K C=true
 po:PySem.W.plainOver K C=true
 sa:PySem.W.findIn K (.ref C) "__setattr__"=some (some (.builtin "object.__setattr__"))
theorem Ee.get(c:Ee K C)(f:Str):PySem.W.plainGet K C f=true:=c.pg
def mQ(K:PySem.W.Frag)(C:aed)(f:Str):Prop:=PySem.W.findIn K (.ref C) f=some none
theorem mQ.SK{f:Str}(n:mQ K C f):PySem.W.takerIn K C f=some none:=by unfold PySem.W.takerIn;rw[show PySem.W.findIn K (.ref C) f=some none from n];rfl
structure Meth(K:PySem.W.Frag)(C:aed)(m:Str)(f:aed):Prop where
 at_:PySem.W.findIn K (.ref C) m=some (some (.ref f))
 fn:PySem.W.isFn K (.ref f)=true
 kp:PySem.W.keepIn K (.ref f)=true
section
variable {X:Cx}{pins:List (aed×Obj)}{σ:St}{H:Hp}{s:aei}{a C dx:aed}{fs:List (Str×V)}{f:Str}{v:V}{A:aee}{E:aej->aei->Prop}
theorem zl{b:Bool}(I:Inv X pins σ H s)(e:H a=some (.ins C dx fs))(c:Ee X.K C)(n:mQ X.K C f)(l:fs.lookup f=some v)
  (h:∀u s',Inv X pins σ H s'->RelV v u->Q u s'):aew (model X.prog X.w) A (getAttr (.ref a) f b) Q E s:=by
 obtain⟨mA,O,r,_,_,_⟩:=vy I.hok e;obtain⟨u,hu,ru⟩:=i5.some_of (v:=v) (o:=mA f) (by rw[<-l];exact r f);exact get_map I.ze O (c.get f) c.hd n hu (CY ru) (h u _ (I.tok _) ru)
theorem zm{m:Str}{g:aed}{Q:aej×List aej->aei->Prop}(I:Inv X pins σ H s)(e:H a=some (.ins C dx fs))(c:Ee X.K C)(k:Meth X.K C m g)(l:fs.lookup m=none)
  (h:Q (.ref g,[.ref a]) s):aew (model X.prog X.w) A (getMethod (.ref a) m pl) Q E s:=by
 obtain⟨mA,O,r,_,_,_⟩:=vy I.hok e;have hn:mA m=none:=i5.none_of (by rw[<-l];exact r m);exact EG I.ze O (c.get m) k.at_ k.fn hn h
theorem zo{Q:Unit->aei->Prop}(I:Inv X pins σ H s)(e:H a=some (.ins C dx fs))(c:Ee X.K C)(n:mQ X.K C f)(hl:fs.length < 1000)(ry:RelV y u)
  (h:∀s',Inv X pins σ (upd H a (.ins C dx (jG f y fs))) s'->Q () s'):aew (model X.prog X.w) A (setAttr (.ref a) f u) Q E s:=by
 obtain⟨mA,O,r,wi,_,ho⟩:=vy I.hok e;have hz:(fs.map (·.1)).length<=aeu:=by rw[bP,sizeLine_eq];omega
 refine JD I.ze O c.sa c.po n.SK c.hd wi hz λh' O' sb=>h _ ?_;have hd:∃o,h'.get? dx=some o:=let ⟨o,_,_,e',_⟩:=O'.ns;⟨o,e'⟩;refine I.write (x:=a) (e:=dx) (by rw[e];exact gF) (.inr ho) (λb q hb z=>(sb.2 b hb).trans z) hd ?_;refine⟨by rw[aZ O.ne];exact ho,?_,O.ne,O'.obj,_,O'.ns,λg=>?_,λg hg=>?_⟩
 ·have:=pT f y fs;omega
 ·show i5 ((jG f y fs).lookup g) (if g=f then some u else mA g);rw[pS];by_cases q:g=f
  ·rw[if_pos q,if_pos q];exact ry
  ·rw[if_neg q,if_neg q];exact r g
 ·by_cases q:g=f
  ·rw[q];exact(oO f y fs).1
  ·refine(oO f y fs).2 g (wi g λz=>hg ?_);show(if g=f then some u else mA g)=none;rw[if_neg q];exact z
theorem Inv.made(I:Inv X pins σ H s):Inv X pins σ (upd (upd H s.heap.objs.size (.own (s.heap.objs.size+1))) (s.heap.objs.size+1) (.ins C s.heap.objs.size []))
  { s with heap:=(s.heap.push PySem.W.emptyDict).push (PySem.W.instObj C s.heap.objs.size) }:=by
 have e1:(s.heap.push PySem.W.emptyDict).get? s.heap.objs.size=some PySem.W.emptyDict:=cj s.heap rfl;have e2:((s.heap.push PySem.W.emptyDict).push (PySem.W.instObj C s.heap.objs.size)).get? (s.heap.objs.size+1)=some (PySem.W.instObj C s.heap.objs.size):=by
  have:=cj (s.heap.push PySem.W.emptyDict) (o:=PySem.W.instObj C s.heap.objs.size) rfl
  rwa [zp]at this
 have e3:(s.heap.push PySem.W.emptyDict).Ns s.heap.objs.size (λ_=>none):=⟨PySem.W.emptyDict,#[],_,e1,rfl,(λe he=>absurd he (by simp)),λ_=>rfl⟩;have I1:=I.laid (a:=s.heap.objs.size) (o:=.own (s.heap.objs.size+1)) (h':=s.heap.push PySem.W.emptyDict) (t':=s.toks) (λb u q=>bt _ q) (aE _) ⟨_,e1⟩;refine I1.laid (a:=s.heap.objs.size+1) (o:=.ins C s.heap.objs.size []) (t':=s.toks) (λb u q=>bt _ q) (nC (zp _ _)) ?_;have ne:s.heap.objs.size≠s.heap.objs.size+1:=bU (Nat.lt_succ_self _);refine⟨by rw[aZ ne,bE],cO _,ne,e2,λ_=>none,(Heap.Ns1.of_empty e3).at λo q=>bt _ q,λ_=>gF,λy hy=>absurd rfl hy⟩
theorem JF{prog:aeh}{env:Env}(hb:attributeBase e f env (eval e env)=eval e env)
  (h:aew (model prog w) A (eval e env) (λo s₁=>aew (model prog w) A (getAttr o f true) Q E s₁) E s):aew (model prog w) A (eval (.Attribute e f pos) env) Q E s :=
 Attribute_any_ h (by rw[arm_eval_Attribute,hb])
end
def Xk(K:PySem.W.Frag)(ta:TE)(f:Str):TE:=λσ H Q=>ta σ H λx H1=>∃a C dx fs v,x= .ref a/\H1 a=some (.ins C dx fs)/\Ee K C/\mQ K C f/\fs.lookup f=some v/\Q v H1
def Xl(K:PySem.W.Frag)(ta tv:TE)(f:Str):TS:=λD σ H=>tv σ H λy H1=>ta σ H1 λx H2=>∃a C dx fs,x= .ref a/\H2 a=some (.ins C dx fs)/\Ee K C/\mQ K C f/\fs.length < 1000/\
 D.nx σ (upd H2 a (.ins C dx (jG f y fs)))
section
variable {X:Cx}{o e value:Expr}{f:Str}{pos pos' tpos:Pos}{ta tv:TE}
theorem N3(he:PE X e ta)(hb:attributeBase e f X.env (eval e X.env)=eval e X.env):PE X (.Attribute e f pos) (Xk X.K ta f):=by intro pins s σ H Q I h;refine JF hb (bK (he pins s σ H _ I h) λu s1 ⟨x,H1,I1,rx,a,C,dx,fs,v,ex,ea,c,n,l,q⟩=>?_);subst ex;obtain rfl:u=aL a:=rx;exact zl I1 ea c n l λu' s2 I2 ru=>⟨v,H1,I2,ru,q⟩
theorem N4(ha:PE X o ta)(hv:PE X value tv)(hs:swapsWith value (some (.Attribute o f pos')) pos.line X.env=pure false):PS X (.Assign [.Attribute o f pos'] value pos) (Xl X.K ta tv f):=by intro pins s σ H D I h;refine plainObj_wpAny_Assign_Attribute (bK (hv pins s σ H _ I h) λu s1 ⟨y,H1,I1,ry,q⟩=>bK (ha pins s1 σ H1 _ I1 q) λov s2 ⟨x,H2,I2,rx,a,C,dx,fs,ex,ea,c,n,l,q2⟩=>?_) hs;subst ex;obtain rfl:ov=aL a:=rx;exact zo I2 ea c n l ry λs3 I3=>⟨σ,_,I3,q2⟩
end
structure hX(k:Nat)(A:aee):Prop where
 hd:A.handled=none
 dp:A.depth+3 * k+5 < recursionLimit
 un:A.units+16 * k+200 < cLine
theorem hX.mono(r:hX k A)(h:j<=k):hX j A:=⟨r.hd,by have:=r.dp;omega,by have:=r.un;omega⟩
theorem hX.deeper(r:hX (k+1) A)(env:Env):hX k (A.deeper env) :=
 ⟨r.hd,by have:=r.dp;show A.depth+1+3 * k+5 < _;omega,by have:=r.un;show A.units+3+16 * k+200 < _;omega⟩
theorem zq:(A.under (.builtin "type.__call__" ⟨.ref C::us,kw⟩)).depth=A.depth+1:=by
 first |rfl |simp[Mt,Code.weight,Code.isCreation,Code.isGuard,Code.isCaller,Code.frames,EI,guardIds]
theorem zr:(A.under (.builtin "type.__call__" ⟨.ref C::us,kw⟩)).units=A.units+1:=by
 first |rfl |simp[Mt,Code.cUnits,Code.frames,EI]
theorem hX.make(r:hX (k+1) A)(C:aed)(us:List aej)(kw:List (Str×aej)):hX k (A.under (.builtin "type.__call__" ⟨.ref C::us,kw⟩)) :=
 ⟨r.hd,by have:=r.dp;rw[zq];omega,by have:=r.un;rw[zr];omega⟩
theorem hX.depth(r:hX k A):A.depth < recursionLimit:=by have:=r.dp;omega
def Xm:TA:=λ_ H Q=>Q [] H
def SM(ta:TE)(tr:TA):TA:=λσ H Q=>ta σ H λx H1=>tr σ H1 λxs H2=>Q (x::xs) H2
section
variable {X:Cx}{e:Expr}{es:List Expr}{te:TE}{t:TA}{pos:Pos}
theorem N5:PA X [] Xm:=λ_ _ _ _ H Q I h=>EJ ⟨[],H,I,.nil,h⟩
theorem JG(ha:PE X e te)(hr:PA X es t)(hs:aev (e::es) X.env=(false,eval e X.env)::aev es X.env:=by rfl):PA X (e::es) (SM te t):=by intro pos pins s σ H Q I h;rw[hs];show aew _ _ (spliced ((false,eval e X.env)::backTo pos (aev es X.env))) _ _ s;refine EK (bK (ha pins s σ H _ I h) λu s1 ⟨x,H1,I1,r1,q1⟩=>?_);exact bK (hr pos pins s1 σ H1 _ I1 q1) λus s2 ⟨xs,H2,I2,r2,q2⟩=>⟨x::xs,H2,I2,.cons r1 r2,q2⟩
def Xn(t:TA):TE:=λσ H Q=>t σ H λxs H1=>xs.length<=aeu/\∀p,H1 p=none->Q (.ref p) (upd H1 p (.tup xs))
def Xo(t:TA):TE:=λσ H Q=>t σ H λxs H1=>xs.length<=aeu/\∀p,H1 p=none->Q (.ref p) (upd H1 p (.lst xs))
theorem N6{x1}(h:PA X es t):PE X (.Tuple es x1 pos) (Xn t):=by intro pins s σ H Q I hq;refine wpAny_Tuple_spliced (bK (h pos pins s σ H _ I hq) λus s1 ⟨xs,H1,I1,r,z,q⟩=>⟨by rw[<-r.length];exact z,?_⟩);have hf:H1 s1.heap.objs.size=none:=I1.hok.fresh (aE _);refine⟨.ref s1.heap.objs.size,upd H1 s1.heap.objs.size (.tup xs),I1.laid (t':=s1.toks) (λb u e=>bt _ e) (aE _) ?_,rfl,q _ hf⟩;exact⟨z,us,r,⟨_,cj _ rfl,rfl,_,rfl⟩,vc.new _ _⟩
theorem N7(h:PA X es t):PE X (.List es pos) (Xo t):=by intro pins s σ H Q I hq;refine wpAny_List_spliced (bK (h pos pins s σ H _ I hq) λus s1 ⟨xs,H1,I1,r,z,q⟩=>⟨by rw[<-r.length];exact z,?_⟩);have hf:H1 s1.heap.objs.size=none:=I1.hok.fresh (aE _);refine⟨.ref s1.heap.objs.size,upd H1 s1.heap.objs.size (.lst xs),I1.laid (t':=s1.toks) (λb u e=>bt _ e) (aE _) ?_,rfl,q _ hf⟩;exact⟨z,us,0,r,cj _ rfl⟩
end
abbrev Sp:=List V->Hp->VK->XK->Prop
abbrev CZ:=List Env->Hp->aei->XK->aej->aei->Prop
structure xp(P:aeh)(w:aek)(K:PySem.W.Frag)(mg:Str->Option aej)(base:Heap)(A:aee)(outer:List Env)(s:aei)(H:Hp):Prop where
 frames:A.frames=some outer
 mod:Mod K mg base
 bs:∀b o,base.get? b=some o->s.heap.get? b=some o/\H b=none
 Nx:base.objs.size<=s.heap.objs.size
 q_:s.heap.FunFrames base outer
 RL:∀b∈frs outer,H b=none
 hok:kL P w H s.heap
 bare:AllBare s.gens
def CE(outer:List Env)(P:aeh)(w:aek)(H:Hp)(s:aei)(Q:VK)(u:aej)(s':aei):Prop :=
 ∃v H',s'.os=s.os/\AllBare s'.gens/\Un (frs outer) [] H H' s.heap s'.heap/\kL P w H' s'.heap/\RelV v u/\Q v H'
def CR(CX:CZ)(outer:List Env)(P:aeh)(w:aek)(H:Hp)(s:aei)(Q:VK)(E:XK)(r:Result)(s':aei):Prop :=
 match r with
 |.ok (.ret u)=>CE outer P w H s Q u s'
 |.ok _=>False
 |.error e=>CX outer H s E e s'
structure FnOk(P:aeh)(w:aek)(K:PySem.W.Frag)(mg:Str->Option aej)(base:Heap)(CX:CZ)(k:Nat)(f:aed)(fd:aef)(ps:List Str)(sp:Sp):Prop where
 len:∀vs H Q E,sp vs H Q E->vs.length=ps.length
 run:∀(A:aee)(outer:List Env)(s:aei)(H:Hp)(args:Args)(us:List aej)(vs:List V)(Q:VK)(E:XK),hX k A->xp P w K mg base A outer s H->BindsTo s fd args (ps.zip us)->Vals vs us->sp vs H Q E->
  aeo (model P w) A (.call (.ref f) args) (CR CX outer P w H s Q E) s
variable{f:aed}{mg:Str->Option aej}{base:Heap}{CX:CZ}{fd:aef}{ps:List Str}{sp:Sp}
theorem FnOk.mono(F:FnOk P w K mg base CX j f fd ps sp)(h:j<=k):
  FnOk P w K mg base CX k f fd ps sp:=⟨F.len,λA outer s H args us vs Q E hr=>F.run A outer s H args us vs Q E (hr.mono h)⟩
variable{outer:List Env}
theorem xp.make(e:xp P w K mg base A outer s H)(C:aed)(us:List aej)(kw:List (Str×aej)):
  xp P w K mg base (A.under (.builtin "type.__call__" ⟨.ref C::us,kw⟩)) outer s H:=⟨by first |exact e.frames |(simpa [Mt,Code.envs,EI,pushEnvs]using e.frames),e.mod,e.bs,e.Nx,e.q_,e.RL,e.hok,e.bare⟩
variable{Q:VK}
section
variable {X:Cx}{pins:List (aed×Obj)}{σ:St}{H:Hp}{s s':aei}
theorem Inv.N8(I:Inv X pins σ H s):xp X.prog X.w X.K X.mg X.base X.A X.stack s H :=
 ⟨I.ok.frames,I.ok.mod,I.bs,aV I.ok.Nx I.sz,I.stack,I.vj,I.hok,I.bare⟩
theorem Inv.after(I:Inv X pins σ H s)(h:CE X.stack X.prog X.w H s Q u s'):EP X pins σ Q u s':=by obtain⟨v,H',os,bare,un,hok,r,q⟩:=h;obtain⟨hh,g,d,t,os'⟩:=s';obtain rfl:os'=s.os:=os;exact⟨v,H',I.call (h':=hh) (g':=g) (d':=d) (t':=t) (ch:=[]) un hok bare (λb z=>absurd z (by simp)),r,q⟩
end
def SN(C:aed)(sp:Sp)(N9:List V)(E:XK)(t:TA):TE:=λσ H Q=>t σ H λvs H1=>∀x dx,H1 x=none->H1 dx=none->dx≠x->
 sp (.ref x::(vs++N9)) (upd (upd H1 dx (.own x)) x (.ins C dx [])) (λv H2=>v= .non/\Q (.ref x) H2) E
def Binds(K:PySem.W.Frag)(fd:aef)(ps:List Str)(ds:List aej):Prop :=
 ∀(s:aei)(us:List aej),K.In s.heap->(us++ds).length=ps.length->BindsTo s fd ⟨us,[]⟩ (ps.zip (us++ds))
theorem Binds.all(h:∀us:List aej,us.length=ps.length->bindArgs fd ⟨us,[]⟩=pure (ps.zip us)):Binds K fd ps []:=λs us _ hl=>by rw[i6]at hl ⊢;exact .of_eq (h us hl)
def Passes(CX:CZ)(X:Cx)(E:XK):Prop:=∀(pins:List (aed×Obj))(σ:St)(H:Hp)(s:aei)(e:aej)(s':aei),Inv X pins σ H s->CX X.stack H s E e s'->X.xe e s'
variable{vs:List V}
section
variable {X:Cx}{CX:CZ}{k:Nat}{f C:aed}{fd:aef}{ps:List Str}{sp:Sp}{N9:List V}{ds:List aej}{E:XK}{x m:Str}{p pos apos:Pos}{e o:Expr}{es:List Expr}{ta:TE}{t:TA}
structure Mk(K:PySem.W.Frag)(C f:aed):Prop where
 makes:PySem.W.makesIn K C=true
 init:PySem.W.findIn K (.ref C) "__init__"=some (some (.ref f))
 fn:PySem.W.isFn K (.ref f)=true
 kp:PySem.W.keepIn K (.ref C)=true
theorem EL{pins:List (aed×Obj)}(M:Mk X.K C f)(F:FnOk X.prog X.w X.K X.mg X.base CX k f fd ps sp)(hr:hX (k+1) X.A)(hb:Binds X.K fd ps ds)(hd:Vals N9 ds)
  (hx:Passes CX X E)(I:Inv X pins σ H s)(r:Vals vs us)
  (h:∀x dx,H x=none->H dx=none->dx≠x->sp (.ref x::(vs++N9)) (upd (upd H dx (.own x)) x (.ins C dx [])) (λv H2=>v= .non/\Q (.ref x) H2) E):
  aew (model X.prog X.w) X.A (call (.ref C) us) (EP X pins σ Q) X.xe s:=by
 have hq:=h (s.heap.objs.size+1) s.heap.objs.size (I.hok.fresh (qG _)) (I.hok.fresh (aE _)) (bU (Nat.lt_succ_self _));have I2:=Inv.made (C:=C) I;have r2:Vals (V.ref (s.heap.objs.size+1)::(vs++N9)) (aL (s.heap.objs.size+1)::(us++ds)):=.cons rfl (r.append hd);have hl:(aL (s.heap.objs.size+1)::us++ds).length=ps.length:=by have e:=r2.length;rw[F.len _ _ _ _ hq]at e;exact e.symm
 refine wpAny_call (EH (f:=f) I.ze M.makes M.init (beq_iff_eq.mp M.fn) (codeAny_mono (F.run _ X.stack _ _ ⟨aL (s.heap.objs.size+1)::us,[]⟩ (aL (s.heap.objs.size+1)::(us++ds)) _ _ E (hr.make C us [])
  (I2.N8.make C us []) (hb _ (aL (s.heap.objs.size+1)::us) I2.ze hl) r2 hq) λr s' hq'=>?_))
 cases r with
 |error e=>exact hx pins σ _ _ e s' I2 hq'
 |ok fl=>
  cases fl with
  |ret u=>obtain⟨v,H',I3,rv,ev,q3⟩:=I2.after hq';subst ev;exact⟨rv,⟨V.ref (s.heap.objs.size+1),H',I3,rfl,q3⟩⟩
  |next=>exact ab hq'
  |brk=>exact ab hq'
  |cont=>exact ab hq'
theorem JH(M:Mk X.K C f)(F:FnOk X.prog X.w X.K X.mg X.base CX k f fd ps sp)(hr:hX (k+1) X.A)(hg:Gl X x)(hm:X.mg x=some (.ref C))(hb:Binds X.K fd ps ds)(hd:Vals N9 ds)(hx:Passes CX X E)
  (ha:PA X (e::es) t)(hdb:(x == ("__debug__":Str))=false:=by decide)(he:aev (e::es) X.env=(false,eval e X.env)::aev es X.env:=by rfl)(hpl:(backTo pos (aev es X.env)).any (·.1)=false:=by rfl):
  PE X (.Call (.Name x p) (e::es) [] pos) (SN C sp N9 E t):=by
 intro pins s σ H Q I h;refine wpAny_Call_Name_kw (vm I hg hm ?_ hdb);refine PySem.W.callWith_K (h₀:=X.base) I.ok.mod.RK M.kp (bK (ha pos pins s σ H _ I h) λus s1 ⟨vs,H1,I1,r,q⟩=>⟨I1.ze,?_⟩) he hpl;exact EL M F hr hb hd hx I1 r q
end
structure FnScope(N P:List Str)(sc:Scope):Prop where
 kind:sc.kind= .function
 co:sc.isCoroutine=false
 gen:sc.isGenerator=false
 nd:N.Nodup
 pre:N.take P.length=P
 par:∀x∈P,sc.names.lookup x=some .local\/sc.names.lookup x=some .cell
 N_:∀y∈sc.names,y.2≠.free
theorem uo{kindOf:Str->Option aeg}{x:Str}:∀{binds:List (Str×aej)}{m:Str->Option aej},(∀v,(x,v)∉binds)->bindL kindOf binds m x=m x
 |[],_,_=>rfl
 |(n,v)::r,m,h=>by
  unfold bindL;rw[uo λw hw=>h w (bb _ hw)];split
  ·have:x≠n:=by rintro rfl;exact h v bC
   simp[this]
  ·rfl
theorem ur{kindOf:Str->Option aeg}{x:Str}:∀{binds:List (Str×aej)}{m:Str->Option aej},(∀v,(x,v)∉binds)->bindC kindOf binds m x=m x
 |[],_,_=>rfl
 |(n,v)::r,m,h=>by
  unfold bindC;rw[ur λw hw=>h w (bb _ hw)];split
  ·rfl
  ·have:x≠n:=by rintro rfl;exact h v bC
   simp[this]
theorem uu{kindOf:Str->Option aeg}{x:Str}{v:aej}:∀{P:List Str}{vs:List aej}{i:Nat}{m:Str->Option aej},P.Nodup->P[i]? =some x->vs[i]? =some v->kindOf x=some .local->
  bindL kindOf (P.zip vs) m x=some v
 |[],_,_,_,_,h,_,_=>by simp at h
 |_::_,[],_,_,_,_,h,_=>by simp at h
 |p::P,w::vs,0,m,nd,h1,h2,hk=>by simp at h1 h2;subst h1;subst h2;show bindL kindOf ((p,w)::P.zip vs) m p=_;unfold bindL;rw[uo λv hv=>(List.nodup_cons.mp nd).1 (Bb hv).1,if_pos hk];simp
 |p::P,w::vs,i+1,m,nd,h1,h2,hk=>by show bindL kindOf ((p,w)::P.zip vs) m x=_;unfold bindL;exact uu (i:=i) (List.nodup_cons.mp nd).2 (by simpa using h1) (by simpa using h2) hk
theorem uv{kindOf:Str->Option aeg}{x:Str}{v:aej}:∀{P:List Str}{vs:List aej}{i:Nat}{m:Str->Option aej},P.Nodup->P[i]? =some x->vs[i]? =some v->kindOf x≠some .local->
  bindC kindOf (P.zip vs) m x=some v
 |[],_,_,_,_,h,_,_=>by simp at h
 |_::_,[],_,_,_,_,h,_=>by simp at h
 |p::P,w::vs,0,m,nd,h1,h2,hk=>by simp at h1 h2;subst h1;subst h2;show bindC kindOf ((p,w)::P.zip vs) m p=_;unfold bindC;rw[ur λv hv=>(List.nodup_cons.mp nd).1 (Bb hv).1,if_neg hk];simp
 |p::P,w::vs,i+1,m,nd,h1,h2,hk=>by show bindC kindOf ((p,w)::P.zip vs) m x=_;unfold bindC;exact uv (i:=i) (List.nodup_cons.mp nd).2 (by simpa using h1) (by simpa using h2) hk
def start(N:List Str)(vs:List V):St:=vs.map some++aU (N.length - vs.length) none
def tL(CX:CZ)(P:aeh)(w:aek)(K:PySem.W.Frag)(mg:Str->Option aej)(base:Heap)(N:List Str)(qual:Str)(scope:Scope)(f:aed)(cd:aej)(A:aee)(outer:List Env)(s:aei)(H:Hp)(E:XK):Cx where
 prog:=P
 w:=w
 K:=K
 mg:=mg
 base:=base
 A:=A.deeper (envOfC qual scope s.heap.objs.size f cd)
 N:=N
 s₀:=s
 H₀:=H
 env:=envOfC qual scope s.heap.objs.size f cd
 outer:=outer
 stack:=envOfC qual scope s.heap.objs.size f cd::outer
 ex:=[]
 calm:=true
 fn:=λ_=>true
 pn:=[]
 xe:=λe s'=>aew (model P w) (A.deeper (envOfC qual scope s.heap.objs.size f cd)) (leaving (envOfC qual scope s.heap.objs.size f cd) e) (λ_ s''=>CX outer H s E e s'') (λe' s''=>CX outer H s E e' s'') s'
theorem xq{sc:Scope}(h:sc.names.lookup x=some .cell):∃c,(cellsFrom n sc.names []).lookup x=some c:=by have q:=PySem.W.cellsFrom_some sc.names n [] (.inl h);exact Option.isSome_iff_exists.mp q
variable{qual:Str}{scope:Scope}
theorem C0{cd:aej}{s1:aei}{E:XK}
  (S:FnScope N ps scope)(hd:A.handled=none)(e0:xp P w K mg base A outer s H)(hl:vs.length=ps.length)(r:Vals vs us)
  (x:InCallC s s.heap.objs.size (bindL (envOfC qual scope s.heap.objs.size f cd).kindOf (ps.zip us) λ_=>none) (cellsFrom (s.heap.objs.size+1) scope.names []) (bindC (envOfC qual scope s.heap.objs.size f cd).kindOf (ps.zip us) λ_=>none) s1):
  Inv (tL CX P w K mg base N qual scope f cd A outer s H E) [] (start N vs) H s1:=by
 have hpl:ps.length<=N.length:=by have:=congrArg fN S.pre;rw[nD]at this;omega
 obtain⟨h1,tk,rfl,hk⟩:=x.done;have SQ:∀b:aed,b∉(tL CX P w K mg base N qual scope f cd A outer s H E).ex:=λb z=>absurd (show b∈([]:List aed) from z) (by simp);refine⟨⟨e0.mod,S.kind,rfl,rfl,aE _,λy z c h1 h2=>?_,λy hy=>?_,λy c _ h=>?_,λ_=>hd,Around.frames_deeper e0.frames,.inr ⟨rfl,rfl⟩,λb z=>absurd z (SQ b),e0.bs,e0.Nx,λb _ _=>SQ b,λb z=>absurd z (SQ b),e0.q_,e0.RL⟩,
  rfl,e0.bare,Un.kept hk,⟨_,x.toInCall.ns,λi y v h1 h2 h3=>?_⟩,λy c h=>⟨_,x.cell y c h⟩,e0.hok.fresh (aE _),λy c h=>?_,λp hp=>absurd (show p∈([]:List (aed×Obj)) from hp) (by simp),e0.hok.kept hk,?_⟩
 ·exact name_of_addr x.apart (PySem.mem_of_lookup h1) (PySem.mem_of_lookup h2)
 ·have hy:scope.names.lookup y=some .cell\/scope.names.lookup y=some .free:=hy;rcases hy with hy |hy
  ·exact xq hy
  ·exact absurd rfl (S.N_ _ (PySem.mem_of_lookup hy))
 ·exact A7 (x.above y c (PySem.mem_of_lookup h))
 ·have hi:i < vs.length:=by
   unfold start at h2;by_cases hi:i < vs.length
   ·exact hi
   ·rw[kP (by simpa using hi)]at h2;rw[JJ]at h2;split at h2<;>cases h2
  have ha:vs[i]? =some v:=by
   unfold start at h2;rw[f6 (by simpa using hi),eo]at h2;cases e:vs[i]? with
   |none=>rw[e]at h2;cases h2
   |some a=>rw[e]at h2;cases h2;rfl
  obtain⟨u,hu,rv⟩:=r.get ha;have hp:ps[i]? =some y:=by rw[<-S.pre,List.getElem?_take_of_lt (by omega)];exact h1
  have ZZ:ps.Nodup:=by rw[<-S.pre];exact S.nd.sublist (List.take_sublist _ _)
  refine⟨u,rv,?_⟩;rcases S.par y (vz hp)with k |k
  ·exact .inl ⟨k,uu ZZ hp hu k⟩
  ·obtain⟨c,e⟩:=xq (n:=s.heap.objs.size+1) k;refine .inr ⟨.inl k,c,e,?_⟩;have q:=x.cell y c e;rw[uv ZZ hp hu (by show scope.names.lookup y≠_;rw[k];decide)]at q;exact q
 ·exact e0.hok.fresh (A7 (x.above y c (PySem.mem_of_lookup h)))
 ·unfold start;show _=N.length;rw[dA,bP,List.length_replicate];omega
theorem SR{name:Str}{params:Arguments}{dV kV doc pm cdv ct oc:aej}{an od:Option aed}
  {osl:Array (Option aej)}(lk:K.lookup f=some ⟨oc,od,.func (PySem.W.fnOf name qual params body scope dV kV doc pm an cdv ct),osl⟩)(hcd:PySem.W.codeIn K cdv qual=true)(S:FnScope N ps scope)
  (len:∀vs H Q E,sp vs H Q E->vs.length=ps.length)
  (hbody:∀(A:aee)(outer:List Env)(s:aei)(H:Hp)(vs:List V)(Q:VK)(E:XK),hX k (A.deeper (envOfC qual scope s.heap.objs.size f cdv))->sp vs H Q E->
   ∃t,Er (tL CX P w K mg base N qual scope f cdv A outer s H E) body t/\t { nx:=λ_ H'=>Q .non H',rt:=Q } (start N vs) H):
  FnOk P w K mg base CX (k+1) f (PySem.W.fnOf name qual params body scope dV kV doc pm an cdv ct) ps sp:=by
 refine⟨len,λA outer s H args us vs Q E hr e0 hb r RM=>?_⟩;have hl:=len _ _ _ _ RM;have KX:K.In s.heap:=e0.mod.RK.keeps λb o e=>(e0.bs b o e).1;have lim:s.heap.NoLimit:=e0.mod.nolimit.keeps λb o e=>(e0.bs b o e).1;have hkind:∀y∈ps.zip us,scope.names.lookup y.1=some .local\/(scope.names.lookup y.1=some .cell/\((cellsFrom (s.heap.objs.size+1) scope.names []).lookup y.1).isSome=true):=λ⟨n,v⟩ hy=>by
  rcases S.par n (Bb hy).1 with q |q
  ·exact .inl q
  ·exact .inr ⟨q,PySem.W.cellsFrom_some _ _ _ (.inl q)⟩
 refine codeAny_call_function hr.depth (KX _ _ lk) rfl S.co S.gen rfl (PySem.W.codeRec_of KX hcd) (hb _ _ _ _ ?_);refine wpAny_newFunctionEnv_cells S.kind hkind λenv he s1 x=>?_;subst he;refine⟨lim.keeps x.toInCall.keep,codeAny_func ?_⟩;obtain⟨t,ht,hq⟩:=hbody A outer s H vs Q E (hr.deeper _) RM;have I:Inv (tL CX P w K mg base N qual scope f cdv A outer s H E) [] (start N vs) H s1:=C0 S hr.hd e0 hl r x;refine aeA (ht [] s1 (start N vs) H _ I hq) (λfl s' hs=>?_) λe s' hs=>hs;have fin:∀{σ':St}{H':Hp}{v:V}{u:aej},Inv (tL CX P w K mg base N qual scope f cdv A outer s H E) [] σ' H' s'->RelV v u->Q v H'->CE outer P w H s Q u s' :=
  λ{σ' H' v u} J rv q=>⟨v,H',J.os,J.bare,J.base,J.hok,rv,q⟩
 cases fl with
 |ret u=>obtain⟨v,σ',H',J,rv,q⟩:=hs;exact fin J rv q
 |next=>obtain⟨σ',H',J,q⟩:=hs;exact fin (v:=V.non) (u:=cN) J rfl q
 |brk=>obtain⟨_,_,_,q⟩:=hs;exact ab q
 |cont=>obtain⟨_,_,_,q⟩:=hs;exact ab q
section
variable {X:Cx}{x:Str}{p pos:Pos}{e:Expr}{es:List Expr}{t:TA}{id T:String}{r:List V->Hp->VK->Prop}
def Z_(r:List V->Hp->VK->Prop)(t:TA):TE:=λσ H Q=>t σ H λvs H1=>r vs H1 Q
theorem EM(hc:dJ X (.builtin id) r)(hg:Gl X x)(hm:X.mg x=none)(hv:aen x=some (.builtin id))(ha:PA X (e::es) t)(hn:x≠"__name__":=by decide)(hdb:(x == ("__debug__":Str))=false:=by decide)
  (he:aev (e::es) X.env=(false,eval e X.env)::aev es X.env:=by rfl)(hpl:(backTo pos (aev es X.env)).any (·.1)=false:=by rfl):PE X (.Call (.Name x p) (e::es) [] pos) (Z_ r t):=by
 intro pins s σ H Q I h;refine wpAny_Call_Name_kw (oN I hg hm hv ?_ hn hdb);exact PyProof.Rows.callWith_builtin1 (bK (ha pos pins s σ H _ I h) λus s1 ⟨vs,H1,I1,r1,q1⟩=>hc pins s1 σ H1 vs us Q I1 r1 q1) he hpl
theorem C1(hc:dJ X (.type T) r)(hg:Gl X x)(hm:X.mg x=none)(hv:aen x=some (.type T))(ha:PA X (e::es) t)(hn:x≠"__name__":=by decide)(hdb:(x == ("__debug__":Str))=false:=by decide)
  (he:aev (e::es) X.env=(false,eval e X.env)::aev es X.env:=by rfl)(hpl:(backTo pos (aev es X.env)).any (·.1)=false:=by rfl):PE X (.Call (.Name x p) (e::es) [] pos) (Z_ r t):=by
 intro pins s σ H Q I h;refine wpAny_Call_Name_kw (oN I hg hm hv ?_ hn hdb);exact vp (bK (ha pos pins s σ H _ I h) λus s1 ⟨vs,H1,I1,r1,q1⟩=>hc pins s1 σ H1 vs us Q I1 r1 q1) he hpl
end
end L2
namespace HT
open PySem PyProof.Rows
def lexLt:List Int->List Int->Bool
 |[],[]=>false
 |[],_::_=>true
 |_::_,[]=>false
 |x::xs,y::ys=>if x=y then lexLt xs ys else decide (x < y)
theorem zt(x y:Int)(xs ys:List Int):lexLt (x::xs) (y::ys)=if x=y then lexLt xs ys else decide (x < y):=rfl
theorem tM:lexLt [] []=false:=rfl
theorem rj(y:Int)(ys:List Int):lexLt [] (y::ys)=true:=rfl
theorem rn(x:Int)(xs:List Int):lexLt (x::xs) []=false:=rfl
theorem xt(A:aee)(s:aei)(a:Int)(t:Tok)(c:Int)(u:Tok):∃e,SeqAt.EqAt A s (.int a t) (.int c u) e/\(e=true↔a=c) :=
 ⟨(a == c),JK a t c u,by simp⟩
theorem EN(A:aee)(s:aei)(a:Int)(t:Tok)(c:Int)(u:Tok)(prog:aeh)(w:aek)(E:aej->aei->Prop)(Q:aej->aei->Prop)(h:Q (.bool (decide (a < c))) s):
  aew (model prog w) A (richCompare .Lt (.int a t) (.int c u)) Q E s :=
 (PyProof.Rows.lt_int h:aew (model prog w) A (aeq .Lt (.int a t) (.int c u)) Q E s)
section
open PySem.SeqAt
open PySem.AutoSeq1 (wpAny_loadPart')
open PySem.MeetsSeq PySem.MeetsSeq2 PySem.MeetsSeq3
theorem tN(l b:aed)(items items2:Array aej)(n n2:Nat)(dd dd2:Option aed)(sl sl2:Array (Option aej))(ns ms:List Int)(hi:IntsAre items.toList ns)(hj:IntsAre items2.toList ms):
  Meets (Builtin.«tuple.__lt__» ⟨[.ref l,.ref b],[]⟩)
   (λ_ R s=>s.heap.get? l=some { cls:=.type "tuple",dict:=dd,data:=.seq items n,slots:=sl }/\s.heap.get? b=some { cls:=.type "tuple",dict:=dd2,data:=.seq items2 n2,slots:=sl2 }/\
    R (.ok (.ret (.bool (lexLt ns ms)))) s) :=
 .of_wp λprog w A R s h=>by
  obtain⟨hp,g,d,tk,os⟩:=s;obtain⟨hl,hb,h⟩:=h;have f2:=Mu;have z1:items.size=ns.length:=by rw[<-hi.length];simp
  have z2:items2.size=ms.length:=by rw[<-hj.length];simp
  wp_walk using wpAny_loadPart' hl,wpAny_loadPart' hb,wpAny_forIn_list _ (λrest b s'=>b.1=none/\s'=⟨hp,g,d,tk,os⟩/\∃(vs ws:List aej)(ns' ms':List Int),rest=vs.zip ws/\
   IntsAre vs ns'/\IntsAre ws ms'/\ns'.length+items2.size=ms'.length+items.size/\R (.ok (.ret (.bool (lexLt ns' ms')))) ⟨hp,g,d,tk,os⟩) _
  case turn=>
   rintro⟨y,x⟩ rest b s' ⟨hb',rfl,vs,ws,ns',ms',hz,Xp,hwi,hlen,hR⟩;cases Xp with
   |nil=>rw[List.zip_nil_left]at hz;cases hz
   |cons a t Xq=>
    cases hwi with
    |nil=>rw[List.zip_nil_right]at hz;cases hz
    |cons c u Xr=>
     rw[Bc]at hz;injection hz with hyx hrest;injection hyx with hy hx;subst hy hx;rw[zt]at hR;simp only[eh]at hlen;obtain⟨e,he,hiff⟩:=xt A.in1 ⟨hp,g,d,tk,os⟩ a t c u;refine aex (he prog w _ _ ?_);cases e with
     |true=>
      rw[if_pos (hiff.mp rfl)]at hR
      wp_walk
      exact⟨rfl,rfl,_,_,_,_,hrest,Xq,Xr,by omega,hR⟩
     |false=>
      rw[if_neg (λq=>absurd (hiff.mpr q) aH)]at hR;have hri:=EN A.in1 ⟨hp,g,d,tk,os⟩ a t c u prog w
      wp_walk using hri
      exact⟨_,rfl,by simpa using hR⟩
  case fin=>
   rintro⟨b1,b2⟩ s' ⟨hb',rfl,vs,ws,ns',ms',hz,Xp,hwi,hlen,hR⟩;simp only at hb';subst hb';have hv:lexLt ns' ms'=decide (items.size < items2.size):=by
    cases Xp with
    |nil=>
     cases hwi with
     |nil=>simp only[nE]at hlen;rw[tM];exact(decide_eq_false (by omega)).symm
     |cons c u hw=>simp only[nE,eh]at hlen;rw[rj];exact(decide_eq_true (by omega)).symm
    |cons a t hv=>
     cases hwi with
     |nil=>simp only[nE,eh]at hlen;rw[rn];exact(decide_eq_false (by omega)).symm
     |cons c u hw=>rw[Bc]at hz;cases hz
   rw[hv]at hR
   wp_walk
   exact⟨_,rfl,by simpa [N']using hR⟩
  case h=>
   exact⟨rfl,rfl,items.toList,items2.toList,ns,ms,rfl,hi,hj,by omega,h⟩
end
variable{items:Array aej}{Q:aej->aei->Prop}{sl:aed}
section
variable {prog:aeh}{w:aek}{A:aee}{E:aej->aei->Prop}{s:aei}
theorem zu{l b:aed}{items2:Array aej}{ns ms:List Int}(hl:IsTup s.heap l items)(hb:IsTup s.heap b items2)(hi:IntsAre items.toList ns)(hj:IntsAre items2.toList ms)
  (hu:A.units < cLine)(h:Q (.bool (lexLt ns ms)) s):aew (model prog w) A (aeq .Lt (.ref l) (.ref b)) Q E s:=by
 obtain⟨⟨cls,dd,data,sl⟩,ho,hc,n,hd⟩:=id hl;obtain⟨⟨SU,dd2,data2,sl2⟩,ho2,hc2,n2,hd2⟩:=id hb;simp only at hc hd hc2 hd2;subst hc hd hc2 hd2;exact richCompare_meets_room (op:=.Lt) ⟨_,ho,rfl⟩ ⟨_,ho2,rfl⟩ PySem.F.slot_tuple_lt PySem.F.entry_tuple_lt (PySem.F.args_tuple_lt_2 _ _) (tN l b items items2 n n2 dd dd2 sl sl2 ns ms hi hj)
  ⟨ho,ho2,show qE (lexLt ns ms)≠Bd/\Q (.bool (lexLt ns ms)) s from⟨(λx=>nomatch x),h⟩⟩ hu
theorem JM{t b:aed}{vs ws:List aej}(ht:IsTup s.heap t vs.toArray)(hb:IsTup s.heap b ws.toArray)(hv:vs≠[])
  (h1:ws=[]->Q (.ref t) s)(h2:ws≠[]->Q (.ref s.heap.objs.size) { s with heap:=s.heap.push { cls:=.type "tuple",data:=.seq (vs++ws).toArray } })
  (hsz:vs.length+ws.length<=aeu):aew (model prog w) A (aem .Add (.ref t) (.ref b)) Q E s:=by
 obtain⟨⟨cls,dd,data,sl⟩,ho,hc,n,hd⟩:=id ht;obtain⟨⟨SU,dd2,data2,sl2⟩,ho2,hc2,n2,hd2⟩:=id hb;simp only at hc hd hc2 hd2;subst hc hd hc2 hd2;have e:vs.toArray++ws.toArray=(vs++ws).toArray:=by simp
 by_cases hw:ws=[]
 ·exact concat_meets ⟨_,ho,rfl⟩ ⟨_,ho2,rfl⟩ noFill_tuple_add seq_tuple_add PySem.F.slot_tuple_add PySem.F.entry_tuple_add (PySem.F.args_tuple_add_2 _ _)
   (tuple_addW1 t b vs.toArray ws.toArray n n2 dd dd2 sl sl2 (by simpa using hv) (by simp[hw])) ⟨ho,ho2,h1 hw⟩
 ·refine concat_meets ⟨_,ho,rfl⟩ ⟨_,ho2,rfl⟩ noFill_tuple_add seq_tuple_add PySem.F.slot_tuple_add PySem.F.entry_tuple_add (PySem.F.args_tuple_add_2 _ _)
   (tuple_addW2 t b vs.toArray ws.toArray n n2 dd dd2 sl sl2 (by simpa using hv) (by simpa using hw) (by rw[bc,bc];exact hsz)) ⟨ho,ho2,?_⟩
  rw[e];exact h2 hw
def eR(n d:Nat):Option Int->Nat
 |none=>d
 |some v=>if v < 0 then(v+(n:Int)).toNat else min v.toNat n
theorem Oc(n d:Nat)(hd:d<=n)(o:Option Int):eR n d o<=n:=by
 cases o with
 |none=>exact hd
 |some v=>
  show(if v < 0 then(v+(n:Int)).toNat else min v.toNat n)<=n;by_cases hv:v < 0
  ·rw[if_pos hv];omega
  ·rw[if_neg hv];exact Be _ _
theorem Bf(v:Int)(n d:Nat):(if v < 0 then max (v+(n:Int)) 0 else min v (n:Int))=((eR n d (some v):Nat):Int):=by
 show(if v < 0 then max (v+(n:Int)) 0 else min v (n:Int))=(((if v < 0 then(v+(n:Int)).toNat else min v.toNat n):Nat):Int);by_cases hv:v < 0
 ·simp only[if_pos hv];omega
 ·simp only[if_neg hv];omega
theorem zv(lo hi:Option Int)(n:Nat):EO lo hi 1 (n:Int)=(((eR n 0 lo:Nat):Int),((eR n n hi:Nat):Int)):=by
 have h1:¬((1:Int) < 0):=by omega
 unfold EO;simp only[h1,if_false];refine jI ?_ ?_
 ·cases lo with
  |none=>rfl
  |some v=>exact Bf v n 0
 ·cases hi with
  |none=>rfl
  |some v=>exact Bf v n n
theorem zw(i j:Nat):zy (i:Int) (j:Int) 1=j - i:=by
 unfold zy;have h1:(1:Int) > 0:=by omega
 simp only[h1,if_true,Int.ediv_one];split<;>omega
theorem rA{v:aej}{o:Option Int}{Q:Option Int->aei->Prop}(p:IsPart v o)(h:Q o s):aew (model prog w) A (Builtin.Slice.slicePartIndex v) Q E s:=by
 cases p with
 |none=>exact slicePart_none h
 |int i t=>exact slicePart_int h
theorem jj{vl vu:aej}{lo hi:Option Int}{n:Nat}{Q:Int×Int×Nat->aei->Prop}(hs:s.heap.IsSliceOf sl vl vu .none)(pl:IsPart vl lo)(pu:IsPart vu hi)
  (h:Q (((eR n 0 lo:Nat):Int),1,eR n n hi - eR n 0 lo) s):aew (model prog w) A (Oe (.ref sl) (pure (n:Int))) Q E s:=by
 obtain⟨os,hos,hcs,hds⟩:=id hs;unfold Oe Builtin.Slice.sliceFields;refine aex (aex (wpAny_field hos hds (x:=vl) rfl (aex (wpAny_field hos hds (x:=vu) rfl (aex (wpAny_field hos hds (x:=.none) rfl (aeC ?_)))))));refine aex (slicePart_none ?_);show aew _ _ (if((1:Int) == 0)=true then _ else _) _ _ s;rw[if_neg (by decide)];refine aex (rA pl (aex (rA pu (aex (aeC ?_)))));show aew _ _ (match EO lo hi 1 (n:Int)with |(lo,hi)=>pure (lo,(1:Int),zy lo hi 1)) _ _ s
 rw[zv lo hi n];show aew _ _ (pure (((eR n 0 lo:Nat):Int),(1:Int),zy ((eR n 0 lo:Nat):Int) ((eR n n hi:Nat):Int) 1)) _ _ s;rw[zw];exact aeC h
theorem ER(xs:Array aej)(i k:Nat):((dh k).filterMap λ(m:Nat)=>xs[((i:Int)+(m:Int) * 1).toNat]?).toArray=((xs.toList.drop i).take k).toArray:=by
 have e:(λ(m:Nat)=>xs[((i:Int)+(m:Int) * 1).toNat]?)=λm=>xs[i+m]?:=by
  funext m;have:((i:Int)+(m:Int) * 1).toNat=i+m:=by omega
  rw[this]
 rw[e];have:=pick_run xs i k;rw[List.filterMap_map]at this;have e2:((λx=>xs[x]?) ∘ λx=>i+x)=λm=>xs[i+m]?:=rfl;rw[e2]at this;rw[this]
theorem nG{t:aed}{vl vu:aej}{lo hi:Option Int}(ht:IsTup s.heap t items)(hs:s.heap.IsSliceOf sl vl vu .none)(pl:IsPart vl lo)(pu:IsPart vu hi)
  (hw:¬(eR items.size 0 lo=0/\eR items.size items.size hi=items.size))
  (h:Q (.ref s.heap.objs.size) { s with heap:=s.heap.push { cls:=.type "tuple",data:=.seq ((items.toList.drop (eR items.size 0 lo)).take (eR items.size items.size hi - eR items.size 0 lo)).toArray } })
  (hsz:items.size<=aeu):aew (model prog w) A (getItem (.ref t) (.ref sl)) Q E s:=by
 have Bg:sizeOk (.seq ((items.toList.drop (eR items.size 0 lo)).take (eR items.size items.size hi - eR items.size 0 lo)).toArray):=by show((items.toList.drop (eR items.size 0 lo)).take (eR items.size items.size hi - eR items.size 0 lo)).toArray.size<=aeu;rw[bc,nD,List.length_drop,Ba];omega
 have hj:eR items.size items.size hi<=items.size:=Oc _ _ (aE _) hi;obtain⟨os,hos,hcs,hds⟩:=id hs;have hTs:s.TypeIs (.ref sl) "slice":=⟨os,hos,hcs⟩;unfold getItem
 try with_reducible refine aez ?_
 first |refine aex (aeC ?_) |skip
 refine aex (wpAny_sequenceKey ht.typeIs (by decide) ?_);refine aex (wpAny_callSpecial?_slot (name:=lV "__getitem__") ht.typeIs vA
  (wpAny_call_entry vA ht.typeIs entry_tuple_getitem ?_ (args_tuple_getitem _ _)))
 show aew _ _ (zc (.ref t) >>= _) _ _ s;refine aex (tupleItemsOf_ ht ?_);refine aex (wpAny_typeOf hTs ?_);rw[if_pos (by decide)];refine aex (jj hs pl pu ?_);have hno:¬((((eR items.size 0 lo:Nat):Int) == 0&&(1:Int) == 1&&(eR items.size items.size hi - eR items.size 0 lo) == items.size)=true):=by intro q;rw[dI,dI]at q;have q1:((eR items.size 0 lo:Nat):Int)=0:=eq_of_beq q.1.1;have q2:eR items.size items.size hi - eR items.size 0 lo=items.size:=eq_of_beq q.2;exact hw ⟨by omega,by omega⟩
 show aew _ _ (if(((eR items.size 0 lo:Nat):Int) == 0&&(1:Int) == 1&&(eR items.size items.size hi - eR items.size 0 lo) == items.size)=true then _ else _) _ _ s;rw[if_neg hno,ER]
 first
  |exact aex (m:=rB _) (aeB (aeC ⟨_,rfl,aeC h⟩) Bg)
  |exact aex (m:=rB _) (aeB (aex (aeC (aeC ⟨_,rfl,aeC h⟩))) Bg)
  |exact aex (aex (m:=rB _) (aeB (aeC (aeC ⟨_,rfl,aeC h⟩)) Bg))
  |exact aex (aex (m:=rB _) (aeB (aeC ⟨_,rfl,aeC h⟩) Bg))
end
end HT
namespace L2
open PySem PySem.Spec PyProof.Rows
abbrev TO:=St->Hp->(Option Int->Hp->Prop)->Prop
def PO(X:Cx)(e:Option Expr)(t:TO):Prop :=
 ∀(pins:List (aed×Obj))(s:aei)(σ:St)(H:Hp)(Q:Option Int->Hp->Prop),Inv X pins σ H s->t σ H Q->
  aew (model X.prog X.w) X.A (evalPart e X.env) (λu s'=>∃o H',Inv X pins σ H' s'/\IsPart u o/\Q o H') X.xe s
def JN:TO:=λ_ H Q=>Q none H
def SV(t:TE):TO:=λσ H Q=>t σ H λx H1=>∃i,x= .int i/\Q (some i) H1
theorem intsAre_of{ns:List Int}:∀{us:List aej},Vals (ns.map V.int) us->IntsAre us ns:=by
 induction ns with
 |nil=>intro us r;rw[jJ]at r;cases r;exact .nil
 |cons n ns ih=>
  intro us r;rw[aK]at r;cases r with
  |cons r1 r2=>obtain⟨t,e⟩:=r1;subst e;exact .cons n t (ih r2)
variable{r:V->Option Int->Option Int->Hp->VK->Prop}{xs:List V}
section
variable {X:Cx}{e:Expr}{te:TE}{lo hi:Option Expr}{tl th:TO}{pos p2:Pos}
theorem JP:PO X none JN:=by intro pins s σ H Q I h;rw[evalPart_none];exact aeC ⟨none,H,I,.none,h⟩
theorem JQ(h:PE X e te):PO X (some e) (SV te):=by intro pins s σ H Q I hw;rw[evalPart_some];refine bK (h pins s σ H _ I hw) λu s1 ⟨x,H1,I1,r1,q1⟩=>?_;obtain⟨i,rfl,q⟩:=q1;obtain⟨t,rfl⟩:=r1;exact⟨some i,H1,I1,.int i t,q⟩
def I_(X:Cx)(r:V->Option Int->Option Int->Hp->VK->Prop):Prop :=
 ∀(pins:List (aed×Obj))(s:aei)(σ:St)(H:Hp)(x:V)(v vl vu:aej)(lo hi:Option Int)(sl:aed)(Q:VK),Inv X pins σ H s->RelV x v->s.heap.IsSliceOf sl vl vu .none->IsPart vl lo->IsPart vu hi->r x lo hi H Q->
  ∃T id,typeLookup (.type T) "__getitem__"=pure (some (.builtin id))/\s.TypeIs v T/\aew (model X.prog X.w) X.A (getItem v (.ref sl)) (EP X pins σ Q) X.xe s
theorem I_.or{r':V->Option Int->Option Int->Hp->VK->Prop}(h:I_ X r)(h':I_ X r'):I_ X (λx lo hi H Q=>r x lo hi H Q\/r' x lo hi H Q):=by
 intro pins s σ H x v vl vu lo hi sl Q I rx hs pl pu q;rcases q with q |q
 ·exact h pins s σ H x v vl vu lo hi sl Q I rx hs pl pu q
 ·exact h' pins s σ H x v vl vu lo hi sl Q I rx hs pl pu q
def tSl(r:V->Option Int->Option Int->Hp->VK->Prop)(te:TE)(tl th:TO):TE:=λσ H Q=>te σ H λx H1=>tl σ H1 λl H2=>th σ H2 λu H3=>r x l u H3 Q
theorem rC(hr:I_ X r)(he:PE X e te)(hl:PO X lo tl)(hu:PO X hi th):PE X (.Subscript e (.Slice lo hi none p2) pos) (tSl r te tl th):=by intro pins s σ H Q I h;refine Subscript_ (bK (he pins s σ H _ I h) λv s1 ⟨x,H1,I1,r1,q1⟩=>?_);refine wpAny_Slice (bK (hl pins s1 σ H1 _ I1 q1) λvl s2 ⟨l,H2,I2,pl,q2⟩=>bK (hu pins s2 σ H2 _ I2 q2) λvu s3 ⟨u,H3,I3,pu,q3⟩=>?_);rw[evalPart_none];refine aeC ?_;have I4:Inv X pins σ H3 { s3 with heap:=s3.heap.push { cls:=.type "slice",data:=.fields #[vl,vu,.none] } }:=I3.kept (t':=s3.toks) λb ob q=>bt _ q;obtain⟨T,id,hT,ht,hg⟩:=hr pins { s3 with heap:=s3.heap.push { cls:=.type "slice",data:=.fields #[vl,vu,.none] } } σ H3 x v vl vu l u s3.heap.objs.size Q I4 r1 (Heap.IsSliceOf.new ..) pl pu q3;show aew (model X.prog X.w) X.A (subscriptTail e (.Slice lo hi none p2) v (.ref s3.heap.objs.size)) (EP X pins σ Q) X.xe { s3 with heap:=s3.heap.push { cls:=.type "slice",data:=.fields #[vl,vu,.none] } };exact tail_any (ops:=[.ref s3.heap.objs.size,v]) ht hT hg (by with_unfolding_all rfl)
def tO(xs:List V)(lo hi:Option Int):List V:=(xs.drop (HT.eR xs.length 0 lo)).take (HT.eR xs.length xs.length hi - HT.eR xs.length 0 lo)
theorem pU(xs:List V)(lo hi:Option Int):(tO xs lo hi).length<=xs.length:=by unfold tO;rw[nD,List.length_drop];omega
def Xs(K:PySem.W.Frag):V->Option Int->Option Int->Hp->VK->Prop:=λx lo hi H Q=>∃a xs,x= .ref a/\fM K H a xs/\
 ¬(HT.eR xs.length 0 lo=0/\HT.eR xs.length xs.length hi=xs.length)/\∀p,H p=none->Q (.ref p) (upd H p (.tup (tO xs lo hi)))
theorem ES:I_ X (Xs X.K):=by
 intro pins s σ H x v vl vu lo hi sl Q I rx hs pl pu h;obtain⟨a,xs,rfl,hx,hw,q⟩:=h;cases rx;obtain⟨its,r,ht,hz⟩:=I.tuple hx;have hlen:its.toArray.size=xs.length:=by rw[bc];exact r.length.symm
 refine⟨"tuple",_,PyProof.Rows.slot_tuple_getitem.lookup,ht.typeIs,?_⟩;refine HT.nG ht hs pl pu (by rw[hlen];exact hw) ?_ (by rw[hlen];exact hz);rw[hlen];refine⟨.ref s.heap.objs.size,_,I.laid (t':=s.toks) (o:=.tup (tO xs lo hi)) (λb ob q=>bt _ q) (aE _) ?_,rfl,q _ (I.hok.fresh (aE _))⟩;exact⟨aV (pU xs lo hi) hz,_,(r.drop (HT.eR xs.length 0 lo)).take (HT.eR xs.length xs.length hi - HT.eR xs.length 0 lo),vB _ _,vc.new _ _⟩
def Xt(K:PySem.W.Frag):R2:=λx y H Q=>∃a b ns ms,x= .ref a/\y= .ref b/\fM K H a (ns.map V.int)/\fM K H b (ms.map V.int)/\Q (.bl (HT.lexLt ns ms)) H
theorem Of(hu:X.A.units < cLine):fh X (aeq .Lt) (Xt X.K):=by intro pins s σ H x y v u Q I rx ry h;obtain⟨a,b,ns,ms,rfl,rfl,ha,hb,q⟩:=h;cases rx;cases ry;obtain⟨its,r1,p1,_⟩:=I.tuple ha;obtain⟨its2,r2,p2,_⟩:=I.tuple hb;have i1:IntsAre its.toArray.toList ns:=intsAre_of r1;have i2:IntsAre its2.toArray.toList ms:=intsAre_of r2;exact HT.zu p1 p2 i1 i2 hu ⟨.bl (HT.lexLt ns ms),H,I,rfl,q⟩
def SX(K:PySem.W.Frag):R2:=λx y H Q=>∃a b xs ys,x= .ref a/\y= .ref b/\fM K H a xs/\fM K H b ys/\xs≠[]/\xs.length+ys.length<=aeu/\
 (ys=[]->Q (.ref a) H)/\(ys≠[]->∀p,H p=none->Q (.ref p) (upd H p (.tup (xs++ys))))
theorem Vals.vC{us:List aej}(r:Vals xs us):us=[]↔xs=[]:=by
 cases r with
 |nil=>simp
 |cons _ _=>simp
theorem JR:fh X (aem .Add) (SX X.K):=by intro pins s σ H x y v u Q I rx ry h;obtain⟨a,b,xs,ys,rfl,rfl,ha,hb,hx,hz,q1,q2⟩:=h;cases rx;cases ry;obtain⟨its,r1,p1,_⟩:=I.tuple ha;obtain⟨its2,r2,p2,_⟩:=I.tuple hb;refine HT.JM p1 p2 (λz=>hx (r1.vC.mp z)) (λz=>⟨.ref a,H,I,rfl,q1 (r2.vC.mp z)⟩) (λz=>?_) (by rw[<-r1.length,<-r2.length];exact hz);refine⟨.ref s.heap.objs.size,_,I.laid (t':=s.toks) (o:=.tup (xs++ys)) (λb ob q=>bt _ q) (aE _) ?_,rfl,q2 (λw=>z (r2.vC.mpr w)) _ (I.hok.fresh (aE _))⟩;exact⟨by rw[dA];exact hz,_,r1.append r2,vB _ _,vc.new _ _⟩
end
def C2(n:Nat)(i:Int):Option Nat:=if 0<=i then(if i < n then some i.toNat else none)else if -(n:Int)<=i then some (i+n).toNat else none
variable{α:Type}
def oJ(xs:List α)(i:Int):Option α:=(C2 xs.length i).bind λj=>xs[j]?
variable{n j:Nat}{i:Int}
theorem Bh(h:C2 n i=some j):seqIndex? i n=some j/\j < n/\-(n:Int)<=i/\i < n:=by
 unfold C2 at h;by_cases h0:0<=i
 ·rw[if_pos h0]at h;by_cases h1:i < n
  ·rw[if_pos h1]at h;have e:i.toNat=j:=Option.some.inj h;exact⟨by rw[seqIndex_of h0 h1,e],by omega,by omega,h1⟩
  ·rw[if_neg h1]at h;cases h
 ·rw[if_neg h0]at h;by_cases h1:-(n:Int)<=i
  ·rw[if_pos h1]at h;have e:(i+n).toNat=j:=Option.some.inj h;exact⟨by rw[seqIndex_neg (by omega) h1,e],by omega,h1,by omega⟩
  ·rw[if_neg h1]at h;cases h
theorem qH{xs:List α}{v:α}(h:oJ xs i=some v):∃j,seqIndex? i xs.length=some j/\xs[j]? =some v/\j < xs.length/\-(xs.length:Int)<=i/\i < xs.length:=by
 unfold oJ at h;cases e:C2 xs.length i with
 |none=>rw[e]at h;cases h
 |some j=>rw[e]at h;obtain⟨h1,h2,h3,h4⟩:=Bh e;exact⟨j,h1,h,h2,h3,h4⟩
theorem lW{xs:List α}{v:α}(h:xs[j]? =some v):oJ xs (j:Int)=some v:=by
 have hj:j < xs.length:=(List.getElem?_eq_some_iff.mp h).1;have e:C2 xs.length (j:Int)=some j:=by unfold C2;rw[if_pos (by omega),if_pos (by omega)];simp
 unfold oJ;rw[e];exact h
def Bi(b:Expr):Prop:=∀o i,subscripted b false o i=operate [o,i] (getItem o i)
def JU(X:Cx)(r:R2):Prop :=
 ∀(value slice:Expr)(pins:List (aed×Obj))(s:aei)(σ:St)(H:Hp)(x y:V)(v u:aej)(Q:VK),Inv X pins σ H s->RelV x v->RelV y u->r x y H Q->
  subscripted slice false v u=operate [v,u] (getItem v u)->aew (model X.prog X.w) X.A (subscriptTail value slice v u) (EP X pins σ Q) X.xe s
def Xu(X:Cx)(id:String)(r:V->List V->Hp->VK->Prop):Prop :=
 ∀(pins:List (aed×Obj))(s:aei)(σ:St)(H:Hp)(x:V)(xs:List V)(v:aej)(us:List aej)(Q:VK),Inv X pins σ H s->RelV x v->Vals xs us->r x xs H Q->
  aew (model X.prog X.w) X.A (call (.builtin id) (v::us)) (EP X pins σ Q) X.xe s
variable{r:R2}{σ:St}{H:Hp}{s:aei}{p:aed}{its its':List aej}{x:V}{u v:aej}
section
variable {X:Cx}{a b:Expr}{ta tb:TE}{pos:Pos}
theorem JU.or{r':R2}(h:JU X r)(h':JU X r'):JU X (λx y H Q=>r x y H Q\/r' x y H Q):=by
 intro value slice pins s σ H x y v u Q I rx ry q hs;rcases q with q |q
 ·exact h value slice pins s σ H x y v u Q I rx ry q hs
 ·exact h' value slice pins s σ H x y v u Q I rx ry q hs
theorem SY(hr:JU X r)(ha:PE X a ta)(hb:PE X b tb)(hs:Bi b):PE X (.Subscript a b pos) (Sy r ta tb):=by intro pins s σ H Q I h;exact Subscript_ (NU ha hb I h λv u s2 x y H2 I2 rx ry q=>hr a b pins s2 σ H2 x y v u Q I2 rx ry q (hs _ _))
def S0(K:PySem.W.Frag):R2:=λx y H Q=>∃p xs i v,x= .ref p/\y= .int i/\mO K H p xs/\oJ xs i=some v/\Q v H
def S6(K:PySem.W.Frag):R2:=λx y H Q=>∃p xs i v,x= .ref p/\y= .int i/\fM K H p xs/\oJ xs i=some v/\Q v H
def S7:R2:=λx y H Q=>∃z i c,x= .str z/\y= .int i/\z.length<=aeu/\oJ z.cps.toList i=some c/\Q (.str ⟨#[c]⟩) H
theorem JV:JU X (S0 X.K):=by
 intro value slice pins s σ H x y v u Q I rx ry h hs;obtain⟨p,xs,i,z,rfl,rfl,hq,he,q⟩:=h;cases rx;obtain⟨t,rfl⟩:=ry;obtain⟨its,r,pl,hz⟩:=I.list hq;obtain⟨j,h1,h2,h3,h4,h5⟩:=qH he;obtain⟨w,ew,rw'⟩:=r.get h2;have hl:=r.length;have hn:=mP;have fin:EP X pins σ Q w s:=⟨z,H,I,rw',q⟩;by_cases h0:0<=i
 ·have hj:i.toNat=j:=by rw[seqIndex_of h0 h5]at h1;exact Option.some.inj h1
  exact item_listR pl.isList h0 (by omega) (by rw[hj];simpa using ew) fin hs
 ·have hj:(i+(its.toArray.size:Int)).toNat=j:=by rw[seqIndex_neg (by omega) h4]at h1;rw[bc,<-hl];exact Option.some.inj h1
  exact subscriptTail_builtinR (x:=w) pl.isList.typeIs slot_list_getitem.lookup
   (wpAny_getItem_list_neg (Q:=λr s'=>r=w/\EP X pins σ Q r s') pl.isList (by omega) (by rw[bc]<;>omega) (by omega) (by rw[hj];simpa using ew) ⟨rfl,fin⟩) hs
theorem Og:JU X (S6 X.K):=by
 intro value slice pins s σ H x y v u Q I rx ry h hs;obtain⟨p,xs,i,z,rfl,rfl,hq,he,q⟩:=h;cases rx;obtain⟨t,rfl⟩:=ry;obtain⟨its,r,pl,hz⟩:=I.tuple hq;obtain⟨j,h1,h2,h3,h4,h5⟩:=qH he;obtain⟨w,ew,rw'⟩:=r.get h2;have hl:=r.length;have hn:=mP;have fin:EP X pins σ Q w s:=⟨z,H,I,rw',q⟩;exact subscriptTail_builtinR (x:=w) pl.typeIs slot_tuple_getitem.lookup
  (getItem_tuple (j:=j) (Q:=λr s'=>r=w/\EP X pins σ Q r s') pl (by omega) (by omega) (by rw[bc,<-hl];exact h1) (by simpa using ew) ⟨rfl,fin⟩) hs
theorem Oh:JU X S7:=by
 intro value slice pins s σ H x y v u Q I rx ry h hs;obtain⟨z,i,c,rfl,rfl,hz,he,q⟩:=h;obtain⟨t,rfl⟩:=rx;obtain⟨t',rfl⟩:=ry;obtain⟨j,h1,h2,h3,h4,h5⟩:=qH he;have hl:z.cps.toList.length=z.length:=by simp[Str.length]
 rw[hl]at h1 h4 h5;have hn:=mP;exact tail_any (typeIs_str s z t) slot_str_getitem.lookup (getItem_str (c:=c) (by have e1:decide (i < -(2 ^ 63:Int))=false:=decide_eq_false (by omega);have e2:decide (i >= 2 ^ 63)=false:=decide_eq_false (by omega);rw[e1,e2,Bool.or_false]) (by rw[h1];simpa using h2) ⟨.str ⟨#[c]⟩,H,I.tok _,⟨_,rfl⟩,q⟩) hs
def Z'(K:PySem.W.Frag):R2:=λx y H Q=>S0 K x y H Q\/S6 K x y H Q\/S7 x y H Q
theorem Oi:JU X (Z' X.K):=JV.or (Og.or Oh)
theorem zA(its:List aej)(n j:Nat)(u:aej):nH (·.setIfInBounds j u) { cls:=.type "list",data:=.seq its.toArray n }={ cls:=.type "list",data:=.seq (its.set j u).toArray n }:=by simp[nH]
theorem Inv.lst{pins:List (aed×Obj)}(I:Inv X pins σ H s)(h:H p=some (.lst xs)):
  ∃(its:List aej)(n:Nat),Vals xs its/\s.heap.get? p=some { cls:=.type "list",data:=.seq its.toArray n }/\xs.length<=aeu:=by
 obtain⟨z,its,n,r,e⟩:=I.hok p _ h;exact⟨its,n,r,e,z⟩
theorem Inv.Oj{pins:List (aed×Obj)}{ys:List V}{n':Nat}{f:Obj->Obj}(I:Inv X pins σ H s)(h:H p=some (.lst xs))
  (ho:s.heap.get? p=some { cls:=.type "list",data:=.seq its.toArray n })(hf:f { cls:=.type "list",data:=.seq its.toArray n }={ cls:=.type "list",data:=.seq its'.toArray n' })(r:Vals ys its')(hz:ys.length<=aeu)(t:Nat):
  Inv X pins σ (upd H p (.lst ys)) { s with heap:=s.heap.update p f,toks:=t }:=by
 have e:(s.heap.update p f).get? p=some { cls:=.type "list",data:=.seq its'.toArray n' }:=by rw[rD f ho (by rw[hf]<;>rfl),hf]
 refine I.write (x:=p) (e:=p) (by rw[h];trivial) (.inl rfl) (λb u hb q=>(rE _ _ (bA hb)).trans q) ⟨_,e⟩ ?_;exact⟨hz,its',n',r,e⟩
def S8:V->V->V->Hp->(Hp->Prop)->Prop:=λo i v H Q=>∃p xs k j,o= .ref p/\i= .int k/\H p=some (.lst xs)/\C2 xs.length k=some j/\Q (upd H p (.lst (xs.set j v)))
theorem set_list:Su X S8:=by
 intro pins s σ H o i v ov iv u Q I ro ri rv h;obtain⟨p,xs,k,j,rfl,rfl,hp,hj,q⟩:=h;cases ro;obtain⟨t,rfl⟩:=ri;obtain⟨its,n,r,ho,hz⟩:=I.lst hp;obtain⟨h1,h2,h3,h4⟩:=Bh hj;have hl:=r.length;have hn:=mP;have I':Inv X pins σ (upd H p (.lst (xs.set j v))) { s with heap:=s.heap.update p (nH (·.setIfInBounds j u)) } :=
  I.Oj hp ho (zA its n j u) (r.set rv j) (by rw[nI];exact hz) s.toks
 by_cases h0:0<=k
 ·have hk:k.toNat=j:=by rw[seqIndex_of h0 h4]at h1;exact Option.some.inj h1
  exact PySem.W.ki_setAt ho h0 (by omega) (by rw[bc,<-hl];exact h4) (by rw[hk];exact⟨_,I',q⟩)
 ·have hk:(k+(its.toArray.size:Int)).toNat=j:=by rw[seqIndex_neg (by omega) h3]at h1;rw[bc,<-hl];exact Option.some.inj h1
  exact PySem.W.ki_setBack ho (by omega) (by rw[bc,<-hl];exact h3) (by omega) (by rw[hk];exact⟨_,I',q⟩)
theorem vD(lo hi:Option Int)(n:Nat):(sliceBounds lo hi none n).1=((HT.eR n 0 lo:Nat):Int)/\(sliceBounds lo hi none n).2.1=((HT.eR n n hi:Nat):Int)/\(sliceBounds lo hi none n).2.2=1:=by
 refine⟨?_,?_,rfl⟩
 ·cases lo with
  |none=>simp[sliceBounds,HT.eR]
  |some i=>
   simp only[sliceBounds,HT.eR,Option.getD_none,show(1:Int) > 0 by decide,if_true];by_cases h:i < 0
   ·simp only[h,if_true]<;>omega
   ·simp only[h,if_false]<;>omega
 ·cases hi with
  |none=>simp[sliceBounds,HT.eR]
  |some i=>
   simp only[sliceBounds,HT.eR,Option.getD_none,show(1:Int) > 0 by decide,if_true];by_cases h:i < 0
   ·simp only[h,if_true]<;>omega
   ·simp only[h,if_false]<;>omega
theorem tP(its:List aej)(lo hi:Option Int):slicePick its.toArray lo hi none=((its.drop (HT.eR its.length 0 lo)).take (HT.eR its.length its.length hi - HT.eR its.length 0 lo)).toArray:=by obtain⟨h1,h2,h3⟩:=vD lo hi its.toArray.size;unfold slicePick;rw[h1,h2,h3];simp only[sliceRange_one,pick_run,bc]<;>rfl
def Xv(K:PySem.W.Frag):V->Option Int->Option Int->Hp->VK->Prop:=λx lo hi H Q=>∃a xs,x= .ref a/\mO K H a xs/\∀p,H p=none->Q (.ref p) (upd H p (.lst (tO xs lo hi)))
theorem JX:I_ X (Xv X.K):=by intro pins s σ H x v vl vu lo hi sl Q I rx hs pl pu h;obtain⟨a,xs,rfl,hx,q⟩:=h;cases rx;obtain⟨its,r,ht,hz⟩:=I.list hx;have hlen:=r.length;refine⟨"list",_,slot_list_getitem.lookup,ht.isList.typeIs,?_⟩;refine wpAny_getItem_list_slice ht.isList hs pl pu .none (by simp) ?_ (by rw[bc]<;>omega);rw[tP,<-hlen];refine⟨.ref s.heap.objs.size,_,I.laid (t':=s.toks) (o:=.lst (tO xs lo hi)) (λb ob q=>bt _ q) (aE _) ?_,rfl,q _ (I.hok.fresh (aE _))⟩;exact⟨aV (pU xs lo hi) hz,_,0,(r.drop (HT.eR xs.length 0 lo)).take (HT.eR xs.length xs.length hi - HT.eR xs.length 0 lo),cj _ rfl⟩
def mH:V->Bool
 |.non=>true
 |.bl _=>true
 |.int _=>true
 |.str _=>true
 |_=>false
def JY:V->V->Bool
 |.non,.non=>true
 |.bl a,.bl b=>a == b
 |.bl a,.int b=>(if a then 1 else 0) == b
 |.int a,.bl b=>a == (if b then 1 else 0)
 |.int a,.int b=>a == b
 |.str a,.str b=>a == b
 |_,_=>false
theorem Ol{A:aee}{y:V}(ry:RelV y u)(rx:RelV x v)(fy:mH y=true)(fx:mH x=true):SeqAt.EqAt A s u v (JY y x):=by
 cases y with
 |non=>
  cases ry;cases x with
  |non=>cases rx;exact Jm _
  |bl b=>cases rx;exact SeqAt.EqAt.none_bool b
  |int b=>obtain⟨t,rfl⟩:=rx;exact Jk b t
  |str b=>obtain⟨t,rfl⟩:=rx;exact Jl b t
  |_=>exact absurd (show false=true from fx) aH
 |bl a=>
  cases ry;cases x with
  |non=>cases rx;exact SeqAt.EqAt.bool_none a
  |bl b=>cases rx;exact SeqAt.EqAt.bool_bool a b
  |int b=>obtain⟨t,rfl⟩:=rx;exact SeqAt.EqAt.bool_int a b t
  |str b=>obtain⟨t,rfl⟩:=rx;exact SeqAt.EqAt.bool_str a b t
  |_=>exact absurd (show false=true from fx) aH
 |int a=>
  obtain⟨t',rfl⟩:=ry;cases x with
  |non=>cases rx;exact Jh a t'
  |bl b=>cases rx;exact SeqAt.EqAt.int_bool a t' b
  |int b=>obtain⟨t,rfl⟩:=rx;exact JK a t' b t
  |str b=>obtain⟨t,rfl⟩:=rx;exact Jg a t' b t
  |_=>exact absurd (show false=true from fx) aH
 |str a=>
  obtain⟨t',rfl⟩:=ry;cases x with
  |non=>cases rx;exact Jj a t'
  |bl b=>cases rx;exact SeqAt.EqAt.str_bool a t' b
  |int b=>obtain⟨t,rfl⟩:=rx;exact Ji a t' b t
  |str b=>obtain⟨t,rfl⟩:=rx;exact SeqAt.EqAt.str_str a t' b t
  |_=>exact absurd (show false=true from fx) aH
 |_=>exact absurd (show false=true from fy) aH
def JZ(x:V)(u:aej):Bool:=match u with
 |.none=>JY .non x
 |.bool b=>JY (.bl b) x
 |.int i _=>JY (.int i) x
 |.str z _=>JY (.str z) x
 |_=>false
theorem ET{y:V}(r:RelV y u)(f:mH y=true):JZ x u=JY y x:=by
 cases y with
 |non=>cases r;rfl
 |bl b=>cases r;rfl
 |int i=>obtain⟨t,rfl⟩:=r;rfl
 |str z=>obtain⟨t,rfl⟩:=r;rfl
 |_=>exact absurd (show false=true from f) aH
theorem vE{x:V}:∀{xs:List V}{us:List aej},Vals xs us->xs.all mH=true->us.any (JZ x)=xs.any λy=>JY y x
 |_,_,.nil,_=>rfl
 |y::xs,u::us,.cons r t,f=>by rw[dY,dI]at f;rw[f7,f7,ET r f.1,vE t f.2]
theorem rF{A:aee}{s:aei}{x:V}{v:aej}(rx:RelV x v)(fx:mH x=true):∀{xs:List V}{us:List aej},Vals xs us->xs.all mH=true->∀u∈us,SeqAt.EqAt A s u v (JZ x u)
 |_,_,.nil,_=>λu hu=>by cases hu
 |y::xs,u::us,.cons r t,f=>λu' hu=>by
  rw[dY,dI]at f;rcases List.mem_cons.mp hu with rfl |hu
  ·rw[ET r f.1];exact Ol r rx f.1 fx
  ·exact rF rx fx t f.2 u' hu
def VR(x:V)(xs:List V):Bool:=xs.any λy=>JY y x
def rIn(K:PySem.W.Frag)(neg:Bool):R2:=λx y H Q=>∃p xs,y= .ref p/\(mO K H p xs\/fM K H p xs)/\mH x=true/\xs.all mH=true/\Q (.bl (if neg then !VR x xs else VR x xs)) H
theorem C3:fh X (aeq .In) (rIn X.K false):=by
 intro pins s σ H x y v u Q I rx ry h;obtain⟨p,xs,rfl,hq,fx,fs,q⟩:=h;cases ry;rcases hq with hq |hq
 ·obtain⟨its,r,pl,hz⟩:=I.list hq;refine SeqAt.in_listAt (JZ x) pl.isList (λw hw=>rF rx fx r fs w (by simpa using hw)) ⟨.bl _,H,I,rfl,?_⟩;rw[show its.toArray.any (JZ x)=its.any (JZ x) by simp,vE r fs];exact q
 ·obtain⟨its,r,pl,hz⟩:=I.tuple hq;refine SeqAt.in_tupleAt (JZ x) pl (λw hw=>rF rx fx r fs w (by simpa using hw)) ⟨.bl _,H,I,rfl,?_⟩;rw[show its.toArray.any (JZ x)=its.any (JZ x) by simp,vE r fs];exact q
theorem vF:dJ X (.builtin "len") (λxs H Q=>∃p ys,xs=[.ref p]/\(mO X.K H p ys\/fM X.K H p ys)/\Q (.int ys.length) H):=by
 intro pins s σ H xs us Q I r h;obtain⟨p,ys,rfl,hq,q⟩:=h;obtain⟨u,rfl,rx⟩:=vals1 r;cases rx;have hn:=mP;rcases hq with hq |hq
 ·obtain⟨its,r',pl,hz⟩:=I.list hq;have hlen:=r'.length;exact Calls.call_len_list pl.isList (by simp only[bc]<;>omega) ⟨.int ys.length,H,I.tok _,⟨s.toks+1,by rw[bc,hlen]⟩,q⟩
 ·obtain⟨its,r',pl,hz⟩:=I.tuple hq;have hlen:=r'.length;exact len_tuple pl (by simp only[bc]<;>omega) ⟨.int ys.length,H,I.tok _,⟨s.toks+1,by rw[bc,hlen]⟩,q⟩
theorem vG:dJ X (.builtin "len") (λxs H Q=>∃z,xs=[.str z]/\z.length<=aeu/\Q (.int z.length) H):=by intro pins s σ H xs us Q I r h;obtain⟨z,rfl,hz,q⟩:=h;obtain⟨u,rfl,t,rfl⟩:=vals1 r;have hn:=mP;exact len_str (by omega) ⟨.int z.length,H,I.tok _,⟨_,rfl⟩,q⟩
theorem dJ.or{f:aej}{r r':List V->Hp->VK->Prop}(h:dJ X f r)(h':dJ X f r'):dJ X f (λxs H Q=>r xs H Q\/r' xs H Q):=by
 intro pins s σ H xs us Q I rs q;rcases q with q |q
 ·exact h pins s σ H xs us Q I rs q
 ·exact h' pins s σ H xs us Q I rs q
theorem vH:dJ X (.type "list") (λxs H Q=>∃p ys,xs=[.ref p]/\(mO X.K H p ys\/fM X.K H p ys)/\∀l,H l=none->Q (.ref l) (upd H l (.lst ys))):=by
 intro pins s σ H xs us Q I r h;obtain⟨p,ys,rfl,hq,q⟩:=h;obtain⟨u,rfl,rx⟩:=vals1 r;cases rx;have fin:∀(its:List aej),Vals ys its->ys.length<=aeu->∀(h':Heap)(c':Nat),(∀b o',s.heap.get? b=some o'->h'.get? b=some o')->
   h'.get? s.heap.objs.size=some { cls:=.type "list",dict:=none,data:=.seq its.toArray c',slots:=#[] }->EP X pins σ Q (.ref s.heap.objs.size) { s with heap:=h' }:=λits r' hz h' c' kp e=>
  ⟨.ref s.heap.objs.size,_,I.laid (t':=s.toks) kp (aE _) (show du X.prog X.w _ h' _ (.lst ys) from⟨hz,its,c',r',e⟩),rfl,q _ (I.hok.fresh (aE _))⟩
 rcases hq with hq |hq
 ·obtain⟨its,r',pl,hz⟩:=I.list hq;have hlen:=r'.length;obtain⟨o,ho,hc,n,hd⟩:=pl.isList;exact call_list_seq p (.inl rfl) ho hc hd (λh' c' kp e=>fin its r' hz h' c' kp e) (by simp only[bc]<;>omega)
 ·obtain⟨its,r',pl,hz⟩:=I.tuple hq;have hlen:=r'.length;obtain⟨o,ho,hc,n,hd⟩:=pl;exact call_list_seq p (.inr rfl) ho hc hd (λh' c' kp e=>fin its r' hz h' c' kp e) (by simp only[bc]<;>omega)
theorem tQ:dJ X (.type "tuple") (λxs H Q=>∃p ys,xs=[.ref p]/\((mO X.K H p ys/\∀l,H l=none->Q (.ref l) (upd H l (.tup ys)))\/(fM X.K H p ys/\Q (.ref p) H))):=by
 intro pins s σ H xs us Q I r h;obtain⟨p,ys,rfl,h⟩:=h;obtain⟨u,rfl,rx⟩:=vals1 r;cases rx;rcases h with ⟨hq,q⟩ |⟨hq,q⟩
 ·obtain⟨its,r',pl,hz⟩:=I.list hq;have hlen:=r'.length;refine call_tuple_list pl.isList (λh' kp=>?_) (by simp only[bc]<;>omega);have I1:Inv X pins σ H { s with heap:=h' }:=I.kept (t':=s.toks) kp;have I2:Inv X pins σ (upd H h'.objs.size (.tup ys)) { s with heap:=h'.push { cls:=.type "tuple",data:=.seq its.toArray } } :=
   I1.laid (t':=s.toks) (λb o e=>bt _ e) (aE _) (show du X.prog X.w _ _ _ (.tup ys) from⟨hz,its,r',vB _ _,vc.new _ _⟩)
  exact⟨.ref h'.objs.size,_,I2,rfl,q _ (I1.hok.fresh (aE _))⟩
 ·obtain⟨its,r',pl,hz⟩:=I.tuple hq;exact call_tuple_same pl ⟨.ref p,H,I,rfl,q⟩
def tyV(K:PySem.W.Frag)(T:String)(x:V)(H:Hp):Prop:=match x with
 |.str _=>T="str"
 |.int _=>T="int"
 |.ref p=>(T="list"/\∃xs,mO K H p xs)\/(T="tuple"/\((∃o,K.lookup p=some o/\o.cls= .type "tuple"/\o.dict=none)\/∃xs,H p=some (.tup xs)))\/
   (T="dict"/\((∃kvs,H p=some (.dK kvs))\/∃kvs,H p=some (.dT kvs)))\/(T="set"/\∃S n,H p=some (.set S n))\/(T="dict"/\∃kvs,H p=some (.dN kvs))
 |_=>False
theorem Om{pins:List (aed×Obj)}{T:String}(I:Inv X pins σ H s)(r:RelV x v)(ty:tyV X.K T x H):
  s.TypeIs v T/\∀a,v= .ref a->∃ob,s.heap.get? a=some ob/\ob.dict=none:=by
 cases x with
 |str z=>obtain⟨t,rfl⟩:=r;cases (show T="str" from ty);exact⟨typeIs_str s z t,λ_ e=>nomatch e⟩
 |int i=>obtain⟨t,rfl⟩:=r;cases (show T="int" from ty);exact⟨typeIs_int s i t,λ_ e=>nomatch e⟩
 |ref p=>
  cases r;rcases ty with ⟨rfl,xs,hq⟩ |⟨rfl,⟨o,hk,hc,hd⟩ |⟨xs,hk⟩⟩ |⟨rfl,hk⟩ |⟨rfl,S,n,hk⟩ |⟨rfl,kvs,hk⟩
  ·obtain⟨its,_,pl,_⟩:=I.list hq;refine⟨pl.isList.typeIs,λa e=>?_⟩;cases e;obtain⟨o,n,e,c,hd,_⟩:=pl;exact⟨o,e,hd⟩
  ·refine⟨⟨o,I.ze p o hk,hc⟩,λa e=>?_⟩;cases e;exact⟨o,I.ze _ o hk,hd⟩
  ·obtain⟨_,_,_,⟨o,e1,e2,_⟩,nd⟩:=I.hok p _ hk;refine⟨⟨o,e1,e2⟩,λa e=>?_⟩;cases e;exact⟨o,e1,nd o e1⟩
  ·have z:∃o,s.heap.get? p=some o/\o.ExactDict:=by
    rcases hk with ⟨kvs,hk⟩ |⟨kvs,hk⟩
    ·obtain⟨_,_,_,_,o,_,_,e,ex,_⟩:=I.hok p _ hk;exact⟨o,e,ex⟩
    ·obtain⟨_,_,_,_,o,_,_,e,ex,_⟩:=I.hok p _ hk;exact⟨o,e,ex⟩
   obtain⟨o,e,ex⟩:=z;refine⟨⟨o,e,ex.1⟩,λa e2=>?_⟩;cases e2;exact⟨o,e,ex.2.1⟩
  ·obtain⟨o,_,_,_,e,ex,_⟩:=I.hok p _ hk;refine⟨⟨o,e,ex.1⟩,λa e2=>?_⟩;cases e2;exact⟨o,e,ex.2.1⟩
  ·obtain⟨_,_,_,_,o,_,_,e,ex,_⟩:=I.hok p _ hk;refine⟨⟨o,e,ex.1⟩,λa e2=>?_⟩;cases e2;exact⟨o,e,ex.2.1⟩
 |_=>exact ab ty
def tBM(K:PySem.W.Frag)(T:String)(r:V->List V->Hp->VK->Prop)(to:TE)(t:TA):TE:=λσ H Q=>to σ H λx H1=>tyV K T x H1/\t σ H1 λxs H2=>r x xs H2 Q
variable {o e:Expr}{es:List Expr}{to:TE}{t:TA}{name:Str}{apos cpos:Pos}{T id:String}{r:V->List V->Hp->VK->Prop}
theorem S_(pa:PlainAttrs T)(slot:Slot T name id)(hty:typeOf (.builtin id)=pure (.type "method_descriptor"))(hm:Xu X id r)(ho:PE X o to)(ha:PA X (e::es) t)
  (hbase:attributeBase o name X.env (eval o X.env)=eval o X.env:=by rfl)
  (hfew:((backTo cpos (aev (e::es) X.env)).all (λx=> !x.1)&&(backToKw cpos (keywordEach [] X.env)).all (λx=>x.1.isSome)
   &&decide ((e::es).length+([]:List Keyword).length+(if([]:List Keyword).isEmpty then 0 else 1) < 30))=true:=by rfl)
  (hline:(apos.endLine == cpos.line)=true:=by rfl)(hs:aev (e::es) X.env=(false,eval e X.env)::aev es X.env:=by rfl)(hplain:(backTo cpos (aev es X.env)).any (·.1)=false:=by rfl):
  PE X (.Call (.Attribute o name apos) (e::es) [] cpos) (tBM X.K T r to t):=by
 intro pins s σ H Q I h;refine wpAny_Call_method_late hbase hfew hline rfl (bK (ho pins s σ H _ I h) λv s1 ⟨x,H1,I1,r1,ty,q1⟩=>?_);obtain⟨h1,h2⟩:=Om I1 r1 ty;refine⟨T,id,pa,slot,hty,h1,h2,?_⟩;have hA:=ha cpos pins s1 σ H1 _ I1 q1;rw[hs]at hA ⊢;refine EU (by show(false||(backTo cpos (aev es X.env)).any (·.1))=false;rw[hplain]<;>rfl) (EV ?_);exact bK hA λus s2 ⟨vs,H2,I2,r2,q2⟩=>hm pins s2 σ H2 x vs v us Q I2 r1 r2 q2
/- xs.append(e),list.index on a EW tuple .. are Xu facts of 06m -/
end
def Xw(X:Cx)(id:String)(r:V->List V->Hp->VK->Prop):Prop :=
 ∀(pins:List (aed×Obj))(s:aei)(σ:St)(H:Hp)(x:V)(xs:List V)(v:aej)(us:List aej)(Q:VK),Inv X pins σ H s->RelV x v->Vals xs us->r x xs H Q->
  aew (model X.prog X.w) X.A (call (.builtin id) (v::us)) (EP X pins σ Q) X.xe s
theorem Vals.one:∀{x:V}{us:List aej},Vals [x] us->∃u,us=[u]/\RelV x u
 |_,_,.cons r .nil=>⟨_,rfl,r⟩
theorem Vals.rep{xs:List V}{us:List aej}(h:Vals xs us):∀k:Nat,Vals (aU k xs).flatten (aU k us).flatten
 | 0=> .nil
 |k+1=>by rw[iN,iN,rG,rG];exact Vals.append h (Vals.rep h k)
theorem foldl_rep(its:List aej):∀(k:Nat)(acc:List aej),
  rH (λx1 x2=>x1++x2) acc.toArray (aU k its.toArray)=(acc++(aU k its).flatten).toArray
 | 0,acc=>by simp
 |k+1,acc=>by
  have e:acc.toArray++its.toArray=(acc++its).toArray:=by simp
  have e2:(acc++its)++(aU k its).flatten=acc++(aU (k+1) its).flatten:=by rw[iN,rG,kQ]
  rw[<-e2,<-foldl_rep its k (acc++its),<-e,iN,rJ]
variable{t':Nat}
section
variable {X:Cx}{pins:List (aed×Obj)}{σ:St}{H:Hp}{s:aei}{l b:aed}{xs ys zs:List V}
theorem Inv.Oo{f:Array aej->Array aej}(I:Inv X pins σ H s)(hH:H l=some (.lst xs))
  (e:s.heap.get? l=some { cls:=.type "list",data:=.seq its.toArray n })(hf:f its.toArray=its'.toArray)(hv:Vals ys its')(hz:ys.length<=aeu):
  Inv X pins σ (upd H l (.lst ys)) { s with heap:=s.heap.update l (nH f),toks:=t' }:=by
 have q:=PySem.IsL.update e f;rw[hf]at q;refine I.write (x:=l) (e:=l) (by rw[hH];exact trivial) (.inl rfl) (λb' u hb hu=>(rE s.heap (nH f) (bA hb)).trans hu) ⟨_,q⟩ ?_;exact⟨hz,its',_,hv,q⟩
theorem Inv.Oq(I:Inv X pins σ H s)(hv:Vals ys its)(hz:ys.length<=aeu):
  Inv X pins σ (upd H s.heap.objs.size (.lst ys)) { s with heap:=s.heap.push { cls:=.type "list",data:=.seq its.toArray },toks:=t' } :=
 I.laid (λ_ _ q=>bt _ q) (aE _) ⟨hz,its,0,hv,cj _ rfl⟩
theorem Inv.fresh(I:Inv X pins σ H s):H s.heap.objs.size=none:=I.hok.fresh (aE _)
theorem Inv.EY(I:Inv X pins σ H s)(hH:H l=some (.lst xs)):xs.length<=aeu/\∃(its:List aej)(n:Nat),Vals xs its/\xs.length=its.length/\s.heap.get? l=some { cls:=.type "list",data:=.seq its.toArray n }:=by obtain⟨z,its,n,r,e⟩:=I.hok l _ hH;exact⟨z,its,n,r,r.length,e⟩
theorem rK(h:n<=aeu):rL n=false:=by unfold rL;exact decide_eq_false (by omega)
end
section
variable {X:Cx}
def J0:V->List V->Hp->VK->Prop:=λx vs H Q=>∃l xs y,x= .ref l/\vs=[y]/\H l=some (.lst xs)/\xs.length < aeu/\Q .non (upd H l (.lst (xs++[y])))
theorem C4:Xw X "list.append" J0:=by intro pins s σ H x vs v us Q I rx rv h;obtain⟨l,xs,y,rfl,rfl,hH,hz,q⟩:=h;cases rx;obtain⟨u,rfl,ru⟩:=rv.one;obtain⟨z,its,n,r,hl,e⟩:=I.EY hH;refine call_meets F.slot_list_append ⟨_,e,rfl⟩ F.entry_list_append (F.args_list_append_2 _ _) (PySem.list_append l its.toArray n u (by rw[bc];omega)) ⟨e,?_⟩;refine⟨.non,_,I.Oo (its':=its++[u]) hH e (by simp) (r.append (.cons ru .nil)) ?_,rfl,q⟩;rw[dA,J1];omega
def J2:V->List V->Hp->VK->Prop:=λx vs H Q=>∃l b xs zs,x= .ref l/\vs=[.ref b]/\H l=some (.lst xs)/\H b=some (.lst zs)/\xs.length+zs.length<=aeu/\Q .non (upd H l (.lst (xs++zs)))
theorem C5:Xw X "list.extend" J2:=by
 intro pins s σ H x vs v us Q I rx rv h;obtain⟨l,b,xs,zs,rfl,rfl,hH,hB,hz,q⟩:=h;cases rx;obtain⟨u,rfl,ru⟩:=rv.one;cases ru;obtain⟨z,its,n,r,hl,e⟩:=I.EY hH;obtain⟨z2,its2,n2,r2,hl2,e2⟩:=I.EY hB;have hsz:its.toArray.size+its2.toArray.size<=aeu:=by rw[bc,bc];omega
 have xu:¬(!its.toArray.isEmpty&&rL (its.toArray.size+its2.toArray.size))=true:=by rw[rK hsz,Bool.and_false];exact aH
 refine call_meets F.slot_list_extend ⟨_,e,rfl⟩ F.entry_list_extend (F.args_list_extend_2 _ _)
  (AutoSeq1.list_extend_list_list_0 l its.toArray n b its2.toArray n2 xu (by rw[bc];omega) (by omega)) ⟨e,e2,?_⟩
 refine⟨.non,_,I.Oo (its':=its++its2) hH e (by simp) (r.append r2) ?_,rfl,q⟩;rw[dA];omega
def Xx:R2:=λx y H Q=>∃l k xs,x= .ref l/\y= .int k/\H l=some (.lst xs)/\-(2 ^ 63)<=k/\k < 2 ^ 63/\xs.length * k.toNat<=aeu/\
 ∀p,H p=none->Q (.ref p) (upd H p (.lst (aU k.toNat xs).flatten))
theorem len_rep(xs:List α)(k:Nat):(aU k xs).flatten.length=k * xs.length:=by
 induction k with
 |zero=>simp
 |succ k ih=>rw[iN,rG,dA,ih,Nat.succ_mul,Nat.add_comm]
theorem Ot:fh X (aem .Mult) Xx:=by
 intro pins s σ H x y v u Q I rx ry h;obtain⟨l,k,xs,rfl,rfl,hH,h1,h2,hz,q⟩:=h;cases rx;obtain⟨t,rfl⟩:=ry;obtain⟨z,its,n,r,hl,e⟩:=I.EY hH;have hlen:its.toArray.size * k.toNat<=aeu:=by rw[bc,<-hl];exact hz
 have hcap:¬its.toArray.size * k.toNat > (2 ^ 63 - 1) / 8:=by
  have:(aeu:Nat)<=(2 ^ 63 - 1) / 8:=by decide
  omega
 have hfit:¬(!Builtin.List.listFitsIndex k)=true:=by rw[fitsIndex_both h1 h2];exact aH
 have xu:¬rL (its.toArray.size * k.toNat)=true:=by rw[rK hlen];exact aH
 have hnew:rH (λx1 x2=>x1++x2) #[] (aU (if its.toArray.isEmpty=true then 0 else k.toNat) its.toArray)=(aU k.toNat its).flatten.toArray:=by
  have f0:∀m:Nat,rH (λx1 x2=>x1++x2) #[] (aU m its.toArray)=(aU m its).flatten.toArray:=λm=>by have:=foldl_rep its m [];rw[lX]at this;exact this
  rw[f0];cases its with
  |nil=>simp
  |cons a r'=>rw[if_neg (by simp)]
 refine wpAny_binaryOp_repeat_ref (T:="list") (U:="int") (by decide) ⟨_,e,rfl⟩ (λs'=>typeIs_int s' k t) noFill_list_mul F.fills_int_mul zB repeat_list F.slot_int_index.lookup
  (call_meets zB (typeIs_int s k t) F.entry_int_rmul (F.args_int_rmul_2 _ _) (int___rmul___int_list k t l its.toArray n)
   ⟨e,rfl,⟨_,e,rfl⟩,call_meets F.slot_list_mul ⟨_,e,rfl⟩ F.entry_list_mul (F.args_list_mul_2 _ _) (AutoListH.list___mul___list_int_3 l its.toArray n k t hfit hcap xu) ⟨e,?_⟩⟩)
 rw[hnew];exact⟨.ref _,_,I.Oq (t':=s.toks) (r.rep k.toNat) (by rw[len_rep,Bj];exact hz),rfl,q _ I.fresh⟩
end
end L2
namespace Att
open PySem PySem.W PySem.Calls PyProof.Rows
variable{P:Params}{h:Heap}
theorem qj:∀(ns:List Int)(vs:List aej),WellAll P h vs (ns.map WData.int)->IntsAre vs ns:=by
 intro ns
 induction ns with
 |nil=>intro vs w;rw[jJ]at w;cases w;exact .nil
 |cons n ns ih=>
  intro vs w;rw[aK]at w;cases w with
  |cons a b=>cases a;exact .cons _ _ (ih _ b)
variable{l:OpenLaw}{n:Nat}
theorem C6(hn:l.most=some n){args:List WData}{vals:List aej}
  (hpre:l.row.toRowW.claim.pre args=true)(hwl:WellAll P h vals args):
  ∃a vs ns,vals=[aL a]/\args=[WData.list (ns.map WData.int)]/\h.get? a=some { cls:=.type "list",data:=.seq vs.toArray }/\IntsAre vs ns/\ns.length<=n:=by
 have hsh:WShape.hasAll [] args [.list .int]=true:=(pre_splitW hpre).1;have hc:l.pre.holds [] { args:=args }=true:=(pre_splitW hpre).2;obtain⟨d,r,rfl,h1,h2⟩:=hasAllW_cons hsh;obtain rfl:=hasAllW_nil h2;obtain⟨xs,rfl,h3⟩:=hasW_list h1;obtain⟨ns,rfl⟩:=items_int h3;have hlen:ns.length<=n:=by
  unfold OpenLaw.pre at hc;have h4:(WTm.not (.lt (.lit (.int (n:Int))) (.len (.arg 0)))).holds [] { args:=[.list (ns.map .int)] }=true:=by have h4:=(holds_andW hc).1;rw[hn]at h4;exact h4
  have h5:=condW_of h4 (w_not (w_lt w_lit (w_len_list (w_arg rfl))));rw[bP]at h5;refine Nat.le_of_not_lt λq=>?_;have q':(n:Int) < ((ns.length:Nat):Int):=by omega
  first
   |(rw[decide_eq_true q']at h5;exact absurd h5 (by decide))
   |(simp at h5;omega)
 cases hwl with
 |cons w1 w2=>
  cases w2;cases w1 with
  |list ho hall=>exact⟨_,_,ns,rfl,rfl,ho,qj ns _ hall,hlen⟩
theorem C7(l:OpenLaw)(args:List WData):l.row.toRowW.claim.post args (.bool true) args=true :=
 postW_of (r:=l.row.toRowW) (X:=(true == true))
  (show WShape.has [] (.bool true) .bool=true by first |rfl |decide |simp[WShape.has,WShape.arms,WShape.armsAll])
  (show(WTm.eq .res (.lit (.bool true))).value [] { args:=args,res:=some (.bool true),after:=args }=some (.bool (true == true)) from w_eq_bool (w_res rfl) w_lit) rfl
theorem xv{q:aeh}{loose:List Str}{XP:(Str->Option aej)->Heap->Prop}{YP:aek->Heap->Prop}{d:DefRec}
  (hn:l.most=some n)(hdf:d.params.defaults=[])
  (call:∀(w:aek)(s₀ s₁:aei)(mg mb:Str->Option aej)(fa:aed)(o:Obj)(pm cd doc:aej)(a:aed)(vs:List aej)(ns:List Int),
   Ground q loose [] XP w s₀ mg mb s₁.heap->YP w s₁.heap->
   s₁.heap.get? fa=some o->o.data= .func (docDef d.name d.params d.body d.scope pm cd doc)->s₁.heap.CodeRec cd d.name->mg d.name=some (.ref fa)->
   s₁.heap.get? a=some { cls:=.type "list",data:=.seq vs.toArray }->IntsAre vs ns->ns.length<=n->s₁.gens=#[]->
   aeo (model l.prog w) callerA (.call (.ref fa) ⟨[.ref a],[]⟩) (λr s'=>r= .ok (.ret (.bool true))/\OldK s₁.heap s'.heap/\s'.os=s₁.os/\AllBare s'.gens) s₁):
  WalkO q loose XP YP l.row.toRowW d [] (λf vs=>PySem.call f vs):=by
 intro w s₀ s₁ mg mb G Y fa o pm cd doc dV kV ho hd hcd hD hmg hg args vals as hpre hlay hrd hwl hlo;obtain rfl:dV= .none:=Dflts.none hD hdf;obtain rfl:kV= .none:=Dflts.noKw hD;obtain⟨a,vs,ns,rfl,rfl,hobj,hints,hlen⟩:=C6 hn hpre hwl;refine enter_call (codeAny_mono (call w s₀ s₁ mg mb fa o pm cd doc a vs ns G Y ho (fd_plain hd) hcd hmg hobj hints hlen hg) λr s' hq=>?_);obtain⟨rfl,h2,h3,h4⟩:=hq;exact⟨.inl ⟨.bool true,.bool true,[],rfl,λ_=>rfl,.bool true,C7 l _,λ_=>⟨List.Pairwise.nil,λ_ hm=>(nomatch hm)⟩⟩,h2,h3,h4⟩
section
variable {prog:aeh}{w:aek}{A:aee}{E:aej->aei->Prop}{s:aei}{K:Frag}
def vI(h:Heap):Heap:={ h with objs:=#[] }
theorem mR(h:Heap)(b:aed):(vI h).get? b=none:=by
 cases e:(vI h).get? b with
 |none=>rfl
 |some o=>exact absurd (a7 e) (Nat.not_lt_zero _)
theorem Ou{L:aed}{m:Str->Option aej}(n:h.Ns L m):Fr (vI h) L h m :=
 ⟨n,λb o e=>(by rw[mR]at e;cases e),cO _⟩
end
end Att
namespace L2
open PySem PySem.Spec PyProof.Rows
theorem uw:∀{vs:List aej}{ns:List Int},IntsAre vs ns->Vals (ns.map V.int) vs
 |_,_,.nil=> .nil
 |_,_,.cons n t h=> .cons ⟨t,rfl⟩ (uw h)
def J3(H:Hp):Prop:=∀b,H b=none\/∃o xs,H b=some (.oI o (.lst xs))
variable{k:Nat}{x:Str}
theorem EZ{P:aeh}{w:aek}{K:PySem.W.Frag}{mg mb:Str->Option aej}{CX:CZ}{fa a:aed}{fd:aef}{sp:Sp}{s₁:aei}{vs:List aej}{ns:List Int}
  (KX:K.In s₁.heap)(hns:s₁.heap.Ns aet mg)(hb:s₁.heap.Ns builtinsNs mb)(hbb:∀x:Str,x≠"__name__"->mb x=aen x)(hlim:s₁.heap.NoLimit)(hg:s₁.gens=#[])
  (ha:s₁.heap.get? a=some { cls:=.type "list",data:=.seq vs.toArray })(hi:IntsAre vs ns)(hl:ns.length<=aeu)(hr:hX k callerA)
  (F:∀base:Heap,K.In base->base.Ns aet mg->FnOk P w K mg base CX k fa fd [x] sp)(hbind:∀(s:aei)(u:aej),BindsTo s fd ⟨[u],[]⟩ [(x,u)])
  (RM:∀H:Hp,J3 H->mO K H a (ns.map V.int)->sp [.ref a] H (λv _=>v= .bl true) λ_ _ _=>False)
  (Xy:∀H e s',CX [] H s₁ (λ_ _ _=>False) e s'->False):
  aeo (model P w) callerA (.call (.ref fa) ⟨[.ref a],[]⟩) (λr s'=>r= .ok (.ret (.bool true))/\OldK s₁.heap s'.heap/\s'.os=s₁.os/\AllBare s'.gens) s₁:=by
 have rv:=uw hi;have Xz:=hi.length
 -- from an abstract heap in which nothing but the script may be tracked
 have core:∀H:Hp,J3 H->mO K H a (ns.map V.int)->kL P w H s₁.heap->(∀b,H b≠none->b=a)->(H a≠none->K.lookup a=none)->
   aeo (model P w) callerA (.call (.ref fa) ⟨[.ref a],[]⟩) (λr s'=>r= .ok (.ret (.bool true))/\OldK s₁.heap s'.heap/\s'.os=s₁.os/\AllBare s'.gens) s₁:=by
  intro H hO hS hok hA hK;have Bk:∀{b:aed}{o:Obj},s₁.heap.get? b=some o->H b=none->(ve s₁.heap H).get? b=some o:=λe n=>Eo e n;have SQ:∀{b:aed}{o:Obj}{es:Array DictEntry}{ep:Nat},s₁.heap.get? b=some o->o.data= .dict es ep->H b=none:=λ{b o es ep} e d=>by
   cases q:H b with
   |none=>rfl
   |some u=>have e':b=a:=hA b (by rw[q];simp);subst e';rw[ha]at e;cases e;have d':Data.seq vs.toArray _=Data.dict es ep:=d;cases d'
  have VS:∀{b:aed}{m:Str->Option aej},s₁.heap.Ns b m->(ve s₁.heap H).Ns b m:=λ{b m} ⟨o,es,ep,e,d,r⟩=>⟨o,es,ep,Bk e (SQ e d),d,r⟩;have hKb:K.In (ve s₁.heap H):=λb o e=>Bk (KX b o e) (by
   cases q:H b with
   |none=>rfl
   |some u=>have e':b=a:=hA b (by rw[q];simp);subst e';rw[hK (by rw[q];simp)]at e;cases e)
  have hM:Mod K mg (ve s₁.heap H):=⟨hKb,VS hns,⟨mb,VS hb,hbb⟩,let ⟨mc,h1,h2⟩:=hlim;⟨mc,VS h1,h2⟩⟩;have e0:xp P w K mg (ve s₁.heap H) callerA [] s₁ H:=⟨rfl,hM,λb o e=>Jq e,nC (CL _ _),trivial,λb hb=>absurd (show b∈([]:List aed) from hb) (by simp),hok,.of_eq hg⟩;refine codeAny_mono ((F _ hKb (VS hns)).run callerA [] s₁ H ⟨[.ref a],[]⟩ [.ref a] [.ref a] _ _ hr e0 (hbind s₁ (.ref a)) (.cons rfl .nil) (RM H hO hS)) λr s' h=>?_;cases r with
  |error e=>exact(Xy H e s' h).elim
  |ok fl=>
   cases fl with
   |next=>exact ab h
   |brk=>exact ab h
   |cont=>exact ab h
   |ret u=>
    obtain⟨v,H',os,bare,un,XA,r',q⟩:=h;have q':v= .bl true:=q;subst q';obtain rfl:u=qE true:=r';refine⟨rfl,OldK.of_keep λb o e=>?_,os,bare⟩;cases q:H b with
    |none=>exact un.keep b o e q (by intro z;exact absurd (show b∈([]:List aed) from z) (by simp)) (by simp)
    |some u=>
     rcases hO b with z |⟨ob,xs,z⟩
     ·rw[q]at z;cases z
     ·have z2:=un.qi b ob _ z;obtain⟨e1,_⟩:=hok b _ z;obtain⟨e2,_⟩:=XA b _ z2;rw[e]at e1;cases e1;exact e2
 cases hk:K.lookup a with
 |some o=>
  -- the script is one of the EW own objects
  have e:=KX a o hk;rw[ha]at e;cases e;refine core (λ_=>none) (λ_=> .inl rfl) (.inr ⟨_,vs.toArray,_,hk,rfl,rfl,rfl,by rw[bc,Xz];exact hl,by simpa using rv⟩) (λb u z=>by have z':(none:Option HO)=some u:=z;cases z') (λb z=>absurd rfl z) λz=>absurd rfl z
 |none=>
  refine core (λb=>if b=a then some (.oI { cls:=.type "list",data:=.seq vs.toArray } (.lst (ns.map V.int)))else none) (λb=>?_) (.inl (.inr ⟨{ cls:=.type "list",data:=.seq vs.toArray },if_pos rfl⟩)) (λb u z=>?_) (λb z=>?_) λ_=>hk
  ·by_cases hb:b=a
   ·exact .inr ⟨_,_,if_pos hb⟩
   ·exact .inl (if_neg hb)
  ·by_cases hb:b=a
   ·have z':=(if_pos hb).symm.trans z;cases z';subst hb;exact⟨ha,by rw[bP];exact hl,vs,_,rv,ha⟩
   ·have z':=(if_neg hb).symm.trans z;cases z'
  ·by_cases hb:b=a
   ·exact hb
   ·exact absurd (if_neg hb) z
abbrev KOf{K:PySem.W.Frag}{h:Heap}(_:K.In h):PySem.W.Frag:=K
theorem walk_of{l:PySem.W.OpenLaw}{n:Nat}{q:aeh}{loose:List Str}{XP:(Str->Option aej)->Heap->Prop}{YP:aek->Heap->Prop}{d:DefRec}{K:Params->PySem.W.Frag}{CX:aek->CZ}{sp:aek->Sp}
  (hn:l.most=some n)(hn2:n<=aeu)(hdf:d.params.defaults=[])(hr:hX k callerA)
  (hY:∀(w:aek)(h:Heap),YP w h->(K w.params).In h)
  (F:∀(w:aek)(mg:Str->Option aej)(fa:aed)(h:Heap),(K w.params).In h->h.Ns aet mg->mg d.name=some (.ref fa)->
   ∃fd:aef,(∀(s:aei)(u:aej),BindsTo s fd ⟨[u],[]⟩ [(x,u)])/\
    ∀base:Heap,(K w.params).In base->base.Ns aet mg->FnOk l.prog w (K w.params) mg base (CX w) k fa fd [x] (sp w))
  (RM:∀(w:aek)(H:Hp)(a:aed)(ns:List Int),ns.length<=n->J3 H->mO (K w.params) H a (ns.map V.int)->sp w [.ref a] H (λv _=>v= .bl true) λ_ _ _=>False)
  (Xy:∀(w:aek)(H:Hp)(s:aei)(e:aej)(s':aei),CX w [] H s (λ_ _ _=>False) e s'->False):
  PySem.W.WalkO q loose XP YP l.row.toRowW d [] (λf vs=>PySem.call f vs):=by
 refine Att.xv hn hdf λw s₀ s₁ mg mb fa o pm cd doc a vs ns G Y ho hd hcd hmg hobj hints hlen hg=>?_;have KX:=hY w _ Y;obtain⟨fd,hb,hF⟩:=F w mg fa _ KX G.T.g hmg;exact EZ KX G.T.g G.T.b G.T.builtins G.T.nolimit hg hobj hints (aV hlen hn2) hr hF hb (λH hO hS=>RM w H a ns hlen hO hS) λH e s'=>Xy w H s₁ e s'
end L2
/- THE abS VT (shape;LID,My.* are aac):
   My.Adr: a structure of the addresses abT your aad names (classes,RN);My.Txt K t: a structure (Prop) of the equations over K;
   My.Ov:{K}{implicit addresses ..} (e1:nsIn K aet "law"=some (some (.ref f))) (e2:K.lookup f=some ⟨oc,od,.func (fnOf "law" "law" params body scope dV kV doc pm an cdv ct),sl⟩) (e3:codeIn K cdv "law"=true) ..:∃t,My.Txt K t
set_option maxRecDepth 100000 in
set_option maxHeartbeats 0 in
theorem PySem.Challenge.cw_LID_holds:PySem.Challenge.rw_LID.Holds:=by
 w_on;o_law;k_head;(case hw=>w_witness2)
 k_fill
 refine L2.walk_of (l:=PySem.Challenge.rw_LID) (n:=63) (k:=40) (x:="script") (CX:=fun w => ..) (sp:=fun _ => My.sp_law) rfl (by decide) rfl ⟨rfl,by decide,by decide⟩ (fun w h Y => PySem.W.kIn_of Y) ?F ?S ?C
 case F=>
  intro w mg fa h KX G hmg;have T:∃t,My.Txt (L2.KOf KX) t:=by
   dsimp only[L2.KOf] -- K abU stand as «<heap const> w.params» for k_is;refine' My.Ov ?e1 ?e2 ?e3 ..
   (case e1=>PySem.W.k_is) -- in the order: a name -> its address -> its object -> its parts
   (case e2=>PySem.W.k_is)
   ..
  obtain⟨t,T⟩:=T;have e0:=hmg.symm.trans (PySem.W.mg_of KX G T.law);cases e0 -- fa is the aae own address;exact⟨_,λs u=> .of_eq rfl,λbase kb nb=>My.Ow T kb nb⟩ -- if «.of_eq rfl» comes too early: refine' ⟨_,?b,λbase kb nb=>My.Ow T kb nb⟩;exact λs u=> .of_eq rfl
 case S=>exact λw H a ns hl hO hS=> ..
 case C=>exact ..
(the tactic k_is has no namespace: write k_is) -/
namespace L2
open PySem PySem.Spec PyProof.Rows
def inClass(s:Stmt)(j:Nat):Stmt:=match s with
 |.ClassDef _ _ _ body _ _ _ _ _ _ _=>body.getD j (.Pass ⟨0,0,0,0⟩)
 |_=> .Pass ⟨0,0,0,0⟩
def defArgs(s:Stmt):Arguments:=match s with
 |.FunctionDef _ a _ _ _ _ _ _ _ _=>a
 |_=>{ posonlyargs:=[],args:=[],vararg:=none,kwonlyargs:=[],kw_defaults:=[],kwarg:=none,defaults:=[] }
def defBody(s:Stmt):List Stmt:=match s with
 |.FunctionDef _ _ b _ _ _ _ _ _ _=>b
 |_=>[]
def defScope(s:Stmt):Scope:=match s with
 |.FunctionDef _ _ _ _ _ _ sc _ _ _=>sc
 |_=>{ kind:=.function,names:=[],isGenerator:=false,isCoroutine:=false }
abbrev CX0:CZ:=λ_ _ _ _ _ _=>False
structure J4(K:PySem.W.Frag)(x qual:Str)(st:Stmt)(f:aed)(fd:aef):Prop where
 ex:∃(oc:aej)(od:Option aed)(kV doc pm:aej)(an:Option aed)(cdv ct:aej)(osl:Array (Option aej)),
  fd=PySem.W.fnOf x qual (defArgs st) (defBody st) (defScope st) .none kV doc pm an cdv ct/\K.lookup f=some ⟨oc,od,.func fd,osl⟩/\PySem.W.codeIn K cdv qual=true
 kp:PySem.W.keepIn K (.ref f)=true
variable{qual:Str}{st:Stmt}{f:aed}
section
variable {P:aeh}{w:aek}{K:PySem.W.Frag}{mg:Str->Option aej}{base:Heap}
theorem J4.binds{x:Str}{fd:aef}{ps:List Str}(F:J4 K x qual st f fd)
  (h:∀(kV doc pm:aej)(an:Option aed)(cdv ct:aej)(us:List aej),us.length=ps.length->bindArgs (PySem.W.fnOf x qual (defArgs st) (defBody st) (defScope st) .none kV doc pm an cdv ct) ⟨us,[]⟩=pure (ps.zip us)):Binds K fd ps []:=by
 obtain⟨oc,od,kV,doc,pm,an,cdv,ct,osl,rfl,lk,hcd⟩:=F.ex;exact .all (h kV doc pm an cdv ct)
theorem zC{x:Str}{oc:aej}{od an:Option aed}{osl:Array (Option aej)}{kV doc pm cdv ct:aej}(l:K.lookup f=some ⟨oc,od,.func (PySem.W.fnOf x qual (defArgs st) (defBody st) (defScope st) .none kV doc pm an cdv ct),osl⟩)
  (c:PySem.W.codeIn K cdv qual=true)(k:PySem.W.keepIn K (.ref f)=true):J4 K x qual st f (PySem.W.fnOf x qual (defArgs st) (defBody st) (defScope st) .none kV doc pm an cdv ct):=⟨⟨oc,od,kV,doc,pm,an,cdv,ct,osl,rfl,l,c⟩,k⟩
end
variable{o:Option V}{u:aej}{y:V}
section
variable {κ: Type} [DecidableEq κ]
def i7(kvs: List (κ×V))(k: κ): Option V := (kvs.find? λkv=>decide (kv.1=k)).map (·.2)
def putK(kvs: List (κ×V))(k: κ)(v: V): List (κ×V) :=
 if(kvs.any λkv=>decide (kv.1=k))=true then kvs.map (λkv=>if kv.1=k then(kv.1, v)else kv)else kvs++[(k, v)]
def kA(kvs: List (κ×V))(k: κ): List (κ×V) := kvs.filter λkv=>decide (kv.1≠k)
theorem kR{p: κ×V}{r: List (κ×V)}{k: κ}(e: p.1=k): i7 (p::r) k=some p.2 := by simp[i7, kT, e]
theorem kU{p: κ×V}{r: List (κ×V)}{k: κ}(e: ¬p.1=k): i7 (p::r) k=i7 r k := by simp[i7, kT, e]
theorem rM(k: κ): ∀kvs: List (κ×V), (kvs.any λkv=>decide (kv.1=k))=(i7 kvs k).isSome
 |[]=>rfl
 |p::r=>by
  rw[f7];by_cases e: p.1=k
  ·simp only[kR e, decide_eq_true e, Bool.true_or, J5]
  ·rw[kU e, decide_eq_false e, Bool.false_or];exact rM k r
theorem kW(kvs: List (κ×V))(k: κ)(v: V): (putK kvs k v).length<=kvs.length+1 := by
 unfold putK;split
 ·rw[bP];omega
 ·rw[dA, eh, nE];omega
theorem i5.oP{u: Option aej}(r: i5 o u): o.isSome=u.isSome := by
 cases o with
 |none=>cases u with
  |none=>rfl
  |some _=>exact(show False from r).elim
 |some _=>cases u with
  |none=>exact(show False from r).elim
  |some _=>rfl
theorem i5.getD{u: Option aej}{d: V}{d': aej}(r: i5 o u)(rd: RelV d d'): RelV (o.getD d) (u.getD d') := by
 cases o with
 |none=>cases u with
  |none=>exact rd
  |some _=>exact(show False from r).elim
 |some _=>cases u with
  |none=>exact(show False from r).elim
  |some _=>exact r
theorem KV.val{kvs: List (κ×V)}{vs: List (κ×aej)}(r: KV kvs vs)(k: κ): i5 (i7 kvs k) (valueAt vs k) := by
 unfold KV at r
 induction r with
 |nil=>exact gF
 | @cons p q ps qs h t ih=>
  obtain⟨h1, h2⟩ := h;by_cases e: p.1=k
  ·have e': q.1=k := h1.symm.trans e;have b: valueAt (q::qs) k=some q.2 := by simp[valueAt, kT, e']
   rw[kR e, b];exact h2
  ·have e': ¬q.1=k := λz=>e (h1.trans z);have b: valueAt (q::qs) k=valueAt qs k := by simp[valueAt, kT, e']
   rw[kU e, b];exact ih
theorem KV.any{kvs: List (κ×V)}{vs: List (κ×aej)}(r: KV kvs vs)(k: κ): (kvs.any λkv=>decide (kv.1=k))=vs.any λkv=>decide (kv.1=k) := by
 unfold KV at r
 induction r with
 |nil=>rfl
 |cons h t ih=>rw[f7, f7, ih, h.1]
theorem KV.repl{kvs: List (κ×V)}{vs: List (κ×aej)}(r: KV kvs vs)(k: κ)(ry: RelV y u):
  KV (kvs.map λkv=>if kv.1=k then(kv.1, y)else kv) (vs.map λkv=>if kv.1=k then(kv.1, u)else kv) := by
 unfold KV at r ⊢
 induction r with
 |nil=>exact .nil
 | @cons p q ps qs h t ih=>
  rw[aK, aK];refine .cons ?_ ih;obtain⟨h1, h2⟩ := h;by_cases e: p.1=k
  ·rw[if_pos e, if_pos (h1.symm.trans e)];exact⟨h1, ry⟩
  ·rw[if_neg e, if_neg (λz=>e (h1.trans z))];exact⟨h1, h2⟩
theorem KV.put{kvs: List (κ×V)}{vs: List (κ×aej)}(r: KV kvs vs)(k: κ)(ry: RelV y u): KV (putK kvs k y) (stored vs k u) := by
 unfold putK stored;rw[r.any k];by_cases e: (vs.any λkv=>decide (kv.1=k))=true
 ·rw[if_pos e, if_pos e];exact r.repl k ry
 ·rw[if_neg e, if_neg e];exact Paired.snoc r ⟨rfl, ry⟩
theorem KV.length{kvs: List (κ×V)}{vs: List (κ×aej)}(r: KV kvs vs): kvs.length=vs.length := Paired.length r
theorem E0(kvs: List (κ×V))(k: κ): (kA kvs k).length<=kvs.length := J6 _ _
end
variable{P:aeh}{w:aek}
theorem Bl{k: Key}(r: RelV (kV k) u): (bH P w).is k u=true := by
 cases k with
 |inl i=>obtain⟨t, e⟩ := (show ∃t, u=hJ i t from r);subst e;exact xj P w i t
 |inr x=>obtain⟨t, e⟩ := (show ∃t, u=qB x t from r);subst e;exact xk P w x t
 |non=>rw[show u=cN from r];rfl
theorem ux{P: aeh}{w: aek}: ∀{ks: List Key}{us: List aej}, Vals (ks.map kV) us->ItemsAre (bH P w) ks us
 |[], _, r=>by rw[jJ]at r;cases r;exact .nil
 |k::ks, _, r=>by
  rw[aK]at r;cases r with
  |cons h t=>exact .cons (Bl h) (ux t)
abbrev KT(H: Hp): List (List Key×V)->List (List Key×aed×aej)->Prop := Paired λp q=>p.1=q.1/\H q.2.1=some (.tup (p.1.map kV))/\RelV p.2 q.2.2
variable{H:Hp}{kvs:List (List Key×V)}{xs:List (List Key×aed×aej)}
theorem KT.val(r: KT H kvs xs)(k: List Key): i5 (i7 kvs k) ((atKey xs k).map (·.2)) := by
 induction r with
 |nil=>exact gF
 | @cons p q ps qs h t ih=>
  obtain⟨h1, _, h2⟩ := h;by_cases e: p.1=k
  ·have e': q.1=k := h1.symm.trans e;have b: atKey (q::qs) k=some q.2 := by simp[atKey, kT, e']
   rw[kR e, b];exact h2
  ·have e': ¬q.1=k := λz=>e (h1.trans z);have b: atKey (q::qs) k=atKey qs k := by simp[atKey, kT, e']
   rw[kU e, b];exact ih
theorem KT.repl(r: KT H kvs xs)(k: List Key)(ry: RelV y u):
  KT H (kvs.map λkv=>if kv.1=k then(kv.1, y)else kv) (xs.map (putAt k u)) := by
 induction r with
 |nil=>exact .nil
 | @cons p q ps qs h t ih=>
  rw[aK, aK];refine .cons ?_ ih;obtain⟨h1, h2, h3⟩ := h;unfold putAt;by_cases e: p.1=k
  ·rw[if_pos e, if_pos (h1.symm.trans e)];exact⟨h1, h2, ry⟩
  ·rw[if_neg e, if_neg (λz=>e (h1.trans z))];exact⟨h1, h2, h3⟩
variable{b:aed}
theorem KT.put(r: KT H kvs xs)(k: List Key)(hb: H b=some (.tup (k.map kV)))(ry: RelV y u):
  KT H (putK kvs k y) (storedH xs k b u) := by
 have e: (kvs.any λkv=>decide (kv.1=k))=(atKey xs k).isSome := by rw[rM, (r.val k).oP, Bm]
 unfold putK storedH;rw[e];by_cases q: (atKey xs k).isSome=true
 ·rw[if_pos q, if_pos q];exact r.repl k ry
 ·rw[if_neg q, if_neg q];exact Paired.snoc r ⟨rfl, hb, ry⟩
variable{H':Hp}
theorem KT.keeps(r: KT H kvs xs)(ht: ∀b ys, H b=some (.tup ys)->H' b=some (.tup ys)): KT H' kvs xs :=
 Paired.CK r λ_ _ z=>⟨z.1, ht _ _ z.2.1, z.2.2⟩
section
variable {P: aeh}{w: aek}{H: Hp}{h: Heap}{a: aed}
theorem E1{u: HO}(ok: kL P w H h)(e: Rd H a u): du P w H h a u := e.ok ok
theorem xw{kvs: List (Key×V)}(ok: kL P w H h)(e: Rd H a (.dK kvs)): kvs.length<=aeu/\(a == sysModules)=false/\∃vs, KV kvs vs/\h.DictOf (bH P w) a vs :=
 show du P w H h a (.dK kvs) from E1 ok e
theorem Tf{kvs: List (Key×V)}(ok: kL P w H h)(e: H a=some (.dK kvs)): kvs.length<=aeu/\(a == sysModules)=false/\∃vs, KV kvs vs/\h.DictOf (bH P w) a vs := xw ok (.inl e)
theorem kX{ks: List Key}(ok: kL P w H h)(e: H a=some (.tup (ks.map kV))): (tupleKind (bH P w)).is h ks a := by obtain⟨_, its, r, ⟨o, h1, h2, n, h3⟩, _⟩ := (show du P w H h a (.tup (ks.map kV)) from ok a _ e);exact⟨o, its.toArray, n, h1, h2, h3, by simpa using ux r⟩
theorem nJ(ok: kL P w H h)(e: Rd H a (.dT kvs)): kvs.length<=aeu/\(a == sysModules)=false/\
  ∃xs, KT H kvs xs/\h.DictOfH (tupleKind (bH P w)) a xs := by
 obtain⟨z, y, xs, r, o, es, ep, h1, h2, h3, h4, h5⟩ := (show du P w H h a (.dT kvs) from E1 ok e);refine⟨z, y, xs, r, o, es, ep, h1, h2, h3, h4, λx hx=>?_, h5⟩;have all: ∀{l: List (List Key×V)}{m: List (List Key×aed×aej)}, KT H l m->∀x∈m, (tupleKind (bH P w)).is h x.1 x.2.1 := by
  intro l m q
  induction q with
  |nil=>intro x hx;exact nomatch hx
  | @cons p q ps qs hq t ih=>
   intro x hx;rcases List.mem_cons.mp hx with e |hx
   ·subst e;exact kX ok (by rw[<-hq.1];exact hq.2.1)
   ·exact ih x hx
 exact all r x hx
theorem E2(ok: kL P w H h)(e: H a=some (.dT kvs)): kvs.length<=aeu/\(a == sysModules)=false/\
  ∃xs, KT H kvs xs/\h.DictOfH (tupleKind (bH P w)) a xs := nJ ok (.inl e)
end
def qk(H: Hp)(a: aed)(y: V)(r: Option V): Prop :=
 (∃kvs k, Rd H a (.dK kvs)/\y=kV k/\r=i7 kvs k)\/∃kvs k b, Rd H a (.dT kvs)/\y= .ref b/\H b=some (.tup (k.map kV))/\r=i7 kvs k
def vJ(H: Hp)(a: aed)(y v: V)(H': Hp): Prop :=
 (∃kvs k, H a=some (.dK kvs)/\y=kV k/\kvs.length < aeu/\H'=upd H a (.dK (putK kvs k v)))\/
 ∃kvs k b, H a=some (.dT kvs)/\y= .ref b/\H b=some (.tup (k.map kV))/\kvs.length < aeu/\H'=upd H a (.dT (putK kvs k v))
theorem qk.k{H: Hp}{a: aed}{kvs: List (Key×V)}{k: Key}(e: H a=some (.dK kvs)): qk H a (kV k) (i7 kvs k) := .inl ⟨kvs, k, .inl e, rfl, rfl⟩
variable{a:aed}
theorem qk.t{k: List Key}(e: H a=some (.dT kvs))(eb: H b=some (.tup (k.map kV))): qk H a (.ref b) (i7 kvs k) := .inr ⟨kvs, k, b, .inl e, rfl, eb, rfl⟩
theorem vJ.k{H: Hp}{a: aed}{kvs: List (Key×V)}{k: Key}{v: V}(e: H a=some (.dK kvs))(hl: kvs.length < aeu): vJ H a (kV k) v (upd H a (.dK (putK kvs k v))) := .inl ⟨kvs, k, e, rfl, hl, rfl⟩
theorem vJ.t{k: List Key}{v: V}(e: H a=some (.dT kvs))(eb: H b=some (.tup (k.map kV)))(hl: kvs.length < aeu):
  vJ H a (.ref b) v (upd H a (.dT (putK kvs k v))) := .inr ⟨kvs, k, b, e, rfl, eb, hl, rfl⟩
variable{Q:aej->aei->Prop}{h':Heap}
section
variable {X: Cx}{pins: List (aed×Obj)}{σ: St}{H: Hp}{s: aei}{a: aed}{y v: V}{u r: aej}{o: Option V}{A: aee}{E: aej->aei->Prop}
theorem Inv.big(I: Inv X pins σ H s): sysModules < s.heap.objs.size := by have h: aet < s.heap.objs.size := (I.mod.glob.keeps I.bk).lt;exact vK (by decide) h
theorem C8(hu: A.units+1 < cLine)(I: Inv X pins σ H s)(g: qk H a y (some v))(ry: RelV y u)(h: ∀w' s', Inv X pins σ H s'->RelV v w'->Q w' s'):
  aew (model X.prog X.w) A (getItem (.ref a) u) Q E s := by
 rcases g with ⟨kvs, k, e, ey, l⟩ |⟨kvs, k, b, e, ey, eb, l⟩
 ·subst ey;obtain⟨z, hd, vs, rel, dd⟩ := xw I.hok e;obtain⟨w', hw, rw'⟩ := i5.some_of (v := v) (o := valueAt vs k) (by rw[l];exact rel.val k);exact wpAny_getItem_of (Bl ry) dd.mapOf hw (h w' _ (I.tok _) rw')
 ·subst ey;cases (show u=aL b from ry);obtain⟨z, hd, xs, rel, dd⟩ := nJ I.hok e;obtain⟨w', hw, rw'⟩ := i5.some_of (v := v) (o := (atKey xs k).map (·.2)) (by rw[l];exact rel.val k);obtain⟨p, hp, hp2⟩ := Option.map_eq_some_iff.mp hw;refine wpAny_getItem_heap (tupleKind_room_in1 hu) (kX I.hok eb) dd hp ?_;rw[hp2];exact h w' _ (I.tok _) rw'
theorem qI{t': Nat}{ob: HO}(I: Inv X pins σ H s)(mu: Sa (H a))(hs: jE a s.heap h')(he: ∃q, h'.get? a=some q)(new: du X.prog X.w (upd H a ob) h' a ob):
  Inv X pins σ (upd H a ob) { s with heap := h', toks := t' } :=
 I.write (x := a) (e := a) mu (.inl rfl) (λb q hb z=>(hs.2 b hb).trans z) he new
theorem Ox{kvs: List (Key×V)}{vs: List (Key×aej)}(z: kvs.length<=aeu)(hd: (a == sysModules)=false)(rel: KV kvs vs)(dd: h'.DictOf (bH P w) a vs):
  du P w H' h' a (.dK kvs) :=⟨z, hd, vs, rel, dd⟩
theorem C9{Q: Unit->aei->Prop}(hu: A.units+1 < cLine)(I: Inv X pins σ H s)(g: vJ H a y v H')(ry: RelV y u)(rv: RelV v r)(h: ∀s', Inv X pins σ H' s'->Q () s'):
  aew (model X.prog X.w) A (setItem (.ref a) u r) Q E s := by
 rcases g with ⟨kvs, k, e, ey, l, eH⟩ |⟨kvs, k, b, e, ey, eb, l, eH⟩
 ·subst ey eH;obtain⟨z, hd, vs, rel, dd⟩ := Tf I.hok e;have hz: vs.length<=aeu := by rw[<-rel.length];exact z
  have hl: (putK kvs k v).length<=aeu := by have := kW kvs k v;omega
  refine wpAny_setItem_pairs (hsz := hz) (Bl ry) dd λh' Mv hs=>h _ ?_;have he: ∃q, h'.get? a=some q := let ⟨q, _, _, hq, _⟩ := Mv;⟨q, hq⟩;exact qI I (by rw[e];exact gF) hs he (Ox hl hd (rel.put k rv) Mv)
 ·subst ey eH;cases (show u=aL b from ry);obtain⟨z, hd, xs, rel, dd⟩ := E2 I.hok e;have hz: xs.length<=aeu := by rw[<-Paired.length rel];exact z
  have hl: (putK kvs k v).length<=aeu := by have := kW kvs k v;omega
  refine wpAny_setItem_heap (hsz := hz) (tupleKind_room_in1 hu) (kX I.hok eb) dd λh' Mv hs=>h _ ?_;obtain⟨q, es, ep, hq, h2, h3, h4, _, h5⟩ := Mv;refine qI I (by rw[e];exact gF) hs ⟨q, hq⟩ ⟨hl, hd, _, (rel.put k eb rv).keeps λc ys ec=>?_, q, es, ep, hq, h2, h3, h4, h5⟩;rw[aZ (En ec e (λz=>nomatch z))]
  exact ec
end
def E3(i: Expr): Prop := ∀ov iv, subscripted i false ov iv=operate [ov, iv] (getItem ov iv)
variable{s:aei}
theorem Bn{prog: aeh}{A: aee}{E: aej->aei->Prop}{env: Env}{value slice: Expr}{pos: Pos}{T id: String}
  (hl: typeLookup (.type T) "__getitem__"=pure (some (.builtin id)))(hs: E3 slice)
  (h: aew (model prog w) A (eval value env) (λo s₁=>aew (model prog w) A (eval slice env) (λi s₂=>s₂.TypeIs o T/\aew (model prog w) A (getItem o i) Q E s₂) E s₁) E s):
  aew (model prog w) A (eval (.Subscript value slice pos) env) Q E s := by
 refine Subscript_ (aeA h (λo s₁ h₁=>aeA h₁ (λi s₂ h₂=>?_) λ_ _ x=>x) λ_ _ x=>x);obtain⟨hT, h₂⟩ := h₂;unfold subscriptTail;refine aex ?_;rw[getitemInPython_of_ne hT.not_modules];refine aex (wpAny_specialOf hT hl ?_);have fin: aew (model prog w) A (subscripted slice false o i) (λr s₃=>aew (model prog w) A (letTemporaryGo value o r >>= λ_=>pure r) Q E s₃) E s₂ := by rw[hs o i];exact wpAny_operating (aeA h₂ (λr s₃ h₃=>aex (wpAny_letTemporaryGo (aeC h₃))) λ_ _ x=>x)
 first
  |exact aeC (aex fin)
  |exact aex (aeC (aex fin))
  |exact aex fin
variable{X:Cx}{σ:St}
theorem xx{pins: List (aed×Obj)}(I: Inv X pins σ H s)(g: qk H a y o): s.TypeIs (.ref a) "dict" := by
 rcases g with ⟨kvs, k, e, _, _⟩ |⟨kvs, k, b, e, _, _, _⟩
 ·obtain⟨_, _, vs, _, dd⟩ := xw I.hok e;exact dd.typeIs
 ·obtain⟨_, _, xs, _, dd⟩ := nJ I.hok e;exact dd.typeIs
def Tg(td ty: TE): TE := λσ H Q=>td σ H λx H1=>ty σ H1 λy H2=>∃a v, x= .ref a/\qk H2 a y (some v)/\Q v H2
def Th(td ty tv: TE): TS := λD σ H=>tv σ H λv H1=>td σ H1 λx H2=>ty σ H2 λy H3=>∃a H4, x= .ref a/\vJ H3 a y v H4/\D.nx σ H4
section
variable {X: Cx}{o i e value: Expr}{pos pos' tpos: Pos}{td ty tv: TE}
theorem J7(hu: X.A.units+1 < cLine)(ho: PE X o td)(hi: PE X i ty)(hs: E3 i): PE X (.Subscript o i pos) (Tg td ty) := by intro pins s σ H Q I h;refine Bn PySem.F.slot_dict_getitem.lookup hs (bK (ho pins s σ H _ I h) λu s1 ⟨x, H1, I1, rx, q1⟩=>bK (hi pins s1 σ H1 _ I1 q1) λiv s2 ⟨y, H2, I2, ry, a, v, ex, g, q2⟩=>?_);subst ex;obtain rfl: u=aL a := rx;exact⟨xx I2 g, C8 hu I2 g ry λw' s3 I3 rw'=>⟨v, H2, I3, rw', q2⟩⟩
theorem J8(hu: X.A.units+1 < cLine)(ho: PE X o td)(hi: PE X i ty)(hv: PE X value tv)(hs: swapsWith value (some (.Subscript o i pos')) pos.line X.env=pure false):
  PS X (.Assign [.Subscript o i pos'] value pos) (Th td ty tv) := by
 intro pins s σ H D I h;refine wpAny_Assign_Subscript (bK (hv pins s σ H _ I h) λr s1 ⟨v, H1, I1, rv, q1⟩=>bK (ho pins s1 σ H1 _ I1 q1) λu s2 ⟨x, H2, I2, rx, q2⟩=>bK (hi pins s2 σ H2 _ I2 q2) λiv s3 ⟨y, H3, I3, ry, a, H4, ex, g, q3⟩=>?_) hs;subst ex;obtain rfl: u=aL a := rx;exact C9 hu I3 g ry rv λs4 I4=>⟨σ, H4, I4, q3⟩
end
theorem E4(h: Heap)(hb: sysModules < h.objs.size): du P w H (h.push { cls := .type "dict", data := .dict #[] }) h.objs.size (.dT []) :=
 ⟨cO _, beq_eq_false_iff_ne.mpr (bA (bU hb)), [], .nil, _, #[], 0, cj _ rfl, ⟨rfl, rfl, rfl⟩, rfl, rfl, Bo⟩
def Oy: TE := λ_ H Q=>∀p, H p=none->Q (.ref p) (upd H p (.dT []))
section
variable {X: Cx}{pos: Pos}
theorem E5: PE X (.Dict [] [] pos) Oy := λpins s σ H Q I h=>
 wpAny_Dict_empty ⟨.ref s.heap.objs.size, _, I.laid (a := s.heap.objs.size) (o := .dT []) (t' := s.toks) (λ_ _ q=>bt _ q) (aE _) (E4 s.heap I.big), rfl, h _ (I.hok.fresh (aE _))⟩
end
structure M1(X: Cx)(o: Expr)(m: Str)(apos: Pos)(e: Expr)(cpos: Pos): Prop where
 base: attributeBase o m X.env (eval o X.env)=eval o X.env
 few: ((backTo cpos (aev [e] X.env)).all (λx=> !x.1)&&(backToKw cpos (keywordEach [] X.env)).all (λx=>x.1.isSome)
  &&decide (([e]: List Expr).length+([]: List Keyword).length+(if([]: List Keyword).isEmpty then 0 else 1) < 30))=true
 line: (apos.endLine == cpos.line)=true
 trees: backTo cpos (aev [e] X.env)=[(false, eval e X.env)]
def XB(H: Hp)(a: aed): Prop := (∃kvs, Rd H a (.dK kvs))\/∃kvs, Rd H a (.dT kvs)
theorem E6{pins: List (aed×Obj)}(I: Inv X pins σ H s)(d: XB H a):
  s.TypeIs (.ref a) "dict"/\(∀b, aL a= .ref b->∃ob, s.heap.get? b=some ob/\ob.dict=none)/\(a == sysModules)=false := by
 rcases d with ⟨kvs, e⟩ |⟨kvs, e⟩
 ·obtain⟨_, hd, vs, _, dd⟩ := xw I.hok e;refine⟨dd.typeIs, λb q=>?_, hd⟩;cases q;obtain⟨ob, _, _, h1, h2, _⟩ := dd;exact⟨ob, h1, h2.2.1⟩
 ·obtain⟨_, hd, xs, _, dd⟩ := nJ I.hok e;refine⟨dd.typeIs, λb q=>?_, hd⟩;cases q;obtain⟨ob, _, _, h1, h2, _⟩ := dd;exact⟨ob, h1, h2.2.1⟩
section
variable {X: Cx}{pins: List (aed×Obj)}{σ: St}{H: Hp}{s: aei}{a: aed}{y d: V}{u r: aej}{o: Option V}{A: aee}{E: aej->aei->Prop}
theorem Oz(hu: A.units+1 < cLine)(I: Inv X pins σ H s)(g: qk H a y o)(ry: RelV y u)(h: ∀w' s', Inv X pins σ H s'->RelV (o.getD .non) w'->Q w' s'):
  aew (model X.prog X.w) A (call (.builtin "dict.get") [.ref a, u]) Q E s := by
 rcases g with ⟨kvs, k, e, ey, l⟩ |⟨kvs, k, b, e, ey, eb, l⟩
 ·subst ey;obtain⟨z, hd, vs, rel, dd⟩ := xw I.hok e;refine call_meetsIn PySem.F.slot_dict_get dd.typeIs PySem.F.entry_dict_get (PySem.F.args_dict_get_2 _ _) (meets_dict_get (bH X.prog X.w) a (Bl ry) hd) ⟨_, dd.mapOf, h _ _ (I.tok _) ?_⟩;rw[l];exact(rel.val k).getD rfl
 ·subst ey;cases (show u=aL b from ry);obtain⟨z, hd, xs, rel, dd⟩ := nJ I.hok e;refine call_meetsIn PySem.F.slot_dict_get dd.typeIs PySem.F.entry_dict_get (PySem.F.args_dict_get_2 _ _) (meetsH_dict_get (tupleKind (bH X.prog X.w)) a b hd) ⟨tupleKind_room_in1 hu, k, xs, kX I.hok eb, dd, h _ _ (I.tok _) ?_⟩;rw[l];exact(rel.val k).getD rfl
end
def OC(td ty: TE): TE := λσ H Q=>td σ H λx H1=>∃a, x= .ref a/\XB H1 a/\ty σ H1 λy H2=>∃o, qk H2 a y o/\Q (o.getD .non) H2
section
variable {X: Cx}{o e f: Expr}{apos cpos: Pos}{td ty tx: TE}
theorem E7(hu: X.A.units+1 < cLine)(ho: PE X o td)(he: PE X e ty)(m: M1 X o "get" apos e cpos): PE X (.Call (.Attribute o "get" apos) [e] [] cpos) (OC td ty) := by intro pins s σ H Q I h;refine wpAny_Call_method m.base m.few m.line PySem.F.plainAttrs_dict PySem.F.slot_dict_get PySem.F.type_dict_get (bK (ho pins s σ H _ I h) λu s1 ⟨x, H1, I1, rx, a, ex, d, q1⟩=>?_);subst ex;obtain rfl: u=aL a := rx;obtain⟨t1, t2, _⟩ := E6 I1 d;refine⟨t1, t2, ?_⟩;rw[m.trees];refine EU rfl (EV (EK (bK (he pins s1 σ H1 _ I1 q1) λiv s2 ⟨y, H2, I2, ry, ov, g, q2⟩=>EJ ?_)));exact Oz hu I2 g ry λw' s3 I3 rw'=>⟨_, H2, I3, rw', q2⟩
end
end L2
namespace L2
open PySem PySem.Spec PyProof.Rows
section
variable {κ: Type} [DecidableEq κ]
theorem uy{p: κ×V}{r: List (κ×V)}{k: κ}(e: p.1=k): kA (p::r) k=kA r k := by unfold kA;rw[gW, if_neg (by simp[e])]
theorem uz{p: κ×V}{r: List (κ×V)}{k: κ}(e: ¬p.1=k): kA (p::r) k=p::kA r k := by unfold kA;rw[gW, if_pos (by simp[e])]
end
end L2
set_option maxHeartbeats 4000000
namespace J
open PySem PySem.Spec PyProof.Rows L2
def VU(h base:Heap)(e:aed)(cls a0 fl:aej):Prop :=
 ∃ox us T ot ws,h.get? e=some ox/\(ox.cls=cls/\us[2]? =some cN)/\ox.data= .fields us/\us[1]? =some (.ref T)/\base.get? T=none/\T≠e/\h.get? T=some ot/\ot.data= .fields ws/\ws[3]? =some fl
abbrev J9(base:Heap)(l:List Env)(e:aed)(cls a0 fl:aej)(h:Heap):Prop:=base.StaysIn h/\base.get? e=none/\h.FunFrames base l/\VU h base e cls a0 fl
def E8(base:Heap)(l:List Env)(e:aed)(cls a0:aej)(L:aed)(h:Heap):Prop:=J9 base l e cls a0 (rawInt L) h
def OD(base:Heap)(l:List Env)(e:aed)(cls a0:aej)(h:Heap):Prop:=J9 base l e cls a0 .none h
variable{ox:Obj}{us:Array aej}
section
variable {M:Model}{A:aee}{E:aej->aei->Prop}{s:aei}{base:Heap}{env:Env}{outer l:List Env}{L e:aed}{cls a0 nt:aej}{Q:Unit->aei->Prop}
theorem zD{h h1:Heap}{S:List aed}{ob:Obj}{ws:Array aej}(so:Heap.SlotsOnly S h h1)(hS:S=l.filterMap (·.frame))(fs:h.FunFrames base l)(g1:h.get? e=some ox)(g3:ox.data= .fields us)(st:base.StaysIn h)(ne:base.get? e=none)(sz:1 < us.size)(g2:us[2]? =some cN)
  (d:ob.data= .fields ws)(w3:ws[3]? =some nt)(nf:ob.isFreed=false):
  J9 base l e ox.cls a0 nt ((h1.push ob).update e (jK (·.setIfInBounds 1 (.ref h1.objs.size))))/\h.UpToSlots ((h1.push ob).update e (jK (·.setIfInBounds 1 (.ref h1.objs.size)))):=by
 have nS:e∉S:=λz=>by rw[hS]at z;obtain⟨_,o2,q2,d2⟩:=fs.mem z;rw[g1]at q2;cases q2;exact d2 us g3
 have q1:h1.get? e=some ox:=(so.2.1 e nS).trans g1;have lt:e≠h1.objs.size:=bU (a7 q1);have oth:∀b o,b≠e->h1.get? b=some o->((h1.push ob).update e (jK (·.setIfInBounds 1 (.ref h1.objs.size)))).get? b=some o:=λb o n q=>(rE _ _ (bA n)).trans (bt _ q);have up:h.UpToSlots ((h1.push ob).update e (jK (·.setIfInBounds 1 (.ref h1.objs.size)))):=λb o q n=>by obtain⟨sl,q2⟩:=so.2.2 b o q;exact⟨sl,oth b _ (λz=>by rw[z,g1]at q;cases q;exact n us g3) q2⟩
 have stay:base.StaysIn h1:=λb o q=>(so.2.1 b λz=>by rw[hS]at z;rw[(fs.mem z).1]at q;cases q).trans (st b o q);have fresh:base.get? h1.objs.size=none:=by
  cases z:base.get? h1.objs.size with
  |none=>rfl
  |some o=>exact absurd (a7 (stay _ _ z)) (fg _)
 have d1:=qJ g3 (·.setIfInBounds 1 (aL h1.objs.size));refine⟨⟨λb o q=>oth b o (λz=>by rw[z,ne]at q;cases q) (stay b o q),ne,fs.of_keeps λb o q n=>?_,_,_,h1.objs.size,ob,ws,rD _ (bt _ q1) (Bp d1),⟨Obj.cls_mapFields _ _,?_⟩,d1,by simp[sz],fresh,bA lt,?_,d,w3⟩,up⟩
 ·obtain⟨sl,q2⟩:=up b o q n;exact⟨_,q2,rfl⟩
 ·rw[Array.getElem?_setIfInBounds_ne (by decide)];exact g2
 ·exact(rE _ _ lt).trans (cj _ nf)
theorem E9{head:aej}{had:Bool}(hfr:A.frames=some (env::outer))(fs:s.heap.FunFrames base (env::outer))(hf:env.frame=some L)(g1:s.heap.get? e=some ox)(st:base.StaysIn s.heap)(ne:base.get? e=none)(g3:ox.data= .fields us)(sz:1 < us.size)(g2:us[2]? =some cN)
  (k:∀h',E8 base (env::outer) e ox.cls a0 L h'->s.heap.UpToSlots h'->Q () { s with heap:=h' }):
  aew M A (do let a <-frameOf env;let pl <-entryPlaceOf L had;let b <-OE head a .none (rawInt L) .none pl;setField (.ref e) 1 b) Q E s:=by
 refine aex (wpAny_frameOf_fun hfr fs hf λh1 so=>aex (wpAny_entryPlaceOf λpl pp=>?_));have nS:e∉(env::outer).filterMap (·.frame):=λz=>by obtain⟨_,o2,q2,d2⟩:=fs.mem z;rw[g1]at q2;cases q2;exact d2 us g3
 have q1:h1.get? e=some ox:=(so.2.1 e nS).trans g1;simp only[OE,newFields];refine aex (aeB (wpAny_setField (bt _ q1) g3 sz ?_) (pp.sizeOk5 _ _ _ _ _));obtain⟨m,up⟩:=zD (a0:=a0) (nt:=rawInt L) so rfl fs g1 g3 st ne sz g2 (ob:={ cls:=.type "traceback",dict:=none,data:=.fields ([head,.ref L,.none,rawInt L,.none]++(if pl.isEmpty then aU 6 cN else pl)).toArray }) rfl (by first |(simp;done) |(rcases pp with rfl |⟨_,_,_,_,_,_,_,rfl⟩<;>simp)) rfl;exact k _ m up
theorem OF(hf:env.frame=some L)(x:VU s.heap base e cls a0 (rawInt L))(k:Q () s):aew M A (noteFrame (.ref e) env) Q E s:=by obtain⟨ox,us,T,ot,ws,g1,g2,g3,g4,g5,g6,g7,g8,g9⟩:=x;unfold noteFrame;simp only[hf];refine aex (wpAny_field g1 g3 g4 ?_);rw[if_pos (by simp)];refine aex (wpAny_field g7 g8 g9 ?_);rw[if_pos (by simp)];exact aeC k
theorem Mw(x:J9 base l e cls a0 nt s.heap)(k:∀h',OD base l e cls a0 h'->s.heap.UpToSlots h'->Q () { s with heap:=h' }):aew M A (setFlight (.ref e) none) Q E s:=by
 obtain⟨x1,x2,x3,ox,us,T,ot,ws,g1,g2,g3,g4,g5,g6,g7,g8,g9⟩:=x;have sz:3 < ws.size:=(Array.getElem?_eq_some_iff.mp g9).1;unfold setFlight;refine aex (wpAny_field g1 g3 g4 ?_);rw[if_pos (by simp)];refine wpAny_setField g7 g8 sz ?_;generalize hu:s.heap.update T _=h';have ap:∀b,b≠T->h'.get? b=s.heap.get? b:=λb n=>by rw[<-hu];exact rE _ _ (bA n)
 have pl:∀b o,s.heap.get? b=some o->(∀vs,o.data≠.fields vs)->h'.get? b=some o:=λb o q n=>(ap b λz=>by rw[z,g7]at q;cases q;exact n ws g8).trans q;refine k h' ⟨λb o q=>(ap b λz=>by rw[z,g5]at q;cases q).trans (x1 b o q),x2,x3.of_keeps λb o q n=>⟨o,pl b o q n,rfl⟩,ox,us,T,jK (·.setIfInBounds 3 .none) ot,ws.setIfInBounds 3 .none,(ap e (bA g6)).trans g1,g2,g3,g4,g5,g6,?_,qJ g8 _,?_⟩ λb o q n=>⟨o.slots,pl b o q n⟩
 ·rw[<-hu];exact rD _ g7 (Bp (qJ g8 _))
 ·simp[sz]
end
structure Lm where
 a:aed
 c:aed
 q:PySem.Str
 xs:List V
inductive Wv where
 |non
 |bl (b:Bool)
 |int (i:Int)
 |str (x:PySem.Str)
 |tup (ws:List Wv)
 |rN (ws:List Wv)
 |ref (l:Nat)
 |ty (n:String)
 |cls (c:PySem.Str)
 |Bq (c:PySem.Str)
 |fn (p:Lm) (ws:List Wv)
inductive Ob where
 |lst (ws:List Wv)
 |rO (ns:List Int)
 |dct (kvs:List (L2.Key×Wv))
 |et (kvs:List (List L2.Key×Wv))
 |zE (kvs:List (List L2.Key×Wv))
 |Ef (kvs:List (L2.Key×Wv))
 |oK (kvs:List (NK.KD×Wv))
 |ins (c:PySem.Str) (fs:List (PySem.Str×Wv))
abbrev Hs:=List Ob
abbrev St:=L2.St
abbrev b7:=List (Option Wv)
abbrev Mp:=List aed
def Ti(a C:aed):Heap->Prop:=λh=>∃o,h.get? a=some o/\o.cls= .ref C/\∃vs,o.data= .fields vs
def ExH(a C:aed)(u:Option HO):Prop:=∃o vs,u=some (.oI o (.ext (Ti a C)))/\o.data= .fields vs/\vs[2]? =some cN
def ClsAt(K:PySem.W.Frag)(c:PySem.Str)(C:aed):Prop:=PySem.W.nsIn K aet c=some (some (.ref C))
def E_(c:aed)(q:PySem.Str):Heap->Prop:=λh=>h.CodeRec (.ref c) q
def cQ:List PySem.Str:=["form_of","formula_by","turned","readied_content","ordered"]
def jL(K:PySem.W.Frag)(q:PySem.Str):Option aed:=match PySem.W.tabIn K q with
 |some (_,P)=>if(K.lookup P).isNone=true then some P else none
 |none=>none
def XC(q:PySem.Str):PySem.Str:=(q++".<locals>.")++"<lambda>"
def vL(K:PySem.W.Frag)(H:Hp):Prop:=∀q P,q∈cQ->jL K q=some P->∃ps,H P=some (.mx ps)/\TriplesOk ps.toList/\∀pos cv,codeAmong pos ps.toList=some cv->∃c,cv= .ref c/\H c=some (.ext (E_ c (XC q)))
variable{K:PySem.W.Frag}{H:Hp}
theorem vL.keep{H':Hp}(t:vL K H)(h1:∀a ps,H a=some (.mx ps)->H' a=some (.mx ps))(h2:∀a φ,H a=some (.ext φ)->H' a=some (.ext φ)):vL K H':=λq P hq hP=>by obtain⟨ps,e1,e2,e3⟩:=t q P hq hP;refine⟨ps,h1 _ _ e1,e2,λpos cv e=>?_⟩;obtain⟨c,f1,f2⟩:=e3 pos cv e;exact⟨c,f1,h2 _ _ f2⟩
def XD(K:PySem.W.Frag)(a:aed)(xs:List V):Prop:=∃(o:Obj)(its:Array aej)(n:Nat),K.lookup a=some o/\o.cls= .type "tuple"/\o.data= .seq its n/\its.size<=aeu/\Vals xs its.toList
mutual
def ah(K:PySem.W.Frag)(m:Mp)(H:Hp):Wv->V->Prop
 |.non,v=>v= .non
 |.bl b,v=>v= .bl b
 |.int i,v=>v= .int i
 |.str x,v=>v= .str x/\aY x=true
 |.tup ws,v=>∃a xs,v= .ref a/\H a=some (.tup xs)/\aq K m H ws xs
 |.rN ws,v=>∃a xs,v= .ref a/\XD K a xs/\aq K m H ws xs
 |.ref l,v=>∃a,v= .ref a/\m[l]? =some a
 |.ty n,v=>v= .ty n
 |.cls c,v=>∃C,v= .ref C/\ClsAt K c C
 |.Bq c,v=>∃a C,v= .ref a/\ClsAt K c C/\ExH a C (H a)
 |.fn p ws,v=>v= .ref p.a/\H p.c=some (.ext (E_ p.c p.q))/\aq K m H ws p.xs
def aq(K:PySem.W.Frag)(m:Mp)(H:Hp):List Wv->List V->Prop
 |[],xs=>xs=[]
 |w::ws,xs=>∃x r,xs=x::r/\ah K m H w x/\aq K m H ws r
end
structure Ext(K:PySem.W.Frag)(m:Mp)(H:Hp)(m':Mp)(H':Hp):Prop where
 pre:∀(l:Nat)(a:aed),m[l]? =some a->m'[l]? =some a
 tup:∀(a:aed)(xs:List V),H a=some (.tup xs)->H' a=some (.tup xs)
 ext:∀(a:aed)(φ:Heap->Prop),H a=some (.ext φ)->H' a=some (.ext φ)
 oI:∀(a:aed)(o:Obj)(u:HO),H a=some (.oI o u)->H' a=some (.oI o u)
section
variable {K:PySem.W.Frag}{m m1 m2:Mp}{H H1 H2:Hp}
theorem Ext.refl:Ext K m H m H:=⟨λ_ _ h=>h,λ_ _ h=>h,λ_ _ h=>h,λ_ _ _ h=>h⟩
theorem Ext.trans(a:Ext K m H m1 H1)(b:Ext K m1 H1 m2 H2):Ext K m H m2 H2 :=
 ⟨λl x h=>b.pre l x (a.pre l x h),λx xs h=>b.tup x xs (a.tup x xs h),λx φ h=>b.ext x φ (a.ext x φ h),λx o u h=>b.oI x o u (a.oI x o u h)⟩
structure OG(K:PySem.W.Frag)(m:Mp)(H:Hp)(m':Mp)(H':Hp):Prop where
 pre:∀(l:Nat)(a:aed),m[l]? =some a->m'[l]? =some a
 tup:∀(a:aed)(xs:List V),H a=some (.tup xs)->H' a=some (.tup xs)
 ext:∀(a:aed)(φ:Heap->Prop),H a=some (.ext φ)->H' a=some (.ext φ)
 fx:∀(a:aed)(o:Obj)(φ:Heap->Prop),H a=some (.oI o (.ext φ))->H' a=some (.oI o (.ext φ))
theorem Ext.z(e:Ext K m H m1 H1):OG K m H m1 H1:=⟨e.pre,e.tup,e.ext,λa o φ h=>e.oI a o _ h⟩
mutual
theorem ah.pV(e:OG K m H m1 H1):∀(w:Wv)(v:V),ah K m H w v->ah K m1 H1 w v
 |.non,v,h=>by unfold ah at h ⊢;exact h
 |.bl b,v,h=>by unfold ah at h ⊢;exact h
 |.int i,v,h=>by unfold ah at h ⊢;exact h
 |.str x,v,h=>by unfold ah at h ⊢;exact h
 |.ty n,v,h=>by unfold ah at h ⊢;exact h
 |.cls c,v,h=>by unfold ah at h ⊢;exact h
 |.Bq c,v,h=>by unfold ah at h ⊢;obtain⟨a,C,e1,e2,o,vs,e3,e4⟩:=h;exact⟨a,C,e1,e2,o,vs,e.fx _ _ _ e3,e4⟩
 |.ref l,v,h=>by unfold ah at h ⊢;obtain⟨a,e1,e2⟩:=h;exact⟨a,e1,e.pre _ _ e2⟩
 |.tup ws,v,h=>by unfold ah at h ⊢;obtain⟨a,xs,e1,e2,e3⟩:=h;exact⟨a,xs,e1,e.tup _ _ e2,aq.pV e ws xs e3⟩
 |.rN ws,v,h=>by unfold ah at h ⊢;obtain⟨a,xs,e1,e2,e3⟩:=h;exact⟨a,xs,e1,e2,aq.pV e ws xs e3⟩
 |.fn p ws,v,h=>by unfold ah at h ⊢;obtain⟨e1,e2,e3⟩:=h;exact⟨e1,e.ext _ _ e2,aq.pV e ws p.xs e3⟩
theorem aq.pV(e:OG K m H m1 H1):∀(ws:List Wv)(xs:List V),aq K m H ws xs->aq K m1 H1 ws xs
 |[],xs,h=>by unfold aq at h ⊢;exact h
 |w::ws,xs,h=>by unfold aq at h ⊢;obtain⟨x,r,e1,e2,e3⟩:=h;exact⟨x,r,e1,ah.pV e w x e2,aq.pV e ws r e3⟩
end
theorem ah.mono(e:Ext K m H m1 H1)(w:Wv)(v:V)(h:ah K m H w v):ah K m1 H1 w v:=ah.pV e.z w v h
theorem aq.mono(e:Ext K m H m1 H1)(ws:List Wv)(xs:List V)(h:aq K m H ws xs):aq K m1 H1 ws xs:=aq.pV e.z ws xs h
theorem aq.nil:aq K m H [] []:=by unfold aq;rfl
theorem aq.cons{w:Wv}{x:V}{ws:List Wv}{xs:List V}(h:ah K m H w x)(t:aq K m H ws xs):aq K m H (w::ws) (x::xs):=by unfold aq;exact⟨x,xs,rfl,h,t⟩
theorem aq.length:∀{ws:List Wv}{xs:List V},aq K m H ws xs->ws.length=xs.length
 |[],xs,h=>by unfold aq at h;subst h;rfl
 |w::ws,xs,h=>by unfold aq at h;obtain⟨x,r,e1,_,e3⟩:=h;subst e1;simp[aq.length e3]
theorem aq.get:∀{ws:List Wv}{xs:List V}{i:Nat}{w:Wv},aq K m H ws xs->ws[i]? =some w->∃x,xs[i]? =some x/\ah K m H w x
 |[],_,i,w,_,e=>by simp at e
 |a::ws,xs,0,w,h,e=>by unfold aq at h;obtain⟨x,r,e1,e2,_⟩:=h;subst e1;simp at e;subst e;exact⟨x,rfl,e2⟩
 |a::ws,xs,i+1,w,h,e=>by unfold aq at h;obtain⟨x,r,e1,_,e3⟩:=h;subst e1;obtain⟨y,f1,f2⟩:=aq.get (i:=i) (w:=w) e3 (by simpa using e);exact⟨y,by simpa using f1,f2⟩
theorem aq.append:∀{ws zs:List Wv}{xs ys:List V},aq K m H ws xs->aq K m H zs ys->aq K m H (ws++zs) (xs++ys)
 |[],_,xs,_,h,g=>by unfold aq at h;subst h;exact g
 |w::ws,zs,xs,ys,h,g=>by unfold aq at h;obtain⟨x,r,e1,e2,e3⟩:=h;subst e1;exact aq.cons e2 (aq.append e3 g)
theorem aq.set:∀{ws:List Wv}{xs:List V}(i:Nat){w:Wv}{x:V},aq K m H ws xs->ah K m H w x->aq K m H (ws.set i w) (xs.set i x)
 |[],xs,i,w,x,h,_=>by unfold aq at h;subst h;exact aq.nil
 |a::ws,xs,0,w,x,h,g=>by unfold aq at h;obtain⟨y,r,e1,e2,e3⟩:=h;subst e1;exact aq.cons g e3
 |a::ws,xs,i+1,w,x,h,g=>by unfold aq at h;obtain⟨y,r,e1,e2,e3⟩:=h;subst e1;exact aq.cons e2 (aq.set i e3 g)
theorem aq.drop:∀{ws:List Wv}{xs:List V}(i:Nat),aq K m H ws xs->aq K m H (ws.drop i) (xs.drop i)
 |ws,xs,0,h=>by simpa using h
 |[],xs,i+1,h=>by unfold aq at h;subst h;simpa using aq.nil
 |a::ws,xs,i+1,h=>by unfold aq at h;obtain⟨y,r,e1,e2,e3⟩:=h;subst e1;simpa using aq.drop i e3
theorem aq.take:∀{ws:List Wv}{xs:List V}(i:Nat),aq K m H ws xs->aq K m H (ws.take i) (xs.take i)
 |ws,xs,0,h=>by simpa using aq.nil
 |[],xs,i+1,h=>by unfold aq at h;subst h;simpa using aq.nil
 |a::ws,xs,i+1,h=>by unfold aq at h;obtain⟨y,r,e1,e2,e3⟩:=h;subst e1;simpa using aq.cons e2 (aq.take i e3)
theorem aq.ints:∀(ns:List Int),aq K m H (ns.map Wv.int) (ns.map V.int)
 |[]=>aq.nil
 |n::ns=>aq.cons (by unfold ah;rfl) (aq.ints ns)
end
def xy(K:PySem.W.Frag)(H:Hp)(a:aed)(ns:List Int):Prop :=
 (∃o,H a=some (.oI o (.lst (ns.map V.int))))\/
  ∃(o:Obj)(its:Array aej)(n:Nat),K.lookup a=some o/\o.cls= .type "list"/\o.dict=none/\o.data= .seq its n/\its.size<=aeu/\Vals (ns.map V.int) its.toList
variable{κ:Type}
def RelK(K:PySem.W.Frag)(m:Mp)(H:Hp)(kvs:List (κ×Wv))(xs:List (κ×V)):Prop:=kvs.map (·.1)=xs.map (·.1)/\aq K m H (kvs.map (·.2)) (xs.map (·.2))
def tR(K:PySem.W.Frag)(m:Mp)(H:Hp)(a:aed):Ob->Prop
 |.lst ws=>∃xs,H a=some (.lst xs)/\aq K m H ws xs
 |.rO ns=>xy K H a ns
 |.dct kvs=>∃xs,H a=some (.dK xs)/\RelK K m H kvs xs
 |.et kvs=>∃xs,H a=some (.dT xs)/\RelK K m H kvs xs
 |.zE kvs=>∃o xs,H a=some (.oI o (.dT xs))/\RelK K m H kvs xs
 |.Ef kvs=>∃o xs,H a=some (.oI o (.dK xs))/\RelK K m H kvs xs
 |.oK kvs=>∃xs,H a=some (.dN xs)/\RelK K m H kvs xs
 |.ins c fs=>∃C dx xs,H a=some (.ins C dx xs)/\ClsAt K c C/\RelK K m H fs xs
def Ob.mu:Ob->Bool
 |.rO _=>false
 |_=>true
def Ob.wm:Ob->Bool
 |.rO _=>false
 |.zE _=>false
 |.Ef _=>false
 |_=>true
theorem Ob.Tj{o:Ob}(h:o.wm=true):o.mu=true:=by cases o<;>first |rfl |cases h
structure cb(K:PySem.W.Frag)(m:Mp)(st:Hs)(H:Hp):Prop where
 len:m.length=st.length
 obj:∀(l:Nat)(a:aed)(o:Ob),m[l]? =some a->st[l]? =some o->tR K m H a o
 inj:∀(l l':Nat)(a:aed)(o o':Ob),m[l]? =some a->m[l']? =some a->st[l]? =some o->st[l']? =some o'->o.mu=true->o'.mu=true->l=l'
 tab:vL K H
def aG(st:Hs)(l:Nat):Option (List Wv):=match st[l]? with
 |some (.lst ws)=>some ws
 |some (.rO ns)=>some (ns.map Wv.int)
 |_=>none
variable{ob:Ob}{ws:List Wv}{o u:HO}{p a b:aed}{xs:List V}{m1:Mp}{H1:Hp}{l:Nat}
section
variable {K:PySem.W.Frag}{m:Mp}{H:Hp}{st:Hs}
def Wr(u:Option HO):Prop:=u=none\/(∃ys,u=some (.lst ys))\/(∃ys,u=some (.dK ys))\/(∃ys,u=some (.dT ys))\/(∃ys,u=some (.dN ys))\/∃C dx fs,u=some (.ins C dx fs)
theorem Wr.ne(hp:Wr (H p))(e:H a=some u)(n1:∀ys,u≠.lst ys)(n2:∀ys,u≠.dK ys)(n3:∀ys,u≠.dT ys)(n4:∀ys,u≠.dN ys)(n5:∀C dx fs,u≠.ins C dx fs:=by nofun):a≠p:=λz=>by
 subst z;rcases hp with q |⟨ys,q⟩ |⟨ys,q⟩ |⟨ys,q⟩ |⟨ys,q⟩ |⟨C,dx,fs,q⟩
 ·rw[q]at e;cases e
 ·rw[q]at e;cases e;exact n1 ys rfl
 ·rw[q]at e;cases e;exact n2 ys rfl
 ·rw[q]at e;cases e;exact n3 ys rfl
 ·rw[q]at e;cases e;exact n4 ys rfl
 ·rw[q]at e;cases e;exact n5 C dx fs rfl
theorem E'(hp:Wr (H p))(h:H a=some (.tup xs)):upd H p o a=some (.tup xs):=by rw[aZ (hp.ne h nofun nofun nofun nofun)];exact h
theorem Fb{ns:List Int}(hp:Wr (H p))(h:xy K H a ns):xy K (upd H p o) a ns:=by
 rcases h with ⟨o',h⟩ |h
 ·exact .inl ⟨o',by rw[aZ (hp.ne h nofun nofun nofun nofun)];exact h⟩
 ·exact .inr h
theorem Wr.of{u:Option HO}(h:u=none\/∃ys,u=some (.lst ys)):Wr u:=by
 rcases h with q |q
 ·exact .inl q
 ·exact .inr (.inl q)
theorem Ext.iy(hp:Wr (H p)):Ext K m H m (upd H p o):=⟨λ_ _ h=>h,λ_ _ h=>E' hp h,λa φ h=>by
 rw[aZ (hp.ne h nofun nofun nofun nofun)];exact h,λa o u h=>by
 rw[aZ (hp.ne h nofun nofun nofun nofun)];exact h⟩
theorem Ext.upd{p:aed}{o:HO}(hp:H p=none\/∃ys,H p=some (.lst ys)):Ext K m H m (upd H p o):=Ext.iy (Wr.of hp)
theorem RelK.mono{kvs:List (κ×Wv)}{xs:List (κ×V)}(e:Ext K m H m1 H1)(h:RelK K m H kvs xs):RelK K m1 H1 kvs xs:=⟨h.1,aq.mono e _ _ h.2⟩
theorem tR.keep{o:Ob}(ex:Ext K m H m1 (L2.upd H p u))(hp:Wr (H p))(hb:o.mu=true->b≠p)(h:tR K m H b o):tR K m1 (L2.upd H p u) b o:=by
 cases o with
 |lst ws=>obtain⟨xs,e1,e2⟩:=h;exact⟨xs,by rw[aZ (hb rfl)];exact e1,aq.mono ex _ _ e2⟩
 |dct kvs=>obtain⟨xs,e1,e2⟩:=h;exact⟨xs,by rw[aZ (hb rfl)];exact e1,e2.mono ex⟩
 |et kvs=>obtain⟨xs,e1,e2⟩:=h;exact⟨xs,by rw[aZ (hb rfl)];exact e1,e2.mono ex⟩
 |zE kvs=>obtain⟨o,xs,e1,e2⟩:=h;exact⟨o,xs,by rw[aZ (hb rfl)];exact e1,e2.mono ex⟩
 |Ef kvs=>obtain⟨o,xs,e1,e2⟩:=h;exact⟨o,xs,by rw[aZ (hb rfl)];exact e1,e2.mono ex⟩
 |oK kvs=>obtain⟨xs,e1,e2⟩:=h;exact⟨xs,by rw[aZ (hb rfl)];exact e1,e2.mono ex⟩
 |ins c fs=>obtain⟨C,dx,xs,e1,e2,e3⟩:=h;exact⟨C,dx,xs,by rw[aZ (hb rfl)];exact e1,e2,e3.mono ex⟩
 |rO ns=>exact Fb hp h
theorem tR.at{b:aed}{o:Ob}(h:tR K m H b o)(hm:o.mu=true):∃u,H b=some u:=by
 cases o with
 |lst ws=>obtain⟨xs,e1,e2⟩:=h;exact⟨_,e1⟩
 |dct kvs=>obtain⟨xs,e1,e2⟩:=h;exact⟨_,e1⟩
 |et kvs=>obtain⟨xs,e1,e2⟩:=h;exact⟨_,e1⟩
 |zE kvs=>obtain⟨o,xs,e1,e2⟩:=h;exact⟨_,e1⟩
 |Ef kvs=>obtain⟨o,xs,e1,e2⟩:=h;exact⟨_,e1⟩
 |oK kvs=>obtain⟨xs,e1,e2⟩:=h;exact⟨_,e1⟩
 |ins c fs=>obtain⟨C,dx,xs,e1,e2⟩:=h;exact⟨_,e1⟩
 |rO ns=>simp[Ob.mu]at hm
theorem tR.wr{o:Ob}(h:tR K m H b o)(hm:o.wm=true):Wr (H b):=by
 cases o with
 |lst ws=>obtain⟨xs,e1,e2⟩:=h;exact .inr (.inl ⟨_,e1⟩)
 |dct kvs=>obtain⟨xs,e1,e2⟩:=h;exact .inr (.inr (.inl ⟨_,e1⟩))
 |et kvs=>obtain⟨xs,e1,e2⟩:=h;exact .inr (.inr (.inr (.inl ⟨_,e1⟩)))
 |oK kvs=>obtain⟨xs,e1,e2⟩:=h;exact .inr (.inr (.inr (.inr (.inl ⟨_,e1⟩))))
 |ins c fs=>obtain⟨C,dx,xs,e1,e2⟩:=h;exact .inr (.inr (.inr (.inr (.inr ⟨_,_,_,e1⟩))))
 |zE kvs=>cases hm
 |Ef kvs=>cases hm
 |rO ns=>cases hm
theorem vL.iy(t:vL K H)(hp:Wr (H p)):vL K (L2.upd H p o):=t.keep
 (λa ps h=>by rw[aZ (hp.ne h nofun nofun nofun nofun)];exact h)
 λa φ h=>by rw[aZ (hp.ne h nofun nofun nofun nofun)];exact h
theorem Ext.more:Ext K m H (m++[p]) H:=⟨λl a h=>by
 rw[f6]
 ·exact h
 ·exact(List.getElem?_eq_some_iff.mp h).1,λ_ _ h=>h,λ_ _ h=>h,λ_ _ _ h=>h⟩
theorem cb.fresh(S:cb K m st H)(hp:H p=none):cb K m st (upd H p o) :=
 ⟨S.len,λl a ob h1 h2=>by have q:=S.obj l a ob h1 h2;refine q.keep (Ext.iy (.inl hp)) (.inl hp) λhm=>?_;obtain⟨u,e⟩:=q.at hm;exact c_ e hp,S.inj,S.tab.iy (.inl hp)⟩
theorem cb.rP(S:cb K m st H)(h1:m[l]? =some a)(h2:st[l]? =some (.lst ws)):∃xs,H a=some (.lst xs)/\aq K m H ws xs:=S.obj l a _ h1 h2
theorem cb.read(S:cb K m st H)(h1:m[l]? =some a)(h2:aG st l=some ws):∃xs,mO K H a xs/\aq K m H ws xs:=by
 unfold aG at h2;cases e:st[l]? with
 |none=>rw[e]at h2;cases h2
 |some o=>
  rw[e]at h2;cases o with
  |lst zs=>cases h2;obtain⟨xs,e1,e2⟩:=S.rP h1 e;exact⟨xs,mO.of e1,e2⟩
  |dct kvs=>cases h2
  |et kvs=>cases h2
  |zE kvs=>cases h2
  |Ef kvs=>cases h2
  |oK kvs=>cases h2
  |ins c fs=>cases h2
  |rO ns=>
   cases h2;have q:xy K H a ns:=S.obj l a _ h1 e;refine⟨ns.map V.int,?_,aq.ints ns⟩;rcases q with ⟨o,q⟩ |q
   ·exact .inl (.inr ⟨o,q⟩)
   ·exact .inr q
theorem cb.rQ(S:cb K m st H)(hp:H p=none)(r:tR K (m++[p]) (L2.upd H p u) p ob):cb K (m++[p]) (st++[ob]) (L2.upd H p u):=by
 have ex:Ext K m H (m++[p]) (L2.upd H p u):=Ext.more.trans (Ext.iy (.inl hp));have Fc:∀(l:Nat)(o:Ob),m[l]? =some p->st[l]? =some o->o.mu=true->False:=λl o h1 h2 hm=>by obtain⟨v,e⟩:=(S.obj l p o h1 h2).at hm;rw[hp]at e;cases e
 have old:∀(l:Nat)(a:aed),(m++[p])[l]? =some a->(l < m.length/\m[l]? =some a)\/(l=m.length/\a=p):=λl a h=>by
  by_cases hl:l < m.length
  ·exact .inl ⟨hl,by rw[f6 hl]at h;exact h⟩
  ·have h':=h;rw[kP (by omega)]at h';have z:=List.getElem?_eq_some_iff.mp h';have z1:l - m.length < 1:=by simpa using z.1
   refine .inr ⟨by omega,?_⟩;have e0:l - m.length=0:=by omega
   rw[e0]at h';simpa using h'.symm
 have olds:∀(l:Nat)(o:Ob),l < m.length->(st++[ob])[l]? =some o->st[l]? =some o:=λl o hl h=>by rw[f6 (by rw[<-S.len];exact hl)]at h;exact h
 refine⟨by simp[S.len],λl a o h1 h2=>?_,λl l' a zs zs' h1 Mx h2 h2' k k'=>?_,S.tab.iy (.inl hp)⟩
 ·rcases old l a h1 with ⟨hl,h1⟩ |⟨hl,rfl⟩
  ·have q:=S.obj l a o h1 (olds l o hl h2);refine q.keep ex (.inl hp) λhm=>?_;obtain⟨v,e⟩:=q.at hm;exact c_ e hp
  ·have e:o=ob:=by rw[hl,S.len,kP (aE _),nK]at h2;simpa using h2.symm
   subst e;exact r
 ·rcases old l a h1 with ⟨hl,g1⟩ |⟨hl,ea⟩
  ·rcases old l' a Mx with ⟨hl',RO⟩ |⟨hl',ea'⟩
   ·exact S.inj l l' a zs zs' g1 RO (olds l _ hl h2) (olds l' _ hl' h2') k k'
   ·rw[ea']at g1;exact(Fc l zs g1 (olds l _ hl h2) k).elim
  ·rcases old l' a Mx with ⟨hl',RO⟩ |⟨hl',_⟩
   ·rw[ea]at RO;exact(Fc l' zs' RO (olds l' _ hl' h2') k').elim
   ·omega
theorem cb.alloc(S:cb K m st H)(hp:H p=none)(r:aq K m H ws xs):cb K (m++[p]) (st++[.lst ws]) (upd H p (.lst xs)) :=
 S.rQ hp ⟨xs,bE,aq.mono (Ext.more.trans (Ext.iy (.inl hp))) _ _ r⟩
theorem cb.oQ{o0:Ob}(S:cb K m st H)(h1:m[l]? =some a)(h2:st[l]? =some o0)(hw:o0.wm=true)(r:tR K m (L2.upd H a u) a ob):cb K m (st.set l ob) (L2.upd H a u):=by
 have wr:Wr (H a):=(S.obj l a o0 h1 h2).wr hw;have hm:=Ob.Tj hw;have ex:Ext K m H m (L2.upd H a u):=Ext.iy wr;have hl:l < st.length:=(List.getElem?_eq_some_iff.mp h2).1;have at':∀(k:Nat)(o:Ob),(st.set l ob)[k]? =some o->(k=l/\o=ob)\/(k≠l/\st[k]? =some o):=λk o h=>by
  by_cases e:l=k
  ·subst e;rw[lT hl]at h;exact .inl ⟨rfl,(Option.some.inj h).symm⟩
  ·rw[bN e]at h;exact .inr ⟨λz=>e z.symm,h⟩
 refine⟨by simp[S.len],λk b o g1 g2=>?_,λk k' b us us' g1 RO g2 g2' q q'=>?_,S.tab.iy wr⟩
 ·rcases at' k o g2 with ⟨rfl,rfl⟩ |⟨hk,g2⟩
  ·rw[h1]at g1;cases g1;exact r
  ·have q:=S.obj k b o g1 g2;refine q.keep ex wr λho z=>?_;subst z;exact hk (S.inj k l b o o0 g1 h1 g2 h2 ho hm)
 ·have back:∀(k:Nat)(o:Ob),(st.set l ob)[k]? =some o->o.mu=true->∃o',st[k]? =some o'/\o'.mu=true:=λk o h ho=>by
   rcases at' k _ h with ⟨rfl,_⟩ |⟨_,h⟩
   ·exact⟨o0,h2,hm⟩
   ·exact⟨o,h,ho⟩
  obtain⟨u1,e1,f1⟩:=back k us g2 q;obtain⟨u2,e2,f2⟩:=back k' us' g2' q';exact S.inj k k' b u1 u2 g1 RO e1 e2 f1 f2
theorem cb.write{zs:List Wv}(S:cb K m st H)(h1:m[l]? =some a)(h2:st[l]? =some (.lst ws))(r:aq K m H zs xs):cb K m (st.set l (.lst zs)) (upd H a (.lst xs)) :=
 S.oQ h1 h2 rfl ⟨xs,bE,aq.mono (Ext.iy ((S.obj l a _ h1 h2).wr rfl)) _ _ r⟩
end
structure aS(K:PySem.W.Frag)(m:Mp)(H:Hp)(ρ:b7)(σ:St):Prop where
 len:ρ.length=σ.length
 get:∀(i:Nat)(w:Wv),ρ[i]? =some (some w)->∃v,σ[i]? =some (some v)/\ah K m H w v
section
variable {K:PySem.W.Frag}{m m1:Mp}{H H1:Hp}{ρ:b7}{σ:St}
theorem aS.mono(R:aS K m H ρ σ)(e:Ext K m H m1 H1):aS K m1 H1 ρ σ:=⟨R.len,λi w h=>let ⟨v,h1,h2⟩:=R.get i w h;⟨v,h1,ah.mono e _ _ h2⟩⟩
theorem aS.set(R:aS K m H ρ σ)(i:Nat){w:Wv}{v:V}(h:ah K m H w v):aS K m H (ρ.set i (some w)) (σ.set i (some v)):=by
 refine⟨by simp[R.len],λj u e=>?_⟩;by_cases hj:i=j
 ·subst hj;have hi:i < ρ.length:=by have:=(List.getElem?_eq_some_iff.mp e).1;simpa using this
  rw[lT hi]at e;have e':w=u:=Option.some.inj (Option.some.inj e);subst e';exact⟨v,by rw[lT (by rw[<-R.len];exact hi)],h⟩
 ·rw[bN hj]at e;obtain⟨x,h1,h2⟩:=R.get j u e;exact⟨x,by rw[bN hj];exact h1,h2⟩
end
inductive Re(α:Type) where
 |ok (a:α) (st:Hs)
 |err (c:PySem.Str) (st:Hs)
 |bad
variable{α:Type}
def Re.bind{β:Type}(r:Re α)(f:α->Hs->Re β):Re β:=match r with
 |.ok a st=>f a st
 |.err c st=> .err c st
 |.bad=> .bad
inductive Rs where
 |nx (ρ:b7) (st:Hs)
 |rt (w:Wv) (st:Hs)
 |bk (ρ:b7) (st:Hs)
 |ct (ρ:b7) (st:Hs)
 |err (c:PySem.Str) (ρ:b7) (st:Hs)
 |bad
def Re.bK(ρ:b7)(r:Re α)(f:α->Hs->Rs):Rs:=match r with
 |.ok a st=>f a st
 |.err c st=> .err c ρ st
 |.bad=> .bad
def Re.pW(r:Re α):Re α:=match r with
 |.ok a st=> .ok a st
 |_=> .bad
abbrev GE:=b7->Hs->Re Wv
abbrev GT:=b7->Hs->Re Bool
abbrev GA:=b7->Hs->Re (List Wv)
abbrev GS:=b7->Hs->Rs
def xA(P:aeh)(w:aek)(outer:List Env)(H:Hp)(s:aei)(H':Hp)(cls:aej)(e:aej)(s':aei):Prop :=
 ∃(a:aed)(a0:aej)(B:Heap),e= .ref a/\s'.os=s.os/\AllBare s'.gens/\Un (frs outer) [] H H' s.heap s'.heap/\kL P w H' B/\OD B outer a cls a0 s'.heap/\
  (∀b o,s.heap.get? b=some o->b∉frs outer->∃o',B.get? b=some o'/\(H b=none->o'=o))
def zF(X:Cx)(pins:List (aed×Obj))(H:Hp)(s:aei)(H':Hp)(cls:aej)(e:aej)(s':aei):Prop :=
 ∃(a:aed)(a0 nt:aej)(B:Heap)(ch:List aed),e= .ref a/\s'.os=s.os/\AllBare s'.gens/\(∀b∈ch,iL X pins H b)/\Un (frs X.stack) ch H H' s.heap s'.heap/\kL X.prog X.w H' B/\
  (B.StaysIn s'.heap/\B.get? a=none/\s'.heap.FunFrames B X.stack/\VU s'.heap B a cls a0 nt)/\
  (∀b o,s.heap.get? b=some o->b∉frs X.stack->b∉ch->∃o',B.get? b=some o'/\(H b=none->o'=o))
variable{X:Cx}
theorem xA.any{pins:List (aed×Obj)}{H':Hp}{s s':aei}{cls e:aej}(f:xA X.prog X.w X.stack H s H' cls e s'):zF X pins H s H' cls e s' :=
 let ⟨a,a0,B,e1,e2,e3,un,hok,fl,Tn⟩:=f
 ⟨a,a0,.none,B,[],e1,e2,e3,(λb z=>by cases z),un,hok,fl,λb o q hb _=>Tn b o q hb⟩
def zG(X:Cx)(σ:St)(H':Hp)(c:PySem.Str)(e:aej)(s':aei):Prop :=
 ∃(C:aed)(pins:List (aed×Obj))(Hc:Hp)(sc:aei),ClsAt X.K c C/\Inv X pins σ Hc sc/\
  (zF X pins Hc sc H' (.ref C) e s'\/(H'=Hc/\∃a args,e= .ref a/\s'.os=sc.os/\s'.gens=sc.gens/\Fd sc.heap s'.heap a (.ref C) args))
def RP(X:Cx)(σ:St)(m:Mp)(H:Hp)(c:PySem.Str)(st:Hs):Prop :=
 ∀(m':Mp)(H':Hp)(e:aej)(s':aei),Ext X.K m H m' H'->cb X.K m' st H'->zG X σ H' c e s'->X.xe e s'
variable{σ:St}{m:Mp}{st:Hs}
theorem RP.mono{c:PySem.Str}(h:RP X σ m H c st)(e:Ext X.K m H m1 H1):RP X σ m1 H1 c st :=
 λm' H' x s' e' S r=>h m' H' x s' (e.trans e') S r
def aM(X:Cx)(σ:St)(m:Mp)(H:Hp)(r:Re α)(ok:α->Hs->Prop):Prop:=match r with
 |.ok a st=>ok a st
 |.err c st=>RP X σ m H c st
 |.bad=>False
def rR(r:Re α)(ok:α->Hs->Prop):Prop:=match r with
 |.ok a st=>ok a st
 |_=>False
theorem aM.pW{r:Re α}{ok:α->Hs->Prop}(h:aM X σ m H r.pW ok):rR r ok:=by
 cases r with
 |ok a st=>exact h
 |err c st=>exact h
 |bad=>exact h
theorem aM.bind{β:Type}{r:Re α}{f:α->Hs->Re β}{ok:β->Hs->Prop}(h:aM X σ m H (r.bind f) ok):aM X σ m H r (λa st=>aM X σ m H (f a st) ok):=by
 cases r with
 |ok a st=>exact h
 |err c st=>exact h
 |bad=>exact h
theorem aM.imp{r:Re α}{ok ok':α->Hs->Prop}(h:aM X σ m H r ok)(e:Ext X.K m H m1 H1)(k:∀a st,ok a st->ok' a st):aM X σ m1 H1 r ok':=by
 cases r with
 |ok a st=>exact k a st h
 |err c st=>exact RP.mono (c:=c) (st:=st) h e
 |bad=>exact h
theorem rR.imp{r:Re α}{ok ok':α->Hs->Prop}(h:rR r ok)(k:∀a st,ok a st->ok' a st):rR r ok':=by
 cases r with
 |ok a st=>exact k a st h
 |err c st=>exact h
 |bad=>exact h
def To(K:PySem.W.Frag)(m:Mp)(H:Hp)(Q:VK)(w:Wv)(st:Hs):Prop:=∀(v:V)(m':Mp)(H':Hp),Ext K m H m' H'->cb K m' st H'->ah K m' H' w v->Q v H'
def okT(K:PySem.W.Frag)(m:Mp)(H:Hp)(Q:Bool->Hp->Prop)(b:Bool)(st:Hs):Prop:=∀(m':Mp)(H':Hp),Ext K m H m' H'->cb K m' st H'->Q b H'
def okA(K:PySem.W.Frag)(m:Mp)(H:Hp)(Q:List V->Hp->Prop)(ws:List Wv)(st:Hs):Prop:=∀(vs:List V)(m':Mp)(H':Hp),Ext K m H m' H'->cb K m' st H'->aq K m' H' ws vs->Q vs H'
abbrev fZ(X:Cx)(σ:St)(m:Mp)(H:Hp)(r:Re Wv)(Q:VK):Prop:=aM X σ m H r (To X.K m H Q)
abbrev jk(X:Cx)(σ:St)(m:Mp)(H:Hp)(r:Re Bool)(Q:Bool->Hp->Prop):Prop:=aM X σ m H r (okT X.K m H Q)
abbrev Mz(X:Cx)(σ:St)(m:Mp)(H:Hp)(r:Re (List Wv))(Q:List V->Hp->Prop):Prop:=aM X σ m H r (okA X.K m H Q)
variable{r:Re Wv}{Q:VK}
theorem fZ.shift(h:fZ X σ m H r Q)(e:Ext X.K m H m1 H1):fZ X σ m1 H1 r Q:=h.imp e λ_ _ k v m' H' e'=>k v m' H' (e.trans e')
theorem jk.shift{r:Re Bool}{Q:Bool->Hp->Prop}(h:jk X σ m H r Q)(e:Ext X.K m H m1 H1):jk X σ m1 H1 r Q:=h.imp e λ_ _ k m' H' e'=>k m' H' (e.trans e')
abbrev df(K:PySem.W.Frag)(m:Mp)(H:Hp)(r:Re Wv)(Q:VK):Prop:=rR r (To K m H Q)
theorem df.shift(h:df K m H r Q)(e:Ext K m H m1 H1):df K m1 H1 r Q:=rR.imp h λ_ _ k v m' H' e'=>k v m' H' (e.trans e')
def bh(X:Cx)(m:Mp)(H:Hp)(r:Rs)(D:Ends):Prop:=match r with
 |.nx ρ st=>∀(σ:St)(m':Mp)(H':Hp),Ext X.K m H m' H'->cb X.K m' st H'->aS X.K m' H' ρ σ->D.nx σ H'
 |.rt w st=>∀(v:V)(m':Mp)(H':Hp),Ext X.K m H m' H'->cb X.K m' st H'->ah X.K m' H' w v->D.rt v H'
 |.bk ρ st=>∀(σ:St)(m':Mp)(H':Hp),Ext X.K m H m' H'->cb X.K m' st H'->aS X.K m' H' ρ σ->D.bk σ H'
 |.ct ρ st=>∀(σ:St)(m':Mp)(H':Hp),Ext X.K m H m' H'->cb X.K m' st H'->aS X.K m' H' ρ σ->D.ct σ H'
 |.err c ρ st=>∀(σ:St)(m':Mp)(H':Hp)(e:aej)(s':aei),Ext X.K m H m' H'->cb X.K m' st H'->aS X.K m' H' ρ σ->zG X σ H' c e s'->X.xe e s'
 |.bad=>False
variable{D:Ends}
theorem bh.shift{r:Rs}(h:bh X m H r D)(e:Ext X.K m H m1 H1):bh X m1 H1 r D:=by
 cases r with
 |nx ρ st=>exact λσ m' H' e'=>h σ m' H' (e.trans e')
 |rt w st=>exact λv m' H' e'=>h v m' H' (e.trans e')
 |bk ρ st=>exact λσ m' H' e'=>h σ m' H' (e.trans e')
 |ct ρ st=>exact λσ m' H' e'=>h σ m' H' (e.trans e')
 |err c ρ st=>exact λσ m' H' x s' e'=>h σ m' H' x s' (e.trans e')
 |bad=>exact h
variable{ρ:b7}
theorem bh.dc{r:Re α}{f:α->Hs->Rs}(R:aS X.K m H ρ σ)(h:bh X m H (r.bK ρ f) D):aM X σ m H r (λa st=>bh X m H (f a st) D):=by
 cases r with
 |ok a st=>exact h
 |err c st=>exact λm' H' x s' e' S r=>h σ m' H' x s' e' S (R.mono e') r
 |bad=>exact h
def SE(X:Cx)(e:Expr):TE:=λσ H Q=>∀(pins:List (aed×Obj))(s:aei),Inv X pins σ H s->aew (model X.prog X.w) X.A (eval e X.env) (EP X pins σ Q) X.xe s
def ST(X:Cx)(e:Expr):TT:=λσ H Q=>∀(pins:List (aed×Obj))(s:aei),Inv X pins σ H s->aew (model X.prog X.w) X.A (isTrue e X.env (eval e X.env)) (TP X pins σ Q) X.xe s
def SA(X:Cx)(es:List Expr):TA:=λσ H Q=>∀(pos:Pos)(pins:List (aed×Obj))(s:aei),Inv X pins σ H s->aew (model X.prog X.w) X.A (spliced (backTo pos (aev es X.env))) (AP X pins σ Q) X.xe s
def SS(X:Cx)(st:Stmt):TS:=λD σ H=>∀(pins:List (aed×Obj))(s:aei),Inv X pins σ H s->aew (model X.prog X.w) X.A (exec st X.env) (SP X pins D) X.xe s
def VV(X:Cx)(st:List Stmt):TS:=λD σ H=>∀(pins:List (aed×Obj))(s:aei),Inv X pins σ H s->aew (model X.prog X.w) X.A (execs st X.env) (SP X pins D) X.xe s
variable{e:Expr}{es:List Expr}
section
variable {X:Cx}
theorem bj:PE X e (SE X e):=λpins s _ _ _ I h=>h pins s I
theorem rS:PT X e (ST X e):=λpins s _ _ _ I h=>h pins s I
theorem kC:PA X es (SA X es):=λpos pins s _ _ _ I h=>h pos pins s I
theorem MA{st:Stmt}:PS X st (SS X st):=λpins s _ _ _ I h=>h pins s I
theorem iO{st:List Stmt}:Er X st (VV X st):=λpins s _ _ _ I h=>h pins s I
end
def JE(X:Cx)(e:Expr)(g:GE):Prop:=∀(ρ:b7)(st:Hs)(σ:St)(H:Hp)(m:Mp)(Q:VK),cb X.K m st H->aS X.K m H ρ σ->fZ X σ m H (g ρ st) Q->SE X e σ H Q
def JT(X:Cx)(e:Expr)(g:GT):Prop:=∀(ρ:b7)(st:Hs)(σ:St)(H:Hp)(m:Mp)(Q:Bool->Hp->Prop),cb X.K m st H->aS X.K m H ρ σ->jk X σ m H (g ρ st) Q->ST X e σ H Q
def JA(X:Cx)(es:List Expr)(g:GA):Prop:=∀(ρ:b7)(st:Hs)(σ:St)(H:Hp)(m:Mp)(Q:List V->Hp->Prop),cb X.K m st H->aS X.K m H ρ σ->Mz X σ m H (g ρ st) Q->SA X es σ H Q
def JS(X:Cx)(s:Stmt)(g:GS):Prop:=∀(ρ:b7)(st:Hs)(σ:St)(H:Hp)(m:Mp)(D:Ends),cb X.K m st H->aS X.K m H ρ σ->bh X m H (g ρ st) D->SS X s D σ H
def qK(X:Cx)(s:List Stmt)(g:GS):Prop:=∀(ρ:b7)(st:Hs)(σ:St)(H:Hp)(m:Mp)(D:Ends),cb X.K m st H->aS X.K m H ρ σ->bh X m H (g ρ st) D->VV X s D σ H
variable{g:GA}{t:TS}
section
variable {X:Cx}
theorem JE.of{g:GE}{t:TE}(h:PE X e t)(k:∀(ρ:b7)(st:Hs)(σ:St)(H:Hp)(m:Mp)(Q:VK),cb X.K m st H->aS X.K m H ρ σ->fZ X σ m H (g ρ st) Q->t σ H Q):JE X e g :=
 λρ st σ H m Q S R p pins s I=>h pins s σ H Q I (k ρ st σ H m Q S R p)
theorem JT.of{g:GT}{t:TT}(h:PT X e t)(k:∀(ρ:b7)(st:Hs)(σ:St)(H:Hp)(m:Mp)(Q:Bool->Hp->Prop),cb X.K m st H->aS X.K m H ρ σ->jk X σ m H (g ρ st) Q->t σ H Q):JT X e g :=
 λρ st σ H m Q S R p pins s I=>h pins s σ H Q I (k ρ st σ H m Q S R p)
theorem JA.of{t:TA}(h:PA X es t)(k:∀(ρ:b7)(st:Hs)(σ:St)(H:Hp)(m:Mp)(Q:List V->Hp->Prop),cb X.K m st H->aS X.K m H ρ σ->Mz X σ m H (g ρ st) Q->t σ H Q):JA X es g :=
 λρ st σ H m Q S R p pos pins s I=>h pos pins s σ H Q I (k ρ st σ H m Q S R p)
theorem JS.of{e:Stmt}{g:GS}(h:PS X e t)(k:∀(ρ:b7)(st:Hs)(σ:St)(H:Hp)(m:Mp)(D:Ends),cb X.K m st H->aS X.K m H ρ σ->bh X m H (g ρ st) D->t D σ H):JS X e g :=
 λρ st σ H m D S R p pins s I=>h pins s σ H D I (k ρ st σ H m D S R p)
theorem qK.of{e:List Stmt}{g:GS}(h:Er X e t)(k:∀(ρ:b7)(st:Hs)(σ:St)(H:Hp)(m:Mp)(D:Ends),cb X.K m st H->aS X.K m H ρ σ->bh X m H (g ρ st) D->t D σ H):qK X e g :=
 λρ st σ H m D S R p pins s I=>h pins s σ H D I (k ρ st σ H m D S R p)
theorem JE.go{g:GE}{T:VK}{ok:Wv->Hs->Prop}(h:JE X e g)(S:cb X.K m st H)(R:aS X.K m H ρ σ)(p:aM X σ m H (g ρ st) ok)
  (k:∀(w:Wv)(st1:Hs)(v:V)(m1:Mp)(H1:Hp),ok w st1->Ext X.K m H m1 H1->cb X.K m1 st1 H1->ah X.K m1 H1 w v->T v H1):SE X e σ H T :=
 h ρ st σ H m T S R (p.imp Ext.refl λw st1 q v m1 H1 e1 s1 r1=>k w st1 v m1 H1 q e1 s1 r1)
theorem JT.go{g:GT}{T:Bool->Hp->Prop}{ok:Bool->Hs->Prop}(h:JT X e g)(S:cb X.K m st H)(R:aS X.K m H ρ σ)(p:aM X σ m H (g ρ st) ok)
  (k:∀(b:Bool)(st1:Hs)(m1:Mp)(H1:Hp),ok b st1->Ext X.K m H m1 H1->cb X.K m1 st1 H1->T b H1):ST X e σ H T :=
 h ρ st σ H m T S R (p.imp Ext.refl λb st1 q m1 H1 e1 s1=>k b st1 m1 H1 q e1 s1)
theorem JA.go{T:List V->Hp->Prop}{ok:List Wv->Hs->Prop}(h:JA X es g)(S:cb X.K m st H)(R:aS X.K m H ρ σ)(p:aM X σ m H (g ρ st) ok)
  (k:∀(ws:List Wv)(st1:Hs)(vs:List V)(m1:Mp)(H1:Hp),ok ws st1->Ext X.K m H m1 H1->cb X.K m1 st1 H1->aq X.K m1 H1 ws vs->T vs H1):SA X es σ H T :=
 h ρ st σ H m T S R (p.imp Ext.refl λw st1 q v m1 H1 e1 s1 r1=>k w st1 v m1 H1 q e1 s1 r1)
end
end J
namespace J
open PySem PySem.Spec PyProof.Rows L2
def lim:Nat:=1000000
variable{n:Nat}
theorem fF(h:n<=lim):n<=aeu:=aV h (by unfold lim;rw[sizeLine_eq];decide)
theorem vM(h:n < lim):n < aeu:=bT h (by unfold lim;rw[sizeLine_eq];decide)
def ae(i:Nat):GE:=λρ st=>match ρ[i]? with
 |some (some w)=> .ok w st
 |_=> .bad
def gC(w:Wv):GE:=λ_ st=> .ok w st
variable{x:Str}{pos:Pos}{i:Int}{b a c e:Expr}{t:Tok}{T:String}{ga gb gc:GE}{r:R2}{ρ:b7}{st st1:Hs}{σ:St}{H H1:Hp}{m m1:Mp}{Q:VK}{o:CmpOp}{g:GA}{rest es:List Expr}{gt:GT}{K:PySem.W.Frag}{ws:List Wv}{vs:List V}
section
variable {X:Cx}
theorem zH(i:Nat)(hN:X.N[i]? =some x:=by rfl)(hv:W3 X.env.scope x:=by first |exact Or.inl rfl |exact lY (Or.inl rfl) |exact lY (lY rfl))(hd:(x == ("__debug__":Str))=false:=by decide)
  (hcd:(x == ("__classdict__":Str))=false:=by decide):JE X (.Name x pos) (ae i):=JE.of (NA hN hv hd hcd) λρ st σ H m Q S R p=>by
 unfold ae at p;cases e:ρ[i]? with
 |none=>rw[e]at p;exact ab p
 |some o=>
  cases o with
  |none=>rw[e]at p;exact ab p
  |some w=>rw[e]at p;obtain⟨v,h1,h2⟩:=R.get i w e;exact⟨v,h1,p v m H Ext.refl S h2⟩
theorem OH{j pos}:JE X (.Constant (.int i) j pos) (gC (.int i)):=JE.of NB λρ st σ H m Q S R p=>p (.int i) m H Ext.refl S (by unfold ah;rfl)
theorem Tp{b:Bool}{j pos}:JE X (.Constant (.bool b) j pos) (gC (.bl b)):=JE.of Sk λρ st σ H m Q S R p=>p (.bl b) m H Ext.refl S (by unfold ah;rfl)
theorem OJ{j pos}:JE X (.Constant .none j pos) (gC .non):=JE.of NC λρ st σ H m Q S R p=>p .non m H Ext.refl S (by unfold ah;rfl)
theorem OL{x:PySem.Str}{j pos}(hx:aY x=true:=by decide+kernel):JE X (.Constant (.str x) j pos) (gC (.str x)):=JE.of ND λρ st σ H m Q S R p=>p (.str x) m H Ext.refl S (by unfold ah;exact⟨rfl,hx⟩)
theorem Fe(hg:Gl X x)(hm:X.mg x=some (.int i t))(hd:(x == ("__debug__":Str))=false:=by decide):JE X (.Name x pos) (gC (.int i)) :=
 JE.of (lU (v:=.int i) hg hm ⟨t,rfl⟩ hd) λρ st σ H m Q S R p=>p (.int i) m H Ext.refl S (by unfold ah;rfl)
theorem Ff{y:Str}(hg:Gl X x)(hm:X.mg x=some (.str y t))(hy:aY y=true:=by decide+kernel)(hd:(x == ("__debug__":Str))=false:=by decide):JE X (.Name x pos) (gC (.str y)) :=
 JE.of (lU (v:=.str y) hg hm ⟨t,rfl⟩ hd) λρ st σ H m Q S R p=>p (.str y) m H Ext.refl S (by unfold ah;exact⟨rfl,hy⟩)
theorem Tq(hg:Gl X x)(hm:X.mg x=none)(hv:aen x=some (.type T))(hn:x≠"__name__":=by decide)(hd:(x == ("__debug__":Str))=false:=by decide):JE X (.Name x pos) (gC (.ty T)) :=
 JE.of (Jr (v:=.ty T) hg hm hv rfl hn hd) λρ st σ H m Q S R p=>p (.ty T) m H Ext.refl S (by unfold ah;rfl)
abbrev gU:=Wv->Wv->Hs->Re Wv
def ao(op:gU)(ga gb:GE):GE:=λρ st=>(ga ρ st).bind λx st1=>(gb ρ st1).bind λy st2=>(op x y st2).pW
def Br(X:Cx)(op:gU)(r:R2):Prop:=∀(x y:Wv)(a b:V)(st:Hs)(H:Hp)(m:Mp)(Q:VK),cb X.K m st H->ah X.K m H x a->ah X.K m H y b->df X.K m H (op x y st) Q->r a b H Q
def jh(X:Cx)(f:aej->aej->Sem aej)(op:gU):Prop:=∃r,fh X f r/\Br X op r
theorem Bs{op:gU}(h2:Br X op r)(ha:JE X a ga)(hb:JE X b gb)(S:cb X.K m st H)(R:aS X.K m H ρ σ)(p:fZ X σ m H (ao op ga gb ρ st) Q):
  Sy r (SE X a) (SE X b) σ H Q:=by
 refine ha.go S R (aM.bind p) λx st1 v m1 H1 p1 e1 S1 rx=>?_;refine hb.go S1 (R.mono e1) ((aM.bind p1).imp e1 λ_ _ q=>q) λy st2 u m2 H2 p2 e2 S2 ry=>?_;exact h2 x y v u st2 H2 m2 Q S2 (ah.mono e2 _ _ rx) ry (df.shift (aM.pW p2) (e1.trans e2))
theorem OM{o:Operator}{op:gU}(ho:jh X (aem o) op)(ha:JE X a ga)(hb:JE X b gb):JE X (.BinOp a o b pos) (ao op ga gb):=by obtain⟨r,h1,h2⟩:=ho;exact JE.of (Sz h1 bj bj) λρ st σ H m Q S R p=>Bs h2 ha hb S R p
theorem ON{op:gU}(ho:jh X (aeq o) op)(ha:JE X a ga)(hb:JE X b gb)(hm:ael o b=false):JE X (.Compare a [o] [b] pos) (ao op ga gb):=by obtain⟨r,h1,h2⟩:=ho;exact JE.of (JB h1 bj bj hm) λρ st σ H m Q S R p=>Bs h2 ha hb S R p
def RQ(w:Wv)(st:Hs):Re Bool:=match w with
 |.bl b=> .ok b st
 |_=> .bad
def bu(g:GE):GT:=λρ st=>(g ρ st).bind RQ
theorem xB{r:Re Wv}{Q:Bool->Hp->Prop}(p:jk X σ m H (r.bind RQ) Q):fZ X σ m H r (λx H'=>∃k,x= .bl k/\Q k H'):=by
 cases r with
 |ok w st=>
  cases w with
  |bl b=>intro v m' H' e S rw';unfold ah at rw';exact⟨b,rw',p m' H' e S⟩
  |_=>exact ab p
 |err c st=>exact p
 |bad=>exact p
theorem OO{op:gU}(ho:jh X (aeq o) op)(ha:JE X a ga)(hb:JE X b gb)(hm:ael o b=false):JT X (.Compare a [o] [b] pos) (bu (ao op ga gb)):=by obtain⟨r,h1,h2⟩:=ho;exact JT.of (JC h1 bj bj hm) λρ st σ H m Q S R p=>Bs h2 ha hb S R (xB p)
def rT(op op':gU)(ga gb gc:GE):GE:=λρ st=>(ga ρ st).bind λx st1=>(gb ρ st1).bind λy st2=>(op x y st2).pW.bind λz st3=>match z with
 |.bl true=>(gc ρ st3).bind λu uA=>(op' y u uA).pW
 |.bl false=> .ok (.bl false) st3
 |_=> .bad
theorem MB{op op':gU}{r':R2}(h2:Br X op r)(h2':Br X op' r')(ha:JE X a ga)(hb:JE X b gb)(hc:JE X c gc)
  (S:cb X.K m st H)(R:aS X.K m H ρ σ)(p:fZ X σ m H (rT op op' ga gb gc ρ st) Q):zh r r' (SE X a) (SE X b) (SE X c) σ H Q:=by
 refine ha.go S R (aM.bind p) λx st1 v m1 H1 p1 e1 S1 rx=>?_;refine hb.go S1 (R.mono e1) ((aM.bind p1).imp e1 λ_ _ q=>q) λy st2 u m2 H2 p2 e2 S2 ry=>?_;refine h2 x y v u st2 H2 m2 _ S2 (ah.mono e2 _ _ rx) ry (rR.imp (aM.pW (aM.bind p2)) λz st3 p3=>?_);intro z' m3 H3 e3 S3 rz;cases z with
 |bl k=>
  unfold ah at rz;refine⟨k,rz,?_⟩;cases k with
  |true=>rw[if_pos rfl];refine hc.go S3 (R.mono (e1.trans (e2.trans e3))) ((aM.bind p3).imp (e1.trans (e2.trans e3)) λ_ _ q=>q) λq uA u' m4 H4 p4 e4 S4 rq=>?_;exact h2' y q u u' uA H4 m4 Q S4 (ah.mono (e3.trans e4) _ _ ry) rq (df.shift (aM.pW p4) (e1.trans (e2.trans (e3.trans e4))))
  |false=>rw[if_neg aH];exact p3 (.bl false) m3 H3 (e1.trans (e2.trans e3)) S3 (by unfold ah;rfl)
 |_=>exact ab p3
theorem Fg{o':CmpOp}{op op':gU}(ho:jh X (aeq o) op)(ho':jh X (aeq o') op')(ha:JE X a ga)(hb:JE X b gb)(hc:JE X c gc)
  (hm:lastMarks [o,o'] [b,c]=false:=by with_unfolding_all rfl):JE X (.Compare a [o,o'] [b,c] pos) (rT op op' ga gb gc):=by
 obtain⟨r,h1,h2⟩:=ho;obtain⟨r',Mx,h2'⟩:=ho';exact JE.of (EC h1 Mx bj bj bj hm) λρ st σ H m Q S R p=>MB h2 h2' ha hb hc S R p
theorem Fh{o':CmpOp}{op op':gU}(ho:jh X (aeq o) op)(ho':jh X (aeq o') op')(ha:JE X a ga)(hb:JE X b gb)(hc:JE X c gc)
  (hm:lastMarks [o,o'] [b,c]=false:=by with_unfolding_all rfl):JT X (.Compare a [o,o'] [b,c] pos) (bu (rT op op' ga gb gc)):=by
 obtain⟨r,h1,h2⟩:=ho;obtain⟨r',Mx,h2'⟩:=ho';exact JT.of (ED h1 Mx bj bj bj hm) λρ st σ H m Q S R p=>MB h2 h2' ha hb hc S R (xB p)
def Bt(op:Wv->Hs->Re Wv)(ga:GE):GE:=λρ st=>(ga ρ st).bind op
def iP:Wv->Hs->Re Wv
 |.int i,st=> .ok (.int (-i)) st
 |_,_=> .bad
theorem OP(ha:JE X a ga):JE X (.UnaryOp .USub a pos) (Bt iP ga):=by
 refine JE.of (SD NZ bj) λρ st σ H m Q S R p=>?_;refine ha.go S R (aM.bind p) λx st1 v m1 H1 p1 e1 S1 rx=>?_;cases x with
 |int i=>unfold ah at rx;exact⟨i,rx,p1 _ m1 H1 e1 S1 (by unfold ah;rfl)⟩
 |_=>exact ab p1
def SW(X:Cx)(e:Expr):TT:=λσ H Q=>∀(wh:Sem aej)(pins:List (aed×Obj))(s:aei),Inv X pins σ H s->aew (model X.prog X.w) X.A (isTrue e X.env wh) (TP X pins σ Q) X.xe s
theorem MC:PW X e (SW X e):=λwh pins s _ _ _ I h=>h wh pins s I
def JW(X:Cx)(e:Expr)(g:GT):Prop:=∀(ρ:b7)(st:Hs)(σ:St)(H:Hp)(m:Mp)(Q:Bool->Hp->Prop),cb X.K m st H->aS X.K m H ρ σ->jk X σ m H (g ρ st) Q->SW X e σ H Q
theorem JW.of{g:GT}{t:TT}(h:PW X e t)(k:∀(ρ:b7)(st:Hs)(σ:St)(H:Hp)(m:Mp)(Q:Bool->Hp->Prop),cb X.K m st H->aS X.K m H ρ σ->jk X σ m H (g ρ st) Q->t σ H Q):JW X e g :=
 λρ st σ H m Q S R p wh pins s I=>h wh pins s σ H Q I (k ρ st σ H m Q S R p)
theorem JW.jt{g:GT}(h:JW X e g):JT X e g:=λρ st σ H m Q S R p pins s I=>h ρ st σ H m Q S R p _ pins s I
def Fi(ga gb:GT):GT:=λρ st=>(ga ρ st).bind λb st1=>if b=true then gb ρ st1 else .ok false st1
def Eg(ga gb:GT):GT:=λρ st=>(ga ρ st).bind λb st1=>if b=true then .ok true st1 else gb ρ st1
def zI(ga:GT):GT:=λρ st=>(ga ρ st).bind λb st1=> .ok (!b) st1
theorem J_{ga:GT}(ha:JT X a ga):JW X (.BoolOp .And [a] pos) ga:=JW.of (Js rS) λρ st σ H m Q S R p=>ha ρ st σ H m Q S R p
theorem OQ{ga:GT}(ha:JT X a ga):JW X (.BoolOp .Or [a] pos) ga:=JW.of (NG rS) λρ st σ H m Q S R p=>ha ρ st σ H m Q S R p
theorem OR{ga gb:GT}(ha:JT X a ga)(hb:JW X (.BoolOp .And (b::rest) pos) gb):JW X (.BoolOp .And (a::b::rest) pos) (Fi ga gb):=by
 refine JW.of (NH rS MC) λρ st σ H m Q S R p=>?_;refine ha.go S R (aM.bind p) λc st1 m1 H1 p1 e1 S1=>?_;cases c with
 |true=>rw[if_pos rfl]at p1 ⊢;exact hb ρ st1 σ H1 m1 Q S1 (R.mono e1) (jk.shift p1 e1)
 |false=>rw[if_neg aH]at p1 ⊢;exact p1 m1 H1 e1 S1
theorem Tr{ga gb:GT}(ha:JT X a ga)(hb:JW X (.BoolOp .Or (b::rest) pos) gb):JW X (.BoolOp .Or (a::b::rest) pos) (Eg ga gb):=by
 refine JW.of (Sl rS MC) λρ st σ H m Q S R p=>?_;refine ha.go S R (aM.bind p) λc st1 m1 H1 p1 e1 S1=>?_;cases c with
 |true=>rw[if_pos rfl]at p1 ⊢;exact p1 m1 H1 e1 S1
 |false=>rw[if_neg aH]at p1 ⊢;exact hb ρ st1 σ H1 m1 Q S1 (R.mono e1) (jk.shift p1 e1)
theorem OS{ga:GT}(ha:JT X a ga):JT X (.UnaryOp .Not a pos) (zI ga):=by refine JT.of (NI rS) λρ st σ H m Q S R p=>?_;exact ha.go S R (aM.bind p) λc st1 m1 H1 p1 e1 S1=>p1 m1 H1 e1 S1
def uB(ga gb:GE):GE:=λρ st=>(ga ρ st).bind λw st1=>match w with
 |.bl true=>gb ρ st1
 |.bl false=> .ok (.bl false) st1
 |_=> .bad
theorem OT{op}(ha:JE X a ga):JE X (.BoolOp op [a] pos) ga:=JE.of (NJ bj) λρ st σ H m Q S R p=>ha ρ st σ H m Q S R p
theorem OU(ha:JE X a ga)(hb:JE X (.BoolOp .And (b::rest) pos) gb):JE X (.BoolOp .And (a::b::rest) pos) (uB ga gb):=by
 refine JE.of (NL bj bj) λρ st σ H m Q S R p=>?_;refine ha.go S R (aM.bind p) λx st1 v m1 H1 p1 e1 S1 rx=>?_;cases x with
 |bl c=>
  unfold ah at rx;refine⟨c,rx,?_⟩;cases c with
  |true=>rw[if_pos rfl];exact hb ρ st1 σ H1 m1 Q S1 (R.mono e1) (fZ.shift p1 e1)
  |false=>rw[if_neg aH];exact p1 _ m1 H1 e1 S1 (by unfold ah;rfl)
 |_=>exact ab p1
def my(gt:GT)(ga gb:GE):GE:=λρ st=>(gt ρ st).bind λb st1=>if b=true then ga ρ st1 else gb ρ st1
theorem Ts(hc:JT X c gt)(ha:JE X a ga)(hb:JE X b gb):JE X (.IfExp c a b pos) (my gt ga gb):=by
 refine JE.of (Es rS bj bj) λρ st σ H m Q S R p=>?_;refine hc.go S R (aM.bind p) λk st1 m1 H1 p1 e1 S1=>?_;cases k with
 |true=>rw[if_pos rfl]at p1 ⊢;exact ha ρ st1 σ H1 m1 Q S1 (R.mono e1) (fZ.shift p1 e1)
 |false=>rw[if_neg aH]at p1 ⊢;exact hb ρ st1 σ H1 m1 Q S1 (R.mono e1) (fZ.shift p1 e1)
def aj:GA:=λ_ st=> .ok [] st
def aa(ga:GE)(gr:GA):GA:=λρ st=>(ga ρ st).bind λx st1=>(gr ρ st1).bind λxs st2=> .ok (x::xs) st2
theorem Fj:JA X [] aj:=JA.of N5 λρ st σ H m Q S R p=>p [] m H Ext.refl S aq.nil
theorem Bu{gr:GA}(ha:JE X e ga)(hr:JA X es gr)(hs:aev (e::es) X.env=(false,eval e X.env)::aev es X.env:=by rfl):JA X (e::es) (aa ga gr):=by refine JA.of (JG bj kC hs) λρ st σ H m Q S R p=>?_;refine ha.go S R (aM.bind p) λx st1 v m1 H1 p1 e1 S1 rx=>?_;refine hr.go S1 (R.mono e1) ((aM.bind p1).imp e1 λ_ _ q=>q) λxs st2 vs m2 H2 p2 e2 S2 rs=>?_;exact p2 (v::vs) m2 H2 (e1.trans e2) S2 (aq.cons (ah.mono e2 _ _ rx) rs)
def cT(g:GA):GE:=λρ st=>(g ρ st).bind λws st1=>if ws.length<=lim then .ok (.tup ws) st1 else .bad
def f9(g:GA):GE:=λρ st=>(g ρ st).bind λws st1=>if ws.length<=lim then .ok (.ref st1.length) (st1++[.lst ws])else .bad
theorem OV{x1 pos}(h:JA X es g):JE X (.Tuple es x1 pos) (cT g):=by
 refine JE.of (N6 kC) λρ st σ H m Q S R p=>?_;refine h.go S R (aM.bind p) λws st1 vs m1 H1 p1 e1 S1 rs=>?_;by_cases hl:ws.length<=lim
 ·rw[if_pos hl]at p1;refine⟨by rw[<-rs.length];exact fF hl,λq hq=>?_⟩;have e2:Ext X.K m1 H1 m1 (upd H1 q (.tup vs)):=Ext.upd (.inl hq);exact p1 (.ref q) m1 _ (e1.trans e2) (S1.fresh hq) (by unfold ah;exact⟨q,vs,rfl,bE,aq.mono e2 _ _ rs⟩)
 ·rw[if_neg hl]at p1;exact ab p1
theorem cb.newest(S:cb K m st H)(q:aed)(H':Hp):ah K (m++[q]) H' (.ref st.length) (.ref q):=by unfold ah;refine⟨q,rfl,?_⟩;rw[<-S.len,kP (aE _),nK];rfl
theorem jl(p1:To X.K m H Q (.ref st1.length) (st1++[.lst ws]))(e1:Ext X.K m H m1 H1)(S1:cb X.K m1 st1 H1)(rs:aq X.K m1 H1 ws vs)(q:aed)(hq:H1 q=none):
  Q (.ref q) (upd H1 q (.lst vs)) :=
 p1 (.ref q) (m1++[q]) _ (e1.trans (Ext.more.trans (Ext.upd (.inl hq)))) (S1.alloc hq rs) (S1.newest q _)
theorem OW{pos}(h:JA X es g):JE X (.List es pos) (f9 g):=by
 refine JE.of (N7 kC) λρ st σ H m Q S R p=>?_;refine h.go S R (aM.bind p) λws st1 vs m1 H1 p1 e1 S1 rs=>?_;by_cases hl:ws.length<=lim
 ·rw[if_pos hl]at p1;exact⟨by rw[<-rs.length];exact fF hl,λq hq=>jl p1 e1 S1 rs q hq⟩
 ·rw[if_neg hl]at p1;exact ab p1
end
variable{x:PySem.Str}
section
variable {X:Cx}
theorem fh.or{f:aej->aej->Sem aej}{r':R2}(h:fh X f r)(h':fh X f r'):fh X f (λx y H Q=>r x y H Q\/r' x y H Q):=by
 intro pins s σ H x y v u Q I rx ry q;rcases q with q |q
 ·exact h pins s σ H x y v u Q I rx ry q
 ·exact h' pins s σ H x y v u Q I rx ry q
theorem Fl:fh X (aem .FloorDiv) (rI (λ_ j=>j≠0/\j.natAbs.log2 < 9000) λi j=> .int (i.fdiv j)):=VQ λi j _ _ _ _ _ hc q=>floordiv_int hc.1 q (.inl (PyProof.noPylong_of_log2 hc.2))
theorem Ka:fh X (aem .Mod) (rI (λ_ j=>j≠0) λi j=> .int (i.fmod j)):=VQ λi j _ _ _ _ _ hc q=>mod_int' hc q
theorem Kb:fh X (aem .Mult) (rI (λi j=>IntMulOk i j) λi j=> .int (i * j)):=VQ λ_ _ _ _ _ _ _ hc q=>mul_int q hc
instance XE{a b:Int}:Decidable (IntMulOk a b):=by unfold IntMulOk;infer_instance
def kY:gU
 |.int i,.int j,st=> .ok (.int (i - j)) st
 |_,_,_=> .bad
def fH:gU
 |.int i,.int j,st=>if j≠0/\j.natAbs.log2 < 9000 then .ok (.int (i.fdiv j)) st else .bad
 |_,_,_=> .bad
def oMod:gU
 |.int i,.int j,st=>if j≠0 then .ok (.int (i.fmod j)) st else .bad
 |_,_,_=> .bad
def jM:gU
 |.int i,.int j,st=>if 0<=j/\j<=1000000/\i.natAbs < 2 ^ 64 then .ok (.int (i ^ j.toNat)) st else .bad
 |_,_,_=> .bad
def Tt:gU
 |.int i,.int j,st=> .ok (.bl (decide (i < j))) st
 |.str i,.str j,st=> .ok (.bl (decide (i.cps.toList < j.cps.toList))) st
 |_,_,_=> .bad
def Tu:gU
 |.int i,.int j,st=> .ok (.bl (decide (i<=j))) st
 |_,_,_=> .bad
def Tv:gU
 |.int i,.int j,st=> .ok (.bl (decide (j < i))) st
 |_,_,_=> .bad
def oGe:gU
 |.int i,.int j,st=> .ok (.bl (decide (j<=i))) st
 |_,_,_=> .bad
theorem a8{a:V}(h:ah X.K m H (.int i) a):a= .int i:=by unfold ah at h;exact h
theorem fO{a:V}(h:ah X.K m H (.str x) a):a= .str x/\aY x=true:=by unfold ah at h;exact h
theorem mkInt:ah X.K m H (.int i) (.int i):=by unfold ah;rfl
theorem jN{i:Bool}:ah X.K m H (.bl i) (.bl i):=by unfold ah;rfl
theorem Bv:ah X.K m H .non .non:=by unfold ah;rfl
theorem mkStr(h:aY x=true):ah X.K m H (.str x) (.str x):=by unfold ah;exact⟨rfl,h⟩
theorem OX:jh X (aem .Sub) kY:=⟨_,NX,λx y a b st H m Q S rx ry p=>by
 cases x with
 |int i=>
  cases y with
  |int j=>exact⟨i,j,a8 rx,a8 ry,p _ m H Ext.refl S mkInt⟩
  |_=>exact ab p
 |_=>cases y<;>exact ab p⟩
theorem Kc:jh X (aem .FloorDiv) fH:=⟨_,Fl,λx y a b st H m Q S rx ry p=>by
 cases x with
 |int i=>
  cases y with
  |int j=>
   dsimp only[fH]at p;by_cases c:j≠0/\j.natAbs.log2 < 9000
   ·rw[if_pos c]at p;exact⟨i,j,a8 rx,a8 ry,c,p _ m H Ext.refl S mkInt⟩
   ·rw[if_neg c]at p;exact ab p
  |_=>exact ab p
 |_=>cases y<;>exact ab p⟩
theorem OY:jh X (aem .Mod) oMod:=⟨_,Ka,λx y a b st H m Q S rx ry p=>by
 cases x with
 |int i=>
  cases y with
  |int j=>
   dsimp only[oMod]at p;by_cases c:j≠0
   ·rw[if_pos c]at p;exact⟨i,j,a8 rx,a8 ry,c,p _ m H Ext.refl S mkInt⟩
   ·rw[if_neg c]at p;exact ab p
  |_=>exact ab p
 |_=>cases y<;>exact ab p⟩
theorem OZ:jh X (aem .Pow) jM:=⟨_,NY,λx y a b st H m Q S rx ry p=>by
 cases x with
 |int i=>
  cases y with
  |int j=>
   dsimp only[jM]at p;by_cases c:0<=j/\j<=1000000/\i.natAbs < 2 ^ 64
   ·rw[if_pos c]at p;exact⟨i,j,a8 rx,a8 ry,c,p _ m H Ext.refl S mkInt⟩
   ·rw[if_neg c]at p;exact ab p
  |_=>exact ab p
 |_=>cases y<;>exact ab p⟩
theorem Tw:jh X (aeq .Lt) Tt:=⟨_,fh.or SG CQ,λx y a b st H m Q S rx ry p=>by
 cases x with
 |int i=>
  cases y with
  |int j=>exact .inl ⟨i,j,a8 rx,a8 ry,p _ m H Ext.refl S jN⟩
  |_=>exact ab p
 |str i=>
  cases y with
  |str j=>exact .inr ⟨i,j,(fO rx).1,(fO ry).1,p _ m H Ext.refl S jN⟩
  |_=>exact ab p
 |_=>cases y<;>exact ab p⟩
theorem Tz:jh X (aeq .LtE) Tu:=⟨_,SH,λx y a b st H m Q S rx ry p=>by
 cases x with
 |int i=>
  cases y with
  |int j=>exact⟨i,j,a8 rx,a8 ry,p _ m H Ext.refl S jN⟩
  |_=>exact ab p
 |_=>cases y<;>exact ab p⟩
theorem TC:jh X (aeq .Gt) Tv:=⟨_,SI,λx y a b st H m Q S rx ry p=>by
 cases x with
 |int i=>
  cases y with
  |int j=>exact⟨i,j,a8 rx,a8 ry,p _ m H Ext.refl S jN⟩
  |_=>exact ab p
 |_=>cases y<;>exact ab p⟩
def Ke:gU
 |x,.non,st=> .ok (.bl (match x with |.non=>true |_=>false)) st
 |_,_,_=> .bad
def rV:gU
 |x,.non,st=> .ok (.bl (match x with |.non=>false |_=>true)) st
 |_,_,_=> .bad
theorem MD{x:Wv}{a:V}(h:ah X.K m H x a):decide (a=V.non)=(match x with |.non=>true |_=>false):=by
 cases x with
 |non=>unfold ah at h;subst h;rfl
 |bl b=>unfold ah at h;subst h;rfl
 |int b=>unfold ah at h;subst h;rfl
 |str b=>unfold ah at h;obtain⟨h,_⟩:=h;subst h;rfl
 |tup b=>unfold ah at h;obtain⟨q,xs,h,_⟩:=h;subst h;rfl
 |rN b=>unfold ah at h;obtain⟨q,xs,h,_⟩:=h;subst h;rfl
 |ref b=>unfold ah at h;obtain⟨q,h,_⟩:=h;subst h;rfl
 |ty b=>unfold ah at h;subst h;rfl
 |cls b=>unfold ah at h;obtain⟨q,h,_⟩:=h;subst h;rfl
 |Bq b=>unfold ah at h;obtain⟨q,C,h,_⟩:=h;subst h;rfl
 |fn fp b=>unfold ah at h;obtain⟨h,_⟩:=h;subst h;rfl
theorem TF:jh X (aeq .Is) Ke:=⟨_,N1,λx y a b st H m Q S rx ry p=>by
 cases y with
 |non=>refine⟨by unfold ah at ry;exact ry,?_⟩;rw[MD rx];cases x<;>exact p _ m H Ext.refl S jN
 |_=>cases x<;>exact ab p⟩
theorem Fn:jh X (aeq .IsNot) rV:=⟨_,Jz,λx y a b st H m Q S rx ry p=>by
 cases y with
 |non=>refine⟨by unfold ah at ry;exact ry,?_⟩;rw[MD rx];cases x<;>exact p _ m H Ext.refl S jN
 |_=>cases x<;>exact ab p⟩
theorem vN{a b:PySem.Str}(ha:aY a=true)(hb:aY b=true):aY (a++b)=true:=by unfold aY at *;show((a.cps++b.cps).all _)=true;rw[Array.all_append,ha,hb];rfl
def TH(K:PySem.W.Frag):R2:=λx y H Q=>∃l b xs zs,x= .ref l/\y= .ref b/\mO K H l xs/\mO K H b zs/\xs.length+zs.length<=aeu/\∀p,H p=none->Q (.ref p) (upd H p (.lst (xs++zs)))
theorem Kf:fh X (aem .Add) (TH X.K):=by
 intro pins s σ H x y v u Q I rx ry h;obtain⟨l,b,xs,zs,rfl,rfl,hH,hB,hz,q⟩:=h;cases rx;cases ry;obtain⟨its,r,pl,hs⟩:=I.list hH;obtain⟨its2,r2,pl2,hs2⟩:=I.list hB;have hl:=r.length;have hl2:=r2.length;obtain⟨⟨cls,dd,data,sl⟩,ho,hc,n,hd⟩:=id pl.isList;obtain⟨⟨SU,dd2,data2,sl2⟩,ho2,hc2,n2,hd2⟩:=id pl2.isList;simp only at hc hd hc2 hd2;subst hc hd hc2 hd2;have e:its.toArray++its2.toArray=(its++its2).toArray:=by simp
 refine PySem.concat_meets ⟨_,ho,rfl⟩ ⟨_,ho2,rfl⟩ PySem.noFill_list_add PySem.seq_list_add PySem.F.slot_list_add PySem.F.entry_list_add (PySem.F.args_list_add_2 _ _) (list_addW l b its.toArray its2.toArray n n2 dd dd2 sl sl2 (by simp;omega)) ⟨ho,ho2,?_⟩;rw[e];exact⟨.ref _,_,I.Oq (t':=s.toks) (r.append r2) (by rw[dA];omega),rfl,q _ I.fresh⟩
def TJ(K:PySem.W.Frag):R2:=λx y H Q=>∃a b ys,x= .ref a/\y= .ref b/\fM K H a []/\fM K H b ys/\Q (.ref b) H
theorem Kg:fh X (aem .Add) (TJ X.K):=by intro pins s σ H x y v u Q I rx ry h;obtain⟨a,b,ys,rfl,rfl,ha,hb,q⟩:=h;cases rx;cases ry;obtain⟨its,r1,p1,_⟩:=I.tuple ha;obtain⟨its2,r2,p2,_⟩:=I.tuple hb;cases r1;obtain⟨⟨c1,d1,t1,l1⟩,g1,k1,n1,j1⟩:=id p1;obtain⟨⟨c2,d2,t2,l2⟩,g2,k2,n2,j2⟩:=id p2;simp only at k1 j1 k2 j2;subst k1 j1 k2 j2;exact PySem.concat_meets ⟨_,g1,rfl⟩ ⟨_,g2,rfl⟩ PySem.noFill_tuple_add PySem.seq_tuple_add PySem.F.slot_tuple_add PySem.F.entry_tuple_add (PySem.F.args_tuple_add_2 _ _) (tuple_addW0 a b #[] its2.toArray n1 n2 d1 d2 l1 l2 (by simp)) ⟨g1,g2,⟨.ref b,H,I,rfl,q⟩⟩
def de:gU
 |.int i,.int j,st=> .ok (.int (i+j)) st
 |.str i,.str j,st=>if i.length+j.length<=lim then .ok (.str (i++j)) st else .bad
 |.tup i,.tup j,st=>if i.length+j.length<=lim then .ok (.tup (i++j)) st else .bad
 |.ref l,.ref k,st=>match aG st l,aG st k with
  |some i,some j=>if i.length+j.length<=lim then .ok (.ref st.length) (st++[.lst (i++j)])else .bad
  |_,_=> .bad
 |_,_,_=> .bad
instance {α:Type}{xs:List α}:Decidable (xs≠[]):=match xs with
 |[]=>isFalse (λh=>h rfl)
 |_::_=>isTrue (λh=>by cases h)
theorem O0:jh X (aem .Add) de:=⟨_,fh.or NW (fh.or zj (fh.or JR (fh.or Kf Kg))),λx y a b st H m Q S rx ry p=>by
 cases x with
 |int i=>
  cases y with
  |int j=>exact .inl ⟨i,j,a8 rx,a8 ry,p _ m H Ext.refl S mkInt⟩
  |_=>exact ab p
 |str i=>
  cases y with
  |str j=>
   dsimp only[de]at p;by_cases c:i.length+j.length<=lim
   ·rw[if_pos c]at p;exact .inr (.inl ⟨i,j,(fO rx).1,(fO ry).1,fF c,p _ m H Ext.refl S (mkStr (vN (fO rx).2 (fO ry).2))⟩)
   ·rw[if_neg c]at p;exact ab p
  |_=>exact ab p
 |tup i=>
  cases y with
  |tup j=>
   dsimp only[de]at p;by_cases c:i.length+j.length<=lim
   ·rw[if_pos c]at p;by_cases c0:i=[]
    ·subst c0;unfold ah at rx ry;obtain⟨a1,xs,rfl,h1,h2⟩:=rx;obtain⟨a2,ys,rfl,h3,h4⟩:=ry;have l1:xs=[]:=zJ h2.length.symm;subst l1;exact .inr (.inr (.inr (.inr ⟨a1,a2,ys,rfl,rfl,fM.of h1,fM.of h3,p (.ref a2) m H Ext.refl S (by rw[lX];unfold ah;exact⟨a2,ys,rfl,h3,h4⟩)⟩)))
    unfold ah at rx ry;obtain⟨a1,xs,rfl,h1,h2⟩:=rx;obtain⟨a2,ys,rfl,h3,h4⟩:=ry;have l1:=h2.length;have l2:=h4.length;have n1:xs≠[]:=λz=>by rw[z]at l1;exact c0 (zJ l1)
    refine .inr (.inr (.inl ⟨a1,a2,xs,ys,rfl,rfl,fM.of h1,fM.of h3,n1,by rw[<-l1,<-l2];exact fF c,λz=>?_,λ_ q hq=>?_⟩))
    ·rw[z]at l2;rw[zJ l2,i6]at p;exact p (.ref a1) m H Ext.refl S (by unfold ah;exact⟨a1,xs,rfl,h1,h2⟩)
    have e2:Ext X.K m H m (upd H q (.tup (xs++ys))):=Ext.upd (.inl hq);exact p (.ref q) m _ e2 (S.fresh hq) (by unfold ah;exact⟨q,xs++ys,rfl,bE,aq.mono e2 _ _ (h2.append h4)⟩)
   ·rw[if_neg c]at p;exact ab p
  |_=>exact ab p
 |ref l=>
  cases y with
  |ref k=>
   dsimp only[de]at p;unfold ah at rx ry;obtain⟨a1,rfl,h1⟩:=rx;obtain⟨a2,rfl,h2⟩:=ry;cases e1:aG st l with
   |none=>rw[e1]at p;exact ab p
   |some i=>
    cases e2:aG st k with
    |none=>rw[e1,e2]at p;exact ab p
    |some j=>
     rw[e1,e2]at p;by_cases c:i.length+j.length<=lim
     ·simp only[if_pos c]at p;obtain⟨xs,q1,q2⟩:=S.read h1 e1;obtain⟨ys,q3,q4⟩:=S.read h2 e2;exact .inr (.inr (.inr (.inl ⟨a1,a2,xs,ys,rfl,rfl,q1,q3,by rw[<-q2.length,<-q4.length];exact fF c,λq hq=>jl p Ext.refl S (q2.append q4) q hq⟩)))
     ·simp only[if_neg c]at p;exact ab p
  |_=>exact ab p
 |_=>cases y<;>exact ab p⟩
def tS(n:Nat)(x:PySem.Str):PySem.Str:=⟨(aU n x.cps).foldl (· ++·) #[]⟩
end
open PySem PySem.Spec PySem.SeqAt PyProof.Rows L2
def fP{α β:Type}(f:α->Option β):List α->Option (List β)
 |[]=>some []
 |w::ws=>match f w,fP f ws with
  |some d,some ds=>some (d::ds)
  |_,_=>none
def a_(st:Hs):Nat->Wv->Option PyData
 | 0,w=>match w with
  |.non=>some .none
  |.bl b=>some (.bool b)
  |.int i=>some (.int i)
  |.str x=>some (.str x)
  |_=>none
 |n+1,w=>match w with
  |.non=>some .none
  |.bl b=>some (.bool b)
  |.int i=>some (.int i)
  |.str x=>some (.str x)
  |.tup ws=>(fP (a_ st n) ws).map .tuple
  |.rN ws=>(fP (a_ st n) ws).map .tuple
  |.ref l=>match aG st l with
   |some ws=>(fP (a_ st n) ws).map .list
   |none=>none
  |.ty _=>none
  |.cls _=>none
  |.Bq _=>none
  |.fn _ _=>none
section
variable {X:Cx}{pins:List (aed×Obj)}{σ:St}{H:Hp}{s:aei}{m:Mp}{st:Hs}
def ME(h:Heap)(n:Nat)(u:aej)(d:PyData):Prop:=∃as,Reads h u d as/\d.canLay0=true/\d.depth<=n
theorem lZ{n:Nat}(ih:∀(w:Wv)(a:V)(u:aej)(d:PyData),ah X.K m H w a->RelV a u->a_ st n w=some d->ME s.heap n u d):
  ∀(ws:List Wv)(xs:List V)(us:List aej)(ds:List PyData),aq X.K m H ws xs->Vals xs us->fP (a_ st n) ws=some ds->∃as,ReadsAll s.heap us ds as/\qC ds=true/\jD ds<=n
 |[],xs,us,ds,h,r,e=>by unfold aq at h;subst h;cases r;cases e;exact⟨[],.nil,rfl,cO _⟩
 |w::ws,xs,us,ds,h,r,e=>by
  unfold aq at h;obtain⟨x,xr,rfl,h1,h2⟩:=h;cases r with
  |cons r1 r2=>
   unfold fP at e;cases e1:a_ st n w with
   |none=>rw[e1]at e;cases e
   |some d=>
    cases e2:fP (a_ st n) ws with
    |none=>rw[e1,e2]at e;cases e
    |some dr=>
     rw[e1,e2]at e;cases e;obtain⟨as,q1,q2,q3⟩:=ih w x _ d h1 r1 e1;obtain⟨bs,p1,p2,p3⟩:=lZ ih ws xr _ dr h2 r2 e2;refine⟨as++bs,.cons q1 p1,?_,?_⟩
     ·show(PyData.canLay0 d&&qC dr)=true;rw[q2,p2];rfl
     ·show max d.depth (jD dr)<=n;omega
theorem eX(I:Inv X pins σ H s)(S:cb X.K m st H):∀(n:Nat)(w:Wv)(a:V)(u:aej)(d:PyData),ah X.K m H w a->RelV a u->a_ st n w=some d->ME s.heap n u d:=by
 intro n
 induction n with
 |zero=>
  intro w a u d h r e;cases w with
  |non=>unfold ah at h;subst h;cases r;cases e;exact⟨[],.none,rfl,aE _⟩
  |bl b=>unfold ah at h;subst h;cases r;cases e;exact⟨[],.bool b,rfl,aE _⟩
  |int i=>unfold ah at h;subst h;obtain⟨t,rfl⟩:=r;cases e;exact⟨[],.int i t,rfl,aE _⟩
  |str x=>unfold ah at h;obtain⟨rfl,hx⟩:=h;obtain⟨t,rfl⟩:=r;cases e;exact⟨[],.str x t,hx,aE _⟩
  |tup ws=>cases e
  |rN ws=>cases e
  |ref l=>cases e
  |ty t=>cases e
  |cls t=>cases e
  |Bq t=>cases e
  |fn fp t=>cases e
 |succ n ih=>
  intro w a u d h r e;cases w with
  |non=>unfold ah at h;subst h;cases r;cases e;exact⟨[],.none,rfl,cO _⟩
  |bl b=>unfold ah at h;subst h;cases r;cases e;exact⟨[],.bool b,rfl,cO _⟩
  |int i=>unfold ah at h;subst h;obtain⟨t,rfl⟩:=r;cases e;exact⟨[],.int i t,rfl,cO _⟩
  |str x=>unfold ah at h;obtain⟨rfl,hx⟩:=h;obtain⟨t,rfl⟩:=r;cases e;exact⟨[],.str x t,hx,cO _⟩
  |ty t=>cases e
  |cls t=>cases e
  |Bq t=>cases e
  |fn fp t=>cases e
  |tup ws=>
   unfold ah at h;obtain⟨p,xs,rfl,h1,h2⟩:=h;cases r;have e':(fP (a_ st n) ws).map l5=some d:=e;cases e2:fP (a_ st n) ws with
   |none=>rw[e2]at e';cases e'
   |some ds=>rw[e2]at e';cases e';obtain⟨its,rv,ht,hz⟩:=I.tuple (fM.of h1);obtain⟨as,q1,q2,q3⟩:=lZ ih ws xs its ds h2 rv e2;obtain⟨o,ho,hc,k,hd⟩:=ht;exact⟨as,.tuple ho hc hd (by simpa using q1),q2,qD q3⟩
  |rN ws=>
   unfold ah at h;obtain⟨p,xs,rfl,h1,h2⟩:=h;cases r;have e':(fP (a_ st n) ws).map l5=some d:=e;cases e2:fP (a_ st n) ws with
   |none=>rw[e2]at e';cases e'
   |some ds=>rw[e2]at e';cases e';obtain⟨its,rv,ht,hz⟩:=I.tuple (.inr h1);obtain⟨as,q1,q2,q3⟩:=lZ ih ws xs its ds h2 rv e2;obtain⟨o,ho,hc,k,hd⟩:=ht;exact⟨as,.tuple ho hc hd (by simpa using q1),q2,qD q3⟩
  |ref l=>
   unfold ah at h;obtain⟨p,rfl,h1⟩:=h;cases r;have e':(match aG st l with |some ws=>(fP (a_ st n) ws).map Bw |none=>none)=some d:=e
   cases e1:aG st l with
   |none=>rw[e1]at e';cases e'
   |some ws=>
    rw[e1]at e';have e'':(fP (a_ st n) ws).map Bw=some d:=e';cases e2:fP (a_ st n) ws with
    |none=>rw[e2]at e'';cases e''
    |some ds=>rw[e2]at e'';cases e'';obtain⟨xs,hq,h2⟩:=S.read h1 e1;obtain⟨its,rv,ht,hz⟩:=I.list hq;obtain⟨as,q1,q2,q3⟩:=lZ ih ws xs its ds h2 rv e2;obtain⟨o,ho,hc,k,hd⟩:=ht.isList;exact⟨_,.list ho hc hd (by simpa using q1),q2,qD q3⟩
end
def oEq:gU:=λx y st=>match a_ st 20 x,a_ st 20 y with
 |some a,some b=> .ok (.bl (aT a b)) st
 |_,_=> .bad
def xC:gU:=λx y st=>match a_ st 20 x,a_ st 20 y with
 |some a,some b=> .ok (.bl (!PyData.eqv a b)) st
 |_,_=> .bad
variable{x w:Wv}{g:GE}{xs:List V}
section
variable {X:Cx}
def TK(K:PySem.W.Frag)(neg:Bool):R2:=λa b H Q=>∃m st x y da db,cb K m st H/\ah K m H x a/\ah K m H y b/\a_ st 20 x=some da/\a_ st 20 y=some db/\Q (.bl (if neg then !PyData.eqv da db else aT da db)) H
theorem l6{d:PyData}(hn:n<=64)(h:d.canLay0=true)(k:d.depth<=n):shaped d=true:=by unfold shaped;rw[h,decide_eq_true (aV k hn)];rfl
theorem O1(hu:X.A.units+64 < cLine):fh X (aeq .Eq) (TK X.K false):=by intro pins s σ H a b v u Q I rx ry h;obtain⟨m,st,x,y,da,db,S,h1,h2,e1,e2,q⟩:=h;obtain⟨as,q1,q2,q3⟩:=eX I S 20 x a v da h1 rx e1;obtain⟨bs,p1,p2,p3⟩:=eX I S 20 y b u db h2 ry e2;exact eq_dataH q1 p1 (l6 (by decide) q2 q3) (l6 (by decide) p2 p3) hu ⟨.bl _,H,I,rfl,q⟩
theorem O2(hu:X.A.units+64 < cLine):fh X (aeq .NotEq) (TK X.K true):=by intro pins s σ H a b v u Q I rx ry h;obtain⟨m,st,x,y,da,db,S,h1,h2,e1,e2,q⟩:=h;obtain⟨as,q1,q2,q3⟩:=eX I S 20 x a v da h1 rx e1;obtain⟨bs,p1,p2,p3⟩:=eX I S 20 y b u db h2 ry e2;exact ne_dataH q1 p1 (l6 (by decide) q2 q3) (l6 (by decide) p2 p3) hu ⟨.bl _,H,I,rfl,q⟩
theorem MF(hu:X.A.units+64 < cLine):jh X (aeq .Eq) oEq:=⟨_,O1 hu,λx y a b st H m Q S rx ry p=>by
 unfold oEq at p;cases e1:a_ st 20 x with
 |none=>rw[e1]at p;exact ab p
 |some da=>
  cases e2:a_ st 20 y with
  |none=>rw[e1,e2]at p;exact ab p
  |some db=>rw[e1,e2]at p;exact⟨m,st,x,y,da,db,S,rx,ry,e1,e2,p _ m H Ext.refl S jN⟩⟩
theorem MG(hu:X.A.units+64 < cLine):jh X (aeq .NotEq) xC:=⟨_,O2 hu,λx y a b st H m Q S rx ry p=>by
 unfold xC at p;cases e1:a_ st 20 x with
 |none=>rw[e1]at p;exact ab p
 |some da=>
  cases e2:a_ st 20 y with
  |none=>rw[e1,e2]at p;exact ab p
  |some db=>rw[e1,e2]at p;exact⟨m,st,x,y,da,db,S,rx,ry,e1,e2,p _ m H Ext.refl S jN⟩⟩
def nL:Wv->Bool
 |.non=>true
 |.bl _=>true
 |.int _=>true
 |.str _=>true
 |_=>false
def XF:Wv->Wv->Bool
 |.non,.non=>true
 |.bl a,.bl b=>a == b
 |.bl a,.int b=>(if a then 1 else 0) == b
 |.int a,.bl b=>a == (if b then 1 else 0)
 |.int a,.int b=>a == b
 |.str a,.str b=>a == b
 |_,_=>false
def nM(st:Hs):Wv->Option (List Wv)
 |.tup ws=>some ws
 |.rN ws=>some ws
 |.ref l=>aG st l
 |_=>none
def XG:gU:=λx y st=>match nM st y with
 |some ws=>if nL x=true/\ws.all nL=true then .ok (.bl (ws.any λz=>XF z x)) st else .bad
 |none=> .bad
theorem xD{a:V}(h:ah X.K m H x a)(f:nL x=true):mH a=true:=by
 cases x with
 |non=>unfold ah at h;subst h;rfl
 |bl b=>unfold ah at h;subst h;rfl
 |int b=>unfold ah at h;subst h;rfl
 |str b=>unfold ah at h;obtain⟨h,_⟩:=h;subst h;rfl
 |_=>cases f
theorem Kh{y:Wv}{a b:V}(h:ah X.K m H x a)(k:ah X.K m H y b)(f:nL x=true)(g:nL y=true):JY a b=XF x y:=by
 cases x with
 |non=>
  unfold ah at h;subst h;cases y with
  |str j=>unfold ah at k;obtain⟨k,_⟩:=k;subst k;rfl
  |tup j=>cases g
  |rN j=>cases g
  |ref j=>cases g
  |ty j=>cases g
  |cls j=>cases g
  |Bq j=>cases g
  |fn fp j=>cases g
  |_=>unfold ah at k;subst k;rfl
 |bl i=>
  unfold ah at h;subst h;cases y with
  |str j=>unfold ah at k;obtain⟨k,_⟩:=k;subst k;rfl
  |tup j=>cases g
  |rN j=>cases g
  |ref j=>cases g
  |ty j=>cases g
  |cls j=>cases g
  |Bq j=>cases g
  |fn fp j=>cases g
  |_=>unfold ah at k;subst k;rfl
 |int i=>
  unfold ah at h;subst h;cases y with
  |str j=>unfold ah at k;obtain⟨k,_⟩:=k;subst k;rfl
  |tup j=>cases g
  |rN j=>cases g
  |ref j=>cases g
  |ty j=>cases g
  |cls j=>cases g
  |Bq j=>cases g
  |fn fp j=>cases g
  |_=>unfold ah at k;subst k;rfl
 |str i=>
  unfold ah at h;obtain⟨h,_⟩:=h;subst h;cases y with
  |str j=>unfold ah at k;obtain⟨k,_⟩:=k;subst k;rfl
  |tup j=>cases g
  |rN j=>cases g
  |ref j=>cases g
  |ty j=>cases g
  |cls j=>cases g
  |Bq j=>cases g
  |fn fp j=>cases g
  |_=>unfold ah at k;subst k;rfl
 |_=>cases f
theorem uC{m:Mp}{H:Hp}{x:Wv}{a:V}(h:ah X.K m H x a)(f:nL x=true):∀{ws:List Wv}{xs:List V},aq X.K m H ws xs->ws.all nL=true->xs.all mH=true/\VR a xs=ws.any λz=>XF z x
 |[],xs,r,_=>by unfold aq at r;subst r;exact⟨rfl,rfl⟩
 |w::ws,xs,r,g=>by
  unfold aq at r;obtain⟨y,yr,rfl,r1,r2⟩:=r;rw[dY,dI]at g;obtain⟨q1,q2⟩:=uC h f r2 g.2;constructor
  ·rw[dY,xD r1 g.1,q1];rfl
  ·unfold VR at q2 ⊢;rw[f7,f7,Kh r1 h g.1 f,q2]
theorem vO{y:Wv}{b:V}(S:cb X.K m st H)(h:ah X.K m H y b)(e:nM st y=some ws):∃p xs,b= .ref p/\(mO X.K H p xs\/fM X.K H p xs)/\aq X.K m H ws xs:=by
 cases y with
 |tup zs=>cases e;unfold ah at h;obtain⟨p,xs,e1,e2,e3⟩:=h;exact⟨p,xs,e1,.inr (fM.of e2),e3⟩
 |rN zs=>cases e;unfold ah at h;obtain⟨p,xs,e1,e2,e3⟩:=h;exact⟨p,xs,e1,.inr (.inr e2),e3⟩
 |ref l=>unfold ah at h;obtain⟨p,e1,e2⟩:=h;obtain⟨xs,q1,q2⟩:=S.read e2 e;exact⟨p,xs,e1,.inl q1,q2⟩
 |_=>cases e
theorem TL:jh X (aeq .In) XG:=⟨_,C3,λx y a b st H m Q S rx ry p=>by
 unfold XG at p;cases e:nM st y with
 |none=>rw[e]at p;exact ab p
 |some ws=>
  rw[e]at p;by_cases c:nL x=true/\ws.all nL=true
  ·simp only[if_pos c]at p;obtain⟨q,xs,e1,e2,e3⟩:=vO S ry e;obtain⟨f1,f2⟩:=uC rx c.1 e3 c.2;refine⟨q,xs,e1,e2,xD rx c.1,f1,?_⟩;rw[f2];exact p _ m H Ext.refl S jN
  ·simp only[if_neg c]at p;exact ab p⟩
def bq:gU
 |.str z,.int i,st=>if z.length<=lim then(match oJ z.cps.toList i with |some c=> .ok (.str ⟨#[c]⟩) st |none=> .bad)else .bad
 |x,.int i,st=>match nM st x with
  |some ws=>(match oJ ws i with |some w=> .ok w st |none=> .bad)
  |none=> .bad
 |_,_,_=> .bad
theorem Ki(r:aq X.K m H ws xs)(h:oJ ws i=some w):∃x,oJ xs i=some x/\ah X.K m H w x:=by
 unfold oJ at h ⊢;rw[<-r.length];cases e:C2 ws.length i with
 |none=>rw[e]at h;cases h
 |some j=>rw[e]at h;exact r.get h
theorem Kj{α:Type}{xs:List α}{v:α}(h:oJ xs i=some v):v∈xs:=by obtain⟨j,_,h2,_⟩:=qH h;exact vz h2
theorem C_{z:PySem.Str}{c:Nat}(h:aY z=true)(hc:c∈z.cps.toList):aY ⟨#[c]⟩=true:=by unfold aY at h ⊢;rw[MH]at h;have q:=h c (by simpa using hc);simpa using q
theorem TM(ha:JE X a ga)(hb:JE X b gb)(hs:Bi b:=by exact λ_ _=>rfl):JE X (.Subscript a b pos) (ao bq ga gb) :=
 JE.of (SY Oi bj bj hs) λρ st σ H m Q S R p=>Bs (op:=bq) (λx y a b st H m Q S rx ry p=>by
  have seqs:∀(i:Int),y= .int i->(match nM st x with |some ws=>(match oJ ws i with |some w=>Re.ok w st |none=> .bad) |none=> .bad)=bq x y st->Z' X.K a b H Q:=λi hy hp=>by
   subst hy;rw[<-hp]at p;cases e:nM st x with
   |none=>rw[e]at p;exact ab p
   |some ws=>
    rw[e]at p;dsimp only at p;cases e1:oJ ws i with
    |none=>rw[e1]at p;exact ab p
    |some w=>
     rw[e1]at p;obtain⟨q,xs,e2,e3,e4⟩:=vO S rx e;obtain⟨v,f1,f2⟩:=Ki e4 e1;rcases e3 with e3 |e3
     ·exact .inl ⟨q,xs,i,v,e2,a8 ry,e3,f1,p v m H Ext.refl S f2⟩
     ·exact .inr (.inl ⟨q,xs,i,v,e2,a8 ry,e3,f1,p v m H Ext.refl S f2⟩)
  cases y with
  |int i=>
   cases x with
   |str z=>
    dsimp only[bq]at p;by_cases c:z.length<=lim
    ·simp only[if_pos c]at p;cases e1:oJ z.cps.toList i with
     |none=>rw[e1]at p;exact ab p
     |some ch=>rw[e1]at p;exact .inr (.inr ⟨z,i,ch,(fO rx).1,a8 ry,fF c,e1,p _ m H Ext.refl S (mkStr (C_ (fO rx).2 (Kj e1)))⟩)
    ·simp only[if_neg c]at p;exact ab p
   |_=>exact seqs i rfl rfl
  |_=>cases x<;>exact ab p) ha hb S R p
abbrev GO:=b7->Hs->Re (Option Int)
def SO(X:Cx)(e:Option Expr):TO:=λσ H Q=>∀(pins:List (aed×Obj))(s:aei),Inv X pins σ H s->aew (model X.prog X.w) X.A (evalPart e X.env) (λu s'=>∃o H',Inv X pins σ H' s'/\IsPart u o/\Q o H') X.xe s
theorem uD{e:Option Expr}:PO X e (SO X e):=λpins s _ _ _ I h=>h pins s I
def okO(K:PySem.W.Frag)(m:Mp)(H:Hp)(Q:Option Int->Hp->Prop)(o:Option Int)(st:Hs):Prop:=∀(m':Mp)(H':Hp),Ext K m H m' H'->cb K m' st H'->Q o H'
def JO(X:Cx)(e:Option Expr)(g:GO):Prop:=∀(ρ:b7)(st:Hs)(σ:St)(H:Hp)(m:Mp)(Q:Option Int->Hp->Prop),cb X.K m st H->aS X.K m H ρ σ->aM X σ m H (g ρ st) (okO X.K m H Q)->SO X e σ H Q
def l9:GO:=λ_ st=> .ok none st
def pX(g:GE):GO:=λρ st=>(g ρ st).bind λw st1=>match w with
 |.int i=> .ok (some i) st1
 |_=> .bad
theorem Kk:JO X none l9:=λρ st σ H m Q S R p pins s I=>JP pins s σ H Q I (p m H Ext.refl S)
theorem Kl(h:JE X e g):JO X (some e) (pX g):=λρ st σ H m Q S R p pins s I=>
 JQ bj pins s σ H Q I (h.go S R (aM.bind p) λw st1 v m1 H1 p1 e1 S1 r1=>by
  cases w with
  |int i=>exact⟨i,a8 r1,p1 m1 H1 e1 S1⟩
  |_=>exact ab p1)
theorem JO.go{e:Option Expr}{g:GO}{T:Option Int->Hp->Prop}{ok:Option Int->Hs->Prop}(h:JO X e g)(S:cb X.K m st H)(R:aS X.K m H ρ σ)(p:aM X σ m H (g ρ st) ok)
  (k:∀(b:Option Int)(st1:Hs)(m1:Mp)(H1:Hp),ok b st1->Ext X.K m H m1 H1->cb X.K m1 st1 H1->T b H1):SO X e σ H T :=
 h ρ st σ H m T S R (p.imp Ext.refl λb st1 q m1 H1 e1 s1=>k b st1 m1 H1 q e1 s1)
def vP(xs:List Wv)(lo hi:Option Int):List Wv:=(xs.drop (HT.eR xs.length 0 lo)).take (HT.eR xs.length xs.length hi - HT.eR xs.length 0 lo)
def RS(x:Wv)(lo hi:Option Int)(st:Hs):Re Wv:=match x with
 |.tup ws=>if HT.eR ws.length 0 lo=0/\HT.eR ws.length ws.length hi=ws.length then .bad else .ok (.tup (vP ws lo hi)) st
 |.ref l=>match aG st l with
  |some ws=> .ok (.ref st.length) (st++[.lst (vP ws lo hi)])
  |none=> .bad
 |_=> .bad
theorem vQ{lo hi:Option Int}(r:aq X.K m H ws xs):aq X.K m H (vP ws lo hi) (tO xs lo hi):=by unfold vP tO;rw[<-r.length];exact(r.drop _).take _
def zK(ga:GE)(gl gh:GO):GE:=λρ st=>(ga ρ st).bind λx st1=>(gl ρ st1).bind λlo st2=>(gh ρ st2).bind λhi st3=>RS x lo hi st3
theorem xE{lo hi:Option Expr}{gl gh:GO}{p2:Pos}(ha:JE X a ga)(hl:JO X lo gl)(hh:JO X hi gh):JE X (.Subscript a (.Slice lo hi none p2) pos) (zK ga gl gh):=by
 refine JE.of (rC (ES.or JX) bj uD uD) λρ st σ H m Q S R p=>?_;refine ha.go S R (aM.bind p) λx st1 v m1 H1 p1 e1 S1 rx=>?_;refine hl.go S1 (R.mono e1) ((aM.bind p1).imp e1 λ_ _ q=>q) λl st2 m2 H2 p2 e2 S2=>?_;refine hh.go S2 (R.mono (e1.trans e2)) ((aM.bind p2).imp (e1.trans e2) λ_ _ q=>q) λh st3 m3 H3 p3 e3 S3=>?_;have xi:=e1.trans (e2.trans e3);have VW:=ah.mono (e2.trans e3) _ _ rx;cases x with
 |tup ws=>
  have mS:fZ X σ m H (if HT.eR ws.length 0 l=0/\HT.eR ws.length ws.length h=ws.length then .bad else .ok (.tup (vP ws l h)) st3) Q:=p3;by_cases c:HT.eR ws.length 0 l=0/\HT.eR ws.length ws.length h=ws.length
  ·rw[if_pos c]at mS;exact ab mS
  ·rw[if_neg c]at mS;unfold ah at VW;obtain⟨q,xs,rfl,f1,f2⟩:=VW;refine .inl ⟨q,xs,rfl,fM.of f1,by rw[<-f2.length];exact c,λr hr=>?_⟩;have e4:Ext X.K m3 H3 m3 (upd H3 r (.tup (tO xs l h))):=Ext.upd (.inl hr);exact mS (.ref r) m3 _ (xi.trans e4) (S3.fresh hr) (by unfold ah;exact⟨r,_,rfl,bE,aq.mono e4 _ _ (vQ f2)⟩)
 |ref k=>
  have mS:fZ X σ m H (match aG st3 k with |some ws=> .ok (.ref st3.length) (st3++[.lst (vP ws l h)]) |none=> .bad) Q:=p3
  unfold ah at VW;obtain⟨q,rfl,f1⟩:=VW;cases e:aG st3 k with
  |none=>rw[e]at mS;exact ab mS
  |some ws=>rw[e]at mS;obtain⟨xs,g1,g2⟩:=S3.read f1 e;exact .inr ⟨q,xs,rfl,g1,λr hr=>jl mS xi S3 (vQ g2) r hr⟩
 |_=>exact ab p3
end
variable{x:Str}{gb:GS}{op:List Wv->Hs->Re Wv}{id:String}{p pos':Pos}{s:Stmt}{gi ge:GE}
section
variable {X:Cx}
def cY(X:Cx)(f:aej)(op:List Wv->Hs->Re Wv):Prop:=∃r,dJ X f r/\∀(ws:List Wv)(vs:List V)(st:Hs)(H:Hp)(m:Mp)(Q:VK),cb X.K m st H->aq X.K m H ws vs->df X.K m H (op ws st) Q->r vs H Q
def ba(op:List Wv->Hs->Re Wv)(g:GA):GE:=λρ st=>(g ρ st).bind λws st1=>(op ws st1).pW
theorem Fo{g:GA}(hc:cY X (.builtin id) op)(hg:Gl X x)(hm:X.mg x=none)(hv:aen x=some (.builtin id))(ha:JA X (e::es) g)
  (hn:x≠"__name__":=by decide)(hdb:(x == ("__debug__":Str))=false:=by decide)(he:aev (e::es) X.env=(false,eval e X.env)::aev es X.env:=by rfl)(hpl:(backTo pos (aev es X.env)).any (·.1)=false:=by rfl):
  JE X (.Call (.Name x p) (e::es) [] pos) (ba op g):=by
 obtain⟨r,h1,h2⟩:=hc;refine JE.of (EM h1 hg hm hv kC hn hdb he hpl) λρ st σ H m Q S R p=>?_;exact ha.go S R (aM.bind p) λws st1 vs m1 H1 p1 e1 S1 rs=>h2 ws vs st1 H1 m1 Q S1 rs (df.shift (aM.pW p1) e1)
theorem uE{g:GA}(hc:cY X (.type T) op)(hg:Gl X x)(hm:X.mg x=none)(hv:aen x=some (.type T))(ha:JA X (e::es) g)
  (hn:x≠"__name__":=by decide)(hdb:(x == ("__debug__":Str))=false:=by decide)(he:aev (e::es) X.env=(false,eval e X.env)::aev es X.env:=by rfl)(hpl:(backTo pos (aev es X.env)).any (·.1)=false:=by rfl):
  JE X (.Call (.Name x p) (e::es) [] pos) (ba op g):=by
 obtain⟨r,h1,h2⟩:=hc;refine JE.of (C1 h1 hg hm hv kC hn hdb he hpl) λρ st σ H m Q S R p=>?_;exact ha.go S R (aM.bind p) λws st1 vs m1 H1 p1 e1 S1 rs=>h2 ws vs st1 H1 m1 Q S1 rs (df.shift (aM.pW p1) e1)
theorem kZ(r:aq X.K m H [w] vs):∃v,vs=[v]/\ah X.K m H w v:=by unfold aq at r;obtain⟨v,t,rfl,h1,h2⟩:=r;unfold aq at h2;subst h2;exact⟨v,rfl,h1⟩
theorem Fp{w':Wv}(r:aq X.K m H [w,w'] vs):∃v v',vs=[v,v']/\ah X.K m H w v/\ah X.K m H w' v':=by unfold aq at r;obtain⟨v,t,rfl,h1,h2⟩:=r;obtain⟨v',rfl,h3⟩:=kZ h2;exact⟨v,v',rfl,h1,h3⟩
def jO:List Wv->Hs->Re Wv
 |[.str z],st=>if z.length<=lim then .ok (.int z.length) st else .bad
 |[x],st=>match nM st x with
  |some ws=> .ok (.int ws.length) st
  |none=> .bad
 |_,_=> .bad
theorem Fq:cY X (.builtin "len") jO:=⟨_,vF.or vG,λws vs st H m Q S r p=>by
 match ws,r,p with
 |[],r,p=>exact ab p
 |x::y::t,r,p=>cases x<;>exact ab p
 |[x],r,p=>
  obtain⟨v,rfl,rx⟩:=kZ r;have seqs:(match nM st x with |some ws=>Re.ok (Wv.int ws.length) st |none=> .bad)=jO [x] st->(∃p ys,[v]=[V.ref p]/\(mO X.K H p ys\/fM X.K H p ys)/\Q (.int ys.length) H):=λhp=>by
   rw[<-hp]at p;cases e:nM st x with
   |none=>rw[e]at p;exact ab p
   |some ws=>rw[e]at p;obtain⟨q,xs,rfl,e2,e3⟩:=vO S rx e;refine⟨q,xs,rfl,e2,?_⟩;rw[<-e3.length];exact p _ m H Ext.refl S mkInt
  cases x with
  |str z=>
   have p':df X.K m H (if z.length<=lim then .ok (.int z.length) st else .bad) Q:=p;by_cases c:z.length<=lim
   ·rw[if_pos c]at p';obtain⟨rfl,_⟩:=fO rx;exact .inr ⟨z,rfl,fF c,p' _ m H Ext.refl S mkInt⟩
   ·rw[if_neg c]at p';exact ab p'
  |_=>exact .inl (seqs rfl)⟩
def Km:List Wv->Hs->Re Wv
 |[.int i],st=> .ok (.int (if i < 0 then -i else i)) st
 |_,_=> .bad
theorem O3:cY X (.builtin "abs") Km:=⟨_,EF,λws vs st H m Q S r p=>by
 match ws,r,p with
 |[],r,p=>exact ab p
 |x::y::t,r,p=>cases x<;>exact ab p
 |[x],r,p=>
  obtain⟨v,rfl,rx⟩:=kZ r;cases x with
  |int i=>cases a8 rx;exact⟨i,rfl,p _ m H Ext.refl S mkInt⟩
  |_=>exact ab p⟩
def VX(st:Hs)(T:String):Wv->Option Bool
 |.non=>some false
 |.bl _=>some (T == "bool"||T == "int")
 |.int _=>some (T == "int")
 |.str _=>some (T == "str")
 |.tup _=>some (T == "tuple")
 |.rN _=>none
 |.ref l=>(aG st l).map λ_=>T == "list"
 |.ty _=>none
 |.cls _=>none
 |.Bq _=>none
 |.fn _ _=>none
def Fs(T:String):Bool:=T == "int"||T == "str"||T == "bool"||T == "tuple"||T == "list"
def TN:List Wv->Hs->Re Wv
 |[x,.ty T],st=>if Fs T=true then(match VX st T x with |some b=> .ok (.bl b) st |none=> .bad)else .bad
 |_,_=> .bad
def XH(K:PySem.W.Frag):List V->Hp->VK->Prop:=λvs H Q=>∃m st x T v b,vs=[v,.ty T]/\cb K m st H/\ah K m H x v/\Fs T=true/\VX st T x=some b/\Q (.bl b) H
theorem Ft:dJ X (.builtin "isinstance") (XH X.K):=by
 intro pins s σ H xs us Q I r h;obtain⟨m,st,x,T,v,b,rfl,S,rx,hT,hb,q⟩:=h;obtain⟨u,u',rfl,r1,r2⟩:=vals2 r;cases r2;have fin:∀tk,EP X pins σ Q (.bool b) { s with toks:=tk }:=λtk=>⟨.bl b,H,I.tok tk,rfl,q⟩;have Fv:EP X pins σ Q (.bool b) s:=⟨.bl b,H,I,rfl,q⟩;unfold Fs at hT;simp only[Fw,beq_iff_eq]at hT;cases x with
 |non=>
  unfold ah at rx;subst rx;cases r1;cases hb;rcases hT with (((rfl |rfl) |rfl) |rfl) |rfl<;>
   exact call_isinstance (isinstance_false_none (by decide) (by kernel_rfl) (by rw[aes];kernel_rfl)) (fin _)
 |bl c=>
  unfold ah at rx;subst rx;cases r1;rcases hT with (((rfl |rfl) |rfl) |rfl) |rfl<;>cases hb<;>first
   |exact call_isinstance_yes (Tx:="bool") rfl (by kernel_rfl) (by rw[aes];kernel_rfl) Fv
   |exact call_isinstance (isinstance_false_bool (by decide) (by kernel_rfl) (by rw[aes];kernel_rfl)) (fin _)
 |int c=>
  unfold ah at rx;subst rx;obtain⟨t,rfl⟩:=r1;rcases hT with (((rfl |rfl) |rfl) |rfl) |rfl<;>cases hb<;>first
   |exact call_isinstance_yes (Tx:="int") (typeIs_int s c t) (by kernel_rfl) (by rw[aes];kernel_rfl) Fv
   |exact call_isinstance (isinstance_false_int (by decide) (by kernel_rfl) (by rw[aes];kernel_rfl)) (fin _)
 |str c=>
  obtain⟨rfl,_⟩:=fO rx;obtain⟨t,rfl⟩:=r1;rcases hT with (((rfl |rfl) |rfl) |rfl) |rfl<;>cases hb<;>first
   |exact call_isinstance_yes (Tx:="str") (typeIs_str s c t) (by kernel_rfl) (by rw[aes];kernel_rfl) Fv
   |exact call_isinstance (isinstance_false_str (by decide) (by kernel_rfl) (by rw[aes];kernel_rfl)) (fin _)
 |rN ws=>cases hb
 |tup ws=>
  unfold ah at rx;obtain⟨a,xs,rfl,h1,h2⟩:=rx;cases r1;obtain⟨its,rv,ht,hz⟩:=I.tuple (fM.of h1);have hty:=ht.typeIs;obtain⟨o,ho,hc,k,hd⟩:=ht;rcases hT with (((rfl |rfl) |rfl) |rfl) |rfl<;>cases hb<;>first
   |exact call_isinstance_yes (Tx:="tuple") hty (by kernel_rfl) (by rw[aes];kernel_rfl) Fv
   |exact call_isinstance (isinstance_false_tuple (by decide) (by kernel_rfl) (by rw[aes];kernel_rfl)) ⟨⟨o,ho,hc⟩,fin _⟩
 |ref l=>
  unfold ah at rx;obtain⟨a,rfl,h1⟩:=rx;cases r1;have hb':(aG st l).map (λ_=>T == "list")=some b:=hb;cases e:aG st l with
  |none=>rw[e]at hb';cases hb'
  |some ws=>
   rw[e]at hb';obtain⟨xs,hq,h2⟩:=S.read h1 e;obtain⟨its,rv,ht,hz⟩:=I.list hq;have hty:=ht.isList.typeIs;obtain⟨o,ho,hc,k,hd⟩:=ht.isList;rcases hT with (((rfl |rfl) |rfl) |rfl) |rfl<;>cases hb'<;>first
    |exact call_isinstance_yes (Tx:="list") hty (by kernel_rfl) (by rw[aes];kernel_rfl) Fv
    |exact call_isinstance (isinstance_false_list (by decide) (by kernel_rfl) (by rw[aes];kernel_rfl)) ⟨⟨o,ho,hc⟩,fin _⟩
 |ty t=>cases hb
 |cls t=>cases hb
 |Bq t=>cases hb
 |fn fp t=>cases hb
theorem O4:cY X (.builtin "isinstance") TN:=⟨_,Ft,λws vs st H m Q S r p=>by
 match ws,r,p with
 |[],r,p=>exact ab p
 |[x],r,p=>cases x<;>exact ab p
 |x::y::z::t,r,p=>cases y<;>exact ab p
 |[x,y],r,p=>
  obtain⟨v,v',rfl,rx,ry⟩:=Fp r;cases y with
  |ty T=>
   unfold ah at ry;subst ry;have p':df X.K m H (if Fs T=true then(match VX st T x with |some b=> .ok (.bl b) st |none=> .bad)else .bad) Q:=p
   by_cases c:Fs T=true
   ·rw[if_pos c]at p';cases e:VX st T x with
    |none=>rw[e]at p';exact ab p'
    |some b=>rw[e]at p';exact⟨m,st,x,T,v,b,rfl,S,rx,c,e,p' _ m H Ext.refl S jN⟩
   ·rw[if_neg c]at p';exact ab p'
  |_=>exact ab p⟩
def aQ:GS:=λρ st=> .nx ρ st
def aI(g h:GS):GS:=λρ st=>match g ρ st with
 |.nx ρ' st'=>h ρ' st'
 |r=>r
theorem Ko:qK X [] aQ:=qK.of Jt λρ st σ H m D S R p=>p σ m H Ext.refl S R
theorem Fx{rest:List Stmt}{g h:GS}(h1:JS X s g)(h2:qK X rest h):qK X (s::rest) (aI g h) :=
 qK.of (Eu MA iO) λρ st σ H m D S R p=>h1 ρ st σ H m _ S R (by
  unfold aI at p;cases e:g ρ st with
  |nx ρ' st'=>rw[e]at p;exact λσ' m' H' e' S' R'=>h2 ρ' st' σ' H' m' D S' R' (bh.shift p e')
  |rt w st'=>rw[e]at p;exact p
  |bk ρ' st'=>rw[e]at p;exact p
  |ct ρ' st'=>rw[e]at p;exact p
  |err c ρ' st'=>rw[e]at p;exact p
  |bad=>rw[e]at p;exact p)
theorem Kp{g:GS}(h1:JS X s g):qK X [s] g:=qK.of (Ju MA) λρ st σ H m D S R p=>h1 ρ st σ H m D S R p
def aN(g:GE):GS:=λρ st=>(g ρ st).bK ρ λw st'=> .rt w st'
theorem O5(h:JE X e g):JS X (.Return (some e) pos) (aN g) :=
 JS.of (NM bj) λρ st σ H m D S R p=>h.go S R (bh.dc R p) λw st1 v m1 H1 q e1 S1 r1=>q v m1 H1 e1 S1 r1
def kD(g:GE):GS:=λρ st=>(g ρ st).bK ρ λ_ st'=> .nx ρ st'
theorem Kq(h:JE X e g)(hs:swapsWith e none pos.line X.env=pure false:=by rfl):JS X (.Expr e pos) (kD g) :=
 JS.of (Jv bj hs) λρ st σ H m D S R p=>h.go S R (bh.dc R p) λw st1 v m1 H1 q e1 S1 r1=>q σ m1 H1 e1 S1 (R.mono e1)
def dS(gt:GT)(ga gb:GS):GS:=λρ st=>(gt ρ st).bK ρ λb st'=>if b=true then ga ρ st' else gb ρ st'
theorem TQ{a b:List Stmt}{ga:GS}(hc:JT X c gt)(ha:qK X a ga)(hb:qK X b gb):JS X (.If c a b pos) (dS gt ga gb) :=
 JS.of (Sr rS iO iO) λρ st σ H m D S R p=>hc.go S R (bh.dc R p) λk st1 m1 H1 q e1 S1=>by
  cases k with
  |true=>rw[if_pos rfl]at q ⊢;exact ha ρ st1 σ H1 m1 D S1 (R.mono e1) (bh.shift q e1)
  |false=>rw[if_neg aH]at q ⊢;exact hb ρ st1 σ H1 m1 D S1 (R.mono e1) (bh.shift q e1)
def bG(i:Nat)(g:GE):GS:=λρ st=>(g ρ st).bK ρ λw st'=> .nx (ρ.set i (some w)) st'
theorem zL(i:Nat)(hN:X.N.Nodup)(h:JE X e g)(hi:X.N[i]? =some x:=by rfl)(hx:Loc X.env.scope x:=by first |exact Or.inl rfl |exact lY rfl)(hs:swapsWith e (some (.Name x pos')) pos.line X.env=pure false:=by rfl)
  (hf:X.fn x=true\/X.env.scope.names.lookup x=some .local:=by first |exact .inl rfl |exact .inr rfl |assumption):JS X (.Assign [.Name x pos'] e pos) (bG i g) :=
 JS.of (NP hN hi hx bj hs hf) λρ st σ H m D S R p=>h.go S R (bh.dc R p) λw st1 v m1 H1 q e1 S1 r1=>q _ m1 H1 e1 S1 ((R.mono e1).set i r1)
def eC:GS:=λ_ _=> .bad
theorem cZ:JS X s eC:=JS.of Ex λρ st σ H m D S R p=>p
theorem Dd{s:List Stmt}:qK X s eC:=qK.of CN λρ st σ H m D S R p=>p
def TR(o i v:Wv)(ρ:b7)(st:Hs):Rs:=match o,i with
 |.ref l,.int k=>match st[l]? with
  |some (.lst ws)=>(match C2 ws.length k with |some j=> .nx ρ (st.set l (.lst (ws.set j v))) |none=> .bad)
  |_=> .bad
 |_,_=> .bad
def Bx(ge go gi:GE):GS:=λρ st=>(ge ρ st).bK ρ λv st1=>(go ρ st1).bK ρ λo st2=>(gi ρ st2).bK ρ λi st3=>TR o i v ρ st3
theorem Kr{o i:Expr}{go:GE}(he:JE X e ge)(ho:JE X o go)(hi:JE X i gi)(hs:swapsWithSole [.Subscript o i pos'] e pos.line X.env=pure false:=by rfl)(hw:swappedStores [.Subscript o i pos'] e X.env=pure none:=by rfl)
  (h1:(assignEach [.Subscript o i pos'] X.env).map (·.2)=[assign (.Subscript o i pos') X.env]:=by rfl)
  (ha:∀v,assign (.Subscript o i pos') X.env v=(do
   let ov <-holding [v] (eval o X.env)
   let iv <-holding [v,ov] (eval i X.env)
   standAt pos'
   holding [v,ov,iv] (setItem ov iv v)
   release [v,ov,iv] []):=by intro _;rfl):JS X (.Assign [.Subscript o i pos'] e pos) (Bx ge go gi):=by
 refine JS.of (Ez bj (NO bj bj set_list ha) hs hw h1) λρ st σ H m D S R p=>?_;refine he.go S R (bh.dc R p) λv st1 vv m1 H1 p1 e1 S1 rv=>?_;refine ho.go S1 (R.mono e1) ((bh.dc (m:=m) (H:=H) R p1).imp e1 λ_ _ q=>q) λo' st2 ov m2 H2 p2 e2 S2 ro=>?_;refine hi.go S2 (R.mono (e1.trans e2)) ((bh.dc (m:=m) (H:=H) R p2).imp (e1.trans e2) λ_ _ q=>q) λi' st3 iv m3 H3 p3 e3 S3 ri=>?_;have xi:=e1.trans (e2.trans e3);cases o' with
 |ref l=>
  cases i' with
  |int k=>
   have mS:bh X m H (match st3[l]? with |some (.lst ws)=>(match C2 ws.length k with |some j=> .nx ρ (st3.set l (.lst (ws.set j v))) |none=> .bad) |_=> .bad) D:=p3
   have O6:=ah.mono e3 _ _ ro;unfold ah at O6;obtain⟨a,rfl,f1⟩:=O6;cases e:st3[l]? with
   |none=>rw[e]at mS;exact ab mS
   |some ob=>
    cases ob with
    |dct kvs=>rw[e]at mS;exact ab mS
    |et kvs=>rw[e]at mS;exact ab mS
    |zE kvs=>rw[e]at mS;exact ab mS
    |Ef kvs=>rw[e]at mS;exact ab mS
    |oK kvs=>rw[e]at mS;exact ab mS
    |ins _ _=>rw[e]at mS;exact ab mS
    |rO ns=>rw[e]at mS;exact ab mS
    |lst ws=>
     rw[e]at mS;cases ej:C2 ws.length k with
     |none=>simp only[ej]at mS;exact ab mS
     |some j=>simp only[ej]at mS;obtain⟨xs,g1,g2⟩:=S3.rP f1 e;refine⟨a,xs,k,j,rfl,a8 ri,g1,by rw[<-g2.length];exact ej,?_⟩;have XI:=ah.mono (e2.trans e3) _ _ rv;have e4:Ext X.K m3 H3 m3 (upd H3 a (.lst (xs.set j vv))):=Ext.upd (.inr ⟨xs,g1⟩);exact mS σ m3 _ (xi.trans e4) (S3.write f1 e (g2.set j XI)) (R.mono (xi.trans e4))
  |_=>exact ab p3
 |_=>cases i'<;>exact ab p3
open Classical in
def forL(i:Nat)(gb:GS)(l:Nat)(all:List Wv):List Wv->b7->Hs->Rs
 |[],ρ,st=> .nx ρ st
 |w::r,ρ,st=>match gb (ρ.set i (some w)) st with
  |.nx ρ' st'=>if aG st' l=some all then forL i gb l all r ρ' st' else .bad
  |.ct ρ' st'=>if aG st' l=some all then forL i gb l all r ρ' st' else .bad
  |.bk ρ' st'=> .nx ρ' st'
  |.rt w st'=> .rt w st'
  |.err c ρ' st'=> .err c ρ' st'
  |.bad=> .bad
end
def CXJ(P:aeh)(w:aek):CZ:=λouter H s E e s'=>∃H' C,xA P w outer H s H' (.ref C) e s'/\E (.ref C) none H'
variable{b C:aed}{o:Obj}{w:aek}{s:aei}{h base h2:Heap}{M:Model}{A:aee}{env:Env}{outer:List Env}{args:List aej}{P:aeh}
section
variable {X:Cx}{pins:List (aed×Obj)}{σ:St}{Hc H':Hp}{sc s':aei}{cls e:aej}{E:aej->aei->Prop}{Q:Unit->aei->Prop}
theorem old_ne(I:Inv X pins σ Hc sc)(q:X.s₀.heap.get? b=some o):b≠X.env.locals:=λz=>by have h1:=a7 q;have h2:=I.ok.above;rw[z]at h1;exact absurd (bT h1 h2) (fg _)
theorem Ks(I:Inv X pins σ Hc sc)(hst:X.stack=X.env::X.outer)(hf:X.env.frame=some X.env.locals)(q:X.s₀.heap.get? b=some o)(hb:b∉frs X.outer):b∉frs X.stack:=λz=>by
 rw[hst]at z;unfold frs at z;rw[vg,hf]at z;rcases List.mem_cons.mp z with z |z
 ·exact old_ne I q z
 ·exact hb z
theorem Fy(hst:X.stack=X.env::X.outer)(hf:X.env.frame=some X.env.locals)(hb:b∈frs X.outer):b∈frs X.stack:=by rw[hst];unfold frs;rw[vg,hf];exact bb _ hb
theorem Fz{L e:aed}{a0 nt:aej}(hfr:A.frames=some (env::outer))(hf:env.frame=some L)
  (x:base.StaysIn s.heap/\base.get? e=none/\s.heap.FunFrames base (env::outer)/\VU s.heap base e cls a0 nt)(k:∀h',E8 base (env::outer) e cls a0 L h'->s.heap.UpToSlots h'->Q () { s with heap:=h' }):
  aew M A (noteFrame (.ref e) env) Q E s:=by
 obtain⟨x1,x2,x3,x4⟩:=x;by_cases z:nt=rawInt L
 ·subst z;exact OF hf x4 (k s.heap ⟨x1,x2,x3,x4⟩ (Heap.UpToSlots.refl _))
 ·obtain⟨ox,us,T,ot,ws,g1,⟨g2,g3⟩,g4,g5,g6,g7,g8,g9,VY⟩:=x4;subst g2;have apart:∀b,b≠T->(s.heap.update T (jK (·.setIfInBounds 3 cN))).get? b=s.heap.get? b:=λb hb=>rE _ _ (bA hb);have plain:∀b o,s.heap.get? b=some o->(∀vs,o.data≠.fields vs)->b≠T:=λb o hb hd q=>by subst q;rw[g8]at hb;cases hb;exact hd ws g9
  unfold noteFrame;simp only[hf];refine aex (wpAny_field g1 g4 g5 ?_);rw[if_pos (show(aL T != cN)=true from by simp)];refine aex (wpAny_field g8 g9 VY ?_);rw[if_neg (show ¬((nt == rawInt L)=true) from by simpa using z)];refine aex (wpAny_setField g8 g9 (Array.getElem?_eq_some_iff.mp VY).1 ?_);refine E9 (a0:=a0) hfr (x3.of_keeps λb o hb hd=>⟨o,(apart b (plain b o hb hd)).trans hb,rfl⟩) hf ((apart e (bA g7)).trans g1) (λb o hb=>(apart b λq=>by rw[q,g6]at hb;cases hb).trans (x1 b o hb)) x2 g4 (Array.getElem?_eq_some_iff.mp g5).1 g3 λh' y y4=>?_;exact k h' y λb o hb hd=>y4 b o ((apart b (plain b o hb hd)).trans hb) hd
theorem De{L a:aed}(hfr:A.frames=some (env::outer))(hf:env.frame=some L)
  (st:base.StaysIn h)(fs:h.FunFrames base (env::outer))(mk:Fd h s.heap a cls args)(k:∀h' a0,E8 base (env::outer) a cls a0 L h'->s.heap.UpToSlots h'->Q () { s with heap:=h' }):
  aew M A (noteFrame (.ref a) env) Q E s:=by
 obtain⟨t,e1,e2,e3⟩:=mk.there;have fresh:∀b,h.get? b=none->base.get? b=none:=λb hb=>by
  cases q:base.get? b with
  |none=>rfl
  |some o'=>have z:=st b o' q;rw[hb]at z;cases z
 have fs':=fs.of_keeps (h':=s.heap) λb o hb _=>⟨o,mk.keeps b o hb,rfl⟩;unfold noteFrame;simp only[hf];refine aex (wpAny_field e1 rfl (x:=.none) rfl ?_);rw[if_neg (by decide)];exact E9 hfr fs' hf e1 (λb o hb=>mk.keeps b o (st b o hb)) (fresh a mk.new) rfl (by simp) (a0:=.ref t) rfl λh' l1 l4=>k h' (.ref t) l1 l4
theorem FA{ch:List aed}(hx:X.ex=[])(hst:X.stack=X.env::X.outer)(hf:X.env.frame=some X.env.locals)(I:Inv X pins σ Hc sc){B:Heap}(hch:∀b∈ch,iL X pins Hc b)(un:Un (frs X.stack) ch Hc H' sc.heap s'.heap)(up:s'.heap.UpToSlots h2)(stay:B.StaysIn h2)
  (Tn:∀b o,sc.heap.get? b=some o->b∉frs X.stack->b∉ch->∃o',B.get? b=some o'/\(Hc b=none->o'=o)):
  Un (frs X.outer) [] X.H₀ H' X.s₀.heap h2/\(∀b o,X.s₀.heap.get? b=some o->b∉frs X.outer->∃o',B.get? b=some o'/\(X.H₀ b=none->o'=o)):=by
 have nx:∀b:aed,b∉X.ex:=λb=>by rw[hx];simp
 have nc:∀b o,X.s₀.heap.get? b=some o->b∉ch:=λb o q z=>by
  rcases(hch b z).2.2.2.1 with y |y
  ·exact nx b y
  ·exact absurd (bT (a7 q) y) (fg _)
 have O7:∀b o,X.s₀.heap.get? b=some o->b∉frs X.outer->∃o',B.get? b=some o'/\(X.H₀ b=none->o'=o):=λb o q hb=>by obtain⟨o1,q1⟩:=I.base.there b o q (nx b);obtain⟨o2,q2,q3⟩:=Tn b o1 q1 (Ks I hst hf q hb) (nc b o q);refine⟨o2,q2,λn=>?_⟩;have q4:=I.base.keep b o q n hb (nx b);rw[q4]at q1;cases q1;exact q3 (I.base.free b o q n (nx b))
 have sl:∀b o,X.s₀.heap.get? b=some o->X.H₀ b=none->b∈frs X.outer->∃sl,h2.get? b=some { o with slots:=sl }:=λb o q n hb=>by obtain⟨s1,q1⟩:=I.base.slot b o q n hb (nx b);obtain⟨s2,q2⟩:=un.slot b _ q1 (I.base.free b o q n (nx b)) (Fy hst hf hb) (nc b o q);obtain⟨_,o3,q3,q4⟩:=I.ok.q_.mem hb;rw[q]at q3;cases q3;obtain⟨s3,q5⟩:=up b _ q2 q4;exact⟨s3,q5⟩
 refine⟨⟨λb o q n hb _=>?_,λb o q n hb _=>sl b o q n hb,λb o q n _=>?_,λb o q _=>?_,λb xs h=>un.tups b xs (I.base.tups b xs h),λb o u h=>un.qi b o u (I.base.qi b o u h),λb ps h=>?_⟩,O7⟩
 ·obtain⟨o2,q2,q3⟩:=O7 b o q hb;rw[q3 n]at q2;exact stay b o q2
 ·obtain⟨o1,q1⟩:=I.base.there b o q (nx b);exact un.free b o1 q1 (I.base.free b o q n (nx b)) (nc b o q)
 ·by_cases hb:b∈frs X.outer
  ·obtain⟨s3,q3⟩:=sl b o q (I.ok.RL b hb) hb;exact⟨_,q3⟩
  ·obtain⟨o2,q2,_⟩:=O7 b o q hb;exact⟨o2,stay b o2 q2⟩
 ·obtain⟨m1,t1⟩:=I.base.tK b ps h;obtain⟨m2,t2⟩:=un.tK b _ t1;exact⟨m1++m2,by rw[<-Array.append_assoc];exact t2⟩
theorem xF(hx:X.ex=[])(hst:X.stack=X.env::X.outer)(hf:X.env.frame=some X.env.locals)(I:Inv X pins σ Hc sc)(F:zF X pins Hc sc H' cls e s')
  (k:∀s2,xA X.prog X.w X.outer X.H₀ X.s₀ H' cls e s2->Q () s2):aew (model X.prog X.w) X.A (leaving X.env e) Q E s':=by
 obtain⟨a,a0,nt,B,ch,rfl,os,bare,hch,un,hok,fl,Tn⟩:=F;have hfr:X.A.frames=some (X.env::X.outer):=by rw[I.ok.frames,hst]
 rw[hst]at fl;unfold leaving;refine aex (Fz hfr hf fl λh1 hd1 up1=>?_);refine Mw hd1 λh2 Ja XJ=>k _ ?_;obtain⟨k1,k2,⟨_,_,k3⟩,k4⟩:=Ja;obtain⟨u2,c2⟩:=FA hx hst hf I hch un (up1.trans XJ) k1 Tn;exact⟨a,a0,B,rfl,os.trans I.os,bare,u2,hok,⟨k1,k2,k3,k4⟩,c2⟩
theorem FC{l:List aed}(ok:kL P w H h)(fr:∀b∈l,H b=none):kL P w H (PySem.W.hideAll h l):=λa o q=>
 (ok a o q).stay (λb u hb r=>PySem.W.hideAll_get _ r λz=>by
  have n:=fr b z;rcases hb with hb |hb
  ·rw[hb,q]at n;cases n
  ·rw[hb]at n;cases n) (λ_ r=>r) λ_ _ r=>r
theorem zM{a:aed}(hx:X.ex=[])(hst:X.stack=X.env::X.outer)(hf:X.env.frame=some X.env.locals)(I:Inv X pins σ Hc sc)(ho:s'.os=sc.os)(hgn:s'.gens=sc.gens)
  (M:Fd sc.heap s'.heap a (.ref C) args)(k:∀s2,xA X.prog X.w X.outer X.H₀ X.s₀ Hc (.ref C) (.ref a) s2->Q () s2):aew (model X.prog X.w) X.A (leaving X.env (.ref a)) Q E s':=by
 have hfr:X.A.frames=some (X.env::X.outer):=by rw[I.ok.frames,hst]
 have fs:sc.heap.FunFrames (PySem.W.hideAll sc.heap (frs X.stack)) (X.env::X.outer):=by rw[<-hst];exact PySem.W.funFrames_hide I.stack λenv he b hb=>List.mem_filterMap.mpr ⟨env,he,hb⟩
 unfold leaving;refine aex (De (base:=PySem.W.hideAll sc.heap (frs X.stack)) hfr hf (λb o q=>PySem.W.of_hideAll _ q) fs M λh1 t hd1 up1=>?_);refine Mw hd1 λh2 Ja XJ=>k _ ?_;have up:=up1.trans XJ
 replace Ja:OD (PySem.W.hideAll sc.heap (frs X.stack)) X.outer a (.ref C) t h2:=let ⟨k1,k2,⟨_,_,k3⟩,k4⟩:=Ja;⟨k1,k2,k3,k4⟩
 obtain⟨u2,c2⟩:=FA (H':=Hc) (s':=s') (ch:=[]) hx hst hf I (λb z=>by cases z) (Un.kept M.keeps) up Ja.1 λb o q hb _=>⟨o,PySem.W.hideAll_get _ q hb,λ_=>rfl⟩;exact⟨a,t,_,rfl,ho.trans I.os,by rw[show({ s' with heap:=h2 }:aei).gens=sc.gens from hgn];exact I.bare,u2,FC I.hok I.vj,Ja,c2⟩
end
def MI(K:PySem.W.Frag)(m:Mp)(H:Hp)(r:Re Wv)(Q:VK)(E:XK):Prop:=match r with
 |.ok w st=>To K m H Q w st
 |.err c st=>∀(m':Mp)(H':Hp)(C:aed),Ext K m H m' H'->cb K m' st H'->ClsAt K c C->E (.ref C) none H'
 |.bad=>False
def spW(K:PySem.W.Frag)(n:Nat)(F:List Wv->Hs->Re Wv):Sp:=λvs H Q E=>∃m st ws,cb K m st H/\aq K m H ws vs/\ws.length=n/\MI K m H (F ws st) Q E
def aA(n:Nat)(F:List Wv->Hs->Re Wv)(g:GA):GE:=λρ st=>(g ρ st).bind λws st1=>if ws.length=n then F ws st1 else .bad
variable{f:aed}{k:Nat}{fd:aef}{ps:List Str}{F:List Wv->Hs->Re Wv}
section
variable {X:Cx}
theorem Kt{g:GA}
  (G:FnOk X.prog X.w X.K X.mg X.base (CXJ X.prog X.w) k f fd ps (spW X.K n F))(hr:hX k X.A)(hm:X.mg x=some (.ref f))(hk:PySem.W.keepIn X.K (.ref f)=true)(hb:Binds X.K fd ps [])(ha:JA X (e::es) g)(hg:Gl X x:=by rfl)
  (hdb:(x == ("__debug__":Str))=false:=by decide)(he:aev (e::es) X.env=(false,eval e X.env)::aev es X.env:=by rfl)(hpl:(backTo pos (aev es X.env)).any (·.1)=false:=by rfl):
  JE X (.Call (.Name x p) (e::es) [] pos) (aA n F g):=by
 intro ρ st σ H m Q S R p pins s I;have args:=ha.go (T:=λvs H1=>∃ws st1 m1,fZ X σ m H (if ws.length=n then F ws st1 else .bad) Q/\Ext X.K m H m1 H1/\cb X.K m1 st1 H1/\aq X.K m1 H1 ws vs) S R (aM.bind p)
  λws st1 vs m1 H1 p1 e1 S1 rs=>⟨ws,st1,m1,p1,e1,S1,rs⟩
 refine wpAny_Call_Name_kw (vm I hg hm ?_ hdb);refine PySem.W.callWith_K (h₀:=X.base) I.ok.mod.RK hk (bK (args pos pins s I) λus s1 ⟨vs,H1,I1,r,ws,st1,m1,p1,e1,S1,rs⟩=>⟨I1.ze,?_⟩) he hpl;by_cases c:ws.length=n
 ·rw[if_pos c]at p1
  let E:XK:=λcl _ H2=>∃c' st2 m2 C,cl= .ref C/\ClsAt X.K c' C/\F ws st1= .err c' st2/\Ext X.K m1 H1 m2 H2/\cb X.K m2 st2 H2
  have sp:spW X.K n F vs H1 Q E:=by
   refine⟨m1,st1,ws,S1,rs,c,?_⟩;cases er:F ws st1 with
   |ok w st2=>rw[er]at p1;exact fZ.shift (r:=.ok w st2) p1 e1
   |err c' st2=>exact λm2 H2 C e2 S2 hC=>⟨c',st2,m2,C,rfl,hC,er,e2,S2⟩
   |bad=>rw[er]at p1;exact ab p1
  have hl:us.length=ps.length:=by rw[<-r.length];exact G.len _ _ _ _ sp
  have bd:=hb s1 us I1.ze (by rw[i6];exact hl);rw[i6]at bd;refine wpAny_call (codeAny_mono (G.run X.A X.stack s1 H1 ⟨us,[]⟩ us vs Q E hr I1.N8 bd r sp) λrr s2 hq=>?_);cases rr with
  |error x=>obtain⟨H2,C,fl,c',st2,m2,C',ec,hC,er,e2,S2⟩:=hq;cases ec;rw[er]at p1;exact p1 m2 H2 x s2 (e1.trans e2) S2 ⟨C,pins,H1,s1,hC,I1,.inl fl.any⟩
  |ok fw=>
   cases fw with
   |ret u=>exact I1.after hq
   |next=>exact ab hq
   |brk=>exact ab hq
   |cont=>exact ab hq
 ·rw[if_neg c]at p1;exact ab p1
end
def bB(n:Nat)(g:GS):List Wv->Hs->Re Wv:=λws st=>match g (ws.map some++aU (n - ws.length) none) st with
 |.nx _ st'=> .ok .non st'
 |.rt w st'=> .ok w st'
 |.err c _ st'=> .err c st'
 |_=> .bad
variable{N:List Str}
theorem FD(r:aq K m H ws vs)(h:ws.length<=N.length):aS K m H (ws.map some++aU (N.length - ws.length) none) (L2.start N vs):=by
 have hl:=r.length;refine⟨by unfold L2.start;simp[hl],λi w e=>?_⟩;by_cases hi:i < ws.length
 ·rw[f6 (by simpa using hi),eo]at e;cases q:ws[i]? with
  |none=>rw[q]at e;cases e
  |some w'=>rw[q]at e;cases e;obtain⟨x,h1,h2⟩:=r.get q;refine⟨x,?_,h2⟩;unfold L2.start;rw[f6 (by simp;omega),eo,h1];rfl
 ·rw[kP (by simpa using hi),JJ]at e;split at e<;>cases e
variable{qual:Str}{scope:Scope}{cdv:aej}
section
variable {P:aeh}{w:aek}{K:PySem.W.Frag}{mg:Str->Option aej}{base:Heap}
theorem zN{s':aei}{H':Hp}{E:XK}{c:PySem.Str}{e:aej}
  (r:zG (tL (CXJ P w) P w K mg base N qual scope f cdv A outer s H E) σ H' c e s')(h:∀C,ClsAt K c C->E (.ref C) none H'):(tL (CXJ P w) P w K mg base N qual scope f cdv A outer s H E).xe e s':=by
 obtain⟨C,pins,Hc,sc,hC,I,r⟩:=r;rcases r with fl |⟨rfl,a,args,rfl,ho,hg,M⟩
 ·exact xF (X:=tL (CXJ P w) P w K mg base N qual scope f cdv A outer s H E) rfl rfl rfl I fl λs2 Ja=>⟨H',C,Ja,h C hC⟩
 ·exact zM (X:=tL (CXJ P w) P w K mg base N qual scope f cdv A outer s H E) rfl rfl rfl I ho hg M λs2 Ja=>⟨H',C,Ja,h C hC⟩
def FE(K:PySem.W.Frag)(f:aed)(cdv:aej):Prop:=∃o,K.lookup f=some o/\∃fd,o.data= .func fd/\fd.code=cdv
theorem By{st:Stmt}{g:GS}(F:J4 K x qual st f fd)(S:FnScope N ps (defScope st))
  (body:∀(cdv:aej),FE K f cdv->∀(A:aee)(outer:List Env)(s:aei)(H:Hp)(E:XK),hX k (A.deeper (envOfC qual (defScope st) s.heap.objs.size f cdv))->qK (tL (CXJ P w) P w K mg base N qual (defScope st) f cdv A outer s H E) (defBody st) g):
  FnOk P w K mg base (CXJ P w) (k+1) f fd ps (spW K ps.length (bB N.length g)):=by
 have hpl:ps.length<=N.length:=by have:=congrArg fN S.pre;rw[nD]at this;omega
 obtain⟨oc,od,kV,doc,pm,an,cdv,ct,osl,rfl,lk,hcd⟩:=F.ex;refine SR lk hcd S (λvs H Q E h=>?_) λA outer s H vs Q E hr h=>?_
 ·obtain⟨m,st',ws,_,r,hl,_⟩:=h;rw[<-r.length];exact hl
 ·obtain⟨m,st',ws,S',r,hl,p⟩:=h;refine⟨_,iO,?_⟩;refine body cdv ⟨_,lk,_,rfl,rfl⟩ A outer s H E hr _ st' _ H m _ S' (FD r (by omega)) ?_;unfold bB at p;cases e:g (ws.map some++aU (N.length - ws.length) none) st' with
  |nx ρ st2=>rw[e]at p;exact λσ m' H' e' S2 R2=>p _ m' H' e' S2 (by unfold ah;rfl)
  |rt w' st2=>rw[e]at p;exact p
  |bk ρ st2=>rw[e]at p;exact ab p
  |ct ρ st2=>rw[e]at p;exact ab p
  |err c ρ st2=>rw[e]at p;exact λσ m' H' x s' e' S2 R2 rz=>zN rz λC hC=>p m' H' C e' S2 hC
  |bad=>rw[e]at p;exact ab p
end
def OnlyT(H:Hp):Prop:=∀b,H b=none\/(∃o xs,H b=some (.oI o (.lst xs)))\/H b=some (.mx #[])
theorem OnlyT.of(h:J3 H):OnlyT H:=λb=>by
 rcases h b with q |q
 ·exact .inl q
 ·exact .inr (.inl q)
theorem law_sp(h:∀ns:List Int,ns.length<=63->∃st,F [.ref 0] [.rO ns]= .ok (.bl true) st)(H:Hp)(a:aed)(ns:List Int)(hl:ns.length<=63)(hO:OnlyT H)(hS:mO K H a (ns.map V.int))(hT:vL K H):
  spW K 1 F [.ref a] H (λv _=>v= .bl true) λ_ _ _=>False:=by
 obtain⟨st,e⟩:=h ns hl;refine⟨[a],[.rO ns],[.ref 0],⟨rfl,λl b o h1 h2=>?_,λl l' b ws ws' _ _ h2 _ k _=>?_,hT⟩,aq.cons (by unfold ah;exact⟨a,rfl,rfl⟩) aq.nil,rfl,?_⟩
 ·cases l with
  |zero=>
   simp at h1 h2;subst h1 h2;show xy K H a ns;rcases hS with (q |⟨o',q⟩) |q
   ·rcases hO a with z |⟨o',xs,z⟩ |z
    ·rw[z]at q;cases q
    ·rw[z]at q;cases q
    ·rw[z]at q;cases q
   ·exact .inl ⟨o',q⟩
   ·exact .inr q
  |succ l=>simp at h1
 ·cases l with
  |zero=>simp at h2;subst h2;simp[Ob.mu]at k
  |succ l=>simp at h2
 ·rw[e];intro v m' H' _ _ r;unfold ah at r;exact r
def oR(w:Wv)(st:Hs):Re Bool:=match w with
 |.non=> .ok false st
 |.bl b=> .ok b st
 |.int i=> .ok (i != 0) st
 |.str y=>if y.length<=lim then .ok ((y.length:Int) != 0) st else .bad
 |.tup ws=> .ok (!ws.isEmpty) st
 |.rN _=> .bad
 |.ref l=>match aG st l with
  |some ws=> .ok (!ws.isEmpty) st
  |none=> .bad
 |.ty _=> .bad
 |.cls _=> .bad
 |.Bq _=> .bad
 |.fn _ _=> .bad
def dB(g:GE):GT:=λρ st=>(g ρ st).bind oR
variable{x:PySem.Str}
section
variable {X:Cx}
theorem isE(r:aq X.K m H ws xs):(!ws.isEmpty)= !xs.isEmpty:=by have h:=r.length;cases ws<;>cases xs<;>simp_all
theorem rW(h:JE X e g)(he:∀whole,isTrue e X.env whole=(do let v <-whole;standAt e.pos;holding [v] (truthy v))):JT X e (dB g) :=
 JT.of (EE bj he) λρ st σ H m Q S R p=>h.go S R (aM.bind p) λw st1 v m1 H1 p1 e1 S1 r1=>by
  cases w with
  |non=>unfold ah at r1;subst r1;exact⟨false,rfl,p1 m1 H1 e1 S1⟩
  |bl b=>unfold ah at r1;subst r1;exact⟨b,rfl,p1 m1 H1 e1 S1⟩
  |int i=>unfold ah at r1;subst r1;exact⟨_,rfl,p1 m1 H1 e1 S1⟩
  |str y=>
   obtain⟨rfl,_⟩:=fO r1;have p2:jk X σ m H (if y.length<=lim then .ok ((y.length:Int) != 0) st1 else .bad) Q:=p1;by_cases c:y.length<=lim
   ·rw[if_pos c]at p2;exact⟨_,⟨fF c,rfl⟩,p2 m1 H1 e1 S1⟩
   ·rw[if_neg c]at p2;exact ab p2
  |rN ws=>exact ab p1
  |tup ws=>unfold ah at r1;obtain⟨a,xs,rfl,h1,h2⟩:=r1;refine⟨!xs.isEmpty,.inr (.inl ⟨xs,fM.of h1,rfl⟩),?_⟩;rw[<-isE h2];exact p1 m1 H1 e1 S1
  |ref l=>
   unfold ah at r1;obtain⟨a,rfl,h1⟩:=r1;have p2:jk X σ m H (match aG st1 l with |some ws=> .ok (!ws.isEmpty) st1 |none=> .bad) Q:=p1
   cases el:aG st1 l with
   |none=>rw[el]at p2;exact ab p2
   |some ws=>rw[el]at p2;obtain⟨xs,hq,h2⟩:=S1.read h1 el;refine⟨!xs.isEmpty,.inl ⟨xs,hq,rfl⟩,?_⟩;rw[<-isE h2];exact p2 m1 H1 e1 S1
  |ty T=>exact ab p1
  |cls T=>exact ab p1
  |Bq T=>exact ab p1
  |fn fp T=>exact ab p1
theorem xG{p:Nat->Bool}{x:Array Nat}(hx:x.all p=true):∀(n:Nat)(a:Array Nat),a.all p=true->((aU n x).foldl (· ++·) a).all p=true
 | 0,a,h=>h
 |n+1,a,h=>by rw[iN,rJ];refine xG hx n _ ?_;rw[Array.all_append,h,hx];rfl
theorem Df(h:aY x=true):aY (tS n x)=true:=by unfold aY at h ⊢;unfold tS;exact xG h n #[] (by simp)
theorem uF{x:Array Nat}:∀(n:Nat)(a:Array Nat),((aU n x).foldl (· ++·) a).size=a.size+x.size * n
 | 0,a=>by simp
 |n+1,a=>by rw[iN,rJ,uF n,MJ,Nat.mul_succ];omega
theorem FF:(tS n x).length=x.length * n:=by show((aU n x.cps).foldl (· ++·) #[]).size=x.cps.size * n;rw[uF];simp
def pY(x:PySem.Str)(n:Int):Prop:=1 < n/\n<=100000/\x.length≠0/\x.length * n.toNat<=lim
instance {x n}:Decidable (pY x n):=by unfold pY;infer_instance
theorem Ku:fh X (aem .Mult) (λx y H Q=>∃z n,x= .str z/\y= .int n/\pY z n/\Q (.str (tS n.toNat z)) H):=by
 intro pins s σ H x y v u Q I rx ry h;obtain⟨z,n,rfl,rfl,⟨h1,h2,h3,h4⟩,q⟩:=h;obtain⟨t,rfl⟩:=rx;obtain⟨t',rfl⟩:=ry;have n1:¬n < 1:=by omega
 have hlen:z.length<=lim:=by refine aV ?_ h4;exact Nat.le_mul_of_pos_right _ (by omega)
 have hne:(n == 1||z.length == 0)=false:=by
  have e1:(n == 1)=false:=by rw[beq_eq_false_iff_ne];omega
  have e2:(z.length == 0)=false:=by rw[beq_eq_false_iff_ne];exact h3
  rw[e1,e2];rfl
 have hl:PySem.Builtin.Str.tooLong (z.length * n.toNat)=false:=by
  unfold PySem.Builtin.Str.tooLong;have q:=fF h4
  first
   |exact decide_eq_false (by omega)
   |simp only[decide_eq_false_iff_not];omega
 refine PySem.P.mul_str (by
   have e1:¬n < -(2 ^ 63:Int):=by omega
   have e2:¬n >= 2 ^ 63:=by omega
   rw[decide_eq_false e1,decide_eq_false e2];rfl) (λ_ _=>?_) (λ_ _=>hl) ?_
 ·have e:((2:Int) ^ 63 - 1) / 100000<=(2 ^ 63 - 1) / n:=by refine Int.le_ediv_of_mul_le (by omega) ?_;have:((2:Int) ^ 63 - 1) / 100000 * n<=((2:Int) ^ 63 - 1) / 100000 * 100000:=Int.mul_le_mul_of_nonneg_left h2 (by decide);exact Int.le_trans this (by decide)
  have e':(1000000:Int)<=(2 ^ 63 - 1) / 100000:=by decide
  unfold lim at hlen;omega
 ·rw[if_neg n1,if_neg (by rw[hne];exact aH)];exact⟨by show(tS n.toNat z).length<=_;rw[FF];exact fF h4,.str (tS n.toNat z),H,I.tok _,⟨_,rfl⟩,q⟩
def FG:gU
 |.int i,.int j,st=>if IntMulOk i j then .ok (.int (i * j)) st else .bad
 |.str z,.int n,st=>if pY z n then .ok (.str (tS n.toNat z)) st else .bad
 |_,_,_=> .bad
theorem Kv:jh X (aem .Mult) FG:=⟨_,fh.or Kb Ku,λx y a b st H m Q S rx ry p=>by
 cases x with
 |int i=>
  cases y with
  |int j=>
   cases a8 rx;cases a8 ry;have p':df X.K m H (if IntMulOk i j then .ok (.int (i * j)) st else .bad) Q:=p;by_cases c:IntMulOk i j
   ·rw[if_pos c]at p';exact .inl ⟨i,j,rfl,rfl,c,p' _ m H Ext.refl S mkInt⟩
   ·rw[if_neg c]at p';exact ab p'
  |_=>exact ab p
 |str z=>
  cases y with
  |int n=>
   obtain⟨rfl,hz⟩:=fO rx;cases a8 ry;have p':df X.K m H (if pY z n then .ok (.str (tS n.toNat z)) st else .bad) Q:=p;by_cases c:pY z n
   ·rw[if_pos c]at p';exact .inr ⟨z,n,rfl,rfl,c,p' _ m H Ext.refl S (mkStr (Df hz))⟩
   ·rw[if_neg c]at p';exact ab p'
  |_=>exact ab p
 |_=>exact ab p⟩
def dn:GE:=λ_ _=> .bad
def nN:GT:=λ_ _=> .bad
theorem bg:JE X e dn:=λρ st σ H m Q S R p=>ab p
theorem oS:JT X e nN:=λρ st σ H m Q S R p=>ab p
end
def eV(P:aeh)(w:aek)(K:PySem.W.Frag)(mg:Str->Option aej)(base:Heap)(k:Nat)(x:Str)(n:Nat)(F:List Wv->Hs->Re Wv):Prop :=
 ∃f fd ps,FnOk P w K mg base (CXJ P w) k f fd ps (spW K n F)/\mg x=some (.ref f)/\PySem.W.keepIn K (.ref f)=true/\Binds K fd ps []
variable{x:Str}
theorem eV.mono{mg:Str->Option aej}{j:Nat}(h:eV P w K mg base j x n F)(l:j<=k):eV P w K mg base k x n F:=by obtain⟨f,fd,ps,G,r⟩:=h;exact⟨f,fd,ps,G.mono l,r⟩
def bw(K:PySem.W.Frag)(x:Str)(st:Stmt):Prop:=∃f fd,PySem.W.nsIn K aet x=some (some (.ref f))/\J4 K x x st f fd
theorem rX{st:Stmt}{oc:aej}{od an:Option aed}{osl:Array (Option aej)}{kV doc pm ct:aej}(a:PySem.W.nsIn K aet x=some (some (.ref f)))
  (l:K.lookup f=some ⟨oc,od,.func (PySem.W.fnOf x x (defArgs st) (defBody st) (defScope st) .none kV doc pm an cdv ct),osl⟩)(c:PySem.W.codeIn K cdv x=true)(k:PySem.W.keepIn K (.ref f)=true):bw K x st:=⟨f,_,a,zC l c k⟩
theorem FH:aen "isinstance"=some (.builtin "isinstance"):=by decide+kernel
theorem Dg:aen "abs"=some (.builtin "abs"):=by decide+kernel
theorem Dh:aen "len"=some (.builtin "len"):=by decide+kernel
theorem FI:aen "int"=some (.type "int"):=by decide+kernel
theorem xH:aen "str"=some (.type "str"):=by decide+kernel
theorem FJ:aen "bool"=some (.type "bool"):=by decide+kernel
theorem rY:aen "tuple"=some (.type "tuple"):=by decide+kernel
theorem xI:aen "list"=some (.type "list"):=by decide+kernel
def dg(i:Nat)(gb:GS):List Wv->b7->Hs->Rs
 |[],ρ,st=> .nx ρ st
 |w::r,ρ,st=>match gb (ρ.set i (some w)) st with
  |.nx ρ' st'=>dg i gb r ρ' st'
  |.ct ρ' st'=>dg i gb r ρ' st'
  |.bk ρ' st'=> .nx ρ' st'
  |.rt w st'=> .rt w st'
  |.err c ρ' st'=> .err c ρ' st'
  |.bad=> .bad
variable{ga:GA}{lo:Int}{body:List Stmt}{J':It}{D:Ends}{tg iter:Expr}{q:Pos}
section
variable {X:Cx}
theorem nO(i:Nat)(hb:qK X body gb)(S1:cb X.K m1 st1 H1)(R:aS X.K m1 H1 ρ σ)(p1:bh X m1 H1 (dg i gb ws ρ st1) D)
  (hgo:∀(k:Nat)(H:Hp)(m':Mp),Ext X.K m1 H1 m' H->k < ws.length->J'.go k H)(hstop:∀(k:Nat)(H:Hp)(m':Mp),Ext X.K m1 H1 m' H->k=ws.length->J'.stop k H)
  (hy:∀(k:Nat)(hk:k < ws.length)(H:Hp)(x:V)(H':Hp)(m':Mp),Ext X.K m1 H1 m' H->J'.Ed k H x H'->H'=H/\ah X.K m' H ws[k] x):
  ∃W:Nat->Nat->St->Hp->Prop,(∃m,W 0 m σ H1)/\∀k n σ H,W k n σ H->
   (J'.stop k H/\D.nx σ H)\/(J'.go k H/\∃N:St->Hp->Prop,(∀σ' H',N σ' H'->∃m',m' < n/\W (k+1) m' σ' H')/\∀x H',J'.Ed k H x H'->xn i x σ H' λσ2 H2=>VV X body { D with nx:=N,ct:=N,bk:=D.nx } σ2 H2):=by
 let Pv:Nat->St->Hp->Prop:=λk σ H=>∃ρ st m',Ext X.K m1 H1 m' H/\cb X.K m' st H/\aS X.K m' H ρ σ/\bh X m' H (dg i gb (ws.drop k) ρ st) D
 refine⟨λk n σ H=>n=ws.length - k/\k<=ws.length/\Pv k σ H,⟨ws.length,by simp,cO _,ρ,st1,m1,Ext.refl,S1,R,p1⟩,?_⟩;rintro k n σ2 H2 ⟨rfl,hk,ρ2,st2,m2,e2,S2,R2,p2⟩;by_cases hlt:k < ws.length
 ·refine .inr ⟨hgo k H2 m2 e2 hlt,Pv (k+1),λσ' H' p'=>⟨ws.length - (k+1),by omega,rfl,hlt,p'⟩,λx H' y=>?_⟩;obtain⟨ee,y7⟩:=hy k hlt H2 x H' m2 e2 y;subst ee;have ed:ws.drop k=ws[k]::ws.drop (k+1):=zO hlt;rw[ed]at p2;refine hb _ st2 _ _ m2 _ S2 (R2.set i y7) ?_;unfold dg at p2;cases eg:gb (ρ2.set i (some ws[k])) st2 with
  |nx ρ3 st3=>rw[eg]at p2;exact λσ3 m3 H3 e3 S3 R3=>⟨ρ3,st3,m3,e2.trans e3,S3,R3,bh.shift p2 e3⟩
  |ct ρ3 st3=>rw[eg]at p2;exact λσ3 m3 H3 e3 S3 R3=>⟨ρ3,st3,m3,e2.trans e3,S3,R3,bh.shift p2 e3⟩
  |bk ρ3 st3=>rw[eg]at p2;exact p2
  |rt w3 st3=>rw[eg]at p2;exact p2
  |err c3 ρ3 st3=>rw[eg]at p2;exact p2
  |bad=>rw[eg]at p2;exact p2
 ·have e:k=ws.length:=by omega
  subst e;rw[FK]at p2;exact .inl ⟨hstop _ H2 m2 e2 rfl,p2 σ2 m2 H2 Ext.refl S2 R2⟩
def XM(K:PySem.W.Frag)(tl:TE):TI:=λσ H R=>tl σ H λx H1=>∃a,x= .ref a/\(((∃xs,mO K H1 a xs)/\R (ZW K a) H1)\/((∃xs,fM K H1 a xs)/\R (ZX K a) H1))
theorem FO{l:Expr}{tl:TE}(hl:PE X l tl):PI X tg l (XM X.K tl):=by
 intro pins s σ H R I h;refine bK (hl pins s σ H _ I h) λv s1 ⟨x,H1,I1,r1,q1⟩=>?_;obtain⟨a,e,q1⟩:=q1;subst e;cases r1;have frs:∀b∈[s1.heap.objs.size],iL X pins H1 b:=λb hb=>by
  have e:b=s1.heap.objs.size:=by simpa using hb
  subst e;exact I1.EA (aE _) (I1.hok.fresh (aE _))
 rcases q1 with ⟨⟨xs,hq⟩,q⟩ |⟨⟨xs,hq⟩,q⟩
 ·obtain⟨its,rv,p,hz⟩:=I1.list hq;refine wpAny_pyIter_list p.isList ?_;exact⟨s1.heap.objs.size,[s1.heap.objs.size],_,_,H1,rfl,I1.kept (t':=s1.toks) λb o e=>bt _ e,CO a _,⟨_,cj _ rfl,rfl,rfl⟩,frs,q⟩
 ·obtain⟨its,rv,p,hz⟩:=I1.tuple hq;refine wpAny_pyIter_tuple (show s1.heap.IsTuple a its.toArray from p) ?_;exact⟨s1.heap.objs.size,[s1.heap.objs.size],_,_,H1,rfl,I1.kept (t':=s1.toks) λb o e=>bt _ e,zf a _,⟨_,cj _ rfl,rfl,rfl⟩,frs,q⟩
def ql(i:Nat)(gi:GE)(gb:GS):GS:=λρ st=>(gi ρ st).bK ρ λw st1=>match w with
 |.ref l=>(match aG st1 l with |some ws=>forL i gb l ws ws ρ st1 |none=> .bad)
 |.tup ws=>dg i gb ws ρ st1
 |.rN ws=>dg i gb ws ρ st1
 |_=> .bad
theorem vR(i:Nat)(hN:X.N.Nodup)(hp:PassesOwn (model X.prog X.w) X.A X.env X.xe)(hc:X.calm=true)(hi:JE X iter gi)(hb:qK X body gb)
  (hx:X.N[i]? =some x)(hlo:Loc X.env.scope x)(O8:X.fn x=true\/X.env.scope.names.lookup x=some .local)
  (hs:∀x,aer iter X.env x=pure x):JS X (.For (.Name x pos') iter body [] pos) (ql i gi gb):=by
 refine JS.of (vq hp hc (FO bj) (nA hN hx hlo O8) iO hs) λρ st σ H m D S R p=>?_;refine hi.go S R (bh.dc R p) λw st1 v m1 H1 p1 e1 S1 rw'=>?_;cases w with
 |ref l=>
  have p1':bh X m H (match aG st1 l with |some ws=>forL i gb l ws ws ρ st1 |none=> .bad) D:=p1
  unfold ah at rw';obtain⟨a,rfl,hla⟩:=rw';cases el:aG st1 l with
  |none=>rw[el]at p1';exact ab p1'
  |some ws=>
   rw[el]at p1';obtain⟨TU,q0,_⟩:=S1.read hla el;refine⟨a,rfl,.inl ⟨⟨TU,q0⟩,?_⟩⟩
   let Pv:Nat->St->Hp->Prop:=λk σ H=>∃ρ st m',Ext X.K m1 H1 m' H/\cb X.K m' st H/\aS X.K m' H ρ σ/\aG st l=some ws/\bh X m' H (forL i gb l ws (ws.drop k) ρ st) D
   refine⟨λk n σ H=>n=ws.length - k/\k<=ws.length/\Pv k σ H,⟨ws.length,by simp,cO _,ρ,st1,m1,Ext.refl,S1,R.mono e1,el,bh.shift p1' e1⟩,?_⟩;rintro k n σ2 H2 ⟨rfl,hk,ρ2,st2,m2,e2,S2,R2,l2,p2⟩;obtain⟨xs,hq,rws⟩:=S2.read (e2.pre _ _ hla) l2;have hlen:=rws.length;by_cases hlt:k < ws.length
   ·have hx':k < xs.length:=by omega
    refine .inr ⟨⟨xs,xs[k],hq,by simp[hx']⟩,Pv (k+1),λσ' H' p'=>⟨ws.length - (k+1),by omega,rfl,hlt,p'⟩,λx H' y=>?_⟩;obtain⟨ee,y⟩:=y;subst ee;have ey:=y xs hq;have ed:ws.drop k=ws[k]::ws.drop (k+1):=zO hlt;obtain⟨x',ex',y7⟩:=rws.get (i:=k) (w:=ws[k]) (cA hlt);rw[ey]at ex';cases ex';rw[ed]at p2;refine hb _ st2 _ _ m2 _ S2 (R2.set i y7) ?_;unfold forL at p2;cases eg:gb (ρ2.set i (some ws[k])) st2 with
    |nx ρ3 st3=>
     rw[eg]at p2;by_cases c:aG st3 l=some ws
     ·simp only[if_pos c]at p2;exact λσ3 m3 H3 e3 S3 R3=>⟨ρ3,st3,m3,e2.trans e3,S3,R3,c,bh.shift p2 e3⟩
     ·simp only[if_neg c]at p2;exact ab p2
    |ct ρ3 st3=>
     rw[eg]at p2;by_cases c:aG st3 l=some ws
     ·simp only[if_pos c]at p2;exact λσ3 m3 H3 e3 S3 R3=>⟨ρ3,st3,m3,e2.trans e3,S3,R3,c,bh.shift p2 e3⟩
     ·simp only[if_neg c]at p2;exact ab p2
    |bk ρ3 st3=>rw[eg]at p2;exact p2
    |rt w3 st3=>rw[eg]at p2;exact p2
    |err c3 ρ3 st3=>rw[eg]at p2;exact p2
    |bad=>rw[eg]at p2;exact p2
   ·have e:k=ws.length:=by omega
    subst e;rw[FK]at p2;exact .inl ⟨⟨xs,hq,by omega⟩,p2 σ2 m2 H2 Ext.refl S2 R2⟩
 |tup ws=>
  unfold ah at rw';obtain⟨a,xs,rfl,hq,rws⟩:=rw';have hlen:=rws.length;refine⟨a,rfl,.inr ⟨⟨xs,fM.of hq⟩,?_⟩⟩;refine nO i hb (ws:=ws) S1 (R.mono e1) (bh.shift p1 e1) (λk H m' e hk=>?_) (λk H m' e hk=>?_) λk hk H x H' m' e y=>?_
  ·have hx':k < xs.length:=by omega
   exact⟨xs,xs[k],fM.of (e.tup _ _ hq),by simp[hx']⟩
  ·exact⟨xs,fM.of (e.tup _ _ hq),by omega⟩
  ·obtain⟨ee,y⟩:=y;refine⟨ee,?_⟩;obtain⟨x',ex',y7⟩:=(aq.mono e _ _ rws).get (i:=k) (w:=ws[k]) (cA hk);rw[y xs (fM.of (e.tup _ _ hq))]at ex';cases ex';exact y7
 |rN ws=>
  unfold ah at rw';obtain⟨a,xs,rfl,hq,rws⟩:=rw';have hlen:=rws.length;refine⟨a,rfl,.inr ⟨⟨xs,.inr hq⟩,?_⟩⟩;refine nO i hb (ws:=ws) S1 (R.mono e1) (bh.shift p1 e1) (λk H m' e hk=>?_) (λk H m' e hk=>?_) λk hk H x H' m' e y=>?_
  ·have hx':k < xs.length:=by omega
   exact⟨xs,xs[k],.inr hq,by simp[hx']⟩
  ·exact⟨xs,.inr hq,by omega⟩
  ·obtain⟨ee,y⟩:=y;refine⟨ee,?_⟩;obtain⟨x',ex',y7⟩:=(aq.mono e _ _ rws).get (i:=k) (w:=ws[k]) (cA hk);rw[y xs (.inr hq)]at ex';cases ex';exact y7
 |_=>exact ab p1
def cU(lo:Int)(n:Nat):List Wv:=(dh n).map λk:Nat=>Wv.int (lo+k)
theorem jm(h:k < n):(cU lo n)[k]? =some (.int (lo+k)):=by unfold cU;rw[eo,List.getElem?_range h];rfl
theorem xJ(h:k < (cU lo n).length):(cU lo n)[k]= .int (lo+k):=by have q:=jm (lo:=lo) (n:=n) (k:=k) (by unfold cU at h;simpa using h);rw[cA h]at q;exact Option.some.inj q
theorem c7:(cU lo n).length=n:=by unfold cU;simp
def dM(i:Int):Prop:=-(2 ^ 62)<=i/\i < 2 ^ 62
instance {i}:Decidable (dM i):=FP _
def mT(i:Nat)(ga:GA)(gb:GS):GS:=λρ st=>(ga ρ st).bK ρ λws st1=>match ws with
 |[.int j]=>if dM j then dg i gb (cU 0 j.toNat) ρ st1 else .bad
 |_=> .bad
def vS(i:Nat)(ga:GA)(gb:GS):GS:=λρ st=>(ga ρ st).bK ρ λws st1=>match ws with
 |[.int a,.int j]=>if dM a/\dM j then dg i gb (cU a (j - a).toNat) ρ st1 else .bad
 |_=> .bad
theorem Bz(i:Nat)(hb:qK X body gb)(S1:cb X.K m1 st1 H1)(R:aS X.K m1 H1 ρ σ)(p1:bh X m1 H1 (dg i gb (cU lo n) ρ st1) D):
  ∃W:Nat->Nat->St->Hp->Prop,(∃m,W 0 m σ H1)/\∀k n' σ H,W k n' σ H->
   ((Mr lo n).stop k H/\D.nx σ H)\/((Mr lo n).go k H/\∃N:St->Hp->Prop,(∀σ' H',N σ' H'->∃m',m' < n'/\W (k+1) m' σ' H')/\∀x H',(Mr lo n).Ed k H x H'->xn i x σ H' λσ2 H2=>VV X body { D with nx:=N,ct:=N,bk:=D.nx } σ2 H2) :=
 nO i hb S1 R p1 (λk H m' e hk=>by rw[c7]at hk;exact hk) (λk H m' e hk=>by rw[c7]at hk;exact nC hk.symm) λk hk H x H' m' e y=>by obtain⟨y1,y2⟩:=y;refine⟨y1,?_⟩;rw[xJ,y2];exact mkInt
theorem FQ(i:Nat)(hN:X.N.Nodup)(hp:PassesOwn (model X.prog X.w) X.A X.env X.xe)(hc:X.calm=true)(hg:Gl X "range")(hm:X.mg "range"=none)(ha:JA X [a] ga)(hb:qK X body gb)
  (hx:X.N[i]? =some x)(hlo:Loc X.env.scope x)(O8:X.fn x=true\/X.env.scope.names.lookup x=some .local)(hst:aev [a] X.env=[(false,eval a X.env)]):JS X (.For (.Name x pos') (.Call (.Name "range" p) [a] [] q) body [] pos) (mT i ga gb):=by
 refine JS.of (vq hp hc (uj hg hm kC hst) (nA hN hx hlo O8) iO (λ_=>rfl)) λρ st σ H m D S R p=>?_;refine ha.go S R (bh.dc R p) λws st1 vs m1 H1 p1 e1 S1 rs=>?_
 match ws,rs,p1 with
 |[],rs,p1=>exact ab p1
 |x::y::t,rs,p1=>cases x<;>exact ab p1
 |[x],rs,p1=>
  obtain⟨v,rfl,r1⟩:=kZ rs;cases x with
  |int j=>
   cases a8 r1;have p2:bh X m H (if dM j then dg i gb (cU 0 j.toNat) ρ st1 else .bad) D:=p1;by_cases c:dM j
   ·rw[if_pos c]at p2;exact⟨j,rfl,c.1,c.2,Bz i hb S1 (R.mono e1) (bh.shift p2 e1)⟩
   ·rw[if_neg c]at p2;exact ab p2
  |_=>exact ab p1
theorem FR(i:Nat){b:Expr}(hN:X.N.Nodup)(hp:PassesOwn (model X.prog X.w) X.A X.env X.xe)(hc:X.calm=true)(hg:Gl X "range")(hm:X.mg "range"=none)(ha:JA X [a,b] ga)(hb:qK X body gb)
  (hx:X.N[i]? =some x)(hlo:Loc X.env.scope x)(O8:X.fn x=true\/X.env.scope.names.lookup x=some .local)(hst:aev [a,b] X.env=[(false,eval a X.env),(false,eval b X.env)])(O9:aev [b] X.env=[(false,eval b X.env)]):JS X (.For (.Name x pos') (.Call (.Name "range" p) [a,b] [] q) body [] pos) (vS i ga gb):=by
 refine JS.of (vq hp hc (uk hg hm kC hst O9) (nA hN hx hlo O8) iO (λ_=>rfl)) λρ st σ H m D S R p=>?_;refine ha.go S R (bh.dc R p) λws st1 vs m1 H1 p1 e1 S1 rs=>?_
 match ws,rs,p1 with
 |[],rs,p1=>exact ab p1
 |[x],rs,p1=>cases x<;>exact ab p1
 |x::y::z::t,rs,p1=>cases x<;>cases y<;>exact ab p1
 |[x,y],rs,p1=>
  obtain⟨v,v',rfl,r1,r2⟩:=Fp rs;cases x with
  |int a=>
   cases y with
   |int j=>
    cases a8 r1;cases a8 r2;have p2:bh X m H (if dM a/\dM j then dg i gb (cU a (j - a).toNat) ρ st1 else .bad) D:=p1;by_cases c:dM a/\dM j
    ·rw[if_pos c]at p2;exact⟨a,j,rfl,⟨c.1.1,c.1.2,c.2.1,c.2.2⟩,Bz i hb S1 (R.mono e1) (bh.shift p2 e1)⟩
    ·rw[if_neg c]at p2;exact ab p2
   |_=>exact ab p1
  |_=>cases y<;>exact ab p1
theorem Kx:JS X (.Return none pos) (aN (gC .non)):=JS.of Jw λρ st σ H m D S R p=>p .non m H Ext.refl S Bv
end
abbrev RT:List aej:=[.type "ValueError",.type "Exception",.type "BaseException",.type "object"]
abbrev RU:String:="ValueError.__new__"
structure Ky(K:PySem.W.Frag)(c:PySem.Str)(C:aed):Prop where
 cls:ClsAt K c C
 exc:PySem.W.excIn K C RT RU=true
structure Kz(K:PySem.W.Frag)(C:aed):Prop where
 exc:PySem.W.excIn K C RT RU=true
 ga:PySem.W.findIn K (.ref C) "__getattribute__"=some (some (.builtin "BaseException.__getattribute__"))
 gx:PySem.W.findIn K (.ref C) "__getattr__"=some none
 cl:PySem.W.findIn K (.ref C) "__class__"=some (some (.builtin "object.__class__"))
structure Stk(X:Cx):Prop where
 st:X.stack=X.env::X.outer
 fr:X.env.frame=some X.env.locals
 ex:X.ex=[]
theorem Di{a:aed}{o:HO}(x:du P w H h a o):∃u,h.get? a=some u:=by
 cases o with
 |lst xs=>obtain⟨_,_,_,_,e⟩:=x;exact⟨_,e⟩
 |tup xs=>obtain⟨_,_,_,⟨ob,e,_⟩,_⟩:=x;exact⟨_,e⟩
 |dK kvs=>obtain⟨_,_,_,_,ob,_,_,e,_⟩:=x;exact⟨_,e⟩
 |dT kvs=>obtain⟨_,_,_,_,ob,_,_,e,_⟩:=x;exact⟨_,e⟩
 |dN kvs=>obtain⟨_,_,_,_,ob,_,_,e,_⟩:=x;exact⟨_,e⟩
 |set S n=>obtain⟨ob,_,_,_,e,_⟩:=x;exact⟨_,e⟩
 |ins C dx fs=>obtain⟨_,_,_,e,_⟩:=x;exact⟨_,e⟩
 |own y=>exact x
 |xd fs=>obtain⟨_,⟨_,_,_,e,_⟩,_⟩:=x;exact⟨_,e⟩
 |VL lo hi=>obtain⟨_,_,_,e⟩:=x;exact⟨_,e⟩
 |oI ob u=>obtain⟨e,_⟩:=x;exact⟨_,e⟩
 |mx ps=>exact⟨_,x⟩
 |met f y=>exact⟨_,x⟩
 |ext φ=>exact x.2.1
def TV(o:Obj):Prop:=∃vs,o.data= .fields vs/\vs[2]? =some cN
abbrev Tab:=List ((PySem.Str×PySem.Str)×Bool)
abbrev Dj:=List ((PySem.Str×String)×Bool)
structure TabOk(K:PySem.W.Frag)(tb:Tab)(tt:Dj)(tc:Tab):Prop where
 own:∀c d b C D,tb.lookup (c,d)=some b->ClsAt K c C->ClsAt K d D->Kz K C/\PySem.W.kitOne K (.ref C) (.ref D)=some b
 cat:∀c d b C D,tc.lookup (c,d)=some b->ClsAt K c C->ClsAt K d D->PySem.W.excIn K C RT RU=true/\PySem.W.excIn K D RT RU=true/\PySem.W.mroIn K C (.ref D)=some b
 typ:∀c T b C,tt.lookup (c,T)=some b->ClsAt K c C->Kz K C/\PySem.W.kitOne K (.ref C) (.type T)=some b
def nR(tb:Tab)(tt:Dj):List Wv->Hs->Re Wv:=TN
section
variable {X:Cx}
theorem O_{tb:Tab}{tt:Dj}{tc:Tab}(O:TabOk X.K tb tt tc):cY X (.builtin "isinstance") (nR tb tt):=O4
end
section
variable {X:Cx}{pins:List (aed×Obj)}{σ:St}{H:Hp}{s:aei}
def Pa(X:Cx):Prop:=X.A.handled=none\/∃a o u,X.A.handled=some (.ref a)/\TV o/\X.H₀ a=some (.oI o u)
def Dk(A:aee)(H:Hp):Prop:=A.handled=none\/∃a o u,A.handled=some (.ref a)/\TV o/\H a=some (.oI o u)
theorem Pa.at(h:Pa X)(I:Inv X pins σ H s):Dk X.A H:=h.imp id λ⟨a,o,u,h1,h2,h3⟩=>⟨a,o,u,h1,h2,I.base.qi _ _ _ h3⟩
end
theorem FT(x:String):aY (lV x)=true:=by
 unfold aY;rw[MH];intro c hc;have:∃ch:Char,c=ch.toNat:=by rw[Str.ofString_eq_toList]at hc;simp at hc;obtain⟨ch,_,e⟩:=hc;exact⟨ch,e.symm⟩
 obtain⟨ch,rfl⟩:=this;have h:=ch.valid;simp only[decide_eq_true_eq];rcases h with h |⟨_,h⟩
 ·exact vK h (by decide)
 ·exact h
section
variable {X:Cx}
def Pb:List Wv->Hs->Re Wv
 |[.int i],st=>if i.natAbs.log2 < 1920 then .ok (.str (toString i:String)) st else .bad
 |_,_=> .bad
theorem Pc:cY X (.type "str") Pb:=⟨_,vx,λws vs st H m Q S r p=>by
 match ws,r,p with
 |[],r,p=>exact ab p
 |x::y::t,r,p=>cases x<;>exact ab p
 |[x],r,p=>
  obtain⟨v,rfl,rx⟩:=kZ r;cases x with
  |int i=>
   cases a8 rx;have p':df X.K m H (if i.natAbs.log2 < 1920 then .ok (.str (toString i:String)) st else .bad) Q:=p;by_cases c:i.natAbs.log2 < 1920
   ·rw[if_pos c]at p';exact⟨i,rfl,c,p' _ m H Ext.refl S (mkStr (FT _))⟩
   ·rw[if_neg c]at p';exact ab p'
  |_=>exact ab p⟩
def iz(o v:Wv)(st:Hs):Re Wv:=match o with
 |.ref l=>(match st[l]? with
  |some (.lst ws)=>if ws.length < lim then .ok .non (st.set l (.lst (ws++[v])))else .bad
  |_=> .bad)
 |_=> .bad
def Pd(o v:Wv)(st:Hs):Re Wv:=match o,v with
 |.ref l,.ref k=>(match st[l]?,st[k]? with
  |some (.lst ws),some (.lst zs)=>if ws.length+zs.length<=lim then .ok .non (st.set l (.lst (ws++zs)))else .bad
  |_,_=> .bad)
 |_,_=> .bad
def k6(mt:Wv->Wv->Hs->Re Wv)(go ga:GE):GE:=λρ st=>(go ρ st).bind λo st1=>match o with
 |.ref l=>(match aG st1 l with
  |some _=>(ga ρ st1).bind λv st2=>(mt o v st2).pW
  |none=> .bad)
 |_=> .bad
def VZ(X:Cx)(id:String)(mt:Wv->Wv->Hs->Re Wv):Prop:=∃r,Xu X id r/\∀(o w:Wv)(x v:V)(st:Hs)(H:Hp)(m:Mp)(Q:VK),cb X.K m st H->ah X.K m H o x->ah X.K m H w v->df X.K m H (mt o w st) Q->r x [v] H Q
theorem FU:VZ X "list.append" iz:=⟨_,C4,λo w x v st H m Q S ro rw' p=>by
 cases o with
 |ref l=>
  unfold ah at ro;obtain⟨a,rfl,ha⟩:=ro;have p':df X.K m H (match st[l]? with |some (.lst ws)=>if ws.length < lim then .ok .non (st.set l (.lst (ws++[w])))else .bad |_=> .bad) Q:=p
  cases e:st[l]? with
  |none=>rw[e]at p';exact ab p'
  |some ob=>
   cases ob with
   |dct kvs=>rw[e]at p';exact ab p'
   |et kvs=>rw[e]at p';exact ab p'
   |zE kvs=>rw[e]at p';exact ab p'
   |Ef kvs=>rw[e]at p';exact ab p'
   |oK kvs=>rw[e]at p';exact ab p'
   |ins _ _=>rw[e]at p';exact ab p'
   |rO ns=>rw[e]at p';exact ab p'
   |lst ws=>
    rw[e]at p';dsimp only at p';by_cases c:ws.length < lim
    ·rw[if_pos c]at p';obtain⟨xs,h1,h2⟩:=S.rP ha e;have e4:Ext X.K m H m (upd H a (.lst (xs++[v]))):=Ext.upd (.inr ⟨xs,h1⟩);exact⟨a,xs,v,rfl,rfl,h1,by rw[<-h2.length];exact vM c,p' _ m _ e4 (S.write ha e (h2.append (aq.cons rw' aq.nil))) Bv⟩
    ·rw[if_neg c]at p';exact ab p'
 |_=>exact ab p⟩
theorem Pe:VZ X "list.extend" Pd:=⟨_,C5,λo w x v st H m Q S ro rw' p=>by
 cases o with
 |ref l=>
  cases w with
  |ref k=>
   unfold ah at ro rw';obtain⟨a,rfl,ha⟩:=ro;obtain⟨b,rfl,hb⟩:=rw';have p':df X.K m H (match st[l]?,st[k]? with |some (.lst ws),some (.lst zs)=>if ws.length+zs.length<=lim then .ok .non (st.set l (.lst (ws++zs)))else .bad |_,_=> .bad) Q:=p
   cases e:st[l]? with
   |none=>rw[e]at p';exact ab p'
   |some ob=>
    cases ob with
    |dct kvs=>rw[e]at p';exact ab p'
    |et kvs=>rw[e]at p';exact ab p'
    |zE kvs=>rw[e]at p';exact ab p'
    |Ef kvs=>rw[e]at p';exact ab p'
    |oK kvs=>rw[e]at p';exact ab p'
    |ins _ _=>rw[e]at p';exact ab p'
    |rO ns=>rw[e]at p';exact ab p'
    |lst ws=>
     cases e2:st[k]? with
     |none=>rw[e,e2]at p';exact ab p'
     |some ob2=>
      cases ob2 with
      |dct kvs=>rw[e,e2]at p';exact ab p'
      |et kvs=>rw[e,e2]at p';exact ab p'
      |zE kvs=>rw[e,e2]at p';exact ab p'
      |Ef kvs=>rw[e,e2]at p';exact ab p'
      |oK kvs=>rw[e,e2]at p';exact ab p'
      |ins _ _=>rw[e,e2]at p';exact ab p'
      |rO ns=>rw[e,e2]at p';exact ab p'
      |lst zs=>
       rw[e,e2]at p';dsimp only at p';by_cases c:ws.length+zs.length<=lim
       ·rw[if_pos c]at p';obtain⟨xs,h1,h2⟩:=S.rP ha e;obtain⟨ys,g1,g2⟩:=S.rP hb e2;have e4:Ext X.K m H m (upd H a (.lst (xs++ys))):=Ext.upd (.inr ⟨xs,h1⟩);exact⟨a,b,xs,ys,rfl,rfl,h1,g1,by rw[<-h2.length,<-g2.length];exact fF c,p' _ m _ e4 (S.write ha e (h2.append g2)) Bv⟩
       ·rw[if_neg c]at p';exact ab p'
  |_=>exact ab p
 |_=>exact ab p⟩
theorem BA{name:Str}{go ga:GE}{apos cpos:Pos}{mt:Wv->Wv->Hs->Re Wv}(hm:VZ X id mt)(slot:Slot "list" name id)(hty:typeOf (.builtin id)=pure (.type "method_descriptor"))(ho:JE X (.Name x p) go)(ha:JE X e ga)
  (hst:aev [e] X.env=[(false,eval e X.env)])(hline:(apos.endLine == cpos.line)=true):JE X (.Call (.Attribute (.Name x p) name apos) [e] [] cpos) (k6 mt go ga):=by
 obtain⟨r,h1,h2⟩:=hm;have hfew:((backTo cpos (aev [e] X.env)).all (λx=> !x.1)&&(backToKw cpos (keywordEach [] X.env)).all (λx=>x.1.isSome)&&decide ([e].length+([]:List Keyword).length+(if([]:List Keyword).isEmpty then 0 else 1) < 30))=true:=by rw[hst];rfl
 refine JE.of (S_ PySem.F.plainAttrs_list slot hty h1 bj kC rfl hfew hline hst rfl) λρ st σ H m Q S R p=>?_;refine ho.go S R (aM.bind p) λo st1 v m1 H1 p1 e1 S1 ro=>?_;cases o with
 |ref l=>
  dsimp only at p1;cases el:aG st1 l with
  |none=>rw[el]at p1;exact ab p1
  |some ws0=>
   rw[el]at p1;dsimp only at p1;have ro':=ro;unfold ah at ro';obtain⟨a,rfl,hla⟩:=ro';obtain⟨xs,hq,_⟩:=S1.read hla el;refine⟨.inl ⟨rfl,xs,hq⟩,?_⟩;refine(Bu ha Fj hst).go S1 (R.mono e1) (ok:=λws st2=>aM X σ m H (match ws with |[w]=>(mt (.ref l) w st2).pW |_=> .bad) (To X.K m H Q)) ?_ λws st2 vs m2 H2 p2 e2 S2 rs=>?_
   ·have p3:=(aM.bind p1).imp e1 (λ_ _ q=>q);show aM X σ m1 H1 ((ga ρ st1).bind λx st1=>(aj ρ st1).bind λxs st2=> .ok (x::xs) st2) _;cases eg:ga ρ st1 with
    |ok w st2=>rw[eg]at p3;exact p3
    |err c st2=>rw[eg]at p3;exact p3
    |bad=>rw[eg]at p3;exact p3
   ·match ws,rs,p2 with
    |[],rs,p2=>exact ab p2
    |[w],rs,p2=>obtain⟨v2,rfl,rw2⟩:=kZ rs;exact h2 (.ref l) w (.ref a) v2 st2 H2 m2 Q S2 (ah.mono e2 _ _ ro) rw2 (df.shift (aM.pW p2) (e1.trans e2))
    |_::_::_,rs,p2=>exact ab p2
 |_=>exact ab p1
end
section
variable {X:Cx}
def uG:List Wv->Hs->Re Wv
 |[.str z],st=> .ok (.str z) st
 |ws,st=>Pb ws st
theorem zP:dJ X (.type "str") (λxs H Q=>∃z,xs=[.str z]/\Q (.str z) H):=by intro pins s σ H xs us Q I r h;obtain⟨z,rfl,q⟩:=h;obtain⟨u,rfl,t,rfl⟩:=vals1 r;exact PySem.P.str_of_str ⟨.str z,H,I,⟨t,rfl⟩,q⟩
theorem KC:cY X (.type "str") uG:=by
 obtain⟨r,h1,h2⟩:=Pc (X:=X);refine⟨_,zP.or h1,λws vs st H m Q S rs p=>?_⟩;unfold uG at p;split at p
 ·obtain⟨v,rfl,r1⟩:=kZ rs;obtain⟨rfl,hz⟩:=fO r1;exact .inl ⟨_,rfl,p _ m H Ext.refl S (mkStr hz)⟩
 ·exact .inr (h2 ws vs st H m Q S rs p)
def TX:List Wv->Hs->Re Wv
 |[.int i,.int j],st=> .ok (.int (if j > i then j else i)) st
 |_,_=> .bad
def TY:List Wv->Hs->Re Wv
 |[.int i,.int j],st=> .ok (.int (if j < i then j else i)) st
 |_,_=> .bad
theorem Pf(hc:X.calm=true):cY X (.builtin "max") TX:=⟨_,CU hc,λws vs st H m Q S rs p=>by
 match ws,rs,p with
 |[],rs,p=>exact ab p
 |[x],rs,p=>cases x<;>exact ab p
 |x::y::z::t,rs,p=>cases x<;>cases y<;>exact ab p
 |[x,y],rs,p=>
  obtain⟨v,v',rfl,r1,r2⟩:=Fp rs;cases x with
  |int i=>
   cases y with
   |int j=>cases a8 r1;cases a8 r2;exact⟨i,j,rfl,p _ m H Ext.refl S mkInt⟩
   |_=>exact ab p
  |_=>cases y<;>exact ab p⟩
theorem Pg(hc:X.calm=true):cY X (.builtin "min") TY:=⟨_,CV hc,λws vs st H m Q S rs p=>by
 match ws,rs,p with
 |[],rs,p=>exact ab p
 |[x],rs,p=>cases x<;>exact ab p
 |x::y::z::t,rs,p=>cases x<;>cases y<;>exact ab p
 |[x,y],rs,p=>
  obtain⟨v,v',rfl,r1,r2⟩:=Fp rs;cases x with
  |int i=>
   cases y with
   |int j=>cases a8 r1;cases a8 r2;exact⟨i,j,rfl,p _ m H Ext.refl S mkInt⟩
   |_=>exact ab p
  |_=>cases y<;>exact ab p⟩
def Dl:List Nat->List Wv->b7->Option b7
 |[],[],ρ=>some ρ
 |i::is,w::ws,ρ=>Dl is ws (ρ.set i (some w))
 |_,_,_=>none
def bdT(is:List Nat)(w:Wv)(ρ:b7):Option b7:=match w with
 |.tup ws=>Dl is ws ρ
 |_=>none
def XN:List Nat->Mq
 |[]=>L2.aj
 |i::is=>L2.aa (xn i) (XN is)
theorem xK{m:Mp}{H:Hp}{Q:St->Hp->Prop}:∀{is:List Nat}{ws:List Wv}{xs:List V}{ρ ρ':b7}{σ:St},aq X.K m H ws xs->aS X.K m H ρ σ->Dl is ws ρ=some ρ'->(∀σ',aS X.K m H ρ' σ'->Q σ' H)->XN is xs σ H Q
 |[],[],xs,ρ,ρ',σ,r,R,e,k=>by unfold aq at r;subst r;cases e;exact⟨rfl,k σ R⟩
 |i::is,w::ws,xs,ρ,ρ',σ,r,R,e,k=>by unfold aq at r;obtain⟨x,rr,rfl,h1,h2⟩:=r;exact⟨x,rr,rfl,xK (is:=is) h2 (R.set i h1) e k⟩
 |[],_::_,_,_,_,_,_,_,e,_=>by cases e
 |_::_,[],_,_,_,_,_,_,e,_=>by cases e
theorem xM:∀{is:List Nat}{ws:List Wv}{ρ ρ':b7},Dl is ws ρ=some ρ'->ws.length=is.length
 |[],[],_,_,_=>rfl
 |_::is,_::ws,_,_,e=>congrArg (· +1) (xM (is:=is) (ws:=ws) e)
 |[],_::_,_,_,e=>by cases e
 |_::_,[],_,_,e=>by cases e
inductive Slots(X:Cx):List Expr->List Nat->Prop
 |nil:Slots X [] []
 |cons {x:Str}{p:Pos}{i:Nat}{es:List Expr}{is:List Nat}:X.N[i]? =some x->(Loc X.env.scope x/\(X.fn x=true\/X.env.scope.names.lookup x=some .local))->Slots X es is->Slots X (.Name x p::es) (i::is)
theorem uH(hN:X.N.Nodup):∀{es:List Expr}{is:List Nat},Slots X es is->Ss X es (XN is)
 |_,_,.nil=>Jy
 |_,_,.cons h1 h2 r=>Ey (nA hN h1 h2.1 h2.2) (uH hN r) rfl
theorem xN:∀{es:List Expr}{is:List Nat},Slots X es is->(assignEach es X.env).length=is.length
 |_,_,.nil=>rfl
 |_,_,.cons _ _ r=>congrArg (· +1) (xN r)
theorem uI:∀{es:List Expr}{is:List Nat},Slots X es is->(assignEach es X.env).findIdx? (·.1)=none
 |_,_,.nil=>rfl
 |_,_,.cons (x:=x) (p:=p) (es:=es) _ _ r=>by have q:=uI r;show List.findIdx? _ ((false,assign (.Name x p) X.env)::assignEach es X.env)=none;rw[List.findIdx?_cons];simp[q]
def mI(is:List Nat)(g:GE):GS:=λρ st=>(g ρ st).bK ρ λw st'=>match bdT is w ρ with
 |some ρ'=> .nx ρ' st'
 |none=> .bad
theorem KG{is:List Nat}(hN:X.N.Nodup)(hc:X.calm=true)(sl:Slots X es is)(h:JE X e g)(hs:swapsWith e (some (.Tuple es k pos')) pos.line X.env=pure false)(hw:swappedStores [.Tuple es k pos'] e X.env=pure none):
  JS X (.Assign [.Tuple es k pos'] e pos) (mI is g) :=
 JS.of (Ez bj (NN hc (uH hN sl) (xN sl) (uI sl)) (by unfold swapsWithSole;exact hs) hw rfl) λρ st σ H m D S R p=>h.go S R (bh.dc R p) λw st1 v m1 H1 q e1 S1 r1=>by
  cases w with
  |tup ws=>
   have q':bh X m H (match Dl is ws ρ with |some ρ'=> .nx ρ' st1 |none=> .bad) D:=q
   cases e2:Dl is ws ρ with
   |none=>rw[e2]at q';exact ab q'
   |some ρ'=>rw[e2]at q';unfold ah at r1;obtain⟨a,xs,rfl,f1,f2⟩:=r1;exact⟨a,xs,rfl,fM.of f1,by rw[<-f2.length];exact xM e2,xK f2 (R.mono e1) e2 λσ' R'=>q' σ' m1 H1 e1 S1 R'⟩
  |_=>exact ab q
end
def vT(env:Env):List (Str×aeg)->List (Str×aed)->List (Str×aed)
 |[],acc=>acc
 |(n,k)::r,acc=>if k= .free then vT env r ((n,(env.cells.lookup n).getD 0)::acc)else vT env r acc
theorem xO(env:Env):∀(names:List (Str×aeg))(acc:List (Str×aed)),(∀y∈names,y.2= .free->∃c,env.cells.lookup y.1=some c)->
  (forIn names acc λx r=>match x with
   |(name,kind)=>if(kind == fi)=true then do let c <-cellOf env name;pure (oM ((name,c)::r))else(pure (oM r):Sem _))=pure (vT env names acc)
 |[],acc,_=>rfl
 |(n,k)::r,acc,h=>by
  have ih:=λacc=>xO env r acc λy hy=>h y (bb _ hy);rw[Em];by_cases hk:k= .free
  ·subst hk;obtain⟨c,e⟩:=h (n,.free) bC rfl;have e':env.cells.lookup n=some c:=e;have cc:cellOf env n=pure c:=by unfold cellOf;rw[e']
   simp only[beq_self_eq_true,if_true,cc];have q:vT env ((n,.free)::r) acc=vT env r ((n,c)::acc):=by show(if fi= .free then vT env r ((n,(env.cells.lookup n).getD 0)::acc)else _)=_;rw[if_pos rfl,e'];rfl
   rw[q,<-ih];rfl
  ·have hb:(k == fi)=false:=by simpa using hk
   simp only[hb,eS,if_false];have q:vT env ((n,k)::r) acc=vT env r acc:=by show(if k= .free then _ else vT env r acc)=_;rw[if_neg hk]
   rw[q,<-ih];rfl
theorem KH(h:∀y∈scope.names,y.2= .free->∃c,env.cells.lookup y.1=some c):closureFor scope env=pure (vT env scope.names []):=by
 have q:=xO env scope.names [] h;unfold closureFor
 first
  |(rw[<-q];rfl)
  |(simp only[bind_pure];exact q)
theorem vU{env:Env}:∀{names:List (Str×aeg)}{acc:List (Str×aed)}{y:Str}{c:aed},(∀y∈names,y.2= .free->∃c,env.cells.lookup y.1=some c)->(∀y c,acc.lookup y=some c->env.cells.lookup y=some c)->(vT env names acc).lookup y=some c->env.cells.lookup y=some c
 |[],acc,y,c,_,ha,e=>ha y c e
 |(n,k)::r,acc,y,c,h,ha,e=>by
  unfold vT at e;by_cases hk:k= .free
  ·rw[if_pos hk]at e;subst hk;obtain⟨c0,e0⟩:=h (n,.free) bC rfl;have e0':env.cells.lookup n=some c0:=e0;refine vU (λy hy=>h y (bb _ hy)) (λy' c' e'=>?_) e;rw[eG]at e';cases q:y' == n with
   |true=>rw[q]at e';have q':=eq_of_beq q;subst q';rw[e0']at e' ⊢;exact e'
   |false=>rw[q]at e';exact ha y' c' e'
  ·rw[if_neg hk]at e;exact vU (λy hy=>h y (bb _ hy)) ha e
theorem qL{env:Env}{y:Str}:∀{names:List (Str×aeg)}{acc:List (Str×aed)},((∃c,acc.lookup y=some c)\/(y,fi)∈names)->∃c,(vT env names acc).lookup y=some c
 |[],acc,h=>by
  rcases h with h |h
  ·exact h
  ·cases h
 |(n,k)::r,acc,h=>by
  unfold vT;by_cases hk:k= .free
  ·rw[if_pos hk];refine qL ?_;rw[eG];cases q:y == n with
   |true=>exact .inl ⟨_,rfl⟩
   |false=>
    rcases h with h |h
    ·exact .inl h
    ·rcases List.mem_cons.mp h with h |h
     ·cases h;simp at q
     ·exact .inr h
  ·rw[if_neg hk];refine qL ?_;rcases h with h |h
   ·exact .inl h
   ·rcases List.mem_cons.mp h with h |h
    ·cases h;exact absurd rfl hk
    ·exact .inr h
theorem lookup_mem{α β:Type}[BEq α][LawfulBEq α]{y:α}{k:β}:∀{names:List (α×β)},names.lookup y=some k->(y,k)∈names
 |[],h=>by cases h
 |(n,j)::r,h=>by
  rw[eG]at h;cases q:y == n with
  |true=>rw[q]at h;cases h;have q':=eq_of_beq q;subst q';exact bC
  |false=>rw[q]at h;exact bb _ (lookup_mem h)
theorem nT{env:Env}:∀{names:List (Str×aeg)}{y:Str},(names.map λ(n,k)=>if(k == fi&&env.scope.kind == .function&&env.kindOf n == some .cell)then(n,fj)else(n,k)).lookup y=
  (names.lookup y).map λk=>if(k == fi&&env.scope.kind == .function&&env.kindOf y == some .cell)=true then fj else k
 |[],y=>rfl
 |(n,k)::r,y=>by
  have ih:=nT (env:=env) (names:=r) (y:=y);show jH y ((if(k == fi&&env.scope.kind == .function&&env.kindOf n == some .cell)=true then(n,fj)else(n,k))::_)=_;cases q:y == n with
  |true=>
   have q':=eq_of_beq q;subst q';by_cases hc:(k == fi&&env.scope.kind == .function&&env.kindOf y == some .cell)=true
   ·rw[if_pos hc];simp only[eG,beq_self_eq_true,nz];rw[if_pos hc]
   ·rw[if_neg hc];simp only[eG,beq_self_eq_true,nz];rw[if_neg hc]
  |false=>
   by_cases hc:(k == fi&&env.scope.kind == .function&&env.kindOf n == some .cell)=true
   ·rw[if_pos hc];simp only[eG,q];exact ih
   ·rw[if_neg hc];simp only[eG,q];exact ih
open Classical in
def k9(ck:Hs->Prop)(gt:Wv->Hs->Re Bool)(ge:Wv->Hs->Re Wv)(l:Nat):List Wv->Hs->Option Hs
 |[],st=>some st
 |w::r,st=>match gt w st with
  |.ok false st1=>if ck st1 then k9 ck gt ge l r st1 else none
  |.ok true st1=>(match ge w st1 with
   |.ok v st2=>(match iz (.ref l) v st2 with
    |.ok _ st3=>if ck st3 then k9 ck gt ge l r st3 else none
    |_=>none)
   |_=>none)
  |_=>none
open Classical in
def pZ(ck:Hs->Prop)(gt:Wv->Hs->Re Bool)(ge:Wv->Hs->Re Wv)(l:Nat):List Wv->Hs->Re Unit
 |[],st=> .ok () st
 |w::r,st=>match gt w st with
  |.ok false st1=>if ck st1 then pZ ck gt ge l r st1 else .bad
  |.ok true st1=>(match ge w st1 with
   |.ok v st2=>(match iz (.ref l) v st2 with
    |.ok _ st3=>if ck st3 then pZ ck gt ge l r st3 else .bad
    |_=> .bad)
   |.err c st2=> .err c st2
   |.bad=> .bad)
  |.err c st1=> .err c st1
  |.bad=> .bad
theorem rZ{ck:Hs->Prop}{gt:Wv->Hs->Re Bool}{ge:Wv->Hs->Re Wv}{l:Nat}{BB:Hs}:∀(ws:List Wv)(st:Hs),k9 ck gt ge l ws st=some BB->pZ ck gt ge l ws st= .ok () BB
 |[],st,h=>by cases h;rfl
 |w::r,st,h=>by
  unfold k9 at h;unfold pZ;cases eg:gt w st with
  |err c st1=>rw[eg]at h;cases h
  |bad=>rw[eg]at h;cases h
  |ok b st1=>
   rw[eg]at h;cases b with
   |false=>
    dsimp only at h ⊢;by_cases c:ck st1
    ·rw[if_pos c]at h ⊢;exact rZ r st1 h
    ·rw[if_neg c]at h;cases h
   |true=>
    dsimp only at h ⊢;cases ee:ge w st1 with
    |err c st2=>rw[ee]at h;cases h
    |bad=>rw[ee]at h;cases h
    |ok v st2=>
     rw[ee]at h;dsimp only at h ⊢;cases ea:iz (.ref l) v st2 with
     |err c st3=>rw[ea]at h;cases h
     |bad=>rw[ea]at h;cases h
     |ok u st3=>
      rw[ea]at h;dsimp only at h ⊢;by_cases c:ck st3
      ·rw[if_pos c]at h ⊢;exact rZ r st3 h
      ·rw[if_neg c]at h;cases h
abbrev iM:=List (Str×Nat)
def kM(cs:iM)(ρ:b7):b7:=cs.map λp=>(ρ[p.2]?).getD none
def vV(cs:iM)(σ:St):St:=cs.map λp=>(σ[p.2]?).getD none
theorem KI(cs:iM)(R:aS K m H ρ σ):aS K m H (kM cs ρ) (vV cs σ):=by
 refine⟨by unfold kM vV;simp,λi w e=>?_⟩;unfold kM at e;rw[eo]at e;cases q:cs[i]? with
 |none=>rw[q]at e;cases e
 |some p=>
  rw[q]at e;have e':(ρ[p.2]?).getD none=some w:=by simpa using e
  cases q2:ρ[p.2]? with
  |none=>rw[q2]at e';cases e'
  |some o=>rw[q2]at e';have e2:o=some w:=e';subst e2;obtain⟨v,h1,h2⟩:=R.get _ _ q2;refine⟨v,?_,h2⟩;unfold vV;rw[eo,q];simp[h1]
def y8(X:Cx)(scope:Scope)(C:aed):List (Str×aed):=cellsFrom (C+1) scope.names (vT X.env scope.names [])
theorem nU:∀{names:List (Str×aeg)}(n:Nat)(acc:List (Str×aed))(h:Heap),(names.filter λy=>y.2 == .cell)=[]->cellsFrom n names acc=acc/\pushCells h names=h
 |[],_,_,_,_=>⟨rfl,rfl⟩
 |(y,k)::r,n,acc,h,e=>by
  cases q:(k == fj)with
  |true=>rw[FV (by exact q)]at e;cases e
  |false=>rw[FW (by show ¬(k == fj)=true;rw[q];exact aH)]at e;unfold cellsFrom pushCells;rw[q];exact nU n acc h e
theorem jo{x:Str}:∀{names:List (Str×aeg)}(n:Nat)(acc:List (Str×aed))(h:Heap),(names.filter λy=>y.2 == .cell)=[(x,.cell)]->cellsFrom n names acc=(x,n)::acc/\pushCells h names=h.push { cls:=.type "cell",data:=.cell none }
 |[],_,_,_,e=>by cases e
 |(y,k)::r,n,acc,h,e=>by
  cases q:(k == fj)with
  |true=>rw[FV (by exact q)]at e;have e1:=(List.cons.inj e).1;have e2:=(List.cons.inj e).2;cases e1;unfold cellsFrom pushCells;rw[q];exact nU _ _ _ e2
  |false=>rw[FW (by show ¬(k == fj)=true;rw[q];exact aH)]at e;unfold cellsFrom pushCells;rw[q];exact jo n acc h e
variable{E:aej->aei->Prop}
theorem r8{globals:aed}{closure:List (Str×aed)}{Q:Env->aei->Prop}
  (hQ:Q (newEnv scope s.heap.objs.size globals (cellsFrom (s.heap.objs.size+1) scope.names closure) qual none .none (some env) builtinsNs) { s with heap:=pushCells (s.heap.push { cls:=.type "dict",data:=.dict #[] }) scope.names }):
  aew M A (newFunctionEnv scope globals closure [] qual none .none (some env)) Q E s:=by
 simp only[newFunctionEnv,J5,if_true];refine aex (wpAny_alloc ?_);refine aex (wpAny_layCells _ (λname kind cells=>by cases hkc:kind == fj<;>simp[hkc]) _ _ _ _ ?_);rw[show({ s with heap:=s.heap.push { cls:=.type "dict",data:=.dict #[] } }:aei).heap.objs.size=s.heap.objs.size+1 from zp ..];rw[List.forIn_nil];exact aex (aeC (aeC hQ))
def hG(X:Cx)(scope:Scope)(x:Str)(cs:iM)(C:aed)(s0:aei)(H0:Hp)(fp:List aed)(pn:List (aed×Obj))(E:aej->aei->Prop):Cx where
 prog:=X.prog
 w:=X.w
 K:=X.K
 mg:=X.mg
 base:=X.base
 A:=X.A
 N:=x::cs.map (·.1)
 s₀:=s0
 H₀:=H0
 env:=compEnvC scope (y8 X scope C) C X.env
 outer:=X.stack
 stack:=X.stack
 ex:=fp
 fn:=λy=>scope.names.lookup y == some .cell
 calm:=X.calm
 pn:=pn
 xe:=E
structure dZ(X:Cx)(scope:Scope)(x:Str)(cs:iM):Prop where
 kind:scope.kind= .function
 look:∀y∈scope.names,scope.names.lookup y.1=some y.2
 own:(scope.names.filter λy=>y.2 == .cell)=[]\/(scope.names.filter λy=>y.2 == .cell)=[(x,.cell)]
 var:scope.names.lookup x=some .local\/scope.names.lookup x=some .cell
 cap:∀y∈scope.names,y.2= .free->X.env.kindOf y.1=some .cell\/X.env.kindOf y.1=some .free
 at_:∀p∈cs,X.N[p.2]? =some p.1/\scope.names.lookup p.1=some .free
 nd:(x::cs.map (·.1)).Nodup
variable{fp:List aed}{He:Hp}{se:aei}
section
variable {X:Cx}{pins:List (aed×Obj)}{σ:St}{H:Hp}{s:aei}{scope:Scope}{x:Str}{cs:iM}
theorem xP(I:Inv X pins σ H s)(f:iL X pins H b):b∉frs X.stack:=λz=>by
 rcases List.mem_cons.mp (I.vh b z)with q |q
 ·exact f.2.1 q
 ·exact f.2.2.1 q
theorem dZ.has(S:dZ X scope x cs)(ok:X.Ok):∀y∈scope.names,y.2= .free->∃c,X.env.cells.lookup y.1=some c:=λy hy e=>ok.has y.1 (S.cap y hy e)
theorem dZ.FX(S:dZ X scope x cs){y:Str}(e:scope.names.lookup y=some .cell):y=x/\(scope.names.filter λy=>y.2 == .cell)=[(x,.cell)]:=by
 have h:(y,fj)∈scope.names.filter λy=>y.2 == .cell:=List.mem_filter.mpr ⟨lookup_mem e,rfl⟩;rcases S.own with z |z
 ·rw[z]at h;cases h
 ·rw[z]at h;have:=List.mem_singleton.mp h;cases this;exact⟨rfl,z⟩
theorem dZ.sub(S:dZ X scope x cs)(ok:X.Ok){y:Str}{c:aed}(e:(y8 X scope C).lookup y=some c):(c=C+1/\y=x/\(scope.names.filter λy=>y.2 == .cell)=[(x,.cell)])\/(X.env.cells.lookup y=some c/\scope.names.lookup y≠some .cell):=by
 have old:∀{y:Str}{c:aed},(vT X.env scope.names []).lookup y=some c->X.env.cells.lookup y=some c:=λe=>vU (S.has ok) (λ_ _ z=>by cases z) e;unfold y8 at e;rcases S.own with z |z
 ·rw[(nU _ _ X.base z).1]at e;refine .inr ⟨old e,λq=>?_⟩;rw[(S.FX q).2]at z;cases z
 ·rw[(jo _ _ X.base z).1,eG]at e;cases q:(y == x)with
  |true=>rw[q]at e;cases e;exact .inl ⟨rfl,eq_of_beq q,z⟩
  |false=>rw[q]at e;exact .inr ⟨old e,λw=>by rw[(S.FX w).1]at q;simp at q⟩
theorem dZ.to(S:dZ X scope x cs){y:Str}{c:aed}(e:(vT X.env scope.names []).lookup y=some c)(n:scope.names.lookup y≠some .cell):(y8 X scope C).lookup y=some c:=by
 unfold y8;rcases S.own with z |z
 ·rw[(nU _ _ X.base z).1];exact e
 ·rw[(jo _ _ X.base z).1,eG];have hx:scope.names.lookup x=some .cell:=by
   have hm:(x,fj)∈scope.names.filter λy=>y.2 == .cell:=by rw[z];exact bC
   exact S.look _ (List.mem_filter.mp hm).1
  cases q:(y == x)with
  |true=>exact absurd (by rw[eq_of_beq q];exact hx) n
  |false=>exact e
theorem dZ.Ph(S:dZ X scope x cs){y:Str}(h:(compEnvC scope (y8 X scope C) C X.env).kindOf y=some .cell\/(compEnvC scope (y8 X scope C) C X.env).kindOf y=some .free):scope.names.lookup y=some .free\/scope.names.lookup y=some .cell:=by
 have q:(compEnvC scope (y8 X scope C) C X.env).kindOf y=(scope.names.lookup y).map λk=>if(k == fi&&X.env.scope.kind == .function&&X.env.kindOf y == some .cell)=true then fj else k:=nT
 rw[q]at h;cases e:scope.names.lookup y with
 |none=>rw[e]at h;simp at h
 |some k=>
  rw[e]at h;simp only[nz,Option.some.injEq]at h;by_cases hk:k= .free
  ·rw[hk];exact .inl rfl
  ·have hb:(k == fi)=false:=by simpa using hk
   rw[hb]at h;simp only[vn,eS,if_false]at h;rcases h with h |h
   ·rw[h];exact .inr rfl
   ·exact absurd h hk
theorem dZ.FY(S:dZ X scope x cs){y:Str}(e:scope.names.lookup y=some .free):(compEnvC scope (y8 X scope C) C X.env).kindOf y=some .cell\/(compEnvC scope (y8 X scope C) C X.env).kindOf y=some .free:=by
 have q:(compEnvC scope (y8 X scope C) C X.env).kindOf y=(scope.names.lookup y).map λk=>if(k == fi&&X.env.scope.kind == .function&&X.env.kindOf y == some .cell)=true then fj else k:=nT
 rw[q,e];simp only[nz];split
 ·exact .inl rfl
 ·exact .inr rfl
theorem FZ{tk:Nat}(S:dZ X scope x cs)(I:Inv X pins σ H s)(hf:∀b∈fp,iL X pins H b)(hl:∀b∈fp,b < s.heap.objs.size):
  Inv (hG X scope x cs s.heap.objs.size s H fp (X.pn++pins) E) [] (none::vV cs σ) H { s with heap:=pushCells (s.heap.push { cls:=.type "dict",data:=.dict #[] }) scope.names,toks:=tk }:=by
 have keep:∀b o,s.heap.get? b=some o->(pushCells (s.heap.push { cls:=.type "dict",data:=.dict #[] }) scope.names).get? b=some o:=λb o e=>pushCells_keeps _ _ b o (bt _ e);have ns:(pushCells (s.heap.push { cls:=.type "dict",data:=.dict #[] }) scope.names).Ns s.heap.objs.size λ_=>none:=(Heap.Ns.new s.heap (.type "dict")).keeps (pushCells_keeps _ _);have own:(scope.names.filter λy=>y.2 == .cell)=[(x,.cell)]->(pushCells (s.heap.push { cls:=.type "dict",data:=.dict #[] }) scope.names).IsCell (s.heap.objs.size+1) none:=λz=>by rw[(jo 0 [] _ z).2];have:=cj (s.heap.push { cls:=.type "dict",data:=.dict #[] }) (o:={ cls:=.type "cell",data:=.cell none }) rfl;rw[zp]at this;exact⟨_,this,rfl⟩
 generalize (pushCells (s.heap.push { cls:=.type "dict",data:=.dict #[] }) scope.names)=h2 at keep ns own ⊢;have sub:=λ{y:Str}{c:aed}(e:(y8 X scope s.heap.objs.size).lookup y=some c)=>S.sub I.ok e;have cellK:∀y c,X.env.cells.lookup y=some c->∀v,s.heap.IsCell c v->h2.IsCell c v:=λy c _ v ⟨o,ho,hd⟩=>⟨o,keep c o ho,hd⟩;have lt:∀{y:Str}{c:aed},X.env.cells.lookup y=some c->c < s.heap.objs.size:=λ{y c} e=>by obtain⟨v,z⟩:=I.cell y c e;exact z.lt
 refine⟨⟨I.ok.mod,S.kind,I.ok.glob,I.ok.blt,aE _,(λy z c e1 e2=>?_),λy h=>?_,(λy c e1 e2=>?_),I.ok.hd,I.ok.frames,.inl rfl,λb hb=>⟨bU (hl b hb),λy c e=>?_⟩,I.bs,aV I.ok.Nx I.sz,λb o e hb=>?_,λb hb=>xP I (hf b hb),I.stack,I.vj⟩,rfl,I.bare,Un.kept keep,⟨_,ns,λi y v e1 e2 e3=>?_⟩,(λy c e=>?_),I.fresh,(λy c e=>?_),λp hp=>?_,I.hok.kept keep,by unfold hG vV;simp⟩
 ·rcases sub e1 with ⟨q1,q2,_⟩ |⟨q1,_⟩<;>rcases sub e2 with ⟨q3,q4,_⟩ |⟨q3,_⟩
  ·rw[q2,q4]
  ·exact absurd (lt q3) (by rw[q1];exact Nat.not_lt.mpr (qG _))
  ·exact absurd (lt q1) (by rw[q3];exact Nat.not_lt.mpr (qG _))
  ·exact I.ok.inj y z c q1 q3
 ·rcases S.Ph h with k |k
  ·obtain⟨c,e⟩:=qL (env:=X.env) (y:=y) (names:=scope.names) (acc:=[]) (.inr (lookup_mem k));exact⟨c,S.to e (by rw[k];decide)⟩
  ·obtain⟨rfl,z⟩:=S.FX k;refine⟨s.heap.objs.size+1,?_⟩;show(y8 X scope s.heap.objs.size).lookup y=_;unfold y8;rw[(jo _ _ s.heap z).1,eG,beq_self_eq_true]
 ·rcases sub e2 with ⟨q1,_,_⟩ |⟨_,q2⟩
  ·rw[q1];exact qG _
  ·exact absurd (eq_of_beq e1) q2
 ·rcases sub e with ⟨q1,_,_⟩ |⟨q1,_⟩
  ·rw[q1];exact qF (Nat.lt_succ_of_lt (hl b hb))
  ·exact(hf b hb).2.2.2.2.1 y c q1
 ·rcases(hf b hb).2.2.2.1 with z |z
  ·exact I.ok.Ny b o e z
  ·exact absurd (bT (a7 e) (aV I.ok.Nx z)) (fg _)
 ·cases i with
  |zero=>cases e2
  |succ i=>
   have TZ:(cs.map (·.1))[i]? =some y:=e1;have V1:(vV cs σ)[i]? =some (some v):=e2;unfold vV at V1;rw[eo]at TZ V1;cases q:cs[i]? with
   |none=>rw[q]at TZ;cases TZ
   |some p=>
    rw[q]at TZ V1;have y1:p.1=y:=by simpa using TZ
    have e4:(σ[p.2]?).getD none=some v:=by simpa using V1
    have e5:σ[p.2]? =some (some v):=by
     cases q2:σ[p.2]? with
     |none=>rw[q2]at e4;cases e4
     |some o=>rw[q2]at e4;have:o=some v:=e4;rw[this]
    have hp:=S.at_ p (List.mem_iff_getElem?.mpr ⟨i,q⟩);rw[y1]at hp;have kd:=S.cap (y,.free) (lookup_mem hp.2) rfl;obtain⟨m,hn,hl'⟩:=I.loc;obtain⟨u,r,l⟩:=hl' p.2 y v hp.1 e5 (.inr kd);refine⟨u,r,.inr ⟨S.FY hp.2,?_⟩⟩;rcases l with ⟨l,_⟩ |⟨_,c,e,z⟩
    ·rcases kd with kd |kd
     ·have XO:X.env.kindOf y=some .cell:=kd;rw[XO]at l;cases l
     ·have XO:X.env.kindOf y=some .free:=kd;rw[XO]at l;cases l
    ·obtain⟨c',e'⟩:=qL (env:=X.env) (y:=y) (names:=scope.names) (acc:=[]) (.inr (lookup_mem hp.2));have e6:=S.to (C:=s.heap.objs.size) e' (by rw[hp.2];decide);rcases sub e6 with ⟨_,w1,w2⟩ |⟨w1,_⟩
     ·have hm:(x,fj)∈scope.names.filter λy=>y.2 == .cell:=by rw[w2];exact bC
      have:=S.look _ (List.mem_filter.mp hm).1;rw[<-w1,hp.2]at this;cases this
     ·rw[e]at w1;cases w1;exact⟨c,e6,cellK y c e _ z⟩
 ·rcases sub e with ⟨rfl,_,q2⟩ |⟨q1,_⟩
  ·exact⟨none,own q2⟩
  ·obtain⟨v,z⟩:=I.cell y c q1;exact⟨v,cellK y c q1 v z⟩
 ·rcases sub e with ⟨rfl,_,_⟩ |⟨q1,_⟩
  ·exact I.hok.fresh (qG _)
  ·exact I.pR y c q1
 ·rw[i6]at hp;obtain⟨e,n,ne,nf,d⟩:=I.pin p hp;refine⟨keep _ _ e,n,bU (a7 e),λz=>?_,d⟩;rcases List.mem_cons.mp (I.vh p.1 z)with q |q
  ·exact ne q
  ·exact nf q
theorem F0{Hb:Hp}{sb:aei}{σ':St}{A9:List (aed×Obj)}(I:Inv X pins σ Hb sb)(hf:∀b∈fp,iL X pins Hb b)(J:Inv (hG X scope x cs C sb Hb fp (X.pn++pins) E) A9 σ' He se):Inv X pins σ He se:=by have un:Un (frs X.stack) fp Hb He sb.heap se.heap:=J.base;exact I.Sj (ch:=fp) J.os un J.hok J.bare λb hb=>⟨(hf b hb).2.2.2.1,(hf b hb).2.1,(hf b hb).2.2.2.2.1,λp hp=>(hf b hb).2.2.2.2.2 p hp⟩
theorem uJ(I:Inv X pins σ He se)(f:iL X pins He C)(same:jE C se.heap h2):Inv X pins σ He { se with heap:=h2 } :=
 I.turned (t':=se.toks) (it:=C) (λb o hb e=>(same.2 b hb).trans e) f.1 f.2.1 f.2.2.2.1 f.2.2.2.2.1 f.2.2.2.2.2
end
def F1(X:Cx):Prop:=∃(env:Env)(outer:List Env)(L:aed),X.stack=env::outer/\env.frame=some L/\X.env.frame=some L
structure F2(Y:Cx->Prop)(P:aeh)(w:aek)(K:PySem.W.Frag)(tg:Expr)(J:It)(fp:List aed)(it:aed)(tn:Nat->Heap->Prop):Prop where
 obj:∀i h,tn i h->∀b∈fp,∃o,h.get? b=some o/\∀v,o.data≠.cell v
 keep:∀i h h',tn i h->(∀b∈fp,∀o,h.get? b=some o->h'.get? b=some o)->tn i h'
 item:∀(X:Cx),X.prog=P->X.w=w->X.K=K->Y X->∀(i:Nat)(pins:List (aed×Obj))(s:aei)(σ:St)(H:Hp)(E:aej->aei->Prop),Inv X pins σ H s->(∀b∈fp,iL X pins H b)->tn i s.heap->J.go i H->aew (model P w) X.A (pyNext (.ref it)) (λr s1=>∃u,r=some u/\
  aew (model P w) X.A (letOwnedTupleGo tg (.ref it) u) (λ_ s2=>∃x H',Inv X pins σ H' s2/\RelV x u/\J.Ed i H x H'/\tn (i+1) s2.heap/\∀b∈fp,H' b=none) E s1) E s
 done:∀(X:Cx),X.prog=P->X.w=w->X.K=K->Y X->∀(i:Nat)(pins:List (aed×Obj))(s:aei)(σ:St)(H:Hp)(E:aej->aei->Prop),Inv X pins σ H s->(∀b∈fp,iL X pins H b)->tn i s.heap->J.stop i H->aew (model P w) X.A (pyNext (.ref it)) (λr s1=>r=none/\Inv X pins σ H s1) E s
 self:∀(A:aee)(i:Nat)(s:aei)(Q:aej->aei->Prop)(E:aej->aei->Prop),tn i s.heap->Q (.ref it) s->aew (model P w) A (pyIter (.ref it)) Q E s
abbrev Calm(X:Cx):Prop:=X.calm=true
variable{it:aed}{tn:Nat->Heap->Prop}
theorem _root_.L2.Turn.y{J:It}(T:Turn P w K tg J fp it tn):F2 Calm P w K tg J fp it tn:=⟨T.obj,T.keep,T.item,T.done,T.self⟩
def T1(Y:Cx->Prop)(X:Cx):Prop:=∀{pins:List (aed×Obj)}{σ:St}{H:Hp}{s:aei}(scope:Scope)(x:Str)(cs:iM)(C:aed)(s0:aei)(fp:List aed)(pn:List (aed×Obj))(E:aej->aei->Prop),Inv X pins σ H s->Y (hG X scope x cs C s0 H fp pn E)
variable{X:Cx}
theorem xQ(hc:X.calm=true):T1 Calm X:=λ_ _ _ _ _ _ _ _ _=>hc
def MK(X:Cx)(ifs:List Expr)(g:GT):Prop:=∀(ρ:b7)(st:Hs)(σ:St)(H:Hp)(m:Mp)(Q:Bool->Hp->Prop),cb X.K m st H->aS X.K m H ρ σ->jk X σ m H (g ρ st) Q->∀(pins:List (aed×Obj))(s:aei),Inv X pins σ H s->
 aew (model X.prog X.w) X.A (forIn ifs true λc r=>if r=true then do let ok <-isTrue c X.env (eval c X.env);pure (oM ok)else pure (oM r)) (TP X pins σ Q) X.xe s
variable{Q:aej->aei->Prop}{cs:iM}{px:Pos}{elt:Expr}{ifs:List Expr}{use:Option (aej->Sem Unit)}{Y:Cx->Prop}
section
variable {X:Cx}
theorem KJ:MK X [] (λ_ st=> .ok true st):=λρ st σ H m Q S R p pins s I=>wpAny_tests_nil ⟨H,I,p m H Ext.refl S⟩
theorem KL{g:GT}(h:JT X c g):MK X [c] g:=λρ st σ H m Q S R p pins s I=>wpAny_tests_one (h ρ st σ H m Q S R p pins s I)
theorem zQ{pins:List (aed×Obj)}{ck:Hs->Prop}
  {res:Re Unit}
  {H2:Hp}{s2:aei}(fr:F1 X)(S:dZ X scope x cs)(hY:T1 Y X)(hH:Pa X)(I2:Inv X pins σ H2 s2)(T:F2 Y X.prog X.w X.K (.Name x px) J' fp it tn)(t0:tn 0 s2.heap)(f2:∀b∈fp,iL X pins H2 b)
  (S1:cb X.K m1 st1 H2)(R:aS X.K m1 H2 ρ σ)(hck:ck (st1++[.lst []]))(run:pZ ck (λw=>gt (some w::kM cs ρ)) (λw=>ge (some w::kM cs ρ)) st1.length ws (st1++[.lst []])=res)(nb:res≠.bad)(hx:∀c stE,res≠.err c stE)
  (hE:∀C s0 H0 pn E,Dk X.A H0->JE (hG X scope x cs C s0 H0 fp pn E) elt ge)(hT:∀C s0 H0 pn E,Dk X.A H0->MK (hG X scope x cs C s0 H0 fp pn E) ifs gt)
  (hgo:∀(k:Nat)(H:Hp)(m':Mp)(st:Hs),Ext X.K m1 H2 m' H->cb X.K m' st H->ck st->k < ws.length->J'.go k H)(hstop:∀(k:Nat)(H:Hp)(m':Mp)(st:Hs),Ext X.K m1 H2 m' H->cb X.K m' st H->ck st->k=ws.length->J'.stop k H)
  (hy:∀(k:Nat)(hk:k < ws.length)(H:Hp)(v:V)(H':Hp)(m':Mp)(st:Hs),Ext X.K m1 H2 m' H->cb X.K m' st H->ck st->J'.Ed k H v H'->H'=H/\ah X.K m' H ws[k] v)
  (fin:∀(BB:Hs),res= .ok () BB->∀(D C:aed)(mm:Str->Option aej)(m':Mp)(H':Hp)(s':aei),Ext X.K m1 H2 m' H'->cb X.K m' BB H'->m'[st1.length]? =some D->Inv X pins σ H' s'->iL X pins H' C->s'.heap.Ns C mm->(∀y c,X.env.cells.lookup y=some c->c≠C)->aep (model X.prog X.w) X.A X.xe use Q (.ref D) C (.ok .next) s'):
  aew (model X.prog X.w) X.A (newList []) (λacc s3=>aew (model X.prog X.w) X.A (newFunctionEnv scope X.env.globals (vT X.env scope.names []) [] X.env.qual none .none (some X.env)) (λcenv s4=>
   aeo (model X.prog X.w) X.A (.compStart (.ListComp elt [⟨.Name x px,iter,ifs,0⟩] scope pos) 0 (.ref it) acc { cenv with scope:=relabel scope X.env }) (aep (model X.prog X.w) X.A X.xe use Q acc cenv.locals) s4) E s3) E s2:=by
 refine wpAny_newList ?_;have I3:Inv X pins σ (upd H2 s2.heap.objs.size (.lst [])) { s2 with heap:=s2.heap.push { cls:=.type "list",data:=.seq ([]:List aej).toArray } }:=I2.Oq (ys:=[]) (its:=[]) (t':=s2.toks) .nil (cO _);have T3:∀b∈fp,b < s2.heap.objs.size:=λb hb=>by obtain⟨o,e,_⟩:=T.obj _ _ t0 b hb;exact a7 e
 have hD:H2 s2.heap.objs.size=none:=I2.fresh;have f3:∀b∈fp,iL X pins (upd H2 s2.heap.objs.size (.lst [])) b:=λb hb=>⟨by rw[aZ (bU (T3 b hb))];exact(f2 b hb).1,(f2 b hb).2⟩;have S3:=S1.alloc (ws:=[]) (xs:=[]) hD aq.nil;have e3:Ext X.K m1 H2 (m1++[s2.heap.objs.size]) (upd H2 s2.heap.objs.size (.lst [])):=Ext.more.trans (Ext.upd (.inl hD));have V2:(m1++[s2.heap.objs.size])[st1.length]? =some s2.heap.objs.size:=by rw[<-S1.len,kP (aE _),nK];rfl
 generalize hs3:({ s2 with heap:=s2.heap.push { cls:=.type "list",data:=.seq ([]:List aej).toArray } }:aei)=s3 at I3;have k23:∀b o,s2.heap.get? b=some o->s3.heap.get? b=some o:=λb o e=>by rw[<-hs3];exact bt _ e
 have XQ:∀b∈fp,b < s3.heap.objs.size:=λb hb=>by obtain⟨o,e,_⟩:=T.obj _ _ t0 b hb;exact a7 (k23 b o e)
 generalize hDD:s2.heap.objs.size=D at *;generalize hH3:upd H2 D (.lst [])=H3 at *;generalize hm3:m1++[D]=m3 at *;have R3:aS X.K m3 H3 (kM cs ρ) (vV cs σ):=(KI cs R).mono e3;generalize hrr:kM cs ρ=ρc at *;generalize hss:vV cs σ=σc at *;refine r8 ?_;have Ic:=λE=>FZ (E:=E) (tk:=s3.toks) S I3 f3 XQ;have k34:∀b o,s3.heap.get? b=some o->(pushCells (s3.heap.push { cls:=.type "dict",data:=.dict #[] }) scope.names).get? b=some o:=λb o e=>pushCells_keeps _ _ b o (bt _ e);generalize (pushCells (s3.heap.push { cls:=.type "dict",data:=.dict #[] }) scope.names)=h4 at Ic k34 ⊢;have t4:tn 0 h4:=T.keep _ _ _ t0 λb _ o e=>k34 b o (k23 b o e)
 let EX:aej->aei->Prop:=notedBy (model X.prog X.w) X.A (compEnvC scope (y8 X scope s3.heap.objs.size) s3.heap.objs.size X.env) λe s'=>aep (model X.prog X.w) X.A X.xe use Q (.ref D) s3.heap.objs.size (.error e) s'
 let Xc:=hG X scope x cs s3.heap.objs.size s3 H3 fp (X.pn++pins) EX
 have noted:∀{σ':St}{m:Mp}{H:Hp}{c:Str}{st:Hs},Ext X.K m1 H2 m H->res= .err c st->RP Xc σ' m H c st:=λ_ er=>(hx _ _ er).elim;have vis:Loc Xc.env.scope x/\(Xc.fn x=true\/Xc.env.scope.names.lookup x=some .local):=by
  rcases S.var with v |v
  ·exact⟨.inl (lookup_relabel_local v),.inr (lookup_relabel_local v)⟩
  ·have q:Xc.env.scope.names.lookup x=some .cell:=by show(scope.names.map _).lookup x=_;rw[nT,v];rfl
   exact⟨.inr q,.inl (by show(scope.names.lookup x == some .cell)=true;rw[v];rfl)⟩
 have XR:∀(H':Hp),(∀b∈fp,H' b=none)->∀b∈fp,iL Xc [] H' b:=λH' hn b hb=>⟨hn b hb,bU (XQ b hb),xP I3 (f3 b hb),.inl hb,λy c e=>(by
  rcases S.sub I3.ok e with ⟨q1,_,_⟩ |⟨q1,_⟩
  ·rw[q1];exact qF (Nat.lt_succ_of_lt (XQ b hb))
  ·exact(f3 b hb).2.2.2.2.1 y c q1),λp hp=>(f2 b hb).2.2.2.2.2 p (by have hp':p∈(X.pn++pins)++[]:=hp;rw[i6]at hp';exact hp')⟩
 let Pv:Nat->aei->Prop:=λk s'=>∃z H' st m',Inv Xc [] (z::σc) H' s'/\tn k s'.heap/\(∀b∈fp,H' b=none)/\Ext X.K m3 H3 m' H'/\cb X.K m' st H'/\ck st/\pZ ck (λw=>gt (some w::ρc)) (λw=>ge (some w::ρc)) st1.length (ws.drop k) st=res
 have loop:∀s4:aei,Pv 0 s4->aeo (model X.prog X.w) X.A (.compLoop (.ListComp elt [⟨.Name x px,iter,ifs,0⟩] scope pos) 0 (.ref it) (.ref D) (compEnvC scope (y8 X scope s3.heap.objs.size) s3.heap.objs.size X.env)) (aep (model X.prog X.w) X.A X.xe use Q (.ref D) s3.heap.objs.size) s4:=λs4 p0=>by
  refine codeAny_compLoop_tests (λn s'=>∃k,n=ws.length - k/\k<=ws.length/\Pv k s') ?_ ws.length ⟨0,by simp,cO _,p0⟩;rintro n s5 ⟨k,rfl,hk,z5,H5,EB,m5,I5,tn5,VP,e5,S5,c5,fG⟩;have ML:=e3.trans e5;by_cases hlt:k < ws.length
  ·refine bK (T.item Xc rfl rfl rfl (hY _ _ _ _ _ _ _ _ I3) k [] s5 (z5::σc) H5 _ I5 (XR H5 VP) tn5 (hgo k H5 m5 EB ML S5 c5 hlt)) λr s6 h6=>?_;obtain⟨u,rfl,h6⟩:=h6;show aew (model X.prog X.w) X.A (pure () >>= λ_=>assign (.Name x px) Xc.env u) _ _ s6;refine aex (bK h6 λ_ s7 h7=>?_);obtain⟨v,H7,I7,rv,yl,XS,fr7⟩:=h7;obtain⟨rfl,rw7⟩:=hy k hlt H5 v H7 m5 EB ML S5 c5 yl;have I7':=I7.pinned (XR H7 fr7) (T.obj _ _ XS);refine wpAny_assign_Name (rf (i:=0) I7' S.nd rfl vis.1 rv (λs8 I8=>?_) vis.2);have I8':Inv Xc ([]++iw fp s7.heap) (some v::σc) H7 s8:=I8;have R8:aS X.K m5 H7 (some ws[k]::ρc) (some v::σc):=by
    have R5:=R3.mono e5;refine⟨by simp[R5.len],λi w e=>?_⟩;cases i with
    |zero=>cases e;exact⟨v,rfl,rw7⟩
    |succ i=>exact R5.get i w e
   have ed:ws.drop k=ws[k]::ws.drop (k+1):=zO hlt;rw[ed]at fG;unfold pZ at fG;have back:∀{H':Hp}{s':aei}{m':Mp}{st:Hs},Inv Xc ([]++iw fp s7.heap) (some v::σc) H' s'->Ext X.K m3 H3 m' H'->cb X.K m' st H'->ck st->pZ ck (λw=>gt (some w::ρc)) (λw=>ge (some w::ρc)) st1.length (ws.drop (k+1)) st=res->∃n',n' < ws.length - k/\∃k',n'=ws.length - k'/\k'<=ws.length/\Pv k' s' :=
    λ{H' s' m' st} I' e' S' c' r'=>⟨ws.length - (k+1),by omega,k+1,rfl,hlt,some v,H',st,m',I'.nB,T.keep _ _ _ XS λb hb o e=>(I'.pin (b,o) (hU _ (hU _ (jF hb e)))).1,λb hb=>by obtain⟨o,e,_⟩:=T.obj _ _ XS b hb;exact(I'.pin (b,o) (hU _ (hU _ (jF hb e)))).2.1,e',S',c',r'⟩
   cases eg:gt (some ws[k]::ρc) EB with
   |err c RV=>rw[eg]at fG;refine aeA (hT s3.heap.objs.size s3 H3 (X.pn++pins) EX (hH.at I3) (some ws[k]::ρc) EB (some v::σc) H7 m5 (λ_ _=>False) S5 R8 (by rw[eg];exact noted ML fG.symm) ([]++iw fp s7.heap) s8 I8') (λ_ _ h9=>?_) λ_ _ z=>z;obtain⟨_,_,z⟩:=h9;exact z.elim
   |bad=>rw[eg]at fG;exact absurd fG.symm nb
   |ok b RV=>
    rw[eg]at fG;have RQ:=hT s3.heap.objs.size s3 H3 (X.pn++pins) EX (hH.at I3) (some ws[k]::ρc) EB (some v::σc) H7 m5 (λb' H'=>b'=b/\∃m',Ext X.K m5 H7 m' H'/\cb X.K m' RV H') S5 R8 (by rw[eg];exact λm' H' e' S'=>⟨rfl,m',e',S'⟩) ([]++iw fp s7.heap) s8 I8';refine aeA RQ (λok s9 h9=>?_) λ_ _ z=>z;obtain⟨H9,I9,rfl,m9,e9,S9⟩:=h9;cases ok with
    |false=>
     dsimp only at fG;by_cases c6:ck RV
     ·rw[if_pos c6]at fG;rw[if_neg aH];exact back I9 (e5.trans e9) S9 c6 fG
     ·rw[if_neg c6]at fG;exact absurd fG.symm nb
    |true=>
     dsimp only at fG;rw[if_pos rfl];cases ee:ge (some ws[k]::ρc) RV with
     |err c V3=>rw[ee]at fG;refine aeA (hE s3.heap.objs.size s3 H3 (X.pn++pins) EX (hH.at I3) (some ws[k]::ρc) RV (some v::σc) H9 m9 (λ_ _=>False) S9 (R8.mono e9) (by rw[ee];exact noted (ML.trans e9) fG.symm) ([]++iw fp s7.heap) s9 I9) (λ_ _ XT=>?_) λ_ _ z=>z;obtain⟨_,_,_,_,z⟩:=XT;exact z.elim
     |bad=>rw[ee]at fG;exact absurd fG.symm nb
     |ok w V3=>
      rw[ee]at fG;dsimp only at fG;cases ea:iz (.ref st1.length) w V3 with
      |err c XU=>rw[ea]at fG;exact absurd fG.symm nb
      |bad=>rw[ea]at fG;exact absurd fG.symm nb
      |ok w2 XU=>
       rw[ea]at fG;dsimp only at fG;by_cases c8:ck XU
       ·rw[if_pos c8]at fG;have el:=hE s3.heap.objs.size s3 H3 (X.pn++pins) EX (hH.at I3) (some ws[k]::ρc) RV (some v::σc) H9 m9 (λv' H'=>∃m',Ext X.K m9 H9 m' H'/\cb X.K m' V3 H'/\ah X.K m' H' w v') S9 (R8.mono e9) (by rw[ee];exact λv' m' H' e' S' r'=>⟨m',e',S',r'⟩) ([]++iw fp s7.heap) s9 I9;refine aeA el (λu2 Jb XT=>?_) λ_ _ z=>z;obtain⟨v2,RW,I10,r2,XW,XX,S10,XY⟩:=XT;obtain⟨r,h1,h2⟩:=FU (X:=Xc);have eA:=(e5.trans e9).trans XX;have ro:ah X.K XW RW (.ref st1.length) (.ref D):=by unfold ah;exact⟨D,rfl,eA.pre _ _ V2⟩
        have rd:=h2 (.ref st1.length) w (.ref D) v2 V3 RW XW (λ_ H'=>∃m',Ext X.K XW RW m' H'/\cb X.K m' XU H') S10 ro XY (by rw[ea];exact λv' m' H' e' S' r'=>⟨m',e',S'⟩);refine aeA (h1 ([]++iw fp s7.heap) Jb (some v::σc) RW (.ref D) [v2] (.ref D) [u2] _ I10 rfl (.cons r2 .nil) rd) (λ_ s11 h11=>?_) λ_ _ z=>z;obtain⟨_,H11,I11,_,m11,e11,S11⟩:=h11;exact back I11 (eA.trans e11) S11 c8 fG
       ·rw[if_neg c8]at fG;exact absurd fG.symm nb
  ·have ek:k=ws.length:=by omega
   subst ek;refine bK (T.done Xc rfl rfl rfl (hY _ _ _ _ _ _ _ _ I3) _ [] s5 (z5::σc) H5 _ I5 (XR H5 VP) tn5 (hstop _ H5 m5 EB ML S5 c5 rfl)) λr s6 h6=>?_;obtain⟨rfl,I6⟩:=h6;rw[FK]at fG;obtain⟨mm,ns6,_⟩:=id I6.loc;have fC:=I3.EA (H':=H5) (aE _) I6.free;exact fin EB fG.symm D _ mm m5 H5 _ ML S5 (e5.pre _ _ V2) (F0 I3 f3 I6) fC ns6 fC.2.2.2.2.1
 have p0:Pv 0 { s3 with heap:=h4,toks:=s3.toks }:=⟨none,H3,st1++[Ob.lst []],m3,hss ▸ Ic EX,t4,λb hb=>(f3 b hb).1,Ext.refl,S3,hck,by rw[F3];exact run⟩;exact codeAny_compStart_list (loop _ p0) (T.self X.A 0 _ _ _ t4 (loop _ p0))
end
abbrev Wk:=Option Nat×List Wv
def mU(w:Wk)(st:Hs):Prop:=match w.1 with
 |some l=>aG st l=some w.2
 |none=>True
structure xR(X:Cx)(w:Wk)(m1:Mp)(H1:Hp)(J':It):Prop where
 go:∀(k:Nat)(H:Hp)(m':Mp)(st:Hs),Ext X.K m1 H1 m' H->cb X.K m' st H->mU w st->k < w.2.length->J'.go k H
 stop:∀(k:Nat)(H:Hp)(m':Mp)(st:Hs),Ext X.K m1 H1 m' H->cb X.K m' st H->mU w st->k=w.2.length->J'.stop k H
 Ed:∀(k:Nat)(hk:k < w.2.length)(H:Hp)(v:V)(H':Hp)(m':Mp)(st:Hs),Ext X.K m1 H1 m' H->cb X.K m' st H->mU w st->J'.Ed k H v H'->H'=H/\ah X.K m' H w.2[k] v
abbrev GI:=b7->Hs->Re Wk
def XZ(Y:Cx->Prop)(X:Cx)(pins:List (aed×Obj))(σ:St)(tg:Expr)(R:It->Hp->Prop)(itv:aej)(s2:aei):Prop :=
 ∃(it:aed)(fp:List aed)(tn:Nat->Heap->Prop)(J:It)(H':Hp),itv= .ref it/\Inv X pins σ H' s2/\F2 Y X.prog X.w X.K tg J fp it tn/\tn 0 s2.heap/\(∀b∈fp,iL X pins H' b)/\R J H'
def PIY(Y:Cx->Prop)(X:Cx)(tg iter:Expr)(wi:TI):Prop:=∀(pins:List (aed×Obj))(s:aei)(σ:St)(H:Hp)(R:It->Hp->Prop),Inv X pins σ H s->wi σ H R->
 aew (model X.prog X.w) X.A (eval iter X.env) (λv s1=>aew (model X.prog X.w) X.A (pyIter v) (XZ Y X pins σ tg R) X.xe s1) X.xe s
theorem _root_.L2.PI.y{wi:TI}(h:PI X tg iter wi):PIY Calm X tg iter wi:=λpins s σ H R I q=>bK (h pins s σ H R I q) λ_ _ h1=>bK h1 λ_ _ h2=>
 let ⟨it,fp,tn,J,H',e,I',T,r⟩:=h2;⟨it,fp,tn,J,H',e,I',T.y,r⟩
def V4(Y:Cx->Prop)(X:Cx)(tg iter:Expr)(gi:GI):Prop:=∃wi,PIY Y X tg iter wi/\∀(ρ:b7)(st:Hs)(σ:St)(H:Hp)(m:Mp)(R:It->Hp->Prop),cb X.K m st H->aS X.K m H ρ σ->
 aM X σ m H (gi ρ st) (λw st1=>∀(m1:Mp)(H1:Hp)(J':It),Ext X.K m H m1 H1->cb X.K m1 st1 H1->mU w st1->xR X w m1 H1 J'->R J' H1)->wi σ H R
def JI(X:Cx)(tg iter:Expr)(gi:GI):Prop:=∃wi,PI X tg iter wi/\∀(ρ:b7)(st:Hs)(σ:St)(H:Hp)(m:Mp)(R:It->Hp->Prop),cb X.K m st H->aS X.K m H ρ σ->
 aM X σ m H (gi ρ st) (λw st1=>∀(m1:Mp)(H1:Hp)(J':It),Ext X.K m H m1 H1->cb X.K m1 st1 H1->mU w st1->xR X w m1 H1 J'->R J' H1)->wi σ H R
variable{gi:GI}
theorem JI.y(h:JI X tg iter gi):V4 Calm X tg iter gi:=let ⟨wi,h1,h2⟩:=h;⟨wi,h1.y,h2⟩
def Pj(w:Wv)(st:Hs):Re Wk:=match w with
 |.ref l=>(match aG st l with |some ws=> .ok (some l,ws) st |none=> .bad)
 |.tup ws=> .ok (none,ws) st
 |.rN ws=> .ok (none,ws) st
 |_=> .bad
def F4(g:GE):GI:=λρ st=>(g ρ st).bind Pj
variable{more:Hs}
section
variable {X:Cx}
theorem Pk(h:JE X iter g):JI X tg iter (F4 g):=by
 refine⟨_,FO bj,λρ st σ H m Q S R p=>?_⟩;refine h.go S R (aM.bind p) λw st1 v m1 H1 p1 e1 S1 rw'=>?_;cases w with
 |ref l=>
  unfold ah at rw';obtain⟨a,rfl,hla⟩:=rw';unfold Pj at p1;cases el:aG st1 l with
  |none=>simp only[el]at p1;exact ab p1
  |some ws=>
   simp only[el]at p1;obtain⟨TU,q0,_⟩:=S1.read hla el;refine⟨a,rfl,.inl ⟨⟨TU,q0⟩,p1 m1 H1 _ e1 S1 el ⟨λk H' m' st' e S' c hk=>?_,λk H' m' st' e S' c hk=>?_,λk hk H' v H'' m' st' e S' c y=>?_⟩⟩⟩
   ·obtain⟨xs,hq,rws⟩:=S'.read (e.pre _ _ hla) c;have hx':k < xs.length:=by rw[<-rws.length];exact hk
    exact⟨xs,xs[k],hq,by simp[hx']⟩
   ·obtain⟨xs,hq,rws⟩:=S'.read (e.pre _ _ hla) c;exact⟨xs,hq,by rw[<-rws.length,hk];exact aE _⟩
   ·obtain⟨xs,hq,rws⟩:=S'.read (e.pre _ _ hla) c;obtain⟨ee,y⟩:=y;refine⟨ee,?_⟩;obtain⟨x',ex',y7⟩:=rws.get (i:=k) (w:=ws[k]) (cA hk);rw[y xs hq]at ex';cases ex';exact y7
 |tup ws=>
  unfold ah at rw';obtain⟨a,xs,rfl,hq,rws⟩:=rw';refine⟨a,rfl,.inr ⟨⟨xs,fM.of hq⟩,p1 m1 H1 _ e1 S1 trivial ⟨λk H' m' st' e S' c hk=>?_,λk H' m' st' e S' c hk=>?_,λk hk H' v H'' m' st' e S' c y=>?_⟩⟩⟩
  ·have hx':k < xs.length:=by rw[<-rws.length];exact hk
   exact⟨xs,xs[k],fM.of (e.tup _ _ hq),by simp[hx']⟩
  ·exact⟨xs,fM.of (e.tup _ _ hq),by rw[<-rws.length,hk];exact aE _⟩
  ·obtain⟨ee,y⟩:=y;refine⟨ee,?_⟩;obtain⟨x',ex',y7⟩:=(aq.mono e _ _ rws).get (i:=k) (w:=ws[k]) (cA hk);rw[y xs (fM.of (e.tup _ _ hq))]at ex';cases ex';exact y7
 |rN ws=>
  unfold ah at rw';obtain⟨a,xs,rfl,hq,rws⟩:=rw';refine⟨a,rfl,.inr ⟨⟨xs,.inr hq⟩,p1 m1 H1 _ e1 S1 trivial ⟨λk H' m' st' e S' c hk=>?_,λk H' m' st' e S' c hk=>?_,λk hk H' v H'' m' st' e S' c y=>?_⟩⟩⟩
  ·have hx':k < xs.length:=by rw[<-rws.length];exact hk
   exact⟨xs,xs[k],.inr hq,by simp[hx']⟩
  ·exact⟨xs,.inr hq,by rw[<-rws.length,hk];exact aE _⟩
  ·obtain⟨ee,y⟩:=y;refine⟨ee,?_⟩;obtain⟨x',ex',y7⟩:=(aq.mono e _ _ rws).get (i:=k) (w:=ws[k]) (cA hk);rw[y xs (.inr hq)]at ex';cases ex';exact y7
 |_=>exact ab p1
theorem F5:xR X (none,cU lo n) m1 H1 (Mr lo n) where
 go:=λk H m' st e S c hk=>by have:(cU lo n).length=n:=c7;have hk':k < (cU lo n).length:=hk;rw[this]at hk';exact hk'
 stop:=λk H m' st e S c hk=>by have:(cU lo n).length=n:=c7;have hk':k=(cU lo n).length:=hk;rw[this]at hk';exact nC hk'.symm
 Ed:=λk hk H v H' m' st e S c y=>by obtain⟨y1,y2⟩:=y;refine⟨y1,?_⟩;have q:(cU lo n)[k]'hk= .int (lo+k):=xJ hk;show ah X.K m' H ((cU lo n)[k]'hk) v;rw[q,y2];exact mkInt
def xS(ws:List Wv)(st:Hs):Re Wk:=match ws with
 |[.int j]=>if dM j then .ok (none,cU 0 j.toNat) st else .bad
 |_=> .bad
def BC(ws:List Wv)(st:Hs):Re Wk:=match ws with
 |[.int a,.int j]=>if dM a/\dM j then .ok (none,cU a (j - a).toNat) st else .bad
 |_=> .bad
def KO(g:GA):GI:=λρ st=>(g ρ st).bind xS
def F6(g:GA):GI:=λρ st=>(g ρ st).bind BC
theorem T4(hg:Gl X "range")(hm:X.mg "range"=none)(ha:JA X [a] ga)(hst:aev [a] X.env=[(false,eval a X.env)]):JI X tg (.Call (.Name "range" p) [a] [] q) (KO ga):=by
 refine⟨_,uj hg hm kC hst,λρ st σ H m Q S R p=>?_⟩;refine ha.go S R (aM.bind p) λws st1 vs m1 H1 p1 e1 S1 rs=>?_
 match ws,rs,p1 with
 |[],rs,p1=>exact ab p1
 |x::y::t,rs,p1=>cases x<;>exact ab p1
 |[x],rs,p1=>
  obtain⟨v,rfl,r1⟩:=kZ rs;cases x with
  |int j=>
   cases a8 r1;unfold xS at p1;by_cases c:dM j
   ·simp only[if_pos c]at p1;exact⟨j,rfl,c.1,c.2,p1 m1 H1 _ e1 S1 trivial F5⟩
   ·simp only[if_neg c]at p1;exact ab p1
  |_=>exact ab p1
theorem T5{b:Expr}(hg:Gl X "range")(hm:X.mg "range"=none)(ha:JA X [a,b] ga)(hst:aev [a,b] X.env=[(false,eval a X.env),(false,eval b X.env)])(O9:aev [b] X.env=[(false,eval b X.env)]):JI X tg (.Call (.Name "range" p) [a,b] [] q) (F6 ga):=by
 refine⟨_,uk hg hm kC hst O9,λρ st σ H m Q S R p=>?_⟩;refine ha.go S R (aM.bind p) λws st1 vs m1 H1 p1 e1 S1 rs=>?_
 match ws,rs,p1 with
 |[],rs,p1=>exact ab p1
 |[x],rs,p1=>cases x<;>exact ab p1
 |x::y::z::t,rs,p1=>cases x<;>cases y<;>exact ab p1
 |[x,y],rs,p1=>
  obtain⟨v,v',rfl,r1,r2⟩:=Fp rs;cases x with
  |int a=>
   cases y with
   |int j=>
    cases a8 r1;cases a8 r2;unfold BC at p1;by_cases c:dM a/\dM j
    ·simp only[if_pos c]at p1;exact⟨a,j,rfl,⟨c.1.1,c.1.2,c.2.1,c.2.2⟩,p1 m1 H1 _ e1 S1 trivial F5⟩
    ·simp only[if_neg c]at p1;exact ab p1
   |_=>exact ab p1
  |_=>cases y<;>exact ab p1
def BD:GI:=λ_ _=> .bad
theorem F7:PI X tg iter (λ_ _ _=>False):=λ_ _ _ _ _ _ h=>h.elim
theorem zR:JI X tg iter BD:=⟨_,F7,λρ st σ H m Q S R p=>p⟩
def gG(cs:iM)(gt:GT)(ge:GE)(ρ:b7)(w:Wk)(st:Hs):Re Wv:=match k9 (mU w) (λv=>gt (some v::kM cs ρ)) (λv=>ge (some v::kM cs ρ)) st.length w.2 (st++[.lst []])with
 |some BB=> .ok (.ref st.length) BB
 |none=> .bad
def k_(cs:iM)(gi:GI)(gt:GT)(ge:GE):GE:=λρ st=>(gi ρ st).bind λw st1=>gG cs gt ge ρ w st1
theorem Dm{l:Nat}(h:aG st l=some ws):aG (st++more) l=some ws:=by
 unfold aG at h ⊢;cases e:st[l]? with
 |none=>rw[e]at h;cases h
 |some o=>have hl:=(List.getElem?_eq_some_iff.mp e).1;rw[f6 hl,e];rw[e]at h;exact h
theorem r9{w:Wk}(h:mU w st):mU w (st++more):=by
 obtain⟨o,ws⟩:=w;cases o with
 |none=>trivial
 |some l=>exact Dm h
theorem BE{P:Wv->Hs->Prop}
  {pins:List (aed×Obj)}{ps:Pos}
  (fr:F1 X)(CS:dZ X scope x cs)(hc:T1 Y X)(hH:Pa X)(hi:V4 Y X (.Name x px) iter gi)(hE:∀C s0 H0 fp pn E,Dk X.A H0->JE (hG X scope x cs C s0 H0 fp pn E) elt ge)(hT:∀C s0 H0 fp pn E,Dk X.A H0->MK (hG X scope x cs C s0 H0 fp pn E) ifs gt)(hs:∀x,aer iter X.env x=pure x)
  (S:cb X.K m st H)(R:aS X.K m H ρ σ)(I:Inv X pins σ H s)(p:aM X σ m H (k_ cs gi gt ge ρ st) P)
  (fin:∀(w:Wv)(BB:Hs)(v:V)(D C:aed)(mm:Str->Option aej)(m':Mp)(H':Hp)(s':aei),P w BB->Ext X.K m H m' H'->cb X.K m' BB H'->ah X.K m' H' w v->v= .ref D->Inv X pins σ H' s'->iL X pins H' C->s'.heap.Ns C mm->aep (model X.prog X.w) X.A X.xe use Q (.ref D) C (.ok .next) s'):
  aew (model X.prog X.w) X.A (comprehension (.ListComp elt [⟨.Name x px,iter,ifs,0⟩] scope pos) scope X.env ps (newList []) false (eval iter X.env) use) Q X.xe s:=by
 obtain⟨wi,hpi,hw⟩:=hi
 let R':It->Hp->Prop:=λJ' H1=>∃(w:Wk)(st1:Hs)(m1:Mp),aM X σ m H (gG cs gt ge ρ w st1) P/\Ext X.K m H m1 H1/\cb X.K m1 st1 H1/\mU w st1/\xR X w m1 H1 J'
 have hr:=hw ρ st σ H m R' S R ((aM.bind p).imp Ext.refl λw st1 q m1 H1 J' e1 S1 c1 T6=>⟨w,st1,m1,q,e1,S1,c1,T6⟩);refine wpAny_comprehension_free (g:=⟨.Name x px,iter,ifs,0⟩) (gs:=[]) (cl:=vT X.env scope.names []) rfl hs (KH (CS.has I.ok)) CS.kind (λy hy e=>by rw[CS.look y hy,e]) (bK (hpi pins s σ H R' I hr) λv s1 h1=>bK h1 λitv s2 h2=>?_);obtain⟨it,fp,tn,J',H1,rfl,I2,T,t0,f2,w,st1,m1,q,e1,S1,c1,T6⟩:=h2;unfold gG at q;cases run:k9 (mU w) (λv=>gt (some v::kM cs ρ)) (λv=>ge (some v::kM cs ρ)) st1.length w.2 (st1++[.lst []])with
 |none=>rw[run]at q;exact ab q
 |some BB=>rw[run]at q;refine zQ (use:=use) (Q:=Q) fr CS hc hH I2 T t0 f2 S1 (R.mono e1) (r9 c1) (rZ _ _ run) (by intro z;cases z) (λc' acm z=>by cases z) (λC s0 H0 pn E=>hE C s0 H0 fp pn E) (λC s0 H0 pn E=>hT C s0 H0 fp pn E) T6.go T6.stop T6.Ed ?_;intro acn z D C mm m' H' s' e' S' V2 I' fC ns _;cases z;exact fin _ BB (.ref D) D C mm m' H' s' q (e1.trans e') S' (by unfold ah;exact⟨D,rfl,V2⟩) rfl I' fC ns
theorem BF
  (fr:F1 X)(CS:dZ X scope x cs)(hc:T1 Y X)(hH:Pa X)(hi:V4 Y X (.Name x px) iter gi)(hE:∀C s0 H0 fp pn E,Dk X.A H0->JE (hG X scope x cs C s0 H0 fp pn E) elt ge)(hT:∀C s0 H0 fp pn E,Dk X.A H0->MK (hG X scope x cs C s0 H0 fp pn E) ifs gt)(hs:∀x,aer iter X.env x=pure x):
  JE X (.ListComp elt [⟨.Name x px,iter,ifs,0⟩] scope pos) (k_ cs gi gt ge):=λρ st σ H m Q S R p pins s I=>by
 rw[eval_ListComp];refine BE (use:=none) fr CS hc hH hi hE hT hs S R I p ?_;intro w BB v D C mm m' H' s' q e' S' rw' ev I' fC ns;exact⟨mm,ns,λh' same=>⟨.ref D,H',uJ I' fC same,rfl,ev ▸ q v m' H' e' S' rw'⟩⟩
theorem KP(i:Nat){y:Str}{spos py:Pos}(hN:X.N.Nodup)
  (fr:F1 X)(CS:dZ X scope x cs)(hc:T1 Y X)(hH:Pa X)(hi:V4 Y X (.Name x px) iter gi)(hE:∀C s0 H0 fp pn E,Dk X.A H0->JE (hG X scope x cs C s0 H0 fp pn E) elt ge)(hT:∀C s0 H0 fp pn E,Dk X.A H0->MK (hG X scope x cs C s0 H0 fp pn E) ifs gt)(hs:∀x,aer iter X.env x=pure x)
  (hx:X.N[i]? =some y)(hl:Loc X.env.scope y)(hf:X.fn y=true\/X.env.scope.names.lookup y=some .local):
  JS X (.Assign [.Name y py] (.ListComp elt [⟨.Name x px,iter,ifs,0⟩] scope pos) spos) (bG i (k_ cs gi gt ge)):=by
 have sw:∃b,swapsWith (.ListComp elt [⟨.Name x px,iter,ifs,0⟩] scope pos) (some (.Name y py)) spos.line X.env=pure b:=⟨_,rfl⟩;obtain⟨b,sw⟩:=sw;cases b with
 |false=>exact zL i hN (BF fr CS hc hH hi hE hT hs) hx hl sw hf
 |true=>
  intro ρ st σ H m D S R p pins s I;rw[exec_Assign_Name_used _ _ _ _ sw];refine aex (wpAny_standAt (aex ?_));show aew _ X.A (do let _ <-comprehension (.ListComp elt [⟨.Name x px,iter,ifs,0⟩] scope pos) scope X.env _ (newList []) false (eval iter X.env) (some (assign (.Name y py) X.env))) _ _ s;refine aex (aeA (BE (use:=some (assign (.Name y py) X.env)) (Q:=λ_ s'=>SP X pins D .next s') fr CS hc hH hi hE hT hs S R I (bh.dc R p) ?_) (λ_ s' hq=>aeC (aeC hq)) λ_ _ e=>e);intro w BB v D' C mm m' H' s' q e' S' rw' ev I' fC ns;refine wpAny_assign_Name (ug (i:=i) I' hN hx hl (show RelV v (.ref D') by rw[ev];rfl) (λs2 I2 h2=>?_) hf);obtain⟨a,sb,ha⟩:=h2;have hca:C≠a:=by
   rcases ha with z |z
   ·rw[z];exact fC.2.1
   ·exact bA (fC.2.2.2.2.1 y a z)
  exact⟨mm,ns.sameBut sb hca,λh' same=>⟨_,_,uJ I2 fC same,q _ m' H' e' S' ((R.mono e').set i rw')⟩⟩
end
section
variable {X:Cx}
def Pl(n:Nat)(k:Int):Prop:=-(2 ^ 62)<=k/\k < 2 ^ 62/\n * k.toNat<=lim
instance {n k}:Decidable (Pl n k):=FP _
def r_:gU
 |.ref l,.int n,st=>match st[l]? with
  |some (.lst ws)=>if Pl ws.length n then .ok (.ref st.length) (st++[.lst (aU n.toNat ws).flatten])else .bad
  |_=> .bad
 |x,y,st=>FG x y st
theorem oT{K:PySem.W.Frag}{m:Mp}{H:Hp}{ws:List Wv}{xs:List V}(r:aq K m H ws xs):∀n:Nat,aq K m H (aU n ws).flatten (aU n xs).flatten
 | 0=>aq.nil
 |n+1=>by rw[iN,rG,iN,rG];exact r.append (oT r n)
theorem KQ:jh X (aem .Mult) r_:=by
 obtain⟨r,h1,h2⟩:=Kv (X:=X);refine⟨_,fh.or Ot h1,λx y a b st H m Q S rx ry p=>?_⟩;unfold r_ at p;split at p
 ·rename_i l n;unfold ah at rx;obtain⟨a1,rfl,hl⟩:=rx;cases a8 ry;cases e:st[l]? with
  |none=>rw[e]at p;exact ab p
  |some o=>
   cases o with
   |dct kvs=>rw[e]at p;exact ab p
   |et kvs=>rw[e]at p;exact ab p
   |zE kvs=>rw[e]at p;exact ab p
   |Ef kvs=>rw[e]at p;exact ab p
   |oK kvs=>rw[e]at p;exact ab p
   |ins _ _=>rw[e]at p;exact ab p
   |rO ns=>rw[e]at p;exact ab p
   |lst ws=>
    rw[e]at p;dsimp only at p;by_cases c:Pl ws.length n
    ·rw[if_pos c]at p;obtain⟨xs,q1,q2⟩:=S.rP hl e;refine .inl ⟨a1,n,xs,rfl,rfl,q1,by have:=c.1;omega,by have:=c.2.1;omega,by rw[<-q2.length];exact fF c.2.2,λq hq=>?_⟩;exact jl p Ext.refl S (oT q2 n.toNat) q hq
    ·rw[if_neg c]at p;exact ab p
 ·exact .inr (h2 x y a b st H m Q S rx ry p)
def sd:List Wv->Hs->Re Wv
 |[.ref l],st=>match aG st l with
  |some ws=> .ok (.ref st.length) (st++[.lst ws])
  |none=> .bad
 |[.tup ws],st=> .ok (.ref st.length) (st++[.lst ws])
 |_,_=> .bad
theorem KR:cY X (.type "list") sd:=⟨_,vH,λws vs st H m Q S rs p=>by
 match ws,rs,p with
 |[],rs,p=>exact ab p
 |x::y::t,rs,p=>cases x<;>exact ab p
 |[x],rs,p=>
  obtain⟨v,rfl,r1⟩:=kZ rs;cases x with
  |ref l=>
   unfold sd at p;unfold ah at r1;obtain⟨a,rfl,hl⟩:=r1;cases e:aG st l with
   |none=>simp only[e]at p;exact ab p
   |some ws=>simp only[e]at p;obtain⟨xs,q1,q2⟩:=S.read hl e;exact⟨a,xs,rfl,.inl q1,λq hq=>jl p Ext.refl S q2 q hq⟩
  |tup ws=>unfold ah at r1;obtain⟨a,xs,rfl,q1,q2⟩:=r1;exact⟨a,xs,rfl,.inr (fM.of q1),λq hq=>jl p Ext.refl S q2 q hq⟩
  |_=>exact ab p⟩
def jq:List Wv->Hs->Re Wv
 |[.ref l],st=>match aG st l with
  |some ws=> .ok (.tup ws) st
  |none=> .bad
 |[.tup ws],st=> .ok (.tup ws) st
 |_,_=> .bad
theorem Pm:cY X (.type "tuple") jq:=⟨_,tQ,λws vs st H m Q S rs p=>by
 match ws,rs,p with
 |[],rs,p=>exact ab p
 |x::y::t,rs,p=>cases x<;>exact ab p
 |[x],rs,p=>
  obtain⟨v,rfl,r1⟩:=kZ rs;cases x with
  |ref l=>
   unfold jq at p;unfold ah at r1;obtain⟨a,rfl,hl⟩:=r1;cases e:aG st l with
   |none=>simp only[e]at p;exact ab p
   |some ws=>simp only[e]at p;obtain⟨xs,q1,q2⟩:=S.read hl e;refine⟨a,xs,rfl,.inl ⟨q1,λq hq=>?_⟩⟩;have e2:Ext X.K m H m (upd H q (.tup xs)):=Ext.upd (.inl hq);exact p (.ref q) m _ e2 (S.fresh hq) (by unfold ah;exact⟨q,xs,rfl,bE,aq.mono e2 _ _ q2⟩)
  |tup ws=>have r1':=r1;unfold ah at r1';obtain⟨a,xs,rfl,q1,q2⟩:=r1';exact⟨a,xs,rfl,.inr ⟨fM.of q1,p _ m H Ext.refl S r1⟩⟩
  |_=>exact ab p⟩
end
end J
namespace JL
open PySem PyProof.Rows
def Ik(p:aeE):Prop:=∃n t,p.1=hJ n t
def kn(p:aeE):Int:=numOf p.1
section
variable {prog:aeh}{w:aek}{A:aee}{E:aej->aei->Prop}{s:aei}
def gp(left:Bool)(key:aeE)(arr:Array aeE)(base i:Nat):Bool:=if left then decide (K arr (base+i) < kn key)else !decide (kn key < K arr (base+i))
end
def Up(l:List aeE):Prop:=l.Pairwise (kn · <=kn ·)
section
variable {α:Type}{f:α->Int}{A B:List α}
theorem drop_take{i n:Nat}(h:i<=n):A.drop i=(A.take n).drop i++A.drop n:=by
 have h1:=KS n A;have h2:=congrArg (List.drop i) h1;rw[List.drop_append]at h2;rw[<-h2];by_cases c:n<=A.length
 ·rw[nD,Nat.min_eq_left c,BG h,F3]
 ·rw[F8 (show A.length<=n by exact Nat.le_of_not_le ‹_›),List.drop_nil]
end
theorem vW{a:Array aeE}(i n:Nat):(a.extract i n).toList=(a.toList.take n).drop i:=by rw[T7,Pn,List.drop_take]
inductive Rn:Nat->List (Nat×Nat×Nat)->List aeE->Prop
 |nil {s:Nat}:Rn s [] []
 |cons {s n p:Nat}{P:List (Nat×Nat×Nat)}{A X:List aeE}:A.length=n->1<=n->Up A->Rn (s+n) P X->Rn s ((s,n,p)::P) (A++X)
section
variable {prog:aeh}{w:aek}{A₀:aee}{E:aej->aei->Prop}{s:aei}
def Wt(xs:Array aeE)(lo:Nat)(Z:List aeE)(st:aeF):Prop:=∃ys P X g,st=SortSt.mk' oneType' ys (List.toArray P) g none/\ys.Perm xs/\ys.toList=X++Z/\X.length=lo/\Rn 0 P X
end
end JL
namespace J
open PySem PySem.Spec PyProof.Rows L2
variable{r:List Int}
section
variable {X:Cx}
def intsOf:List Wv->Option (List Int)
  |[]=>some []
  |.int b::r=>(match intsOf r with |some l=>some (b::l) |none=>none)
  |_=>none
theorem jP:∀ns:List Int,intsOf (ns.map Wv.int)=some ns
  |[]=>rfl
  |n::r=>by rw[aK];unfold intsOf;rw[jP r]
theorem jQ{K:PySem.W.Frag}{m:Mp}{H:Hp}:∀{ws:List Wv}{xs:List V}{bs:List Int},aq K m H ws xs->intsOf ws=some bs->xs=bs.map V.int
  |[],xs,bs,r,h=>by unfold aq at r;cases h;exact r
  |w::ws,xs,bs,r,h=>by
    unfold aq at r;obtain⟨x,t,rfl,r1,r2⟩:=r;cases w with
    |int b=>
      unfold intsOf at h;cases e:intsOf ws with
      |none=>rw[e]at h;cases h
      |some l=>rw[e]at h;cases h;unfold ah at r1;rw[r1,jQ r2 e];rfl
    |_=>cases h
theorem nW:∀{ns:List Int}{its:List aej},Vals (ns.map V.int) its->∃xs:List (Int×Tok),its=xs.map (λp=>hJ p.1 p.2)/\xs.map (·.1)=ns
  |[],its,r=>by cases r;exact⟨[],rfl,rfl⟩
  |n::ns,its,r=>by
    cases r with
    |cons h t=>obtain⟨tk,rfl⟩:=h;obtain⟨xs,e1,e2⟩:=nW t;exact⟨(n,tk)::xs,by rw[e1];rfl,by rw[<-e2];rfl⟩
theorem intsAre_of:∀xs:List (Int×Tok),IntsAre (xs.map λp=>hJ p.1 p.2) (xs.map (·.1))
  |[]=> .nil
  |p::r=> .cons p.1 p.2 (intsAre_of r)
theorem oU(xs:List (Int×Tok))(i:Nat):numAt xs.toArray i=(xs.map (·.1)).getD i 0:=by unfold numAt;rw[List.getElem?_toArray,zS,eo]
theorem sf(xs:List (Int×Tok)):∀k,preSum (numAt xs.toArray) k=((xs.map (·.1)).take k).sum
  | 0=>by simp[preSum]
  |k+1=>by unfold preSum;rw[sf xs k,oU];rw[PySem.sum_take_succ]
theorem Dn(hc:X.calm=true):dJ X (.builtin "sum") (λxs H Q=>∃(p:aed)(ns:List Int),xs=[.ref p]/\mO X.K H p (ns.map V.int)/\Q (.int ns.sum) H):=by
  intro pins s σ H xs us Q I r h;obtain⟨p,ns,rfl,hq,q⟩:=h;obtain⟨u,rfl,rx⟩:=vals1 r;cases rx;obtain⟨its,r',pl,hz⟩:=I.list hq;obtain⟨xs,rfl,rfl⟩:=nW r';have hl:=pl.isList;have e:(xs.map λp=>hJ p.1 p.2).toArray=intItems xs.toArray:=by unfold intItems;simp
  rw[e]at hl;refine sum_intListG (I.ok.hd hc) hl λh' tk t' hk=>⟨.int _,H,I.kept hk,⟨t',?_⟩,q⟩;rw[sf,List.take_of_length_le (by simp)]
def Dp:List Wv->Hs->Re Wv
  |[.ref l],st=>match aG st l with
    |some ws=>(match intsOf ws with |some ns=> .ok (.int ns.sum) st |none=> .bad)
    |none=> .bad
  |_,_=> .bad
theorem Po(hc:X.calm=true):cY X (.builtin "sum") Dp:=⟨_,Dn hc,λws vs st H m Q S rs p=>by
  match ws,rs,p with
  |[],rs,p=>exact ab p
  |x::y::t,rs,p=>cases x<;>exact ab p
  |[x],rs,p=>
    obtain⟨v,rfl,r1⟩:=kZ rs;cases x with
    |ref l=>
      unfold Dp at p;unfold ah at r1;obtain⟨a,rfl,hl⟩:=r1;cases e:aG st l with
      |none=>simp only[e]at p;exact ab p
      |some ws=>
        simp only[e]at p;cases e2:intsOf ws with
        |none=>simp only[e2]at p;exact ab p
        |some bs=>simp only[e2]at p;obtain⟨xs,q1,q2⟩:=S.read hl e;have q3:=jQ q2 e2;subst q3;exact⟨a,bs,rfl,q1,p _ m H Ext.refl S mkInt⟩
    |_=>exact ab p⟩
def Dq(n:Int)(r:List Int):Int:=r.foldl (λa b=>if b > a then b else a) n
def Dr(n:Int)(r:List Int):Int:=r.foldl (λa b=>if b < a then b else a) n
theorem F9:∀(r:List Int)(n:Int),Dq n r∈n::r/\∀a∈n::r,a<=Dq n r
  |[],n=>by simp[Dq]
  |b::r,n=>by
    have e:Dq n (b::r)=Dq (if b > n then b else n) r:=rfl;obtain⟨h1,h2⟩:=F9 r (if b > n then b else n);rw[e];constructor
    · rcases List.mem_cons.mp h1 with z |z
      · rw[z];split<;>simp
      · simp[z]
    · intro a ha;have hn:n<=Dq (if b > n then b else n) r/\b<=Dq (if b > n then b else n) r:=by have q:=h2 _ bC;revert q;split<;>intro q<;>constructor<;>omega
      rcases List.mem_cons.mp ha with z |z
      · rw[z];exact hn.1
      · rcases List.mem_cons.mp z with z |z
        · rw[z];exact hn.2
        · exact h2 a (bb _ z)
theorem F_:∀(r:List Int)(n:Int),Dr n r∈n::r/\∀a∈n::r,Dr n r<=a
  |[],n=>by simp[Dr]
  |b::r,n=>by
    have e:Dr n (b::r)=Dr (if b < n then b else n) r:=rfl;obtain⟨h1,h2⟩:=F_ r (if b < n then b else n);rw[e];constructor
    · rcases List.mem_cons.mp h1 with z |z
      · rw[z];split<;>simp
      · simp[z]
    · intro a ha;have hn:Dr (if b < n then b else n) r<=n/\Dr (if b < n then b else n) r<=b:=by have q:=h2 _ bC;revert q;split<;>intro q<;>constructor<;>omega
      rcases List.mem_cons.mp ha with z |z
      · rw[z];exact hn.1
      · rcases List.mem_cons.mp z with z |z
        · rw[z];exact hn.2
        · exact h2 a (bb _ z)
theorem T8{n M:Int}(h:M∈n::r)(k:∀a∈n::r,a<=M):M=Dq n r:=by obtain⟨h1,h2⟩:=F9 r n;have:=h2 M h;have:=k _ h1;omega
theorem T9{n M:Int}(h:M∈n::r)(k:∀a∈n::r,M<=a):M=Dr n r:=by obtain⟨h1,h2⟩:=F_ r n;have:=h2 M h;have:=k _ h1;omega
theorem uK{l:List Int}{i:Nat}(h:i < l.length):l.getD i 0∈l:=by rw[zS,cA h];exact vX h
theorem Ds(hc:X.calm=true):dJ X (.builtin "max") (λxs H Q=>∃(p:aed)(n:Int)(ns:List Int),xs=[.ref p]/\mO X.K H p ((n::ns).map V.int)/\Q (.int (Dq n ns)) H):=by
  intro pins s σ H xs us Q I r h;obtain⟨p,n,ns,rfl,hq,q⟩:=h;obtain⟨u,rfl,rx⟩:=vals1 r;cases rx;obtain⟨its,r',pl,hz⟩:=I.list hq;obtain⟨xs,rfl,e0⟩:=nW r';have hl:=pl.isList;have e:(xs.map λp=>hJ p.1 p.2).toArray=intItems xs.toArray:=by unfold intItems;simp
  rw[e]at hl;have hsz:xs.length=(n::ns).length:=by rw[<-e0];simp
  have hs0:0 < xs.toArray.size:=by simp[hsz]
  refine max_intList (I.ok.hd hc) hl hs0 λv h' tk hv hk=>?_;obtain⟨t,rfl⟩:=intItems_at hv;obtain⟨h1,h2⟩:=PySem.argBest_gt (numAt xs.toArray) (xs.toArray.size - 1);refine⟨.int _,H,I.kept hk,⟨t,?_⟩,q⟩
  congr 1
  have hn:=λi=>oU xs i;rw[e0]at hn;refine T8 ?_ λa ha=>?_
  · rw[hn];refine uK ?_;have:xs.toArray.size=(n::ns).length:=by simp[hsz]
    omega
  · obtain⟨j,hj,rfl⟩:=List.mem_iff_getElem.mp ha
    have q2 := h2 j (by have : xs.toArray.size = (n :: ns).length := by simp [hsz]
                        omega)
    rw[hn j,zS,cA hj]at q2;exact q2
theorem Dt(hc:X.calm=true):dJ X (.builtin "min") (λxs H Q=>∃(p:aed)(n:Int)(ns:List Int),xs=[.ref p]/\mO X.K H p ((n::ns).map V.int)/\Q (.int (Dr n ns)) H):=by
  intro pins s σ H xs us Q I r h;obtain⟨p,n,ns,rfl,hq,q⟩:=h;obtain⟨u,rfl,rx⟩:=vals1 r;cases rx;obtain⟨its,r',pl,hz⟩:=I.list hq;obtain⟨xs,rfl,e0⟩:=nW r';have hl:=pl.isList;have e:(xs.map λp=>hJ p.1 p.2).toArray=intItems xs.toArray:=by unfold intItems;simp
  rw[e]at hl;have hsz:xs.length=(n::ns).length:=by rw[<-e0];simp
  have hs0:0 < xs.toArray.size:=by simp[hsz]
  refine min_intList (I.ok.hd hc) hl hs0 λv h' tk hv hk=>?_;obtain⟨t,rfl⟩:=intItems_at hv;obtain⟨h1,h2⟩:=PySem.argBest_lt (numAt xs.toArray) (xs.toArray.size - 1);refine⟨.int _,H,I.kept hk,⟨t,?_⟩,q⟩
  congr 1
  have hn:=λi=>oU xs i;rw[e0]at hn;refine T9 ?_ λa ha=>?_
  · rw[hn];refine uK ?_;have:xs.toArray.size=(n::ns).length:=by simp[hsz]
    omega
  · obtain⟨j,hj,rfl⟩:=List.mem_iff_getElem.mp ha
    have q2 := h2 j (by have : xs.toArray.size = (n :: ns).length := by simp [hsz]
                        omega)
    rw[hn j,zS,cA hj]at q2;exact q2
def p5:List Wv->Hs->Re Wv
  |[.ref l],st=>match aG st l with
    |some ws=>(match intsOf ws with |some (n::r)=> .ok (.int (Dq n r)) st |_=> .bad)
    |none=> .bad
  |ws,st=>TX ws st
def p9:List Wv->Hs->Re Wv
  |[.ref l],st=>match aG st l with
    |some ws=>(match intsOf ws with |some (n::r)=> .ok (.int (Dr n r)) st |_=> .bad)
    |none=> .bad
  |ws,st=>TY ws st
theorem cY.or{f:aej}{op op':List Wv->Hs->Re Wv}(g:List Wv->Hs->Re Wv)(h:cY X f op)(h':cY X f op')(k:∀ws st,g ws st=op ws st\/g ws st=op' ws st):cY X f g:=by
  obtain⟨r,h1,h2⟩:=h;obtain⟨r',Mx,h2'⟩:=h';refine⟨_,h1.or Mx,λws vs st H m Q S rs p=>?_⟩;rcases k ws st with e |e
  · rw[e]at p;exact .inl (h2 ws vs st H m Q S rs p)
  · rw[e]at p;exact .inr (h2' ws vs st H m Q S rs p)
def F':List Wv->Hs->Re Wv
  |[.ref l],st=>match aG st l with
    |some ws=>(match intsOf ws with |some (n::r)=> .ok (.int (Dq n r)) st |_=> .bad)
    |none=> .bad
  |_,_=> .bad
def Ga:List Wv->Hs->Re Wv
  |[.ref l],st=>match aG st l with
    |some ws=>(match intsOf ws with |some (n::r)=> .ok (.int (Dr n r)) st |_=> .bad)
    |none=> .bad
  |_,_=> .bad
theorem KU(hc:X.calm=true):cY X (.builtin "max") F':=⟨_,Ds hc,λws vs st H m Q S rs p=>by
  match ws,rs,p with
  |[],rs,p=>exact ab p
  |x::y::t,rs,p=>cases x<;>exact ab p
  |[x],rs,p=>
    obtain⟨v,rfl,r1⟩:=kZ rs;cases x with
    |ref l=>
      unfold F' at p;unfold ah at r1;obtain⟨a,rfl,hl⟩:=r1;cases e:aG st l with
      |none=>simp only[e]at p;exact ab p
      |some ws=>
        simp only[e]at p;cases e2:intsOf ws with
        |none=>simp only[e2]at p;exact ab p
        |some bs=>
          cases bs with
          |nil=>simp only[e2]at p;exact ab p
          |cons n bs=>simp only[e2]at p;obtain⟨xs,q1,q2⟩:=S.read hl e;have q3:=jQ q2 e2;subst q3;exact⟨a,n,bs,rfl,q1,p _ m H Ext.refl S mkInt⟩
    |_=>exact ab p⟩
theorem KW(hc:X.calm=true):cY X (.builtin "min") Ga:=⟨_,Dt hc,λws vs st H m Q S rs p=>by
  match ws,rs,p with
  |[],rs,p=>exact ab p
  |x::y::t,rs,p=>cases x<;>exact ab p
  |[x],rs,p=>
    obtain⟨v,rfl,r1⟩:=kZ rs;cases x with
    |ref l=>
      unfold Ga at p;unfold ah at r1;obtain⟨a,rfl,hl⟩:=r1;cases e:aG st l with
      |none=>simp only[e]at p;exact ab p
      |some ws=>
        simp only[e]at p;cases e2:intsOf ws with
        |none=>simp only[e2]at p;exact ab p
        |some bs=>
          cases bs with
          |nil=>simp only[e2]at p;exact ab p
          |cons n bs=>simp only[e2]at p;obtain⟨xs,q1,q2⟩:=S.read hl e;have q3:=jQ q2 e2;subst q3;exact⟨a,n,bs,rfl,q1,p _ m H Ext.refl S mkInt⟩
    |_=>exact ab p⟩
theorem KY(hc:X.calm=true):cY X (.builtin "max") p5:=cY.or p5 (KU hc) (Pf hc) λws st=>by
  unfold p5 F';split
  · exact .inl rfl
  · exact .inr rfl
theorem KZ(hc:X.calm=true):cY X (.builtin "min") p9:=cY.or p9 (KW hc) (Pg hc) λws st=>by
  unfold p9 Ga;split
  · exact .inl rfl
  · exact .inr rfl
end
variable{z:PySem.Str}
section
variable {X:Cx}
theorem uL:aY z=true↔∀c∈z.cps.toList,c < 1114112:=by
 unfold aY;rw[MH];constructor
 ·intro h c hc;simpa using h c (Array.mem_toList_iff.mp hc)
 ·intro h c hc;simpa using h c (Array.mem_toList_iff.mpr hc)
end
variable{lo hi:Option Int}
section
variable {X:Cx}
theorem Pp:I_ X (λx lo hi H Q=>∃z,x= .str z/\z.length<=aeu/\Q (.str (l_ z lo hi)) H):=by
 intro pins s σ H x v vl vu lo hi sl Q I rx hs pl pu h;obtain⟨z,rfl,hz,q⟩:=h;obtain⟨t,rfl⟩:=rx;have fin:∀t' k,EP X pins σ Q (.str (l_ z lo hi) t') { s with toks:=k }:=λt' k=>⟨.str _,H,I.tok k,⟨t',rfl⟩,q⟩;refine⟨"str",_,PySem.F.slot_str_getitem.lookup,typeIs_str _ _ _,?_⟩;have hl:=aV (Txt.slice_le z lo hi) hz;cases pl with
 |none=>
  cases pu with
  |none=>exact wpAny_getItem_str_slice (l:=none) (u:=none) (st:=none) hs rfl (post_val_or_str ⟨hl,fin⟩)
  |int j tj=>exact wpAny_getItem_str_slice (l:=none) (u:=some (j,tj)) (st:=none) hs rfl (post_val_or_str ⟨hl,fin⟩)
 |int i ti=>
  cases pu with
  |none=>exact wpAny_getItem_str_slice (l:=some (i,ti)) (u:=none) (st:=none) hs rfl (post_val_or_str ⟨hl,fin⟩)
  |int j tj=>exact wpAny_getItem_str_slice (l:=some (i,ti)) (u:=some (j,tj)) (st:=none) hs rfl (post_val_or_str ⟨hl,fin⟩)
theorem Du{c:Nat}(h:c∈(l_ z lo hi).cps.toList):c∈z.cps.toList:=by
 unfold l_ at h;split at h
 ·exact h
 ·simp only[List.mem_filterMap]at h;obtain⟨i,_,e⟩:=h;rw[Array.getElem?_eq_some_iff]at e;obtain⟨hi,rfl⟩:=e;exact Array.mem_toList_iff.mpr (Array.getElem_mem hi)
theorem xT(h:aY z=true):aY (l_ z lo hi)=true:=by rw[uL]at h ⊢;exact λc hc=>h c (Du hc)
end
variable{prog:aeh}{w:aek}{A:aee}{E Q:aej->aei->Prop}{s:aei}{us:Array aej}
section
open HT
theorem tT{t sl:aed}{vl vu:aej}(ht:IsTup s.heap t us)(hs:s.heap.IsSliceOf sl vl vu .none)(pl:IsPart vl lo)(pu:IsPart vu hi)
  (hw:eR us.size 0 lo=0/\eR us.size us.size hi=us.size)(h:Q (.ref t) s):aew (model prog w) A (getItem (.ref t) (.ref sl)) Q E s:=by
 obtain⟨os,o1,o2,o3⟩:=id hs;have tys:s.TypeIs (.ref sl) "slice":=⟨os,o1,o2⟩;unfold getItem;try with_reducible refine aez ?_
 first |refine aex (aeC ?_) |skip
 refine aex (wpAny_sequenceKey ht.typeIs (by decide) ?_);refine aex (wpAny_callSpecial?_slot (name:=lV "__getitem__") ht.typeIs vA (wpAny_call_entry vA ht.typeIs entry_tuple_getitem ?_ (args_tuple_getitem _ _)));show aew _ _ (zc (.ref t) >>= _) _ _ _;refine aex (tupleItemsOf_ ht ?_);refine aex (wpAny_typeOf tys ?_);rw[if_pos (by decide)];refine aex (jj hs pl pu ?_);rw[hw.1,hw.2];have yes:((((0:Nat):Int)) == 0&&(1:Int) == 1&&(us.size - 0) == us.size)=true:=by simp
 show aew _ _ (if((((0:Nat):Int)) == 0&&(1:Int) == 1&&(us.size - 0) == us.size)=true then _ else _) _ _ s;rw[if_pos yes];refine aex (m:=Pq _) ?_;unfold Pq;refine aex (wpAny_typeOf ht.typeIs (aeC ?_));rw[if_pos (by decide)];exact aex (wpAny_rule (aeC ⟨_,rfl,aeC h⟩))
end
variable{pos:Pos}
section
variable {X:Cx}
def X0(K:PySem.W.Frag):V->Option Int->Option Int->Hp->VK->Prop:=λx lo hi H Q=>∃a xs,x= .ref a/\fM K H a xs/\(HT.eR xs.length 0 lo=0/\HT.eR xs.length xs.length hi=xs.length)/\Q (.ref a) H
theorem Gb:I_ X (X0 X.K):=by
 intro pins s σ H x v vl vu lo hi sl Q I rx hs pl pu h;obtain⟨a,xs,rfl,hx,hw,q⟩:=h;cases rx;obtain⟨its,r,ht,hz⟩:=I.tuple hx;have n:its.toArray.size=xs.length:=by rw[bc];exact r.length.symm
 exact⟨"tuple",_,PyProof.Rows.slot_tuple_getitem.lookup,ht.typeIs,tT ht hs pl pu (by rw[n];exact hw) ⟨.ref a,H,I,rfl,q⟩⟩
def nX(n:Nat)(lo hi:Option Int):Prop:=HT.eR n 0 lo=0/\HT.eR n n hi=n
instance {n:Nat}{lo hi:Option Int}:Decidable (nX n lo hi):=inferInstanceAs (Decidable (HT.eR n 0 lo=0/\HT.eR n n hi=n))
def Gd(x:Wv)(lo hi:Option Int)(st:Hs):Re Wv:=match x with
 |.str z=>if z.length<=lim then .ok (.str (l_ z lo hi)) st else .bad
 |.tup ws=>if nX ws.length lo hi then .ok (.tup ws) st else RS (.tup ws) lo hi st
 |x=>RS x lo hi st
def iQ(ga:GE)(gl gh:GO):GE:=λρ st=>(ga ρ st).bind λx st1=>(gl ρ st1).bind λlo st2=>(gh ρ st2).bind λhi st3=>Gd x lo hi st3
theorem Dv{a:Expr}{lo hi:Option Expr}{ga:GE}{gl gh:GO}{p2:Pos}(ha:JE X a ga)(hl:JO X lo gl)(hh:JO X hi gh):JE X (.Subscript a (.Slice lo hi none p2) pos) (iQ ga gl gh):=by
 have hS:JE X (.Subscript a (.Slice lo hi none p2) pos) (λρ st=>(ga ρ st).bind λx st1=>(gl ρ st1).bind λlo st2=>(gh ρ st2).bind λhi st3=>match x with |.str z=>if z.length<=lim then .ok (.str (l_ z lo hi)) st3 else .bad |_=> .bad):=by
  refine JE.of (rC Pp bj uD uD) λρ st σ H m Q S R p=>?_;refine ha.go S R (aM.bind p) λx st1 v m1 H1 p1 e1 S1 rx=>?_;refine hl.go S1 (R.mono e1) ((aM.bind p1).imp e1 λ_ _ q=>q) λl st2 m2 H2 p2 e2 S2=>?_;refine hh.go S2 (R.mono (e1.trans e2)) ((aM.bind p2).imp (e1.trans e2) λ_ _ q=>q) λh st3 m3 H3 p3 e3 S3=>?_;have xi:=e1.trans (e2.trans e3);cases x with
  |str z=>
   dsimp only at p3;by_cases c:z.length<=lim
   ·rw[if_pos c]at p3;unfold ah at rx;obtain⟨rfl,hz⟩:=rx;exact⟨z,rfl,fF c,p3 _ m3 H3 xi S3 (mkStr (xT hz))⟩
   ·rw[if_neg c]at p3;exact ab p3
  |_=>exact ab p3
 have hW:JE X (.Subscript a (.Slice lo hi none p2) pos) (λρ st=>(ga ρ st).bind λx st1=>(gl ρ st1).bind λlo st2=>(gh ρ st2).bind λhi st3=>match x with |.tup ws=>if nX ws.length lo hi then .ok (.tup ws) st3 else RS (.tup ws) lo hi st3 |_=> .bad):=by
  refine JE.of (rC (I_.or Gb ES) bj uD uD) λρ st σ H m Q S R p=>?_;refine ha.go S R (aM.bind p) λx st1 v m1 H1 p1 e1 S1 rx=>?_;refine hl.go S1 (R.mono e1) ((aM.bind p1).imp e1 λ_ _ q=>q) λl st2 m2 H2 p2 e2 S2=>?_;refine hh.go S2 (R.mono (e1.trans e2)) ((aM.bind p2).imp (e1.trans e2) λ_ _ q=>q) λh st3 m3 H3 p3 e3 S3=>?_;have xi:=e1.trans (e2.trans e3);cases x with
  |tup ws=>
   dsimp only at p3;have y7:=ah.mono (e2.trans e3) _ _ rx;unfold ah at y7;obtain⟨a',xs,rfl,f1,f2⟩:=y7;by_cases c:nX ws.length l h
   ·rw[if_pos c]at p3;unfold nX at c;rw[f2.length]at c;exact .inl ⟨a',xs,rfl,fM.of f1,c,p3 _ m3 H3 xi S3 (by unfold ah;exact⟨a',xs,rfl,f1,f2⟩)⟩
   ·rw[if_neg c]at p3;unfold RS at p3;dsimp only at p3;unfold nX at c;rw[if_neg c]at p3;rw[f2.length]at c;refine .inr ⟨a',xs,rfl,fM.of f1,c,λq hq=>?_⟩;have eU:Ext X.K m3 H3 m3 (L2.upd H3 q (.tup (tO xs l h))):=Ext.iy (.inl hq);exact p3 (.ref q) m3 _ (xi.trans eU) (S3.fresh hq) (by unfold ah;exact⟨q,_,rfl,L2.bE,aq.mono eU _ _ (vQ f2)⟩)
  |_=>exact ab p3
 intro ρ st σ H m Q S R p;unfold iQ at p;cases e1:ga ρ st with
 |bad=>rw[e1]at p;exact ab p
 |err c st1=>rw[e1]at p;exact xE ha hl hh ρ st σ H m Q S R (by unfold zK;rw[e1];exact p)
 |ok x st1=>
  rw[e1]at p;cases x with
  |str z=>exact hS ρ st σ H m Q S R (by dsimp only;rw[e1];exact p)
  |tup ws=>exact hW ρ st σ H m Q S R (by dsimp only;rw[e1];exact p)
  |_=>exact xE ha hl hh ρ st σ H m Q S R (by unfold zK;rw[e1];exact p)
def Ge:gU
 |.str i,.str j,st=> .ok (.bl (!(N0 j i 0 j.length 1).isEmpty)) st
 |x,y,st=>XG x y st
theorem Pr:jh X (aeq .In) Ge:=by
 obtain⟨r,h1,h2⟩:=TL (X:=X);refine⟨_,fh.or CT h1,λx y a b st H m Q S rx ry p=>?_⟩;unfold Ge at p;split at p
 ·rename_i i j;unfold ah at rx ry;obtain⟨rfl,_⟩:=rx;obtain⟨rfl,_⟩:=ry;exact .inl ⟨i,j,rfl,rfl,p _ m H Ext.refl S jN⟩
 ·exact .inr (h2 x y a b st H m Q S rx ry p)
end
open PySem PySem.Spec PyProof.Rows L2 PySem.W
def T_(x:Str):It:=⟨λi _=>i < x.cps.size,λi H v H'=>H'=H/\∃c,x.cps[i]? =some c/\v= .str ⟨#[c]⟩,λi _=>x.cps.size<=i⟩
variable{P:aeh}{K:PySem.W.Frag}{tg:Expr}
theorem zT(x:Str)(t:Tok)(it:aed):Turn P w K tg (T_ x) [it] it (λi h=>h.IsStrIter it "str_ascii_iterator" x t i) where
 mem:=List.mem_singleton.mpr rfl
 obj:=λi h st b hb=>by cases List.mem_singleton.mp hb;obtain⟨o,e,c,d⟩:=st;exact⟨o,e,λv z=>by rw[d]at z;cases z⟩
 keep:=λi h h' st k=>let ⟨o,e,r⟩:=st;⟨o,k it (List.mem_singleton.mpr rfl) o e,r⟩
 item:=by intro X hP hw hK hc i pins s σ H E I hf st hg;subst hP;subst hw;subst hK;obtain⟨f0,f1,f2,f3,f4,f5⟩:=hf it (List.mem_singleton.mpr rfl);have hi:i < x.cps.size:=hg;refine wpAny_pyNext_ascii_item st (c:=x.cps[i]) (by simp[hi]) λh' st' sb=>?_;have I1:L2.Inv X pins σ H { s with heap:=h',toks:=s.toks+1 }:=I.turned (t':=s.toks+1) (λb o hb e=>sb.extBut b o hb e) f0 f1 f3 f4 f5;obtain⟨o,e,c,d⟩:=id st';exact⟨_,rfl,uh (s:={ s with heap:=h',toks:=s.toks+1 }) e c d (by decide) ⟨.str ⟨#[x.cps[i]]⟩,H,I1,⟨_,rfl⟩,⟨rfl,_,by simp[hi],rfl⟩,st',λb hb=>(hf b hb).1⟩⟩
 done:=by intro X hP hw hK hc i pins s σ H E I hf st hg;subst hP;subst hw;subst hK;obtain⟨f0,f1,f2,f3,f4,f5⟩:=hf it (List.mem_singleton.mpr rfl);have hi:x.cps.size<=i:=hg;exact wpAny_pyNext_ascii_end (I.ok.hd hc) st (by simp[hi]) λh' eb=>⟨rfl,I.turned (t':=s.toks) (λb o hb e=>eb b o hb e) f0 f1 f3 f4 f5⟩
 self:=λ_ _ _ _ _ st h=>wpAny_pyIter_striter_ascii st h
theorem Dx(x:Str)(t:Tok)(it:aed):Turn P w K tg (T_ x) [it] it (λi h=>h.IsStrIter it "str_iterator" x t i) where
 mem:=List.mem_singleton.mpr rfl
 obj:=λi h st b hb=>by cases List.mem_singleton.mp hb;obtain⟨o,e,c,d⟩:=st;exact⟨o,e,λv z=>by rw[d]at z;cases z⟩
 keep:=λi h h' st k=>let ⟨o,e,r⟩:=st;⟨o,k it (List.mem_singleton.mpr rfl) o e,r⟩
 item:=by intro X hP hw hK hc i pins s σ H E I hf st hg;subst hP;subst hw;subst hK;obtain⟨f0,f1,f2,f3,f4,f5⟩:=hf it (List.mem_singleton.mpr rfl);have hi:i < x.cps.size:=hg;refine wpAny_pyNext_wide_item st (c:=x.cps[i]) (by simp[hi]) λh' st' sb=>?_;have I1:L2.Inv X pins σ H { s with heap:=h',toks:=s.toks+1 }:=I.turned (t':=s.toks+1) (λb o hb e=>sb.extBut b o hb e) f0 f1 f3 f4 f5;obtain⟨o,e,c,d⟩:=id st';exact⟨_,rfl,uh (s:={ s with heap:=h',toks:=s.toks+1 }) e c d (by decide) ⟨.str ⟨#[x.cps[i]]⟩,H,I1,⟨_,rfl⟩,⟨rfl,_,by simp[hi],rfl⟩,st',λb hb=>(hf b hb).1⟩⟩
 done:=by intro X hP hw hK hc i pins s σ H E I hf st hg;subst hP;subst hw;subst hK;obtain⟨f0,f1,f2,f3,f4,f5⟩:=hf it (List.mem_singleton.mpr rfl);have hi:x.cps.size<=i:=hg;exact wpAny_pyNext_wide_end (I.ok.hd hc) st (by simp[hi]) λh' eb=>⟨rfl,I.turned (t':=s.toks) (λb o hb e=>eb b o hb e) f0 f1 f3 f4 f5⟩
 self:=λ_ _ _ _ _ st h=>wpAny_pyIter_striter_wide st h
variable{l:Expr}
section
variable {X:Cx}
theorem Pu{tl:TE}(hl:PE X l tl):PI X tg l (λσ H R=>tl σ H λv H1=>∃z,v= .str z/\R (T_ z) H1):=by
 intro pins s σ H R I h;refine bK (hl pins s σ H _ I h) λv s1 ⟨x,H1,I1,r1,z,e,q⟩=>?_;subst e;obtain⟨t,rfl⟩:=r1;have frs:∀b∈[s1.heap.objs.size],iL X pins H1 b:=λb hb=>by cases List.mem_singleton.mp hb;exact I1.EA (aE _) (I1.hok.fresh (aE _))
 cases ha:z.cps.all (· < 128)
 ·exact wpAny_pyIter_wide ha ⟨s1.heap.objs.size,[s1.heap.objs.size],_,_,H1,rfl,I1.kept (t':=s1.toks) λb o e=>bt _ e,Dx z t _,⟨_,cj _ rfl,rfl,rfl⟩,frs,q⟩
 ·exact wpAny_pyIter_ascii ha ⟨s1.heap.objs.size,[s1.heap.objs.size],_,_,H1,rfl,I1.kept (t':=s1.toks) λb o e=>bt _ e,zT z t _,⟨_,cj _ rfl,rfl,rfl⟩,frs,q⟩
def i8(z:PySem.Str):List Wv:=z.cps.toList.map λc=>Wv.str ⟨#[c]⟩
def xU(w:Wv)(st:Hs):Re Wk:=match w with
 |.str z=> .ok (none,i8 z) st
 |w=>Pj w st
def jR(g:GE):GI:=λρ st=>(g ρ st).bind xU
theorem Pw{m1:Mp}{H1:Hp}(hz:aY z=true):xR X (none,i8 z) m1 H1 (T_ z) where
 go:=λk H m' st _ _ _ hk=>by
  have:k < z.cps.size:=by simpa [i8]using hk
  exact this
 stop:=λk H m' st _ _ _ hk=>by
  have:k=z.cps.size:=by simpa [i8]using hk
  exact nC this.symm
 Ed:=λk hk H v H' m' st _ _ _ y=>by
  obtain⟨rfl,c,hc,rfl⟩:=y;refine⟨rfl,?_⟩;have hk':k < z.cps.size:=by simpa [i8]using hk
  have e:∀h:k < (i8 z).length,(i8 z)[k]'h= .str ⟨#[z.cps[k]]⟩:=by intro h;simp[i8]
  have hc':z.cps[k]=c:=by simpa [hk']using hc
  show ah X.K m' H' ((i8 z)[k]'hk) _;rw[e hk,hc'];refine mkStr ?_;rw[uL]at hz ⊢;intro d hd;simp at hd;rw[hd,<-hc'];exact hz _ (by simp)
theorem vY{iter:Expr}{g:GE}(h:JE X iter g):JI X tg iter (jR g):=by
 obtain⟨w1,h1,k1⟩:=Pk (tg:=tg) h;refine⟨λσ H R=>w1 σ H R\/(SE X iter σ H λv H1=>∃z,v= .str z/\R (T_ z) H1),λpins s σ H R I q=>?_,λρ st σ H m R S RR p=>?_⟩
 ·rcases q with q |q
  ·exact h1 pins s σ H R I q
  ·exact Pu bj pins s σ H R I q
 ·unfold jR at p;cases e:g ρ st with
  |bad=>rw[e]at p;exact ab p
  |err c st'=>rw[e]at p;exact .inl (k1 ρ st σ H m R S RR (by unfold F4;rw[e];exact p))
  |ok w st'=>
   rw[e]at p;cases w with
   |str z=>refine .inr ?_;refine h.go (ok:=λw st1=>w= .str z/\st1=st') S RR (by rw[e];exact⟨rfl,rfl⟩) λw st1 v m1 H1 q e1 S1 r1=>?_;obtain⟨rfl,rfl⟩:=q;unfold ah at r1;obtain⟨rfl,hz⟩:=r1;exact⟨z,rfl,p m1 H1 _ e1 S1 trivial (Pw hz)⟩
   |_=>exact .inl (k1 ρ st σ H m R S RR (by unfold F4;rw[e];exact p))
end
def keyOf:Wv->Option L2.Key
 |.int i=>some (.inl i)
 |.str x=>some (.inr x)
 |.non=>some .non
 |_=>none
variable{m:Mp}{H:Hp}{v:V}
theorem oV{w:Wv}{k:L2.Key}(r:ah K m H w v)(e:keyOf w=some k):v=kV k:=by
 cases w with
 |int i=>cases e;unfold ah at r;rw[r];rfl
 |str x=>cases e;unfold ah at r;rw[r.1];rfl
 |non=>cases e;unfold ah at r;rw[r];rfl
 |_=>cases e
def d_{κ:Type}[DecidableEq κ](kvs:List (κ×Wv))(k:κ):Option Wv:=match kvs with
 |[]=>none
 |p::r=>if p.1=k then some p.2 else d_ r k
variable{κ:Type}
def lh[DecidableEq κ](kvs:List (κ×Wv))(k:κ)(v:Wv):List (κ×Wv):=if(kvs.any λkv=>decide (kv.1=k))=true then kvs.map (λkv=>if kv.1=k then(kv.1,v)else kv)else kvs++[(k,v)]
section
variable {K:PySem.W.Frag}{m:Mp}{H:Hp}{κ:Type}
theorem RelK.nil:RelK (κ:=κ) K m H [] []:=⟨rfl,aq.nil⟩
theorem RelK.cons{k:κ}{w:Wv}{v:V}{kvs:List (κ×Wv)}{xs:List (κ×V)}(h:ah K m H w v)(t:RelK K m H kvs xs):RelK K m H ((k,w)::kvs) ((k,v)::xs) :=
 ⟨by simp[t.1],by simpa using aq.cons h t.2⟩
theorem RelK.nil_inv{xs:List (κ×V)}(h:RelK K m H [] xs):xs=[]:=by
 have:=h.1;cases xs with
 |nil=>rfl
 |cons a b=>simp at this
theorem RelK.cons_inv{p:κ×Wv}{kvs:List (κ×Wv)}{xs:List (κ×V)}(h:RelK K m H (p::kvs) xs):∃v t,xs=(p.1,v)::t/\ah K m H p.2 v/\RelK K m H kvs t:=by
 obtain⟨h1,h2⟩:=h;cases xs with
 |nil=>simp at h1
 |cons q t=>simp at h1 h2;unfold aq at h2;obtain⟨x,r,e1,e2,e3⟩:=h2;cases e1;exact⟨q.2,t,by rw[h1.1],e2,h1.2,e3⟩
theorem RelK.length{kvs:List (κ×Wv)}{xs:List (κ×V)}(h:RelK K m H kvs xs):kvs.length=xs.length:=by have:=congrArg fN h.1;simpa using this
variable [DecidableEq κ]
theorem RelK.val:∀{kvs:List (κ×Wv)}{xs:List (κ×V)}(k:κ),RelK K m H kvs xs->(d_ kvs k=none->i7 xs k=none)/\∀w,d_ kvs k=some w->∃v,i7 xs k=some v/\ah K m H w v
 |[],xs,k,h=>by rw[h.nil_inv];exact⟨λ_=>rfl,(λw e=>by cases e)⟩
 |p::r,xs,k,h=>by
  obtain⟨v,t,rfl,h1,h2⟩:=h.cons_inv;obtain⟨i1,i2⟩:=RelK.val k h2;unfold d_;by_cases e:p.1=k
  ·rw[if_pos e,kR (by exact e)];exact⟨(λz=>by cases z),λw z=>⟨v,rfl,by cases z;exact h1⟩⟩
  ·rw[if_neg e,kU (by exact e)];exact⟨i1,i2⟩
theorem RelK.any:∀{kvs:List (κ×Wv)}{xs:List (κ×V)}(k:κ),RelK K m H kvs xs->(kvs.any λkv=>decide (kv.1=k))=xs.any λkv=>decide (kv.1=k)
 |[],xs,k,h=>by rw[h.nil_inv];rfl
 |p::r,xs,k,h=>by obtain⟨v,t,rfl,h1,h2⟩:=h.cons_inv;rw[f7,f7,RelK.any k h2]
theorem RelK.repl:∀{kvs:List (κ×Wv)}{xs:List (κ×V)}(k:κ){w:Wv}{v:V},RelK K m H kvs xs->ah K m H w v->RelK K m H (kvs.map λkv=>if kv.1=k then(kv.1,w)else kv) (xs.map λkv=>if kv.1=k then(kv.1,v)else kv)
 |[],xs,k,w,v,h,r=>by rw[h.nil_inv];exact RelK.nil
 |p::kvs,xs,k,w,v,h,r=>by
  obtain⟨u,t,rfl,h1,h2⟩:=h.cons_inv;rw[aK,aK];by_cases e:p.1=k
  ·rw[if_pos e,if_pos (by exact e)];exact RelK.cons r (RelK.repl k h2 r)
  ·rw[if_neg e,if_neg (by exact e)];exact RelK.cons h1 (RelK.repl k h2 r)
theorem RelK.snoc:∀{kvs:List (κ×Wv)}{xs:List (κ×V)}(k:κ){w:Wv}{v:V},RelK K m H kvs xs->ah K m H w v->RelK K m H (kvs++[(k,w)]) (xs++[(k,v)])
 |[],xs,k,w,v,h,r=>by rw[h.nil_inv];exact RelK.cons r RelK.nil
 |p::kvs,xs,k,w,v,h,r=>by obtain⟨u,t,rfl,h1,h2⟩:=h.cons_inv;exact RelK.cons h1 (RelK.snoc k h2 r)
theorem RelK.put{kvs:List (κ×Wv)}{xs:List (κ×V)}(k:κ){w:Wv}(h:RelK K m H kvs xs)(r:ah K m H w v):RelK K m H (lh kvs k w) (putK xs k v):=by
 unfold lh putK;rw[h.any k];split
 ·exact h.repl k r
 ·exact h.snoc k r
end
def BH:Wv->aej->Prop
 |.int i,u=>∃t,u= .int i t
 |.str x,u=>(∃t,u= .str x t)/\aY x=true
 |_,_=>False
abbrev Dc:=List (PySem.Str×Wv)
def vZ(w:aek):Dc->List DictEntry->Prop
 |[],[]=>True
 |(k,v)::r,e::t=>(e.hash=hashStr w k/\(∃tk,e.key= .str k tk)/\BH v e.val)/\vZ w r t
 |_,_=>False
def zU(K:PySem.W.Frag)(w:aek)(mg:Str->Option aej)(x:Str)(kvs:Dc):Prop :=
 ∃(a:aed)(es:Array DictEntry)(ep:Nat),mg x=some (.ref a)/\K.lookup a=some ⟨.type "dict",none,.dict es ep,#[]⟩/\(a == sysModules)=false/\vZ w kvs es.toList/\(kvs.map (·.1)).Nodup
theorem nY{P:aeh}{w:aek}:∀{kvs:Dc}{l:List DictEntry},vZ w kvs l->∃vs:List (PySem.Str×aej),vs.map (·.1)=kvs.map (·.1)/\Pairs (PySem.strKind P w) l vs/\(∀e∈l,∃k,(PySem.strKind P w).is k e.key=true/\e.hash=(PySem.strKind P w).hash k)/\
  ∀k,(kvs.lookup k=none->valueAt vs k=none)/\∀v,kvs.lookup k=some v->∃u,valueAt vs k=some u/\BH v u
 |[],[],_=>⟨[],rfl,.nil,(λ_ z=>by cases z),λk=>⟨λ_=>rfl,(λv z=>by cases z)⟩⟩
 |(k,v)::r,e::t,h=>by
  obtain⟨⟨h1,⟨tk,h2⟩,h3⟩,h4⟩:=h;obtain⟨vs,i1,i2,i3,i4⟩:=nY (P:=P) h4;have his:(PySem.strKind P w).is k e.key=true:=by rw[h2];exact strKind_is P w k tk
  refine⟨(k,e.val)::vs,by simp[i1],.cons his rfl i2,λe' he=>?_,λk'=>?_⟩
  ·rcases List.mem_cons.mp he with z |z
   ·subst z;exact⟨k,his,h1⟩
   ·exact i3 e' z
  ·rw[eG];unfold valueAt;rw[kT];by_cases ek:k=k'
   ·subst ek;have b1:(k == k)=true:=by simp
    rw[b1];simp only[decide_true,nz];exact⟨(λz=>by cases z),λv' z=>⟨e.val,rfl,by cases z;exact h3⟩⟩
   ·have b1:(k' == k)=false:=beq_eq_false_iff_ne.mpr λz=>ek z.symm;rw[b1];simp only[ek,decide_false];exact i4 k'
 |[],_::_,h=>ab h
 |_::_,[],h=>ab h
variable{a:aed}{h:Heap}{es:Array DictEntry}{ep:Nat}{kvs:Dc}
theorem K0(KX:K.In h)(hl:K.lookup a=some ⟨.type "dict",none,.dict es ep,#[]⟩)(he:vZ w kvs es.toList)(nd:(kvs.map (·.1)).Nodup):
  ∃vs:List (PySem.Str×aej),h.DictOf (PySem.strKind P w) a vs/\∀k,(kvs.lookup k=none->valueAt vs k=none)/\∀v,kvs.lookup k=some v->∃u,valueAt vs k=some u/\BH v u:=by
 obtain⟨vs,i1,i2,i3,i4⟩:=nY (P:=P) he;exact⟨vs,⟨_,es,ep,KX a _ hl,⟨rfl,rfl,rfl⟩,rfl,λe hm=>i3 e (by simpa using hm),i2,by rw[i1];exact nd⟩,i4⟩
variable{b:Expr}{x:Str}{p:Pos}
section
variable {X:Cx}
def BI(kvs:Dc)(ga:GE):GE:=λρ st=>(ga ρ st).bind λa st1=>match a with
 |.str k=>(match kvs.lookup k with |some w=> .ok w st1 |none=> .bad)
 |_=> .bad
def T'(kvs:Dc)(ty:TE):TE:=λσ H Q=>ty σ H λy H1=>∃z w v,y= .str z/\kvs.lookup z=some w/\(∀u,BH w u->RelV v u)/\Q v H1
theorem K1{ty:TE}(hb:PE X b ty)(hs:E3 b)(hg:Gl X x)(hd:(x == ("__debug__":Str))=false)(D:zU X.K X.w X.mg x kvs):PE X (.Subscript (.Name x p) b pos) (T' kvs ty):=by intro pins s σ H Q I h;obtain⟨a,es,ep,g1,g2,g3,g4,g5⟩:=D;refine Bn PySem.F.slot_dict_getitem.lookup hs (bK (lU (v:=.ref a) hg g1 rfl hd pins s σ H (λv H2=>v= .ref a/\H2=H) I ⟨rfl,rfl⟩) λu s1 ⟨v,H1,I1,rv,ev,eH⟩=>?_);subst ev eH;obtain rfl:u=aL a:=rv;refine bK (hb pins s1 σ H1 _ I1 h) λiv s2 ⟨y,H2,I2,ry,z,w,v,ey,ew,ev,q⟩=>?_;subst ey;obtain⟨t,rfl⟩:=(show ∃t,iv=qB z t from ry);obtain⟨vs,dd,look⟩:=K0 (P:=X.prog) (w:=X.w) I2.ze g2 g4 g5;obtain⟨u,e1,e2⟩:=(look z).2 w ew;exact⟨dd.typeIs,wpAny_getItem_of (strKind_is X.prog X.w z t) dd.mapOf e1 ⟨v,H2,I2.tok _,ev u e2,q⟩⟩
theorem K2{gb:GE}(hb:JE X b gb)(hs:E3 b)(hg:Gl X x)(hd:(x == ("__debug__":Str))=false)(D:zU X.K X.w X.mg x kvs):JE X (.Subscript (.Name x p) b pos) (BI kvs gb) :=
 JE.of (K1 bj hs hg hd D) λρ st σ H m Q S R p=>by
  refine hb.go S R (aM.bind p) λw st1 v m1 H1 p1 e1 S1 r1=>?_;cases w with
  |str k=>
   dsimp only at p1;cases e:kvs.lookup k with
   |none=>rw[e]at p1;exact ab p1
   |some u=>
    rw[e]at p1;unfold ah at r1;cases u with
    |int i=>exact⟨k,.int i,.int i,r1.1,e,λu h=>h,p1 _ m1 H1 e1 S1 (by unfold ah;rfl)⟩
    |str y=>
     by_cases hy:aY y=true
     ·exact⟨k,.str y,.str y,r1.1,e,λu h=>h.1,p1 _ m1 H1 e1 S1 (by unfold ah;exact⟨rfl,hy⟩)⟩
     ·obtain⟨a,es,ep,_,_,_,g4,_⟩:=D;obtain⟨vs,_,_,_,i4⟩:=nY (P:=X.prog) g4;obtain⟨u,_,e2⟩:=(i4 k).2 _ e;exact absurd e2.2 hy
    |_=>obtain⟨a,es,ep,_,_,_,g4,_⟩:=D;obtain⟨vs,_,_,_,i4⟩:=nY (P:=X.prog) g4;obtain⟨u,_,e2⟩:=(i4 k).2 _ e;exact ab e2
  |_=>exact ab p1
end
open PySem PySem.Spec PyProof.Rows PySem.W L2
section
variable {lt:Nat->Nat->Bool}{N:Nat}
abbrev at_(p:Array Nat)(i:Nat):Nat:=p.getD i 0
def Up(lt:Nat->Nat->Bool)(p:Array Nat)(k:Nat):Prop:=∀i j,i<=j->j < k->lt (at_ p j) (at_ p i)=false
end
theorem Px{h':Heap}{L:aed}{m m':Str->Option aej}(a:h.Ns L m)(b:h.Ns L m')(c:h'.Ns L m):h'.Ns L m':=by obtain⟨o,es,ep,e1,e2,_,e4⟩:=a;obtain⟨o',es',Mo,f1,f2,_,f4⟩:=b;rw[e1]at f1;cases f1;rw[e2]at f2;cases f2;have:m=m':=funext λx=>(e4 x).symm.trans (f4 x);rw[<-this];exact c
section
variable {X:Cx}
abbrev pw(p:Int×Int):Wv:=.tup [.int p.1,.int p.2]
end
def keysOf:List Wv->Option (List L2.Key)
 |[]=>some []
 |w::r=>(match keyOf w,keysOf r with |some k,some l=>some (k::l) |_,_=>none)
def i9:Wv->Option (List L2.Key)
 |.tup ws=>keysOf ws
 |_=>none
theorem sh{K:PySem.W.Frag}{m:Mp}{H:Hp}:∀{ws:List Wv}{xs:List V}{ks:List L2.Key},aq K m H ws xs->keysOf ws=some ks->xs=ks.map kV
 |[],xs,ks,r,e=>by unfold aq at r;subst r;cases e;rfl
 |w::ws,xs,ks,r,e=>by
  unfold aq at r;obtain⟨x,t,rfl,r1,r2⟩:=r;unfold keysOf at e;cases e1:keyOf w with
  |none=>rw[e1]at e;cases e
  |some k=>
   cases e2:keysOf ws with
   |none=>rw[e1,e2]at e;cases e
   |some l=>rw[e1,e2]at e;cases e;rw[oV r1 e1,sh r2 e2];rfl
variable{ks:List L2.Key}
theorem jr{w:Wv}(r:ah K m H w v)(e:i9 w=some ks):∃b,v= .ref b/\H b=some (.tup (ks.map kV)):=by
 cases w with
 |tup ws=>unfold ah at r;obtain⟨a,xs,rfl,h1,h2⟩:=r;rw[sh h2 e]at h1;exact⟨a,rfl,h1⟩
 |_=>cases e
def kE:GE:=λ_ st=> .ok (.ref st.length) (st++[.et []])
variable{st:Hs}{pos':Pos}
section
variable {X:Cx}
theorem K3:JE X (.Dict [] [] pos) kE:=JE.of E5 λρ st σ H m Q S R p=>λq hq=>
 p (.ref q) (m++[q]) _ (Ext.more.trans (Ext.iy (.inl hq))) (S.rQ hq ⟨[],bE,RelK.nil⟩) (S.newest q _)
def putD(d k v:Wv)(st:Hs):Option Hs:=match d with
 |.ref l=>(match st[l]? with
  |some (.dct kvs)=>(match keyOf k with |some kk=>if kvs.length < lim then some (st.set l (.dct (lh kvs kk v)))else none |none=>none)
  |some (.et kvs)=>(match i9 k with |some kk=>if kvs.length < lim then some (st.set l (.et (lh kvs kk v)))else none |none=>none)
  |_=>none)
 |_=>none
def ju(gv gd gk:GE):GS:=λρ st=>(gv ρ st).bK ρ λv st1=>(gd ρ st1).bK ρ λd st2=>(gk ρ st2).bK ρ λk st3=>match putD d k v st3 with
 |some uA=> .nx ρ uA
 |none=> .bad
theorem K4{st':Hs}{d k v:Wv}{x y z:V}(S:cb X.K m st H)(rd:ah X.K m H d x)(rk:ah X.K m H k y)(rv:ah X.K m H v z)(e:putD d k v st=some st'):∃a H',x= .ref a/\vJ H a y z H'/\Ext X.K m H m H'/\cb X.K m st' H':=by
 unfold putD at e;cases d with
 |ref l=>
  dsimp only at e;unfold ah at rd;obtain⟨a,rfl,ha⟩:=rd;cases e1:st[l]? with
  |none=>rw[e1]at e;cases e
  |some o=>
   rw[e1]at e;cases o with
   |dct kvs=>
    dsimp only at e;cases e2:keyOf k with
    |none=>rw[e2]at e;cases e
    |some kk=>
     rw[e2]at e;dsimp only at e;by_cases c:kvs.length < lim
     ·rw[if_pos c]at e;cases e;obtain⟨xs,h1,h2⟩:=(show ∃ys,H a=some (.dK ys)/\RelK X.K m H kvs ys from S.obj _ _ _ ha e1);have ex:Ext X.K m H m (upd H a (.dK (putK xs kk z))):=Ext.iy (.inr (.inr (.inl ⟨_,h1⟩)));refine⟨a,_,rfl,by rw[oV rk e2];exact vJ.k h1 (by rw[<-h2.length];exact vM c),ex,?_⟩;exact S.oQ ha e1 rfl ⟨_,bE,(h2.put kk rv).mono ex⟩
     ·rw[if_neg c]at e;cases e
   |et kvs=>
    dsimp only at e;cases e2:i9 k with
    |none=>rw[e2]at e;cases e
    |some kk=>
     rw[e2]at e;dsimp only at e;by_cases c:kvs.length < lim
     ·rw[if_pos c]at e;cases e;obtain⟨xs,h1,h2⟩:=(show ∃ys,H a=some (.dT ys)/\RelK X.K m H kvs ys from S.obj _ _ _ ha e1);obtain⟨b,rfl,hb⟩:=jr rk e2;have ex:Ext X.K m H m (upd H a (.dT (putK xs kk z))):=Ext.iy (.inr (.inr (.inr (.inl ⟨_,h1⟩))));refine⟨a,_,rfl,vJ.t h1 hb (by rw[<-h2.length];exact vM c),ex,?_⟩;exact S.oQ ha e1 rfl ⟨_,bE,(h2.put kk rv).mono ex⟩
     ·rw[if_neg c]at e;cases e
   |_=>cases e
 |_=>cases e
theorem K5{o i e:Expr}{go gi ge:GE}(hu:X.A.units+1 < cLine)(he:JE X e ge)(ho:JE X o go)(hi:JE X i gi)(hs:swapsWith e (some (.Subscript o i pos')) pos.line X.env=pure false):JS X (.Assign [.Subscript o i pos'] e pos) (ju ge go gi) :=
 JS.of (J8 hu bj bj bj hs) λρ st σ H m D S R p=>by
  refine he.go S R (bh.dc R p) λv st1 vv m1 H1 p1 e1 S1 rv=>?_;refine ho.go S1 (R.mono e1) ((bh.dc (m:=m) (H:=H) R p1).imp e1 λ_ _ q=>q) λd st2 vd m2 H2 p2 e2 S2 rd=>?_;refine hi.go S2 (R.mono (e1.trans e2)) ((bh.dc (m:=m) (H:=H) R p2).imp (e1.trans e2) λ_ _ q=>q) λk st3 vk m3 H3 p3 e3 S3 rk=>?_;have xi:=e1.trans (e2.trans e3);cases e4:putD d k v st3 with
  |none=>rw[e4]at p3;exact ab p3
  |some uA=>rw[e4]at p3;obtain⟨a,H4,f1,f2,f3,f4⟩:=K4 (X:=X) S3 (ah.mono e3 _ _ rd) rk (ah.mono (e2.trans e3) _ _ rv) e4;exact⟨a,H4,f1,f2,p3 σ m3 H4 (xi.trans f3) f4 (R.mono (xi.trans f3))⟩
end
def oW(h:Heap)(d:aed)(es:Array DictEntry)(ep:Nat):Prop:=∃o,h.get? d=some o/\o.cls= .type "dict"/\o.data= .dict es ep
section
variable {prog:aeh}{w:aek}{A:aee}{E:aej->aei->Prop}{s:aei}{d it:aed}{es:Array DictEntry}{ep i:Nat}
theorem oW.ty(x:oW s.heap d es ep):s.TypeIs (.ref d) "dict":=let ⟨o,h1,h2,_⟩:=x;⟨o,h1,h2⟩
theorem Gf(lo:(d == sysModules)=false)(x:oW s.heap d es ep)
  (k:Q (.ref s.heap.objs.size) { s with heap:=s.heap.push { cls:=.type "dict_keyiterator",data:=.fields #[.ref d,.int 0 0,.int es.size 0,.int ep 0] } }):aew (model prog w) A (pyIter (.ref d)) Q E s:=by
 have ty:=x.ty;obtain⟨o,g1,g2,g3⟩:=x;refine wpAny_pyIter_slot ty PySem.F.slot_dict_iter (wpAny_call_entry PySem.F.slot_dict_iter ty PySem.F.entry_dict_iter ?_ (PySem.F.args_dict_iter_1 _));unfold Builtin.«dict.__iter__» Builtin.Dict.dictSlotNone;refine aex (aex (wpAny_notOrdered_dict ty (aeC ?_)));unfold zV;have nlo:¬(d == sysModules)=true:=by rw[lo];exact aH
 refine aex (show aew _ _ (pure d) _ _ s from aeC (aex ?_));rw[if_neg nlo];exact aeC (aex (aey g1 g3 (aex (wpAny_dictEpoch g1 g3 (aex (aeB (aeC ⟨_,rfl,"dict_keyiterator",_,⟨_,cj _ rfl,rfl⟩,PySem.F.slot_dict_keyiterator_next.lookup,by simpa [rawInt]using k⟩)))))))
theorem Gg{Q:Option aej->aei->Prop}(ki:s.heap.IsKeyIter it d i es.size ep)(x:oW s.heap d es ep)(hi:i < es.size)
  (k:∀h',h'.IsKeyIter it d (i+1) es.size ep->jE it s.heap h'->Q (some es[i].key) { s with heap:=h' }):aew (model prog w) A (pyNext (.ref it)) Q E s:=by
 have ty:=ki.typeIs;obtain⟨oi,f1,f2,f3⟩:=id ki;obtain⟨o,g1,g2,g3⟩:=x;have own:Py "dict_keyiterator"=false:=by decide
 have nn:¬((aL d == cN)=true):=aH;unfold pyNext;refine aex (wpAny_attempt (wpAny_callSpecial?_slot (name:=lV "__next__") ty PySem.F.slot_dict_keyiterator_next (wpAny_call_entry PySem.F.slot_dict_keyiterator_next ty PySem.F.entry_dict_keyiterator_next ?_ (PySem.F.args_dict_keyiterator_next_1 _))));refine aex (aeC (aex (aex ?_)))
 first |refine aex (wpAny_typeNameOfWhole_keyiter ty (aeC (aex (wpAny_fieldsOf f1 f3 ?_)))) |refine aex (wpAny_typeNameOf_keyiter ty (aeC (aex (wpAny_fieldsOf f1 f3 ?_))))
 simp only[own,eS,if_false];refine(show aew _ _ (if(aL d == cN)=true then _ else _) _ _ s from ?_);rw[if_neg nn];refine aex (aeC (aex (aey g1 g3 ?_)));rw[if_neg (by simp)];refine aex (aeC (aex (wpAny_dictEpoch g1 g3 ?_)));rw[if_neg (by simp)];refine aeC ?_;have n0:¬((i:Int) < 0):=by omega
 simp only[n0,if_false,Int.toNat_natCast,Array.getElem?_eq_getElem hi];refine aex ?_
 first |refine aex (wpAny_typeNameOfWhole_keyiter ty (aeC (aex (wpAny_isOneOf_keyiter ty ?_)))) |refine aex (wpAny_typeNameOf_keyiter ty (aeC (aex (wpAny_isOneOf_keyiter ty ?_))))
 refine(show aew _ _ (setField (.ref it) 1 (rawInt ((i:Int)+1)) >>= _) _ _ s from ?_);have ki':(s.heap.update it (jK (·.setIfInBounds 1 (rawInt ((i:Int)+1))))).IsKeyIter it d (i+1) es.size ep:=⟨_,rD _ f1 (Bp (qJ f3 _)),(Obj.cls_mapFields ..).trans f2,by rw[qJ f3];simp[rawInt]⟩;refine aex (wpAny_setField f1 f3 (by simp) (aex (aez (aex (wpAny_isOneOf_keyiter (s:={ s with heap:=s.heap.update it (jK (·.setIfInBounds 1 (rawInt ((i:Int)+1)))) }) ki'.typeIs ?_)))));exact(show aew _ _ (pure es[i].key) _ _ _ from aeC (aeC ⟨_,rfl,aeC (k _ ki' (v5 ..))⟩))
theorem K6{Q:Option aej->aei->Prop}(hh:A.handled=none)(ki:s.heap.IsKeyIter it d i es.size ep)(x:oW s.heap d es ep)(hi:es.size<=i)(k:∀h',Heap.ExtBut it s.heap h'->Q none { s with heap:=h' }):aew (model prog w) A (pyNext (.ref it)) Q E s:=by
 have ty:=ki.typeIs;obtain⟨oi,f1,f2,f3⟩:=id ki;obtain⟨o,g1,g2,g3⟩:=x;have own:Py "dict_keyiterator"=false:=by decide
 have nn:¬((aL d == cN)=true):=aH;unfold pyNext;refine aex (wpAny_attempt (wpAny_callSpecial?_slot (name:=lV "__next__") ty PySem.F.slot_dict_keyiterator_next (wpAny_call_entry PySem.F.slot_dict_keyiterator_next ty PySem.F.entry_dict_keyiterator_next ?_ (PySem.F.args_dict_keyiterator_next_1 _))));refine aex (aeC (aex (aex ?_)))
 first |refine aex (wpAny_typeNameOfWhole_keyiter ty (aeC (aex (wpAny_fieldsOf f1 f3 ?_)))) |refine aex (wpAny_typeNameOf_keyiter ty (aeC (aex (wpAny_fieldsOf f1 f3 ?_))))
 simp only[own,eS,if_false];refine(show aew _ _ (if(aL d == cN)=true then _ else _) _ _ s from ?_);rw[if_neg nn];refine aex (aeC (aex (aey g1 g3 ?_)));rw[if_neg (by simp)];refine aex (aeC (aex (wpAny_dictEpoch g1 g3 ?_)));rw[if_neg (by simp)];refine aeC ?_;have n0:¬((i:Int) < 0):=by omega
 simp only[n0,if_false,Int.toNat_natCast,Array.getElem?_eq_none hi];refine aex ?_
 first |refine aex (wpAny_typeNameOfWhole_keyiter ty (aeC ?_)) |refine aex (wpAny_typeNameOf_keyiter ty (aeC ?_))
 refine(show aew _ _ (setField (.ref it) 0 .none >>= _) _ _ s from aex (wpAny_setField f1 f3 (by simp) ?_));refine(show aew _ _ (newExc (.type "StopIteration") [] >>= _) _ _ _ from ?_);simp only[newExc,newTuple,raiseNew];refine aex (aex (aeB (aex (m:=firstArgMember _ _) (wpAny_of_eq (a:=cN) (by first |rfl |(simp only[firstArgMember];rfl)) (aeB ?_ (by size_fits)))) (by size_fits)));refine(aex (wpAny_handled ?_));rw[show A.in1.handled=none by exact hh];refine(aex (aeC (wpAny_throw ?_)));refine aex (wpAny_isInstance (b:=true) (T:="StopIteration") ⟨_,cj _ rfl,rfl⟩ isSubtype_stop (aeC ?_));refine k _ ?_;exact((v5 ..).extBut.push _).push _
theorem Dy(hh:A.handled=none)(I:aed)(hne:d≠I):Walks prog w A I [I,d] [I] es.size (λi v=>∃h:i < es.size,v=es[i].key) (λi h=>h.IsKeyIter I d i es.size ep/\oW h d es ep) where
 sub:=λb hb=>List.mem_cons.mpr (.inl (List.mem_singleton.mp hb))
 frame:=λ_ _ _ st hk=>⟨st.1.at λo e=>hk I (by simp) o e,let ⟨o,e1,e2⟩:=st.2;⟨o,hk d (by simp) o e1,e2⟩⟩
 item:=λi s Q E hi st hQ=>Gg st.1 st.2 hi λh' ki sb=>hQ _ h' s.toks ⟨hi,rfl⟩ ⟨ki,let ⟨o,e1,e2⟩:=st.2;⟨o,sb.extBut d o hne e1,e2⟩⟩ λb o hb e=>sb.extBut b o (λz=>hb (by simp[z])) e
 done:=λs Q E st hQ=>K6 hh st.1 st.2 (aE _) λh' eb=>hQ h' s.toks λb o hb e=>eb b o (λz=>hb (by simp[z])) e
 self:=λ_ _ _ _ st k=>wpAny_pyIter_keyiter st.1 k
theorem BJ(lo:(d == sysModules)=false):KdlSrc prog w "dict" d d es.size (λi v=>∃h:i < es.size,v=es[i].key) (λh=>oW h d es ep) where
 type:=λ_ x=>x.ty
 there:=λ_ x=>let ⟨o,e,_⟩:=x;⟨a7 e,a7 e⟩
 keep:=λ_ _ x hk=>let ⟨o,e,r⟩:=x;⟨o,hk d (.inl rfl) o e,r⟩
 notList:=by decide
 notTuple:=by decide
 hint:=λ_ _ _ _ x hq=>kdl_hint_dict x.ty hq
 iter:=λ_ s hh x=>⟨_,_,(λ_ _ hq=>Gf lo x hq),Dy hh _ (by obtain⟨o,e,_⟩:=x;exact bU (a7 e)),⟨⟨_,cj _ rfl,rfl,rfl⟩,let ⟨o,e,r⟩:=x;⟨o,bt _ e,r⟩⟩⟩
end
abbrev V5(H:Hp):List V->List (List L2.Key)->Prop:=Paired λv k=>∃b,v= .ref b/\H b=some (.tup (k.map kV))
theorem BK{H:Hp}:∀{kvs:List (List L2.Key×V)}{xs:List (List L2.Key×aed×aej)},KT H kvs xs->V5 H (xs.map λx=>V.ref x.2.1) (kvs.map (·.1))
 |_,_,.nil=> .nil
 |_,_,.cons h t=> .cons ⟨_,rfl,h.2.1⟩ (BK t)
theorem uM{α:Type}(f:α->aed):∀xs:List α,Vals (xs.map λx=>V.ref (f x)) (xs.map λx=>aL (f x))
 |[]=> .nil
 |x::r=> .cons rfl (uM f r)
section
variable {X:Cx}
theorem zW:dJ X (.type "list") (λxs H Q=>∃(p:aed)(kvs:List (List L2.Key×V)),xs=[.ref p]/\H p=some (.dT kvs)/\X.A.handled=none/\∀l vs',H l=none->V5 H vs' (kvs.map (·.1))->Q (.ref l) (upd H l (.lst vs'))):=by
 intro pins s σ H xs us Q I r h;obtain⟨p,kvs,rfl,hp,hh,q⟩:=h;obtain⟨u,rfl,rx⟩:=vals1 r;cases rx;obtain⟨z,lo,ys,kt,o,es,ep,g1,g2,g3,g4,g5,g6⟩:=E2 I.hok hp;have len:es.size=ys.length:=by have:=congrArg fN g4;simpa using this
 have oX:kvs.length=ys.length:=kt.length;obtain⟨m,hn,hl⟩:=id I.loc;have raw:oW s.heap p es ep:=⟨o,g1,g2.1,g3⟩;refine kdl_N (BJ lo) hh (Att.Ou hn) (Ep (g:=Att.vI s.heap) (h:=s.heap) (L:=X.env.locals)) raw (by rw[len,<-oX];exact z) λD c h'' tk vs F'' X1 hD hlen hv=>?_;have X2:vs=ys.map λx=>aL x.2.1:=by
  refine Gh λj=>?_;cases e:vs[j]? with
  |none=>
   have hj:vs.length<=j:=by simpa using e
   rw[K7];simp;omega
  |some v=>
   obtain⟨hj,ev⟩:=hv j v e;have hj':j < ys.length:=by omega
   have q1:es.toList[j]'(by simpa using hj)=entryOfKey (tupleKind (bH X.prog X.w)) ys[j]:=by
    have:es.toList[j]? =(ys.map (entryOfKey (tupleKind (bH X.prog X.w))))[j]?:=by rw[g4]
    rw[cA (by simpa using hj),eo,cA hj']at this;simpa using this
   rw[eo,cA hj',ev];have q2:es[j]=es.toList[j]'(by simpa using hj):=by simp
   rw[q2,q1];rfl
 subst X2;have hDL:D≠X.env.locals:=(X1 (D,_) bC).2.1;have BL:∀b o,b≠X.env.locals->s.heap.get? b=some o->h''.get? b=some o:=λb o n e=>(X1 (b,o) (bb _ (pQ n (Att.mR _ _) e))).1;have hD0:s.heap.get? D=none:=by
  cases e:s.heap.get? D with
  |none=>rfl
  |some o=>exact absurd (hD (D,o) (pQ hDL (Att.mR _ _) e)) (fg _)
 have hHD:H D=none:=by
  cases e:H D with
  |none=>rfl
  |some ob=>obtain⟨z,e'⟩:=Di (I.hok D ob e);rw[hD0]at e';cases e'
 have Ua:∀b u,H b=some u->b≠D:=λb u e=>c_ e hHD;have Sf:∀b u,H b=some u->b≠X.env.locals:=λb u e=>c_ e I.free;have I':Inv X pins σ (upd H D (.lst (ys.map λx=>V.ref x.2.1))) { s with heap:=h'',toks:=tk }:=by
  refine I.step (g':=s.gens) (d':=s.drawn) (t':=tk) (ch:=[]) (λ_ z=>nomatch z) (λb o n _ _ e _=>BL b o n e) (λb o n _ _ e _=>⟨o.slots,BL b o n e⟩) (λb o _ e n=>?_) (λb o _ e=>?_) (λb xs e=>?_) (λb o u e=>?_) (λb ps e=>?_) (λm' hm=>Px hn hm F''.ns) (λb ob e=>?_) I.bare
  ·rw[aZ (λz=>by subst z;rw[hD0]at e;cases e)];exact n
  ·by_cases z:b=X.env.locals
   ·subst z;obtain⟨o',_,_,e',_⟩:=F''.ns;exact⟨o',e'⟩
   ·exact⟨o,BL b o z e⟩
  ·rw[aZ (Ua _ _ e)];exact e
  ·rw[aZ (Ua _ _ e)];exact e
  ·exact⟨#[],by rw[aZ (Ua _ _ e),e];simp⟩
  ·by_cases z':b=D
   ·subst z';rw[bE]at e;cases e;exact⟨by rw[bP,<-oX];exact z,_,c,uM (λx=>x.2.1) ys,(X1 (b,_) bC).1⟩
   ·rw[aZ z']at e;refine(I.hok b ob e).stay (λc v hc q=>BL c v ?_ q) (λc q=>by rw[aZ (Ua _ _ q)];exact q) λc xs q=>by rw[aZ (Ua _ _ q)];exact q
    rcases hc with y |y
    ·rw[y];exact Sf b ob e
    ·exact Sf c _ y
 exact⟨.ref D,_,I',rfl,q D _ hHD (BK kt)⟩
end
def qm:List L2.Key->Option (List Int)
 |[]=>some []
 |.inl i::r=>(match qm r with |some l=>some (i::l) |none=>none)
 |_=>none
theorem BM:∀{ks:List L2.Key}{ns:List Int},qm ks=some ns->ks.map kV=ns.map V.int
 |[],ns,e=>by cases e;rfl
 |.inl i::r,ns,e=>by
  unfold qm at e;cases q:qm r with
  |none=>rw[q]at e;cases e
  |some l=>rw[q]at e;cases e;rw[aK,aK,BM q];rfl
 |.inr x::r,ns,e=>by cases e
 |.non::r,ns,e=>by cases e
def p_:List (List L2.Key)->Option (List Wv)
 |[]=>some []
 |k::r=>(match qm k,p_ r with |some ns,some l=>some (.tup (ns.map Wv.int)::l) |_,_=>none)
theorem uN{K:PySem.W.Frag}{m:Mp}{H:Hp}:∀{vs:List V}{ks:List (List L2.Key)}{ws:List Wv},V5 H vs ks->p_ ks=some ws->aq K m H ws vs
 |_,_,ws,.nil,e=>by cases e;exact aq.nil
 |_,_,ws,.cons (b:=k) (l₂:=ks) h t,e=>by
  obtain⟨b,rfl,hb⟩:=h;unfold p_ at e;cases q1:qm k with
  |none=>rw[q1]at e;cases e
  |some ns=>
   cases q2:p_ ks with
   |none=>rw[q1,q2]at e;cases e
   |some l=>rw[q1,q2]at e;cases e;refine aq.cons ?_ (uN t q2);rw[BM q1]at hb;unfold ah;exact⟨b,_,rfl,hb,aq.ints ns⟩
def mV:List Wv->Hs->Re Wv
 |[.ref l],st=>match st[l]? with
  |some (.et kvs)=>(match p_ (kvs.map (·.1))with |some ws=> .ok (.ref st.length) (st++[.lst ws]) |none=> .bad)
  |_=>sd [.ref l] st
 |ws,st=>sd ws st
section
variable {X:Cx}
theorem xV(hc:X.calm=true):dJ X (.type "list") (λxs H Q=>∃(p:aed)(kvs:List (List L2.Key×V)),xs=[.ref p]/\H p=some (.dT kvs)/\∀l vs',H l=none->V5 H vs' (kvs.map (·.1))->Q (.ref l) (upd H l (.lst vs'))):=by intro pins s σ H xs us Q I r h;obtain⟨p,kvs,e,hp,q⟩:=h;exact zW pins s σ H xs us Q I r ⟨p,kvs,e,hp,I.ok.hd hc,q⟩
theorem Gi(hc:X.calm=true):cY X (.type "list") mV:=by
 obtain⟨rr,h1,h2⟩:=KR (X:=X);refine⟨_,(xV hc).or h1,λws vs st H m Q S rs p=>?_⟩;have other:df X.K m H (sd ws st) Q->rr vs H Q:=λp=>h2 ws vs st H m Q S rs p
 match ws,rs,p,other with
 |[],rs,p,other=>exact .inr (other p)
 |x::y::t,rs,p,other=>exact .inr (other (by cases x<;>exact p))
 |[x],rs,p,other=>
  cases x with
  |ref l=>
   unfold mV at p;cases e:st[l]? with
   |none=>simp only[e]at p;exact .inr (other p)
   |some o=>
    simp only[e]at p;cases o with
    |et kvs=>
     dsimp only at p;cases e2:p_ (kvs.map (·.1))with
     |none=>rw[e2]at p;exact ab p
     |some us=>rw[e2]at p;obtain⟨v,rfl,r1⟩:=kZ rs;unfold ah at r1;obtain⟨a,rfl,ha⟩:=r1;obtain⟨xs,g1,g2⟩:=(show ∃ys,H a=some (.dT ys)/\RelK X.K m H kvs ys from S.obj _ _ _ ha e);refine .inl ⟨a,xs,rfl,g1,λk vs' hk hy=>?_⟩;rw[<-g2.1]at hy;exact p (.ref k) (m++[k]) _ (Ext.more.trans (Ext.upd (.inl hk))) (S.alloc hk (uN hy e2)) (S.newest k _)
    |_=>exact .inr (other p)
  |_=>exact .inr (other p)
end
open PySem L2 PyProof.Rows
def lexLe:List Int->List Int->Bool
 |[],_=>true
 |_::_,[]=>false
 |a::as,b::bs=>if a=b then lexLe as bs else decide (a<=b)
theorem Gj(A:aee)(s:aei)(a:Int)(t:Tok)(c:Int)(u:Tok)(prog:aeh)(w:aek)(E:aej->aei->Prop)(Q:aej->aei->Prop)(h:Q (.bool (decide (a<=c))) s):
  aew (model prog w) A (richCompare .LtE (.int a t) (.int c u)) Q E s :=
 (PyProof.Rows.le_int h:aew (model prog w) A (aeq .LtE (.int a t) (.int c u)) Q E s)
section
open PySem.SeqAt PySem.MeetsSeq PySem.MeetsSeq2 PySem.MeetsSeq3
theorem Pz(p q:aed)(us vs:Array aej)(k k2:Nat)(d1 d2:Option aed)(z1 z2:Array (Option aej))(is js:List Int)(ui:IntsAre us.toList is)(vi:IntsAre vs.toList js):
  Meets (Builtin.«tuple.__le__» ⟨[.ref p,.ref q],[]⟩)
   (λ_ R s=>s.heap.get? p=some { cls:=.type "tuple",dict:=d1,data:=.seq us k,slots:=z1 }/\s.heap.get? q=some { cls:=.type "tuple",dict:=d2,data:=.seq vs k2,slots:=z2 }/\
    R (.ok (.ret (.bool (lexLe is js)))) s) :=
 .of_wp λprog w A R s hh=>by
  obtain⟨hp,g,d,tk,os⟩:=s;obtain⟨gp,gq,hr⟩:=hh;have sb:=Mu;have n1:us.size=is.length:=by rw[<-ui.length];simp
  have n2:vs.size=js.length:=by rw[<-vi.length];simp
  wp_walk using PySem.AutoSeq1.wpAny_loadPart' gp,PySem.AutoSeq1.wpAny_loadPart' gq,wpAny_forIn_list _ (λtodo b s'=>b.1=none/\s'=⟨hp,g,d,tk,os⟩/\∃(as bs:List aej)(is' RX:List Int),todo=as.zip bs/\
   IntsAre as is'/\IntsAre bs RX/\is'.length+vs.size=RX.length+us.size/\R (.ok (.ret (.bool (lexLe is' RX)))) ⟨hp,g,d,tk,os⟩) _
  case turn=>
   rintro⟨y,x⟩ todo b s' ⟨e0,rfl,as,bs,is',RX,ez,hi1,hi2,hn,hR⟩;cases hi1 with
   |nil=>simp at ez
   |cons a t X3=>
    cases hi2 with
    |nil=>simp at ez
    |cons c u X4=>
     rw[Bc]at ez;injection ez with e1 e2;injection e1 with e3 e4;subst e3 e4;unfold lexLe at hR;simp only[eh]at hn;obtain⟨e,he,ei⟩:=HT.xt A.in1 ⟨hp,g,d,tk,os⟩ a t c u;refine aex (he prog w _ _ ?_);cases e with
     |true=>
      rw[if_pos (ei.mp rfl)]at hR
      wp_walk
      exact⟨rfl,rfl,_,_,_,_,e2,X3,X4,by omega,hR⟩
     |false=>
      rw[if_neg (λx=>absurd (ei.mpr x) aH)]at hR;have rc:=Gj A.in1 ⟨hp,g,d,tk,os⟩ a t c u prog w
      wp_walk using rc
      exact⟨_,rfl,by simpa using hR⟩
  case fin=>
   rintro⟨b1,b2⟩ s' ⟨e0,rfl,as,bs,is',RX,ez,hi1,hi2,hn,hR⟩;simp only at e0;subst e0;have fz:lexLe is' RX=decide (us.size<=vs.size):=by
    cases hi1 with
    |nil=>simp only[nE]at hn;unfold lexLe;exact(decide_eq_true (by omega)).symm
    |cons a t hv=>
     cases hi2 with
     |nil=>simp only[nE,eh]at hn;unfold lexLe;exact(decide_eq_false (by omega)).symm
     |cons c u hw=>simp at ez
   rw[fz]at hR
   wp_walk
   exact⟨_,rfl,by simpa [N']using hR⟩
  case h=>exact⟨rfl,rfl,us.toList,vs.toList,is,js,rfl,ui,vi,by omega,hr⟩
end
theorem K8{p q:aed}{vs:Array aej}{is js:List Int}(hp:IsTup s.heap p us)(hq:IsTup s.heap q vs)(ui:IntsAre us.toList is)(vi:IntsAre vs.toList js)
  (hu:A.units < cLine)(k:Q (.bool (lexLe is js)) s):aew (model prog w) A (aeq .LtE (.ref p) (.ref q)) Q E s:=by
 obtain⟨⟨c1,d1,dt1,sl1⟩,o1,e1,n1,f1⟩:=id hp;obtain⟨⟨c2,d2,dt2,sl2⟩,o2,e2,n2,f2⟩:=id hq;dsimp only at e1 f1 e2 f2;subst e1 f1 e2 f2;exact richCompare_meets_room (op:=.LtE) ⟨_,o1,rfl⟩ ⟨_,o2,rfl⟩ PySem.F.slot_tuple_le PySem.F.entry_tuple_le (PySem.F.args_tuple_le_2 _ _) (Pz p q us vs n1 n2 d1 d2 sl1 sl2 is js ui vi)
  ⟨o1,o2,show qE (lexLe is js)≠Bd/\Q (.bool (lexLe is js)) s from⟨(λx=>nomatch x),k⟩⟩ hu
variable {X:Cx}
def X5(K:PySem.W.Frag):R2:=λx y H Q=>∃a b is js,x= .ref a/\y= .ref b/\fM K H a (is.map V.int)/\fM K H b (js.map V.int)/\Q (.bl (lexLe is js)) H
theorem PB(hu:X.A.units < cLine):fh X (aeq .LtE) (X5 X.K):=by intro pins s σ H x y v u Q I rx ry h;obtain⟨a,b,is,js,rfl,rfl,ha,hb,q⟩:=h;cases rx;cases ry;obtain⟨us,r1,p1,_⟩:=I.tuple ha;obtain⟨vs,r2,p2,_⟩:=I.tuple hb;exact K8 p1 p2 (L2.intsAre_of r1) (L2.intsAre_of r2) hu ⟨.bl (lexLe is js),H,I,rfl,q⟩
def gO:List Wv->Option (List Int)
 |[]=>some []
 |.int i::r=>(gO r).map (i::·)
 |_=>none
theorem jv{K:PySem.W.Frag}{m:Mp}{H:Hp}:∀{ws:List Wv}{xs:List V}{is:List Int},aq K m H ws xs->gO ws=some is->xs=is.map V.int
 |[],xs,is,r,e=>by unfold aq at r;cases e;exact r
 |w::ws,xs,is,r,e=>by
  unfold aq at r;obtain⟨x,rr,rfl,h1,h2⟩:=r;cases w with
  |int i=>
   unfold gO at e;cases e1:gO ws with
   |none=>rw[e1]at e;cases e
   |some js=>
    rw[e1]at e;cases e;have hi:x= .int i:=by unfold ah at h1;exact h1
    rw[hi,jv h2 e1];rfl
  |_=>unfold gO at e;cases e
def oLe:gU:=λx y st=>match x,y with
 |.tup xs,.tup ys=>(match gO xs,gO ys with |some is,some js=> .ok (.bl (lexLe is js)) st |_,_=> .bad)
 |x,y=>Tu x y st
theorem PC(hu:X.A.units+64 < cLine):jh X (aeq .LtE) oLe:=by
 obtain⟨r,h1,h2⟩:=Tz (X:=X);refine⟨_,fh.or h1 (PB (by omega)),λx y a b st H m Q S rx ry p=>?_⟩;cases x with
 |tup xs=>
  cases y with
  |tup ys=>
   have p':df X.K m H (match gO xs,gO ys with |some is,some js=> .ok (.bl (lexLe is js)) st |_,_=> .bad) Q:=p
   unfold ah at rx ry;obtain⟨c,us,rfl,f1,f2⟩:=rx;obtain⟨d,vs,rfl,g1,g2⟩:=ry;cases e1:gO xs with
   |none=>rw[e1]at p';exact ab p'
   |some is=>
    cases e2:gO ys with
    |none=>rw[e1,e2]at p';exact ab p'
    |some js=>rw[e1,e2]at p';have:=jv f2 e1;subst this;have:=jv g2 e2;subst this;exact .inr ⟨c,d,is,js,rfl,rfl,fM.of f1,fM.of g1,p' _ m H Ext.refl S jN⟩
  |_=>exact .inl (h2 _ _ _ _ st H m Q S rx ry p)
 |_=>exact .inl (h2 _ _ _ _ st H m Q S rx ry p)
def Ub:gU:=λx y st=>match x,y with
 |.tup xs,.tup ys=>(match gO xs,gO ys with |some is,some js=> .ok (.bl (HT.lexLt is js)) st |_,_=> .bad)
 |x,y=>Tt x y st
theorem PD(hu:X.A.units+64 < cLine):jh X (aeq .Lt) Ub:=by
 obtain⟨r,h1,h2⟩:=Tw (X:=X);refine⟨_,fh.or h1 (Of (by omega)),λx y a b st H m Q S rx ry p=>?_⟩;cases x with
 |tup xs=>
  cases y with
  |tup ys=>
   have p':df X.K m H (match gO xs,gO ys with |some is,some js=> .ok (.bl (HT.lexLt is js)) st |_,_=> .bad) Q:=p
   unfold ah at rx ry;obtain⟨c,us,rfl,f1,f2⟩:=rx;obtain⟨d,vs,rfl,g1,g2⟩:=ry;cases e1:gO xs with
   |none=>rw[e1]at p';exact ab p'
   |some is=>
    cases e2:gO ys with
    |none=>rw[e1,e2]at p';exact ab p'
    |some js=>rw[e1,e2]at p';have:=jv f2 e1;subst this;have:=jv g2 e2;subst this;exact .inr ⟨c,d,is,js,rfl,rfl,fM.of f1,fM.of g1,p' _ m H Ext.refl S jN⟩
  |_=>exact .inl (h2 _ _ _ _ st H m Q S rx ry p)
 |_=>exact .inl (h2 _ _ _ _ st H m Q S rx ry p)
structure qa(k:Nat)(A:aee):Prop where
 d:A.depth+3 * k+5 < recursionLimit
 u:A.units+16 * k+200 < cLine
variable{k:Nat}
theorem qa.of(r:hX k A):qa k A:=⟨r.dp,r.un⟩
structure Uc(P:aeh)(w:aek)(K:PySem.W.Frag)(mg:Str->Option aej)(base:Heap)(k:Nat)(f:aed)(fd:aef)(ps:List Str)(sp:Sp):Prop where
 n:∀vs H Q E,sp vs H Q E->vs.length=ps.length
 go:∀(A:aee)(outer:List Env)(s:aei)(H:Hp)(args:Args)(us:List aej)(vs:List V)(Q:VK)(E:XK),qa k A->Dk A H->xp P w K mg base A outer s H->
  BindsTo s fd args (ps.zip us)->Vals vs us->sp vs H Q E->aeo (model P w) A (.call (.ref f) args) (CR (CXJ P w) outer P w H s Q E) s
def K9(P:aeh)(w:aek)(K:PySem.W.Frag)(mg:Str->Option aej)(base:Heap)(k:Nat)(x:Str)(n:Nat)(F:List Wv->Hs->Re Wv):Prop :=
 ∃f fd ps,Uc P w K mg base k f fd ps (spW K n F)/\mg x=some (.ref f)/\PySem.W.keepIn K (.ref f)=true/\Binds K fd ps []
def zX:List Wv->Hs->Re Wv:=λ_ _=> .bad
theorem ma{mg:Str->Option aej}{base:Heap}{st:Stmt}{ps:List Str}(KX:K.In h)(NS:h.Ns aet mg)(D:bw K x st)
  (hb:∀(kV doc pm:aej)(an:Option aed)(cdv ct:aej)(us:List aej),us.length=ps.length->bindArgs (PySem.W.fnOf x x (defArgs st) (defBody st) (defScope st) .none kV doc pm an cdv ct) ⟨us,[]⟩=pure (ps.zip us)):
  eV P w K mg base k x ps.length zX:=by
 obtain⟨f,fd,a,F⟩:=D;exact⟨f,fd,ps,⟨λvs H Q E ⟨_,_,_,_,_,_,p⟩=>ab p,λA outer s H args us vs Q E hr e0 hb r ⟨_,_,_,_,_,_,p⟩=>ab p⟩,PySem.W.mg_of KX NS a,F.kp,F.binds hb⟩
section
variable {X:Cx}
theorem Gk:fh X (aem .Mult) (λx y H Q=>∃z n,x= .str z/\y= .int n/\(n=0\/n=1)/\Q (.str (if n=0 then PySem.Str.empty else z)) H):=by
 intro pins s σ H x y v u Q I rx ry h;obtain⟨z,n,rfl,rfl,hn,q⟩:=h;obtain⟨t,rfl⟩:=rx;obtain⟨t',rfl⟩:=ry;rcases hn with rfl |rfl
 ·exact PySem.P.mul_str_none (by omega) (by omega) ⟨.str PySem.Str.empty,H,I.tok _,⟨_,rfl⟩,q⟩
 ·refine PySem.P.mul_str (by decide) (λ_ h=>by cases h) (λ_ h=>by cases h) ?_;rw[if_neg (by omega),if_pos (by rfl)];exact⟨.str z,H,I,⟨t,rfl⟩,q⟩
def MM:gU:=λx y st=>match x,y with
 |.str z,.int n=>if n=0\/n=1 then .ok (.str (if n=0 then PySem.Str.empty else z)) st else r_ (.str z) (.int n) st
 |x,y=>r_ x y st
theorem K_:jh X (aem .Mult) MM:=by
 obtain⟨r,h1,h2⟩:=KQ (X:=X);refine⟨_,fh.or Gk h1,λx y a b st H m Q S rx ry p=>?_⟩;cases x with
 |str z=>
  cases y with
  |int n=>
   have p':df X.K m H (if n=0\/n=1 then .ok (.str (if n=0 then PySem.Str.empty else z)) st else r_ (.str z) (.int n) st) Q:=p;by_cases c:n=0\/n=1
   ·rw[if_pos c]at p';obtain⟨rfl,ok⟩:=fO rx;refine .inl ⟨z,n,rfl,a8 ry,c,p' _ m H Ext.refl S (mkStr ?_)⟩;by_cases c0:n=0
    ·rw[if_pos c0];decide+kernel
    ·rw[if_neg c0];exact ok
   ·rw[if_neg c]at p';exact .inr (h2 _ _ _ _ st H m Q S rx ry p')
  |_=>exact .inr (h2 _ _ _ _ st H m Q S rx ry p)
 |_=>exact .inr (h2 _ _ _ _ st H m Q S rx ry p)
end
abbrev LF:=List Wv->List Wv->Hs->Re Wv
def spL(K:PySem.W.Frag)(n:Nat)(p:Lm)(L:LF):Sp:=λvs H Q E=>∃m st ws caps,cb K m st H/\aq K m H ws vs/\aq K m H caps p.xs/\H p.c=some (.ext (E_ p.c p.q))/\ws.length=n/\MI K m H (L caps ws st) Q E
def PF(P:aeh)(w:aek)(K:PySem.W.Frag)(mg:Str->Option aej)(base:Heap)(k:Nat)(p:Lm)(n:Nat)(L:LF):Prop :=
 ∃fd ps ob,FnOk P w K mg base (CXJ P w) k p.a fd ps (spL K n p L)/\base.get? p.a=some ob/\ob.data= .func fd/\Binds K fd ps []
section
variable {P:aeh}{w:aek}{K:PySem.W.Frag}{mg:Str->Option aej}{base:Heap}{p:Lm}{scope:Scope}{x1 x2 x3 y:Str}{cy:aed}
theorem X6{ws:List Wv}{vs:List V}(r:aq K m H ws vs)(h:ws.length=3):∃w1 w2 w3 v1 v2 v3,ws=[w1,w2,w3]/\vs=[v1,v2,v3]/\ah K m H w1 v1/\ah K m H w2 v2/\ah K m H w3 v3:=by
 match ws,h with
 |[w1,w2,w3],_=>unfold aq at r;obtain⟨v1,t1,rfl,r1,r⟩:=r;unfold aq at r;obtain⟨v2,t2,rfl,r2,r⟩:=r;unfold aq at r;obtain⟨v3,t3,rfl,r3,r⟩:=r;unfold aq at r;subst r;exact⟨w1,w2,w3,v1,v2,v3,rfl,rfl,r1,r2,r3⟩
end
structure MN(X:Cx)(q:Str)(P:aed):Prop where
 code:∃c,X.env.code= .ref c/\PySem.W.CodeHd X.base c P
 qual:X.env.qual=q++".<locals>."
 tab:jL X.K q=some P
 mem:q∈cQ
 uniq:∀q',q'∈cQ->jL X.K q'=some P->q'=q
 bm:∃bm ob,X.mg "__builtins__"=some (.ref bm)/\bm≠builtinsNs/\bm≠aet/\X.base.get? bm=some ob/\ob.cls= .type "module"/\ob.dict=some builtinsNs/\ob.data= .plain
abbrev FLt:=Lm->LF->List Wv->Hs->Re Wv
def X7(mg:Str->Option aej)(base:Heap):Prop:=∃bm ob,mg "__builtins__"=some (.ref bm)/\bm≠builtinsNs/\bm≠aet/\base.get? bm=some ob/\ob.cls= .type "module"/\ob.dict=some builtinsNs/\ob.data= .plain
def Dz(K:PySem.W.Frag)(mg:Str->Option aej)(base:Heap):Prop:=Mod K mg base/\X7 mg base
def FnL(P:aeh)(w:aek)(K:PySem.W.Frag)(mg:Str->Option aej)(k j:Nat)(x:Str)(FL:FLt):Prop :=
 (∃f,mg x=some (.ref f)/\PySem.W.keepIn K (.ref f)=true)/\∀(base:Heap)(p:Lm)(L:LF),Dz K mg base->PF P w K mg base (j+1) p 3 L->eV P w K mg base k x 2 (FL p L)
theorem X8(a b c d:aej):argsOk "object.__init__" ⟨[a,b,c,d],[]⟩:=by unfold argsOk;rw[signature?_of (id:="object.__init__") (n:=['_','_','t','i','n','i','_','_']) (o:=['t','c','e','j','b','o']) (by kernel_rfl) F.owner_object];kernel_rfl
def X9(lo c:Int)(n:Nat):It:=⟨λi _=>i < n,λi H v H'=>H'=H/\v= .int (lo+i * c),λi _=>n<=i⟩
theorem xW(it:aed)(lo c:Int)(n:Nat):Turn P w K tg (X9 lo c n) [it] it (λi h=>IsRangeIter h it (lo+(i:Nat) * c) ((n:Int) - (i:Nat)) c) where
 mem:=by simp
 obj:=λi h st b hb=>by
  have e:b=it:=by simpa using hb
  subst e;exact⟨_,st,λv z=>by cases z⟩
 keep:=λi h h' st k=>k it (by simp) _ st
 item:=by intro X hP hw hK hc i pins s σ H E I hf st hg;subst hP hw hK;obtain⟨f0,f1,f2,f3,f4,f5⟩:=hf it (by simp);have W:=Walks.range (prog:=X.prog) (w:=X.w) (I.ok.hd hc) it lo c n;refine W.item i s _ _ hg st λv h' tk hv st' kk=>?_;obtain⟨t,rfl⟩:=hv;have I1:Inv X pins σ H { s with heap:=h',toks:=tk }:=I.turned (λb o hb e=>kk b o (by simpa using hb) e) f0 f1 f3 f4 f5;exact⟨_,rfl,uh (s:={ s with heap:=h',toks:=tk }) (n:="range_iterator") st' rfl rfl (by decide) ⟨.int (lo+i * c),H,I1,⟨t,rfl⟩,⟨rfl,rfl⟩,st',λb hb=>(hf b hb).1⟩⟩
 done:=by intro X hP hw hK hc i pins s σ H E I hf st hg;subst hP hw hK;obtain⟨f0,f1,f2,f3,f4,f5⟩:=hf it (by simp);exact wpAny_pyNext_range_end (I.ok.hd hc) st (by have:n<=i:=hg;omega) λh' eb=>⟨rfl,I.turned (t':=s.toks) (λb o hb e=>eb b o hb e) f0 f1 f3 f4 f5⟩
 self:=λ_ _ _ _ _ st h=>wpAny_pyIter_rangeiter st h
theorem DA(a b c:aej):checkTypeCall "range" ⟨[a,b,c],[]⟩=pure ():=by kernel_rfl
theorem DB(a b c:aej):checkBuiltinCall "range.__new__" ⟨[.type "range",a,b,c],[]⟩=pure ():=by kernel_rfl
def Eh(a b c:Int):Prop:=0<=a/\a < 2 ^ 30/\0<=b/\b < 2 ^ 30/\1<=c/\c < 2 ^ 30
instance {a b c}:Decidable (Eh a b c):=FP _
def iA(a b c:Int):Nat:=(if a < b then(b - a - 1) / c+1 else 0).toNat
variable{c b:Int}
theorem DC{a:Int}(h:Eh a b c):vo a b c=iA a b c:=by
 obtain⟨h1,h2,h3,h4,h5,h6⟩:=h;unfold vo iA;rw[if_pos (by omega)];by_cases e:a < b
 ·rw[if_pos e];have:0<=(b - a - 1) / c:=Int.ediv_nonneg (by omega) (by omega);omega
 ·rw[if_neg e];rfl
theorem zY{a:Int}(h:Eh a b c):PH a b c=true:=by
 obtain⟨h1,h2,h3,h4,h5,h6⟩:=h;unfold PH vo;have d1:0<=(b - a - 1) / c\/¬a < b:=by
  by_cases e:a < b
  ·exact .inl (Int.ediv_nonneg (by omega) (by omega))
  ·exact .inr e
 have d2:a < b->(b - a - 1) / c<=b - a - 1:=λe=>Int.ediv_le_self _ (by omega);simp only[Builtin.Range.rangeFitsLong,dI,Fw,decide_eq_true_eq,beq_iff_eq,show c > 0 by omega,if_true];split<;>omega
theorem Ud{a:Int}(h:Eh a b c):PJ (b - a) c=false:=by
 obtain⟨h1,h2,h3,h4,h5,h6⟩:=h;have e0:(c == 0)=false:=by rw[beq_eq_false_iff_ne];omega
 have e1:c.natAbs.log2 < 30:=(Nat.log2_lt (by omega)).mpr (by omega);have e2:c.natAbs.log2 / 30=0:=Nat.div_eq_of_lt e1;simp[PJ,e0,e2]
theorem xX{a:Int}{t u v:Tok}(h:Eh a b c)
  (k:Q (.ref s.heap.objs.size) { s with heap:=s.heap.push { cls:=.type "range",data:=.fields #[.int a t,.int b u,.int c v] } }):aew (model P w) A (call (.type "range") [.int a t,.int b u,.int c v]) Q E s:=by
 refine callType_new F.called_range (by decide) (DA _ _ _) (DB _ _ _) (λobj=>X8 obj _ _ _) F.entry_range_new (AutoRange.range___new___type_int_int_int_1 a b c t u v F.called_range.sub ?_) ⟨Ud h,⟨_,cj _ rfl,rfl⟩,k⟩;have:c≠0:=by have:=h.2.2.2.2.1;omega
 simpa using this
variable{n:Nat}{lo:Int}
section
variable {X:Cx}{tg:Expr}
def Ue(ta:TA):TI:=λσ H R=>ta σ H λvs H1=>∃a b c:Int,vs=[.int a,.int b,.int c]/\Eh a b c/\R (X9 a c (iA a b c)) H1
theorem ints3{a:Int}{us:List aej}(r:Vals [.int a,.int b,.int c] us):∃t u v,us=[.int a t,.int b u,.int c v]:=by
 cases r with
 |cons r1 r=>
  cases r with
  |cons r2 r=>
   cases r with
   |cons r3 r=>cases r;obtain⟨t,rfl⟩:=r1;obtain⟨u,rfl⟩:=r2;obtain⟨v,rfl⟩:=r3;exact⟨t,u,v,rfl⟩
theorem DD{ls:List Expr}{ta:TA}(hg:Gl X "range")(hm:X.mg "range"=none)(ha:PA X (l::ls) ta)(hst:aev (l::ls) X.env=(false,eval l X.env)::aev ls X.env)(hpl:(backTo pos (aev ls X.env)).any (·.1)=false):
  PI X tg (.Call (.Name "range" p) (l::ls) [] pos) (Ue ta):=by
 intro pins s σ H R I h;refine wpAny_Call_Name_kw (oN I hg hm boot_range ?_);refine vp (bK (ha pos pins s σ H _ I h) λus s1 ⟨vs,H1,I1,r1,q1⟩=>?_) hst hpl;obtain⟨a,b,c,rfl,hc,q⟩:=q1;obtain⟨t,u,v,rfl⟩:=ints3 r1;refine xX hc ?_;refine wpAny_pyIter_range (IsRange.new ..) (zY hc) ?_;have I2:Inv X pins σ H1 { s1 with heap:=s1.heap.push { cls:=.type "range",data:=.fields #[.int a t,.int b u,.int c v] } }:=I1.kept (t':=s1.toks) λb o e=>bt _ e;refine⟨(s1.heap.push { cls:=.type "range",data:=.fields #[.int a t,.int b u,.int c v] }).objs.size,[(s1.heap.push { cls:=.type "range",data:=.fields #[.int a t,.int b u,.int c v] }).objs.size],_,_,H1,rfl,I2.kept (t':=s1.toks) λb o e=>bt _ e,xW _ a c (iA a b c),?_,λy hy=>?_,q⟩
 ·have e1:a+((0:Nat):Int) * c=a:=by simp
  have e2:((iA a b c:Nat):Int) - ((0:Nat):Int)=vo a b c:=by rw[DC hc];simp
  show IsRangeIter _ _ (a+((0:Nat):Int) * c) (((iA a b c:Nat):Int) - ((0:Nat):Int)) c;rw[e1,e2];exact cj _ rfl
 ·have e:y=(s1.heap.push { cls:=.type "range",data:=.fields #[.int a t,.int b u,.int c v] }).objs.size:=by simpa using hy
  subst e;exact I2.EA (aE _) (I2.hok.fresh (aE _))
def qo(lo c:Int)(n:Nat):List Wv:=(dh n).map λk:Nat=>Wv.int (lo+k * c)
theorem nZ:(qo lo c n).length=n:=by unfold qo;simp
theorem uO(h:k < n):(qo lo c n)[k]? =some (.int (lo+k * c)):=by unfold qo;rw[eo,List.getElem?_range h];rfl
theorem Gm(h:k < (qo lo c n).length):(qo lo c n)[k]= .int (lo+k * c):=by have q:=uO (lo:=lo) (c:=c) (n:=n) (k:=k) (by rw[nZ]at h;exact h);rw[cA h]at q;exact Option.some.inj q
def si(i:Nat)(ga:GA)(gb:GS):GS:=λρ st=>(ga ρ st).bK ρ λws st1=>match ws with
 |[.int a,.int b,.int c]=>if Eh a b c then dg i gb (qo a c (iA a b c)) ρ st1 else .bad
 |_=> .bad
theorem Gp(i:Nat){ls:List Expr}{body:List Stmt}{ga:GA}{gb:GS}{q:Pos}(hN:X.N.Nodup)(hp:PassesOwn (model X.prog X.w) X.A X.env X.xe)(hc:X.calm=true)(hg:Gl X "range")(hm:X.mg "range"=none)(ha:JA X (l::ls) ga)(hb:qK X body gb)
  (hx:X.N[i]? =some x)(hlo:Loc X.env.scope x)(O8:X.fn x=true\/X.env.scope.names.lookup x=some .local)(hst:aev (l::ls) X.env=(false,eval l X.env)::aev ls X.env)(hpl:(backTo q (aev ls X.env)).any (·.1)=false):
  JS X (.For (.Name x pos') (.Call (.Name "range" p) (l::ls) [] q) body [] pos) (si i ga gb):=by
 refine JS.of (vq hp hc (DD hg hm kC hst hpl) (nA hN hx hlo O8) iO (λ_=>rfl)) λρ st σ H m D S R p=>?_;refine ha.go S R (bh.dc R p) λws st1 vs m1 H1 p1 e1 S1 rs=>?_;split at p1
 ·rename_i a b c;by_cases cc:Eh a b c
  ·rw[if_pos cc]at p1;obtain⟨w1,w2,w3,v1,v2,v3,e,rfl,r1,r2,r3⟩:=X6 rs rfl;cases e;cases a8 r1;cases a8 r2;cases a8 r3;refine⟨a,b,c,rfl,cc,nO (J':=X9 a c (iA a b c)) i hb S1 (R.mono e1) (bh.shift p1 e1) (λk H m' e hk=>by rw[nZ]at hk;exact hk) (λk H m' e hk=>by rw[nZ]at hk;exact nC hk.symm) λk hk H x H' m' e y=>?_⟩;obtain⟨y1,y2⟩:=y;refine⟨y1,?_⟩;rw[Gm,y2];exact mkInt
  ·rw[if_neg cc]at p1;exact ab p1
 ·exact ab p1
end
theorem K'(l:aed)(items:Array aej)(n:Nat)(b:aed)(items2:Array aej)(n2:Nat)(dd:Option aed)(sl:Array (Option aej))(hs0:¬(!items.isEmpty&&rL (items.size+items2.size))=true)(hs1:items.size<=aeu)(hs2:items.size+items2.size<=aeu+1):
  Meets (Builtin.«list.extend» ⟨[.ref l,.ref b],[]⟩) (λ_ R s=>s.heap.get? l=some { cls:=.type "list",dict:=none,data:=.seq items n,slots:=#[] }/\s.heap.get? b=some ⟨.type "tuple",dd,.seq items2 n2,sl⟩/\R (.ok (.ret cN)) { s with heap:=s.heap.update l (nH λx=>x++items2),toks:=s.toks }) :=
 .of_wp λprog w A R s h=>by
  obtain⟨hp,g,d,tk,os⟩:=s;obtain⟨hl,hb,h⟩:=h;have f1:=AutoSeq1.idx_int;have f2:=Mu;have f3:=AutoSeq1.sub_list_list;have f4:=AutoSeq1.sub_tuple_list;have f5:=AutoSeq1.sub_list_tuple;have hz':(items++items2).size<=aeu+1:=by rw[MJ];exact hs2
  wp_walk using (wpAny_updateSeq hl rfl (hz:=hs1) (_hz':=hz')),wpAny_loadPart' hl,wpAny_loadPart' hb;exact⟨_,rfl,h⟩
def xY(K:PySem.W.Frag):V->List V->Hp->VK->Prop:=λx vs H Q=>∃l b xs zs,x= .ref l/\vs=[.ref b]/\H l=some (.lst xs)/\fM K H b zs/\xs.length+zs.length<=aeu/\Q .non (upd H l (.lst (xs++zs)))
section
variable {X:Cx}
theorem zZ:Xw X "list.extend" (xY X.K):=by
 intro pins s σ H x vs v us Q I rx rv h;obtain⟨l,b,xs,zs,rfl,rfl,hH,hB,hz,q⟩:=h;cases rx;obtain⟨u,rfl,ru⟩:=rv.one;cases ru;obtain⟨z,its,n,r,hl,e⟩:=I.EY hH;obtain⟨its2,r2,⟨o,e2,oc,n2,od⟩,z2⟩:=I.tuple hB;obtain⟨oc',dd,od',sl⟩:=o;dsimp only at oc od;subst oc od;have l1:xs.length=its.length:=r.length;have l2:zs.length=its2.length:=r2.length;have hsz:its.toArray.size+its2.toArray.size<=aeu:=by rw[bc,bc];omega
 have xu:¬(!its.toArray.isEmpty&&rL (its.toArray.size+its2.toArray.size))=true:=by rw[rK hsz,Bool.and_false];exact aH
 refine call_meets F.slot_list_extend ⟨_,e,rfl⟩ F.entry_list_extend (F.args_list_extend_2 _ _)
  (K' l its.toArray n b its2.toArray n2 dd sl xu (by rw[bc];omega) (by omega)) ⟨e,e2,?_⟩
 refine⟨.non,_,I.Oo (its':=its++its2) hH e (by simp) (r.append r2) ?_,rfl,q⟩;rw[dA];omega
def xZ(o v:Wv)(st:Hs):Re Wv:=match v with
 |.tup zs=>(match o with
  |.ref l=>(match st[l]? with
   |some (.lst ws)=>if ws.length+zs.length<=lim then .ok .non (st.set l (.lst (ws++zs)))else .bad
   |_=> .bad)
  |_=> .bad)
 |v=>Pd o v st
theorem La:VZ X "list.extend" xZ:=by
 obtain⟨r0,m0,h0⟩:=Pe (X:=X);refine⟨λx vs H Q=>r0 x vs H Q\/xY X.K x vs H Q,?_,λo w x v st H m Q S ro rw' p=>?_⟩
 ·intro pins s σ H x vs v us Q I rx rv h;rcases h with h |h
  ·exact m0 pins s σ H x vs v us Q I rx rv h
  ·exact zZ pins s σ H x vs v us Q I rx rv h
 ·cases w with
  |tup zs=>
   refine .inr ?_;cases o with
   |ref l=>
    unfold ah at ro rw';obtain⟨a,rfl,ha⟩:=ro;obtain⟨b,ys,rfl,hb,g2⟩:=rw';have p':df X.K m H (match st[l]? with |some (.lst ws)=>if ws.length+zs.length<=lim then .ok .non (st.set l (.lst (ws++zs)))else .bad |_=> .bad) Q:=p
    cases e:st[l]? with
    |none=>rw[e]at p';exact ab p'
    |some ob=>
     cases ob with
     |dct kvs=>rw[e]at p';exact ab p'
     |et kvs=>rw[e]at p';exact ab p'
     |zE kvs=>rw[e]at p';exact ab p'
     |Ef kvs=>rw[e]at p';exact ab p'
     |oK kvs=>rw[e]at p';exact ab p'
     |ins _ _=>rw[e]at p';exact ab p'
     |rO ns=>rw[e]at p';exact ab p'
     |lst ws=>
      rw[e]at p';dsimp only at p';by_cases c:ws.length+zs.length<=lim
      ·rw[if_pos c]at p';obtain⟨xs,h1,h2⟩:=S.rP ha e;have e4:Ext X.K m H m (upd H a (.lst (xs++ys))):=Ext.upd (.inr ⟨xs,h1⟩);exact⟨a,b,xs,ys,rfl,rfl,h1,fM.of hb,by rw[<-h2.length,<-g2.length];exact fF c,p' _ m _ e4 (S.write ha e (h2.append g2)) Bv⟩
      ·rw[if_neg c]at p';exact ab p'
   |_=>exact ab p
  |_=>exact .inl (h0 o _ x v st H m Q S ro rw' p)
end
def kN(neg:Bool):gU:=λx y st=>match a_ st 20 y,a_ st 20 x with
 |some (.list ds),some d=> .ok (.bl ((ds.any λz=>aT z d) != neg)) st
 |some (.tuple ds),some d=> .ok (.bl ((ds.any λz=>aT z d) != neg)) st
 |_,_=> .bad
variable{x:Wv}{neg:Bool}
section
variable {X:Cx}
def PK(K:PySem.W.Frag)(neg:Bool):R2:=λa b H Q=>∃m st x y d ds c,cb K m st H/\ah K m H x a/\ah K m H y b/\a_ st 20 y=some c/\(c= .list ds\/c= .tuple ds)/\a_ st 20 x=some d/\Q (.bl ((ds.any λz=>aT z d) != neg)) H
theorem BN{ds:List PyData}{c:PyData}(h:c= .list ds\/c= .tuple ds)(k:c.canLay0=true):qC ds=true:=by rcases h with rfl |rfl<;>exact k
theorem Gq(hu:X.A.units+64 < cLine):fh X (aeq .In) (PK X.K false):=by
 intro pins s σ H a b v u Q I rx ry h;obtain⟨m,st,x,y,d,ds,c,S,h1,h2,e1,hc,e2,q⟩:=h;obtain⟨as,q1,q2,q3⟩:=eX I S 20 x a v d h1 rx e2;obtain⟨bs,p1,p2,p3⟩:=eX I S 20 y b u c h2 ry e1;have hd:X.A.units+1+min (jD ds) d.depth < cLine:=by have:=Be (jD ds) d.depth;omega
 have e:∀t:Bool,(t != false)=t:=by decide
 rw[e]at q;have ca:=BN hc p2;rcases hc with rfl |rfl
 ·exact SeqAt.in_list_reads p1 q1 ca q2 hd ⟨.bl _,H,I,rfl,q⟩
 ·exact SeqAt.in_tuple_reads p1 q1 ca q2 hd ⟨.bl _,H,I,rfl,q⟩
theorem uP(hu:X.A.units+64 < cLine):fh X (aeq .NotIn) (PK X.K true):=by
 intro pins s σ H a b v u Q I rx ry h;obtain⟨m,st,x,y,d,ds,c,S,h1,h2,e1,hc,e2,q⟩:=h;obtain⟨as,q1,q2,q3⟩:=eX I S 20 x a v d h1 rx e2;obtain⟨bs,p1,p2,p3⟩:=eX I S 20 y b u c h2 ry e1;have hd:X.A.units+1+min (jD ds) d.depth < cLine:=by have:=Be (jD ds) d.depth;omega
 have e:∀t:Bool,(t != true)= !t:=by decide
 rw[e]at q;have ca:=BN hc p2;rcases hc with rfl |rfl
 ·exact SeqAt.notIn_list_reads p1 q1 ca q2 hd ⟨.bl _,H,I,rfl,q⟩
 ·exact SeqAt.notIn_tuple_reads p1 q1 ca q2 hd ⟨.bl _,H,I,rfl,q⟩
theorem v8{y:Wv}{a b:V}{Q:VK}(S:cb X.K m st H)(rx:ah X.K m H x a)(ry:ah X.K m H y b)(p:df X.K m H (kN neg x y st) Q):PK X.K neg a b H Q:=by
 unfold kN at p;split at p
 ·rename_i ds d e1 e2;exact⟨m,st,x,y,d,ds,_,S,rx,ry,e1,.inl rfl,e2,p _ m H Ext.refl S jN⟩
 ·rename_i ds d e1 e2;exact⟨m,st,x,y,d,ds,_,S,rx,ry,e1,.inr rfl,e2,p _ m H Ext.refl S jN⟩
 ·exact ab p
theorem PL(hu:X.A.units+64 < cLine):jh X (aeq .In) (kN false):=⟨_,Gq hu,λx y a b st H m Q S rx ry p=>v8 S rx ry p⟩
theorem DE(hu:X.A.units+64 < cLine):jh X (aeq .NotIn) (kN true):=⟨_,uP hu,λx y a b st H m Q S rx ry p=>v8 S rx ry p⟩
end
def getD(d k:Wv)(st:Hs):Option Wv:=match d with
 |.ref l=>(match st[l]? with
  |some (.dct kvs)=>(match keyOf k with |some kk=>d_ kvs kk |none=>none)
  |some (.et kvs)=>(match i9 k with |some kk=>d_ kvs kk |none=>none)
  |some (.zE kvs)=>(match i9 k with |some kk=>d_ kvs kk |none=>none)
  |_=>none)
 |_=>none
def V6(d k:Wv)(st:Hs):Re Wv:=match getD d k st with
 |some w=> .ok w st
 |none=> .bad
def BO(gd gk:GE):GE:=λρ st=>(gd ρ st).bind λd st1=>(gk ρ st1).bind λk st2=>V6 d k st2
section
variable {X:Cx}
theorem Lb{d k w:Wv}{x y:V}(S:cb X.K m st H)(rd:ah X.K m H d x)(rk:ah X.K m H k y)(e:getD d k st=some w):∃a v,x= .ref a/\qk H a y (some v)/\ah X.K m H w v:=by
 unfold getD at e;cases d with
 |ref l=>
  dsimp only at e;unfold ah at rd;obtain⟨a,rfl,ha⟩:=rd;cases e1:st[l]? with
  |none=>rw[e1]at e;cases e
  |some o=>
   rw[e1]at e;cases o with
   |dct kvs=>
    dsimp only at e;cases e2:keyOf k with
    |none=>rw[e2]at e;cases e
    |some kk=>rw[e2]at e;obtain⟨xs,h1,h2⟩:=(show ∃ys,H a=some (.dK ys)/\RelK X.K m H kvs ys from S.obj _ _ _ ha e1);obtain⟨u,j1,j2⟩:=(h2.val kk).2 w e;exact⟨a,u,rfl,by rw[oV rk e2,<-j1];exact qk.k h1,j2⟩
   |et kvs=>
    dsimp only at e;cases e2:i9 k with
    |none=>rw[e2]at e;cases e
    |some kk=>rw[e2]at e;obtain⟨xs,h1,h2⟩:=(show ∃ys,H a=some (.dT ys)/\RelK X.K m H kvs ys from S.obj _ _ _ ha e1);obtain⟨b,rfl,hb⟩:=jr rk e2;obtain⟨u,j1,j2⟩:=(h2.val kk).2 w e;exact⟨a,u,rfl,by rw[<-j1];exact qk.t h1 hb,j2⟩
   |zE kvs=>
    dsimp only at e;cases e2:i9 k with
    |none=>rw[e2]at e;cases e
    |some kk=>rw[e2]at e;obtain⟨o,xs,h1,h2⟩:=(show ∃o ys,H a=some (.oI o (.dT ys))/\RelK X.K m H kvs ys from S.obj _ _ _ ha e1);obtain⟨b,rfl,hb⟩:=jr rk e2;obtain⟨u,j1,j2⟩:=(h2.val kk).2 w e;exact⟨a,u,rfl,by rw[<-j1];exact .inr ⟨xs,kk,b,.inr ⟨o,h1⟩,rfl,hb,rfl⟩,j2⟩
   |_=>cases e
 |_=>cases e
theorem Lc{o i:Expr}{go gi:GE}(hu:X.A.units+1 < cLine)(ho:JE X o go)(hi:JE X i gi)(hs:E3 i):JE X (.Subscript o i pos) (BO go gi) :=
 JE.of (J7 hu bj bj hs) λρ st σ H m Q S R p=>by
  refine ho.go S R (aM.bind p) λd st1 v m1 H1 p1 e1 S1 rd=>?_;refine hi.go S1 (R.mono e1) ((aM.bind p1).imp e1 λ_ _ q=>q) λk st2 u m2 H2 p2 e2 S2 rk=>?_;unfold V6 at p2;cases e:getD d k st2 with
  |none=>rw[e]at p2;exact ab p2
  |some w=>rw[e]at p2;obtain⟨a,v',ex,g,rw'⟩:=Lb (X:=X) S2 (ah.mono e2 _ _ rd) rk e;exact⟨a,v',ex,g,p2 v' m2 H2 (e1.trans e2) S2 rw'⟩
end
theorem Gs{H:Hp}:∀{xs:List (List L2.Key×V)}{ys:List (List L2.Key×aed×aej)},KT H xs ys->∀{i:Nat}{y:List L2.Key×aed×aej},ys[i]? =some y->∃x,xs[i]? =some x/\x.1=y.1/\H y.2.1=some (.tup (x.1.map kV))/\RelV x.2 y.2.2
 |_,_,.nil,i,y,h=>by cases h
 |_,_,.cons h t,0,y,e=>by cases e;exact⟨_,rfl,h⟩
 |_,_,.cons h t,i+1,y,e=>Gs t (i:=i) e
section
variable {prog:aeh}{w:aek}{A:aee}{E:aej->aei->Prop}{s:aei}{d:aed}{es:Array DictEntry}{ep:Nat}
theorem Ld(lo:(d == sysModules)=false)(x:oW s.heap d es ep)(hz:es.size<=aeu)(h:Q (.int es.size (s.toks+1)) { s with toks:=s.toks+1+1 }):aew (model prog w) A (call (.builtin "len") [.ref d]) Q E s:=by
 have ty:=x.ty;obtain⟨o,g1,g2,g3⟩:=x;refine Calls.call_function_entry kind_len plain_len entry_len (args_len1 _) ?_;have n0:¬((es.size:Int) < 0):=by omega
 have n1:¬((es.size:Int) >= 2 ^ 63):=by rw[sizeLine_eq]at hz;omega
 have M:MeetsIn prog w (Builtin.«dict.__len__» ⟨[.ref d],[]⟩) (λ_ R s'=>s'=s/\R (.ok (.ret (.int es.size s.toks))) { s with toks:=s.toks+1 }):=.of_wp λA R s' ⟨e,h⟩=>by subst e;refine(show aew _ _ (dictSize d >>= _) _ _ s' from ?_);unfold dictSize;refine aex (aex (aey g1 g3 (aeC ?_)));exact(show aew _ _ (Builtin.Dict.pendingCount d >>= _) _ _ s' from aex (wpAny_pendingCount_other lo (wpAny_ret_mkInt (by rw[Nat.add_zero];exact h))))
 unfold Builtin.«len»;refine aex (m:=oneArg "len" _) (aeC (aex (m:=callSpecial? (.ref d) (lV "__len__")) (wpAny_callSpecial?_slot (name:=lV "__len__") ty PySem.F.slot_dict_len
  (call_meetsIn PySem.F.slot_dict_len ty PySem.F.entry_dict_len (PySem.F.args_dict_len_1 _) M ⟨rfl,?_⟩))))
 refine(show aew _ _ _ _ _ { s with toks:=s.toks+1 } from aex (aez (aeC (aex (wpAny_letGo ?_)))));refine(show aew _ _ (if((es.size:Nat):Int) < 0 then _ else _) _ _ _ from ?_);rw[if_neg n0];refine(show aew _ _ (if((es.size:Nat):Int) >= 2 ^ 63 then _ else _) _ _ _ from ?_);rw[if_neg n1];exact aex (wpAny_mkInt (aeC ⟨_,rfl,h⟩))
end
section
variable {prog:aeh}{w:aek}{K:Type} [DecidableEq K] {knd:HeapKind prog w K}{A:aee}{E:aej->aei->Prop}{s:aei}{d a:aed}{xs:List (K×aed×aej)}{k:K}
theorem x8:∀{xs:List (K×aed×aej)}{j:Nat}{k:K}{p:aed×aej},(xs.map (·.1)).Nodup->xs[j]? =some (k,p)->xs.eraseIdx j=xs.filter λx=>decide (x.1≠k)
 |[],j,k,p,n,h=>by cases h
 |x::r,0,k,p,n,h=>by cases h;have n1:=(List.nodup_cons.mp (show(k::r.map (·.1)).Nodup from n)).1;rw[gW,if_neg (by simp),List.eraseIdx_zero,List.tail_cons];refine(List.filter_eq_self.mpr λy hy=>?_).symm;simp only[decide_eq_true_eq];exact λe=>n1 (List.mem_map.mpr ⟨y,hy,e⟩)
 |x::r,j+1,k,p,n,h=>by have n0:=List.nodup_cons.mp (show(x.1::r.map (·.1)).Nodup from n);have h':r[j]? =some (k,p):=h;have ne:x.1≠k:=λe=>n0.1 (List.mem_map.mpr ⟨_,vz h',e.symm⟩);rw[gW,if_pos (by simp[ne]),Gu,x8 n0.2 h']
theorem uQ{α β:Type}(f:α->β):∀(l:List α)(j:Nat),(l.eraseIdx j).map f=(l.map f).eraseIdx j
 |[],j=>rfl
 |x::r,0=>rfl
 |x::r,j+1=>by rw[Gu,aK,aK,Gu,uQ f r j]
end
variable{o:aed}
section
variable {prog:aeh}{w:aek}{A:aee}{E:aej->aei->Prop}{s:aei}
theorem BP{b:DictEntry->PUnit->Sem (ForInStep PUnit)}{Q:PUnit->aei->Prop}:∀{l:List DictEntry},(∀e∈l,∀Q':ForInStep PUnit->aei->Prop,Q' (.yield nv) s->aew (model prog w) A (b e nv) Q' E s)->Q nv s->aew (model prog w) A (forIn l nv b) Q E s
 |[],_,q=>by rw[List.forIn_nil];exact aeC q
 |e::r,h,q=>by rw[Em];exact aex (h e (.head _) _ (BP (λe' he'=>h e' (.tail _ he')) q))
theorem Gv{es:List DictEntry}(n:(es.map (·.hash)).Nodup)(c:Int):(es.filter λe=>e.hash == c).length<=1:=by
 induction es with
 |nil=>simp
 |cons e r ih=>
  have n:=List.nodup_cons.mp (show(e.hash::r.map (·.hash)).Nodup from n);rw[gW];by_cases h:(e.hash == c)=true
  ·rw[if_pos h];have:(r.filter λe=>e.hash == c)=[]:=List.filter_eq_nil_iff.mpr λy hy q=>n.1 (List.mem_map.mpr ⟨y,hy,by rw[eq_of_beq q,eq_of_beq h]⟩);rw[this];exact aE 1
  ·rw[if_neg h];exact ih n.2
theorem qp:typeLookup (.type "tuple") "__eq__"=pure (some (.builtin "tuple.__eq__")):=PySem.F.slot_tuple_eq.lookup
theorem Gw(lo:(o == sysModules)=false)(x:oW s.heap o es ep)(hz:es.size<=aeu)(he:es.size≠0)(hn:(es.toList.map (·.hash)).Nodup)(ht:∀e∈es,∃b,e.key= .ref b/\s.TypeIs (.ref b) "tuple")
  (h:∀h',(∃q,h'.get? s.heap.objs.size=some q/\q.cls= .type "dict"/\q.dict=none/\q.slots=#[]/\∃e',q.data= .dict es e')->jE s.heap.objs.size (s.heap.push { cls:=.type "dict",data:=.dict #[] }) h'->Q (.ref s.heap.objs.size) { s with heap:=h' }):
  aew (model prog w) A (call (.type "dict") [.ref o]) Q E s:=by
 refine callType_codes (Q₁:=λobj s₁=>obj= .ref s.heap.objs.size/\s₁={ s with heap:=s.heap.push { cls:=.type "dict",data:=.dict #[] } }) F.kt_called_dict (F.kt_typeCall_dict_1 _) F.entry_dict_init (kt_code_dict_new _ ⟨rfl,rfl⟩) ?_;rintro obj s₁ ⟨rfl,rfl⟩;obtain⟨q,g1,g2,g3⟩:=x;have hne:s.heap.objs.size≠o:=λe=>absurd (a7 g1) (by rw[e];exact fg _);have n1:(s.heap.push { cls:=.type "dict",data:=.dict #[] }).get? s.heap.objs.size=some { cls:=.type "dict",data:=.dict #[] }:=cj _ rfl;have o1:(s.heap.push { cls:=.type "dict",data:=.dict #[] }).get? o=some q:=bt _ g1;have tn:qM { s with heap:=s.heap.push { cls:=.type "dict",data:=.dict #[] } } (.ref s.heap.objs.size) "dict":=⟨_,n1,rfl⟩;have to:qM { s with heap:=s.heap.push { cls:=.type "dict",data:=.dict #[] } } (.ref o) "dict":=⟨_,o1,g2⟩;refine⟨tn,F.args_dict_init_2 _ _,?_⟩;unfold Builtin.«dict.__init__»;refine aex ?_;unfold PM;refine aex (wpAny_notOrdered_dict tn (show aew _ _ (pure (s.heap.objs.size,[aL o])) _ _ _ from aeC ?_));refine(show aew _ _ (z_ "dict.__init__" s.heap.objs.size (.ref o) [] .none) _ _ _ from ?_);unfold z_;refine aex (wpAny_typeOf to ?_);rw[if_neg (by decide)];refine aex ?_;unfold PN;refine aex ?_;unfold PQ;refine aex (wpAny_isInstance to isSubtype_dict_dict ?_);simp only[mN,eS,if_false];refine aex (wpAny_specialOf to F.slot_dict_iter.lookup (aeC ?_));simp only[beq_self_eq_true,if_true];refine aex (aeC ?_);unfold PR;rw[if_neg (by simpa using hne)];unfold zV;rw[if_neg (by rw[lo];exact aH)];refine aex (aeC (aex (aey o1 g3 ?_)));have few:(decide (es.size<=8)&&es.all λe=>(keyPart e.key).isSome)=false:=by rw[Bool.and_eq_false_iff];refine .inr ?_;rw[<-Bool.not_eq_true,Array.all_eq_true];intro al;have:=al 0 (by omega);obtain⟨b,e1,_⟩:=ht es[0] (by simp);rw[e1]at this;cases this
 simp only[few,v9,if_true];refine aex (aey n1 rfl ?_);simp only[show(#[]:Array DictEntry).isEmpty=true from rfl,if_true];refine aex ?_;unfold Builtin.Dict.entriesForEmpty;refine aex (aey o1 g3 ?_);rw[<-Mn];refine aex (BP (λe hm Q' q'=>?_) (aeC ?_))
 ·obtain⟨b,e1,e2⟩:=ht e (Array.mem_toList_iff.mp hm);rw[e1];obtain⟨ob,f1,f2⟩:=e2;have tb:qM { s with heap:=s.heap.push { cls:=.type "dict",data:=.dict #[] } } (.ref b) "tuple":=⟨_,bt _ f1,f2⟩;unfold Builtin.Dict.quietEq;refine aex (aex (wpAny_specialOf tb qp (aeC ?_)));have nq:(some (Value.builtin "tuple.__eq__") == some (Value.builtin "object.__eq__"))=false:=by decide
  have sz:¬(es.filter (λx=>x.hash == e.hash)).size > 1:=by
   have q1:=Gv hn e.hash;have q2:(es.filter (λx=>x.hash == e.hash)).size=(es.toList.filter (λx=>x.hash == e.hash)).length:=by rw[<-Ba,Array.toList_filter]
   rw[q2];omega
  simp only[nq,v9,if_true,if_neg sz];exact aeC q'
 ·have ne:es.isEmpty=false:=by simpa [Array.isEmpty]using he
  simp only[ne,v9,if_true];refine aex (wpAny_updateDictKeysTo (hz':=by show es.size<=aeu+1;omega) n1 rfl (aeC ?_));refine(show aew _ _ (PU s.heap.objs.size [] >>= _) _ _ _ from aex (aeC (aeC ⟨rfl,h _ ?_ (v5 ..)⟩)));exact⟨_,rD _ n1 (Obj.isFreed_of_dict (BQ rfl _)),rfl,rfl,rfl,_,rfl⟩
end
variable{xs:List (List L2.Key×V)}
section
variable {X:Cx}
theorem Gx(ok:kL P w H h)(e:Rd H a (.dT xs)):
  ∃es ep ys,xs.length<=aeu/\(a == sysModules)=false/\oW h a es ep/\es.size=xs.length/\KT H xs ys/\es.toList=ys.map (entryOfKey (tupleKind (bH P w)))/\(ys.map (·.1)).Nodup:=by
 obtain⟨z,lo,ys,kt,o,es,ep,g1,g2,g3,g4,g5⟩:=(show du P w H h a (.dT xs) from E1 ok e);have len:es.size=ys.length:=by have:=congrArg fN g4;simpa using this
 exact⟨es,ep,ys,z,lo,⟨o,g1,g2.1,g3⟩,by rw[len];exact(Paired.length kt).symm,kt,g4,g5⟩
theorem DF:dJ X (.builtin "len") (λxs H Q=>∃a kvs,xs=[.ref a]/\Rd H a (.dT kvs)/\Q (.int kvs.length) H):=by
 intro pins s σ H xs us Q I rs q;obtain⟨a,kvs,rfl,e,q⟩:=q;cases rs with
 |cons r rr=>cases rr;cases r;obtain⟨es,ep,ys,z,lo,raw,sz,_⟩:=Gx I.hok e;refine Ld lo raw (by rw[sz];exact z) ⟨.int kvs.length,H,I.tok _,⟨_,by rw[sz]⟩,q⟩
def fQ:Option Ob->Option (List (List L2.Key×Wv))
 |some (.et kvs)=>some kvs
 |some (.zE kvs)=>some kvs
 |_=>none
theorem jS{l:Nat}{kvs:List (List L2.Key×Wv)}(S:cb X.K m st H)(ha:m[l]? =some a)(h:fQ st[l]? =some kvs):∃xs,Rd H a (.dT xs)/\RelK X.K m H kvs xs:=by
 unfold fQ at h;split at h
 ·rename_i k' e;cases h;obtain⟨xs,h1,h2⟩:=(show ∃ys,H a=some (.dT ys)/\RelK X.K m H kvs ys from S.obj _ _ _ ha e);exact⟨xs,.inl h1,h2⟩
 ·rename_i k' e;cases h;obtain⟨o,xs,h1,h2⟩:=(show ∃o ys,H a=some (.oI o (.dT ys))/\RelK X.K m H kvs ys from S.obj _ _ _ ha e);exact⟨xs,.inr ⟨o,h1⟩,h2⟩
 ·cases h
def uR:List Wv->Hs->Re Wv
 |[.ref l],st=>(match fQ st[l]? with |some kvs=> .ok (.int kvs.length) st |none=>jO [.ref l] st)
 |ws,st=>jO ws st
theorem Le:cY X (.builtin "len") uR:=by
 obtain⟨r0,c0,k0⟩:=Fq (X:=X);refine⟨_,DF.or c0,λws vs st H m Q S r p=>?_⟩;have old:df X.K m H (jO ws st) Q->r0 vs H Q:=λp=>k0 ws vs st H m Q S r p;unfold uR at p;split at p
 ·rename_i l;cases e:fQ st[l]? with
  |none=>rw[e]at p;exact .inr (old p)
  |some kvs=>rw[e]at p;obtain⟨v,rfl,rx⟩:=kZ r;unfold ah at rx;obtain⟨a,rfl,ha⟩:=rx;obtain⟨xs,h1,h2⟩:=jS (X:=X) S ha e;refine .inl ⟨a,xs,rfl,h1,?_⟩;rw[<-h2.length];exact p _ m H Ext.refl S mkInt
 ·exact .inr (old p)
def BR(ns:List Int):Int:=reduceHash (y_ (ns.map hashInt))
def qb:List (List L2.Key)->Option (List (List Int))
 |[]=>some []
 |k::r=>(match qm k,qb r with |some ns,some l=>some (ns::l) |_,_=>none)
theorem x9:∀{ks:List L2.Key}{ns:List Int},qm ks=some ns->ks=ns.map L2.Key.inl
 |[],ns,e=>by cases e;rfl
 |.inl i::r,ns,e=>by
  unfold qm at e;cases q:qm r with
  |none=>rw[q]at e;cases e
  |some l=>rw[q]at e;cases e;rw[aK,<-x9 q]
theorem Gy{ns:List Int}(h:qm ks=some ns):(tupleKind (bH P w)).hash ks=BR ns:=by rw[x9 h];show reduceHash (y_ ((ns.map L2.Key.inl).map (bH P w).hash))=_;rw[dC];rfl
theorem sj{P:aeh}{w:aek}:∀{kss:List (List L2.Key)}{nss:List (List Int)},qb kss=some nss->kss.map (tupleKind (bH P w)).hash=nss.map BR
 |[],nss,e=>by cases e;rfl
 |k::r,nss,e=>by
  unfold qb at e;cases q1:qm k with
  |none=>rw[q1]at e;cases e
  |some ns=>
   cases q2:qb r with
   |none=>rw[q1,q2]at e;cases e
   |some l=>rw[q1,q2]at e;cases e;rw[aK,aK,Gy q1,sj q2]
def mW(ks:List (List L2.Key)):Bool:=match qb ks with
 |some nss=>decide ((nss.map BR).Nodup)
 |none=>false
theorem DG(lo:(o == sysModules)=false)(x:oW s.heap o #[] ep)(h:Q (.ref s.heap.objs.size) { s with heap:=s.heap.push { cls:=.type "dict",data:=.dict #[] } }):
  aew (model prog w) A (call (.type "dict") [.ref o]) Q E s:=by
 refine callType_codes (Q₁:=λobj s₁=>obj= .ref s.heap.objs.size/\s₁={ s with heap:=s.heap.push { cls:=.type "dict",data:=.dict #[] } }) F.kt_called_dict (F.kt_typeCall_dict_1 _) F.entry_dict_init (kt_code_dict_new _ ⟨rfl,rfl⟩) ?_;rintro obj s₁ ⟨rfl,rfl⟩;obtain⟨q,g1,g2,g3⟩:=x;have hne:s.heap.objs.size≠o:=λe=>absurd (a7 g1) (by rw[e];exact fg _);have n1:(s.heap.push { cls:=.type "dict",data:=.dict #[] }).get? s.heap.objs.size=some { cls:=.type "dict",data:=.dict #[] }:=cj _ rfl;have o1:(s.heap.push { cls:=.type "dict",data:=.dict #[] }).get? o=some q:=bt _ g1;have tn:qM { s with heap:=s.heap.push { cls:=.type "dict",data:=.dict #[] } } (.ref s.heap.objs.size) "dict":=⟨_,n1,rfl⟩;have to:qM { s with heap:=s.heap.push { cls:=.type "dict",data:=.dict #[] } } (.ref o) "dict":=⟨_,o1,g2⟩;refine⟨tn,F.args_dict_init_2 _ _,?_⟩;unfold Builtin.«dict.__init__»;refine aex ?_;unfold PM;refine aex (wpAny_notOrdered_dict tn (show aew _ _ (pure (s.heap.objs.size,[aL o])) _ _ _ from aeC ?_));refine(show aew _ _ (z_ "dict.__init__" s.heap.objs.size (.ref o) [] .none) _ _ _ from ?_);unfold z_;refine aex (wpAny_typeOf to ?_);rw[if_neg (by decide)];refine aex ?_;unfold PN;refine aex ?_;unfold PQ;refine aex (wpAny_isInstance to isSubtype_dict_dict ?_);simp only[mN,eS,if_false];refine aex (wpAny_specialOf to F.slot_dict_iter.lookup (aeC ?_));simp only[beq_self_eq_true,if_true];refine aex (aeC ?_);unfold PR;rw[if_neg (by simpa using hne)];unfold zV;rw[if_neg (by rw[lo];exact aH)];refine aex (aeC (aex (aey o1 g3 ?_)));have few:(decide ((#[]:Array DictEntry).size<=8)&&(#[]:Array DictEntry).all λe=>(keyPart e.key).isSome)=true:=by simp
 simp only[few,mN,eS,if_false];refine aex (wpAny_dictEpoch o1 g3 (aex (aey o1 g3 (aex ?_))));rw[Lf];refine(show aew _ _ (pure nv) _ _ _ from aeC (aeC ?_));exact(show aew _ _ (PU s.heap.objs.size [] >>= _) _ _ _ from aex (aeC (aeC ⟨rfl,h⟩)))
theorem Aa:dJ X (.type "dict") (λxs H Q=>∃a kvs,xs=[.ref a]/\Rd H a (.dT kvs)/\((kvs.map (·.1)).map (tupleKind (bH X.prog X.w)).hash).Nodup/\∀p,H p=none->Q (.ref p) (upd H p (.dT kvs))):=by
 intro pins s σ H xs us Q I rs q;obtain⟨a,kvs,rfl,e,hn,q⟩:=q;cases rs with
 |cons r rr=>
  cases rr;cases r;obtain⟨es,ep,ys,z,lo,raw,sz,kt,g4,g5⟩:=Gx I.hok e;by_cases ne:kvs=[]
  ·subst ne;cases kt;have l0:es=#[]:=Array.eq_empty_of_size_eq_zero (by rw[sz];rfl);subst l0;have fr:H s.heap.objs.size=none:=I.hok.fresh (aE _);refine DG lo raw ⟨.ref s.heap.objs.size,_,I.laid (a:=s.heap.objs.size) (o:=.dT []) (t':=s.toks) (λb ob hq=>bt _ hq) (aE _) ?_,rfl,q _ fr⟩;exact⟨z,beq_eq_false_iff_ne.mpr (bA (bU I.big)),[],.nil,_,#[],_,cj _ rfl,⟨rfl,rfl,rfl⟩,rfl,g4,g5⟩
  have keys:kvs.map (·.1)=ys.map (·.1):=by
   clear q hn ne g5 g4 e sz z
   induction kt with
   |nil=>rfl
   |cons h t ih=>rw[aK,aK,ih,h.1]
  have hs:es.toList.map (·.hash)=(kvs.map (·.1)).map (tupleKind (bH X.prog X.w)).hash:=by rw[g4,keys,dC,dC];rfl
  have ht:∀e∈es,∃b,e.key= .ref b/\s.TypeIs (.ref b) "tuple":=λe' he=>by
   have:e'∈ys.map (entryOfKey (tupleKind (bH X.prog X.w))):=by rw[<-g4];exact Array.mem_toList_iff.mpr he
   obtain⟨y,hy,rfl⟩:=List.mem_map.mp this;obtain⟨j,hj⟩:=List.mem_iff_getElem?.mp hy;obtain⟨x,_,_,hx,_⟩:=Gs kt hj;have kk:=kX (P:=X.prog) (w:=X.w) I.hok hx;obtain⟨ob,its,n,f1,f2,_⟩:=kk;exact⟨y.2.1,rfl,ob,f1,f2⟩
  have l0:es.size≠0:=by rw[sz];exact λz0=>ne (List.length_eq_zero_iff.mp z0)
  refine Gw lo raw (by rw[sz];exact z) l0 (by rw[hs];exact hn) ht λh' nw sb=>?_;obtain⟨o',f1,f2,f3,f4,Mo,f5⟩:=nw;have fr:H s.heap.objs.size=none:=I.hok.fresh (aE _);refine⟨.ref s.heap.objs.size,_,I.laid (a:=s.heap.objs.size) (o:=.dT kvs) (t':=s.toks) (λb ob hq=>(sb.2 b (bU (a7 hq))).trans (bt _ hq)) (aE _) ?_,rfl,q _ fr⟩;refine⟨z,beq_eq_false_iff_ne.mpr (bA (bU I.big)),ys,kt.keeps λc zs ec=>?_,o',es,Mo,f1,⟨f2,f3,f4⟩,f5,g4,g5⟩;rw[aZ (c_ ec fr)];exact ec
def n6:List Wv->Hs->Re Wv
 |[.ref l],st=>(match fQ st[l]? with |some kvs=>if mW (kvs.map (·.1))=true then .ok (.ref st.length) (st++[.et kvs])else .bad |none=> .bad)
 |_,_=> .bad
theorem Lg:cY X (.type "dict") n6:=⟨_,Aa,λws vs st H m Q S r p=>by
 unfold n6 at p;split at p
 ·rename_i l;cases e:fQ st[l]? with
  |none=>rw[e]at p;exact ab p
  |some kvs=>
   rw[e]at p;dsimp only at p;by_cases c:mW (kvs.map (·.1))=true
   ·rw[if_pos c]at p;obtain⟨v,rfl,rx⟩:=kZ r;unfold ah at rx;obtain⟨a,rfl,ha⟩:=rx;obtain⟨xs,h1,h2⟩:=jS (X:=X) S ha e;refine⟨a,xs,rfl,h1,?_,λq hq=>?_⟩
    ·have c2:=c;unfold mW at c2;rw[<-h2.1];cases ek:qb (kvs.map (·.1))with
     |none=>rw[ek]at c2;cases c2
     |some nss=>rw[ek]at c2;rw[sj ek];exact of_decide_eq_true c2
    ·have ex:Ext X.K m H (m++[q]) (upd H q (.dT xs)):=Ext.more.trans (Ext.iy (.inl hq));exact p (.ref q) (m++[q]) _ ex (S.rQ hq ⟨xs,bE,h2.mono ex⟩) (by unfold ah;exact⟨q,rfl,by rw[<-S.len,kP (aE _),nK];rfl⟩)
   ·rw[if_neg c]at p;exact ab p
 ·exact ab p⟩
end
variable{o:Option V}
theorem uS(r:i5 o none):o=none:=by
 cases o with
 |none=>rfl
 |some u=>exact(show False from r).elim
theorem oY{u:aej}(r:i5 o (some u)):∃v,o=some v/\RelV v u:=by
 cases o with
 |none=>exact(show False from r).elim
 |some v=>exact⟨v,rfl,r⟩
theorem v_{H:Hp}{k:List L2.Key}:∀{xs:List (List L2.Key×V)}{ys:List (List L2.Key×aed×aej)},KT H xs ys->KT H (kA xs k) (ys.filter λy=>decide (y.1≠k))
 |_,_,.nil=> .nil
 |_,_,.cons (a:=x) (b:=y) h t=>by
  by_cases e:x.1=k
  ·rw[uy e,gW,if_neg (by rw[<-h.1];simp[e])];exact v_ t
  ·rw[uz e,gW,if_pos (by rw[<-h.1];simp[e])];exact .cons h (v_ t)
section
variable {X:Cx}{o e f:Expr}{apos cpos:Pos}{td ty tx:TE}
def sr[DecidableEq κ](kvs:List (κ×Wv))(k:κ):List (κ×Wv):=kvs.filter λkv=>decide (kv.1≠k)
theorem RelK.drop[DecidableEq κ](k:κ):∀{kvs:List (κ×Wv)}{xs:List (κ×V)},RelK K m H kvs xs->RelK K m H (sr kvs k) (kA xs k)
 |[],xs,h=>by rw[h.nil_inv];exact RelK.nil
 |p::r,xs,h=>by
  obtain⟨v,t,rfl,h1,h2⟩:=h.cons_inv;by_cases e:p.1=k
  ·rw[uy e];unfold sr;rw[gW,if_neg (by simp[e])];exact h2.drop k
  ·rw[uz e];unfold sr;rw[gW,if_pos (by simp[e])];exact RelK.cons h1 (h2.drop k)
def Lh(st:Hs):Wv->Bool
 |.ref l=>(fQ st[l]?).isSome
 |_=>false
end
section
variable {prog:aeh}{w:aek}{K:Type} [DecidableEq K] {knd:HeapKind prog w K}{A:aee}{E:aej->aei->Prop}{s:aei}{a b:aed}{xs ys:List (K×aed×aej)}
theorem uT{id:String}{f:K->Bool}{Q:Bool->aei->Prop}(hu:knd.room A)(la:(a == sysModules)=false)(lb:(b == sysModules)=false)(hA:s.heap.DictOfH knd a xs)(hB:s.heap.DictOfH knd b ys)
  (hf:∀x∈xs,∀y∈ys,x.1=y.1->∀Q:Bool->aei->Prop,Q (f x.1) s->aew (model prog w) A (eqBool x.2.2 y.2.2) Q E s)
  (hQ:Q (decide (xs.length=ys.length)&&xs.all λx=>(atKey ys x.1).isSome&&f x.1) s):aew (model prog w) A (PV id a b) Q E s:=by
 obtain⟨oa,ea,epa,a1,a2,a3,a4,a5,a6⟩:=hA;obtain⟨ob,eb,epb,b1,b2,b3,b4,b5,b6⟩:=hB;have za:ea.size=xs.length:=size_of_entries a4;have zb:eb.size=ys.length:=size_of_entries b4;unfold PV zV;rw[if_neg (by rw[la];exact aH),if_neg (by rw[lb];exact aH)];refine aex (aeC (aex (aeC (aex (aey a1 a3 (aex (aey b1 b3 ?_)))))));by_cases hl:xs.length=ys.length
 ·rw[if_neg (by rw[za,zb,hl];simp)];rw[decide_eq_true hl,Gz]at hQ;refine aex (wpAny_dictEpoch a1 a3 (aex ?_));rw[Lf];simp only[Std.Legacy.Range.size,Nat.sub_zero,Nat.add_sub_cancel,Nat.div_one];generalize hg:(λx:K×aed×aej=>(atKey ys x.1).isSome&&f x.1)=g at hQ;refine wpAny_forIn_list _ (λrest st s'=>s'=s/\st=(none,())/\∃i,rest=List.range' i (xs.length - i)/\i<=xs.length/\xs.all g=(xs.drop i).all g) _ ?_ ?_ _ _ ⟨rfl,rfl,0,by rw[za,Nat.sub_zero],cO _,rfl⟩
  ·rintro x rest st s' ⟨rfl,rfl,i,hr,hi,hall⟩;have hlt:i < xs.length:=by
    rcases Nat.lt_or_ge i xs.length with h |h
    ·exact h
    ·rw[BG h]at hr;simp at hr
   obtain⟨rfl,hrest⟩:x=i/\rest=List.range' (i+1) (xs.length - (i+1)):=by
    have e:xs.length - i=(xs.length - (i+1))+1:=by omega
    rw[e,List.range'_succ]at hr;injection hr with h1 h2;exact⟨h1,h2⟩
   rw[zO hlt,dY]at hall;have hm:xs[x]∈xs:=vX hlt;refine aex (aey a1 a3 ?_);rw[entry_at a4 x,cA hlt];refine aex (aez ?_);have next:xs.all g=(xs.drop (x+1)).all g->∀Q':ForInStep (Option Bool×Unit)->aei->Prop,Q' (.yield (none,())) s'->aew (model prog w) A (do
     let Mo <-dictEpoch a
     if(Mo != epa)=true then do
       (unsupported (toString id++toString ":changed-during-callback"):Sem PUnit)
       pure (oM (none,()))
      else pure (oM (none,()))) Q' E s':=λ_ Q' q'=>by
    refine aex (wpAny_dictEpoch a1 a3 ?_);rw[if_neg (by simp)];exact aeC q'
   refine aex (wpAny_dictFind_heap (k:=xs[x].1) hu (a5 _ hm) b1 b3 b4 b5 b6 (λno=>aeC ?_) λj p hj=>?_)
   ·simp only[v9,if_true];have gf:g xs[x]=false:=by rw[<-hg];simp only[atKey_none_of_get no];rfl
    rw[gf,vn]at hall;rw[hall]at hQ;exact aeC (aeC hQ)
   ·refine aex (aey b1 b3 ?_);rw[entry_at b4 j,hj];refine aez (hf _ hm _ (vz hj) rfl _ ?_);have gf:g xs[x]=f xs[x].1:=by rw[<-hg];simp only[atKey_of_get b6 hj];rfl
    cases hv:f xs[x].1 with
    |false=>simp only[v9,if_true];rw[gf,hv,vn]at hall;rw[hall]at hQ;exact aeC (aeC hQ)
    |true=>simp only[mN,eS,if_false];rw[gf,hv,Gz]at hall;exact next hall _ ⟨rfl,rfl,x+1,hrest,hlt,hall⟩
  ·rintro st s' ⟨rfl,rfl,i,hr,hi,hall⟩;have h0:xs.length - i=0:=by have:=congrArg fN hr;simpa using this.symm
   rw[F8 (by omega),List.all_nil]at hall;rw[hall]at hQ;exact aeC hQ
 ·rw[if_pos (by rw[za,zb];simpa using hl)];rw[decide_eq_false hl,vn]at hQ;exact aex (wpAny_rule (aeC hQ))
end
section
variable {prog:aeh}{w:aek}{K:Type} [DecidableEq K] {knd:HeapKind prog w K}{A:aee}{E:aej->aei->Prop}{s:aei}{a b:aed}{xs ys:List (K×aed×aej)}
theorem Li{f:K->Bool}(hr:A.units < cLine)(hu:knd.room A.in1)(la:(a == sysModules)=false)(lb:(b == sysModules)=false)(hA:s.heap.DictOfH knd a xs)(hB:s.heap.DictOfH knd b ys)
  (hf:∀E:aej->aei->Prop,∀x∈xs,∀y∈ys,x.1=y.1->∀Q:Bool->aei->Prop,Q (f x.1) s->aew (model prog w) A.in1 (eqBool x.2.2 y.2.2) Q E s)
  (hQ:Q (.bool (decide (xs.length=ys.length)&&xs.all λx=>(atKey ys x.1).isSome&&f x.1)) s):aew (model prog w) A (aeq .Eq (.ref a) (.ref b)) Q E s:=by
 have tA:s.TypeIs (.ref a) "dict":=hA.typeIs;have tB:s.TypeIs (.ref b) "dict":=hB.typeIs;refine(show aew (model prog w) A (richCompare .Eq (.ref a) (.ref b)) Q E s from wpAny_richCompare_same_room tA tB PySem.F.slot_dict_eq (wpAny_call_entry PySem.F.slot_dict_eq tA PySem.F.entry_dict_eq ?_ (PySem.F.args_dict_eq_2 _ _)) hr);refine(show aew _ _ (Ab "__eq__" ⟨[.ref a,.ref b],[]⟩ >>= _) _ _ s from aex ?_);unfold Ab;refine aex (wpAny_notOrdered_dict tA (show aew _ _ (pure (aL a,aL b)) _ _ s from aeC ?_));refine aex (wpAny_isInstance tB isSubtype_dict_dict ?_);simp only[mN,eS,if_false];refine aex (aeC (aex (aeC (aex (uT hu la lb hA hB (hf _) ?_)))));refine aeC ⟨_,rfl,(λz=>nomatch z),?_⟩
 rw[show ∀c:Bool,(c == true)=c from by decide];exact hQ
theorem slot_dict_ne:Slot "dict" (cmpInfo .NotEq).2.1 "dict.__ne__" :=
 .of (owner:="dict") (n:="__ne__") (by rw[typeLookup_type,builtinLookup_eq_fast];kernel_rfl) (by decide+kernel) (by decide+kernel) (by decide+kernel) (by first |exact .inl (by decide+kernel) |exact .inr (by decide+kernel)) (by rw[aes];kernel_rfl)
theorem entry_dict_ne:entryFor table "dict.__ne__"=some Builtin.«dict.__ne__»:=entryFor_of_tree (by kernel_rfl)
theorem args_dict_ne_2(a b:aej):argsOk "dict.__ne__" ⟨[a,b],[]⟩:=by unfold argsOk;rw[signature?_of (id:="dict.__ne__") (n:=['_','_','e','n','_','_']) (o:=['t','c','i','d']) (by kernel_rfl) PySem.F.owner_dict];kernel_rfl
theorem Lj{f:K->Bool}(hr:A.units < cLine)(hu:knd.room A.in1)(la:(a == sysModules)=false)(lb:(b == sysModules)=false)(hA:s.heap.DictOfH knd a xs)(hB:s.heap.DictOfH knd b ys)
  (hf:∀E:aej->aei->Prop,∀x∈xs,∀y∈ys,x.1=y.1->∀Q:Bool->aei->Prop,Q (f x.1) s->aew (model prog w) A.in1 (eqBool x.2.2 y.2.2) Q E s)
  (hQ:Q (.bool (!(decide (xs.length=ys.length)&&xs.all λx=>(atKey ys x.1).isSome&&f x.1))) s):aew (model prog w) A (aeq .NotEq (.ref a) (.ref b)) Q E s:=by
 have tA:s.TypeIs (.ref a) "dict":=hA.typeIs;have tB:s.TypeIs (.ref b) "dict":=hB.typeIs;refine(show aew (model prog w) A (richCompare .NotEq (.ref a) (.ref b)) Q E s from wpAny_richCompare_same_room tA tB slot_dict_ne (wpAny_call_entry slot_dict_ne tA entry_dict_ne ?_ (args_dict_ne_2 _ _)) hr);refine(show aew _ _ (Ab "__ne__" ⟨[.ref a,.ref b],[]⟩ >>= _) _ _ s from aex ?_);unfold Ab;refine aex (wpAny_notOrdered_dict tA (show aew _ _ (pure (aL a,aL b)) _ _ s from aeC ?_));refine aex (wpAny_isInstance tB isSubtype_dict_dict ?_);simp only[mN,eS,if_false];refine aex (aeC (aex (aeC (aex (uT hu la lb hA hB (hf _) ?_)))));refine aeC ⟨_,rfl,(λz=>nomatch z),?_⟩
 rw[show ∀c:Bool,(c == false)= !c from by decide];exact hQ
end
abbrev PX:=List (List L2.Key×Wv)
def oZ(st:Hs)(kvs:PX):Bool:=kvs.all λkv=>(a_ st 20 kv.2).isSome
def MO(st:Hs)(k1 k2:PX)(k:List L2.Key):Bool:=match d_ k1 k,d_ k2 k with
 |some v,some w=>(match a_ st 20 v,a_ st 20 w with |some a,some b=>aT a b |_,_=>false)
 |_,_=>false
def qc(st:Hs)(k1 k2:PX):Bool:=decide (k1.length=k2.length)&&(k1.map (·.1)).all λk=>(d_ k2 k).isSome&&MO st k1 k2 k
def X_(K:PySem.W.Frag)(neg:Bool):R2:=λa b H Q=>∃m st p q k1 k2 l1 l2,cb K m st H/\a= .ref p/\b= .ref q/\Rd H p (.dT l1)/\Rd H q (.dT l2)/\RelK K m H k1 l1/\RelK K m H k2 l2/\oZ st k1=true/\oZ st k2=true/\Q (.bl (if neg then !qc st k1 k2 else qc st k1 k2)) H
theorem GB{H:Hp}:∀{xs:List (List L2.Key×V)}{ys:List (List L2.Key×aed×aej)},KT H xs ys->xs.map (·.1)=ys.map (·.1)
 |_,_,.nil=>rfl
 |_,_,.cons h t=>by rw[aK,aK,GB t,h.1]
theorem su{κ:Type}[DecidableEq κ]{k:κ}{w:Wv}:∀{kvs:List (κ×Wv)},d_ kvs k=some w->(k,w)∈kvs
 |[],e=>by cases e
 |p::r,e=>by
  unfold d_ at e;by_cases h:p.1=k
  ·rw[if_pos h]at e;cases e;rw[<-h];exact bC
  ·rw[if_neg h]at e;exact bb _ (su e)
variable{kvs:PX}
section
variable {X:Cx}
theorem BS{ys:List (List L2.Key×aed×aej)}{k:List L2.Key}{p:aed×aej}(r:RelK X.K m H kvs xs)(kt:KT H xs ys)(nd:(ys.map (·.1)).Nodup)(hd:oZ st kvs=true)(h:(k,p)∈ys):
  ∃w v d,d_ kvs k=some w/\ah X.K m H w v/\RelV v p.2/\a_ st 20 w=some d:=by
 obtain⟨j,hj⟩:=List.mem_iff_getElem?.mp h;have ak:=atKey_of_get nd hj;have vl:=kt.val k;rw[ak]at vl;obtain⟨v,ev,rv⟩:=oY vl;obtain⟨i1,i2⟩:=r.val k;cases e:d_ kvs k with
 |none=>rw[i1 e]at ev;cases ev
 |some w=>obtain⟨u,j1,j2⟩:=i2 w e;rw[ev]at j1;cases j1;obtain⟨d,e2⟩:=Option.isSome_iff_exists.mp (List.all_eq_true.mp hd _ (su e));exact⟨w,v,d,rfl,j2,rv,e2⟩
theorem x_{k1 k2:PX}{l1 l2:List (List L2.Key×V)}{y1 y2:List (List L2.Key×aed×aej)}(r1:RelK X.K m H k1 l1)(r2:RelK X.K m H k2 l2)(t1:KT H l1 y1)(t2:KT H l2 y2):
  (decide (y1.length=y2.length)&&y1.all λx=>(atKey y2 x.1).isSome&&MO st k1 k2 x.1)=qc st k1 k2:=by
 have e1:y1.length=k1.length:=by rw[<-Paired.length t1,r1.length]
 have e2:y2.length=k2.length:=by rw[<-Paired.length t2,r2.length]
 have ks:k1.map (·.1)=y1.map (·.1):=by rw[r1.1,GB t1]
 have at2:∀k,(atKey y2 k).isSome=(d_ k2 k).isSome:=λk=>by
  have q:=(t2.val k).oP;rw[Bm]at q;rw[<-q];obtain⟨i1,i2⟩:=r2.val k;cases e:d_ k2 k with
  |none=>rw[i1 e];rfl
  |some w=>obtain⟨u,j1,_⟩:=i2 w e;rw[j1];rfl
 unfold qc;rw[e1,e2,ks,List.all_map]
 congr 1
 refine List.all_congr rfl λx=>?_;show((atKey y2 x.1).isSome&&MO st k1 k2 x.1)=((d_ k2 x.1).isSome&&MO st k1 k2 x.1);rw[at2]
theorem GC(neg:Bool)(hu:X.A.units+64 < cLine):fh X (aeq (if neg then .NotEq else .Eq)) (X_ X.K neg):=by
 intro pins s σ H a b v u Q I rx ry h;obtain⟨m,st,p,q,k1,k2,l1,l2,S,rfl,rfl,d1,d2,r1,r2,h1,h2,hq⟩:=h;cases rx;cases ry;obtain⟨z1,lo1,y1,t1,D1⟩:=nJ I.hok d1;obtain⟨z2,lo2,y2,t2,D2⟩:=nJ I.hok d2;have n1:(y1.map (·.1)).Nodup:=let ⟨_,_,_,_,_,_,_,_,n⟩:=D1;n;have n2:(y2.map (·.1)).Nodup:=let ⟨_,_,_,_,_,_,_,_,n⟩:=D2;n;have hf:∀E:aej->aei->Prop,∀x∈y1,∀y∈y2,x.1=y.1->∀Q:Bool->aei->Prop,Q (MO st k1 k2 x.1) s->aew (model X.prog X.w) X.A.in1 (eqBool x.2.2 y.2.2) Q E s:=λE x hx y hy e Q' q'=>by
  obtain⟨w,v,dw,a1,a2,a3,a4⟩:=BS (k:=x.1) (p:=x.2) (st:=st) r1 t1 n1 h1 hx;obtain⟨w',v',V7,b1,b2,b3,b4⟩:=BS (k:=y.1) (p:=y.2) (st:=st) r2 t2 n2 h2 hy;rw[<-e]at b1;obtain⟨as,q1,q2,q3⟩:=eX I S 20 w v _ dw a2 a3 a4;obtain⟨bs,p1,p2,p3⟩:=eX I S 20 w' v' _ V7 b2 b3 b4;have ee:MO st k1 k2 x.1=aT dw V7:=by unfold MO;rw[a1,b1];dsimp only;rw[a4,b4]
  rw[ee]at q';exact Jp X.prog X.w X.A.in1 E s _ _ dw V7 as bs Q' q1 p1 q2 p2 (by have:X.A.in1.units=X.A.units+1:=rfl;have:min dw.depth V7.depth<=dw.depth:=Nat.min_le_left _ _;omega) q'
 cases neg with
 |false=>refine Li (by omega) (tupleKind_room_in1 (by omega)) lo1 lo2 D1 D2 hf ?_;rw[x_ r1 r2 t1 t2];exact⟨.bl _,H,I,rfl,hq⟩
 |true=>refine Lj (by omega) (tupleKind_room_in1 (by omega)) lo1 lo2 D1 D2 hf ?_;rw[x_ r1 r2 t1 t2];exact⟨.bl _,H,I,rfl,hq⟩
def sy(st:Hs):Wv->Option PX
 |.ref l=>fQ st[l]?
 |_=>none
def GD:gU:=λx y st=>match sy st x,sy st y with
 |some k1,some k2=>if oZ st k1=true/\oZ st k2=true then .ok (.bl (qc st k1 k2)) st else .bad
 |_,_=>oEq x y st
def Ac:gU:=λx y st=>match sy st x,sy st y with
 |some k1,some k2=>if oZ st k1=true/\oZ st k2=true then .ok (.bl (!qc st k1 k2)) st else .bad
 |_,_=>xC x y st
theorem qN{a:V}(S:cb X.K m st H)(r:ah X.K m H x a)(h:sy st x=some kvs):∃p l,a= .ref p/\Rd H p (.dT l)/\RelK X.K m H kvs l:=by
 cases x with
 |ref j=>unfold ah at r;obtain⟨p,rfl,hp⟩:=r;obtain⟨l,h1,h2⟩:=jS (X:=X) S hp h;exact⟨p,l,rfl,h1,h2⟩
 |_=>cases h
theorem PY(hu:X.A.units+64 < cLine):jh X (aeq .Eq) GD:=by
 obtain⟨r0,c0,k0⟩:=MF (X:=X) hu;refine⟨_,fh.or (GC (X:=X) false hu) c0,λx y a b st H m Q S rx ry p=>?_⟩;unfold GD at p;cases e1:sy st x with
 |none=>rw[e1]at p;exact .inr (k0 x y a b st H m Q S rx ry p)
 |some k1=>
  cases e2:sy st y with
  |none=>rw[e1,e2]at p;exact .inr (k0 x y a b st H m Q S rx ry p)
  |some k2=>
   rw[e1,e2]at p;dsimp only at p;by_cases c:oZ st k1=true/\oZ st k2=true
   ·rw[if_pos c]at p;obtain⟨p1,l1,rfl,d1,r1⟩:=qN (X:=X) S rx e1;obtain⟨p2,l2,rfl,d2,r2⟩:=qN (X:=X) S ry e2;exact .inl ⟨m,st,p1,p2,k1,k2,l1,l2,S,rfl,rfl,d1,d2,r1,r2,c.1,c.2,p _ m H Ext.refl S jN⟩
   ·rw[if_neg c]at p;exact ab p
theorem PZ(hu:X.A.units+64 < cLine):jh X (aeq .NotEq) Ac:=by
 obtain⟨r0,c0,k0⟩:=MG (X:=X) hu;refine⟨_,fh.or (GC (X:=X) true hu) c0,λx y a b st H m Q S rx ry p=>?_⟩;unfold Ac at p;cases e1:sy st x with
 |none=>rw[e1]at p;exact .inr (k0 x y a b st H m Q S rx ry p)
 |some k1=>
  cases e2:sy st y with
  |none=>rw[e1,e2]at p;exact .inr (k0 x y a b st H m Q S rx ry p)
  |some k2=>
   rw[e1,e2]at p;dsimp only at p;by_cases c:oZ st k1=true/\oZ st k2=true
   ·rw[if_pos c]at p;obtain⟨p1,l1,rfl,d1,r1⟩:=qN (X:=X) S rx e1;obtain⟨p2,l2,rfl,d2,r2⟩:=qN (X:=X) S ry e2;exact .inl ⟨m,st,p1,p2,k1,k2,l1,l2,S,rfl,rfl,d1,d2,r1,r2,c.1,c.2,p _ m H Ext.refl S jN⟩
   ·rw[if_neg c]at p;exact ab p
end
def mX(gd gk:GE):GE:=λρ st=>(gd ρ st).bind λd st1=>match d with
 |.ref l=>if(fQ st1[l]?).isSome=true then(gk ρ st1).bind λk st2=>(match i9 k,fQ st2[l]? with
  |some kk,some kvs=> .ok ((d_ kvs kk).getD .non) st2
  |_,_=> .bad)else .bad
 |_=> .bad
section
variable {X:Cx}
theorem ya{o e:Expr}{gd gk:GE}{apos cpos:Pos}(hu:X.A.units+1 < cLine)(ho:JE X o gd)(he:JE X e gk)(M:M1 X o "get" apos e cpos):JE X (.Call (.Attribute o "get" apos) [e] [] cpos) (mX gd gk) :=
 JE.of (E7 hu bj bj M) λρ st σ H m Q S R p=>by
  refine ho.go S R (aM.bind p) λd st1 v m1 H1 p1 e1 S1 r1=>?_;cases d with
  |ref l=>
   dsimp only at p1;by_cases hd:(fQ st1[l]?).isSome=true
   ·rw[if_pos hd]at p1;unfold ah at r1;obtain⟨a,rfl,ha⟩:=r1;obtain⟨kv1,hk1⟩:=Option.isSome_iff_exists.mp hd;obtain⟨xs1,rd1,_⟩:=jS S1 ha hk1;refine⟨a,rfl,.inr ⟨xs1,rd1⟩,?_⟩;refine he.go S1 (R.mono e1) ((aM.bind p1).imp e1 λ_ _ q=>q) λk st2 y m2 H2 p2 e2 S2 r2=>?_;cases q1:i9 k with
    |none=>rw[q1]at p2;exact ab p2
    |some kk=>
     cases q2:fQ st2[l]? with
     |none=>rw[q1,q2]at p2;exact ab p2
     |some kvs=>
      rw[q1,q2]at p2;have ha2:m2[l]? =some a:=e2.pre _ _ ha;obtain⟨xs,y1,y2⟩:=jS S2 ha2 q2;obtain⟨b,rfl,hb⟩:=jr r2 q1;dsimp only at p2;refine⟨_,.inr ⟨xs,kk,b,y1,rfl,hb,rfl⟩,?_⟩;obtain⟨i1,i2⟩:=y2.val kk;cases q3:d_ kvs kk with
      |none=>rw[i1 q3];rw[q3]at p2;exact p2 .non m2 H2 (e1.trans e2) S2 (by unfold ah;rfl)
      |some w=>obtain⟨u,j1,j2⟩:=i2 w q3;rw[j1];rw[q3]at p2;exact p2 u m2 H2 (e1.trans e2) S2 j2
   ·rw[if_neg hd]at p1;exact ab p1
  |_=>exact ab p1
end
section
variable {X:Cx}
def P0(neg:Bool):R2:=λa b H Q=>∃p c kvs k,a= .ref c/\H c=some (.tup (k.map kV))/\b= .ref p/\Rd H p (.dT kvs)/\Q (.bl ((i7 kvs k).isSome != neg)) H
theorem BU{kvs:List (List L2.Key×V)}{xs:List (List L2.Key×aed×aej)}(r:KT H kvs xs)(k:List L2.Key):(atKey xs k).isSome=(i7 kvs k).isSome:=by
 have v:=r.val k;cases e:atKey xs k with
 |none=>rw[e]at v;rw[uS v];rfl
 |some p=>rw[e]at v;obtain⟨w,ew,_⟩:=oY v;rw[ew];rfl
theorem P1(hu:X.A.units+1 < cLine):fh X (aeq .In) (P0 false):=by intro pins s σ H a b v u Q I rx ry h;obtain⟨p,c,kvs,k,rfl,hk,rfl,hd,q⟩:=h;cases rx;cases ry;obtain⟨z,lo,xs,kt,dd⟩:=nJ I.hok hd;refine wpAny_in_heap (tupleKind_room_in1 hu) (kX I.hok hk) lo dd ⟨.bl (i7 kvs k).isSome,H,I.tok _,?_,by simpa using q⟩;rw[BU kt];rfl
theorem DH(hu:X.A.units+1 < cLine):fh X (aeq .NotIn) (P0 true):=by
 intro pins s σ H a b v u Q I rx ry h;obtain⟨p,c,kvs,k,rfl,hk,rfl,hd,q⟩:=h;cases rx;cases ry;obtain⟨z,lo,xs,kt,dd⟩:=nJ I.hok hd;refine wpAny_notIn_heap (tupleKind_room_in1 hu) (kX I.hok hk) lo dd ⟨.bl (!(i7 kvs k).isSome),H,I.tok _,?_,?_⟩
 ·rw[BU kt];rfl
 ·have e:∀t:Bool,(t != true)= !t:=by decide
  rw[e]at q;exact q
def qq(neg:Bool):gU:=λx y st=>match y with
 |.ref l=>(match fQ st[l]?,i9 x with |some kvs,some k=> .ok (.bl ((d_ kvs k).isSome != neg)) st |_,_=>kN neg x y st)
 |_=>kN neg x y st
theorem GF{y:Wv}{a b:V}{Q:VK}(S:cb X.K m st H)(rx:ah X.K m H x a)(ry:ah X.K m H y b)(p:df X.K m H (qq neg x y st) Q):P0 neg a b H Q\/df X.K m H (kN neg x y st) Q:=by
 unfold qq at p;split at p
 ·rename_i l;split at p
  ·rename_i kvs k e1 e2;have ry0:=ry;unfold ah at ry0;obtain⟨a',rfl,ha⟩:=ry0;obtain⟨xs,h1,h2⟩:=jS (X:=X) S ha e1;obtain⟨c,rfl,hc⟩:=jr rx e2;obtain⟨i1,i2⟩:=h2.val k;have ev:(i7 xs k).isSome=(d_ kvs k).isSome:=by
    cases q3:d_ kvs k with
    |none=>rw[i1 q3];rfl
    |some w=>obtain⟨u,j1,_⟩:=i2 w q3;rw[j1];rfl
   exact .inl ⟨a',c,xs,k,rfl,hc,rfl,h1,by rw[ev];exact p _ m H Ext.refl S jN⟩
  ·exact .inr p
 ·exact .inr p
theorem P2(hu:X.A.units+64 < cLine):jh X (aeq .In) (qq false):=⟨_,fh.or (P1 (by omega)) (Gq hu),λx y a b st H m Q S rx ry p=>(GF S rx ry p).imp (λz=>z) λz=>v8 S rx ry z⟩
theorem DI(hu:X.A.units+64 < cLine):jh X (aeq .NotIn) (qq true):=⟨_,fh.or (DH (by omega)) (uP hu),λx y a b st H m Q S rx ry p=>(GF S rx ry p).imp (λz=>z) λz=>v8 S rx ry z⟩
end
section
variable {prog:aeh}{w:aek}{K:Type} [DecidableEq K] {knd:HeapKind prog w K}{A:aee}{E:aej->aei->Prop}{s:aei}{d a:aed}{k:K}{xs:List (K×aed×aej)}
theorem DJ(hu:knd.room A.in1)(hkey:knd.is s.heap k a)(hm:s.heap.DictOfH knd d xs)(hsz:xs.length<=aeu)(hin:∃(j:Nat)(p:aed×aej),xs[j]? =some (k,p))
  (hs:∀(j:Nat)(p:aed×aej),xs[j]? =some (k,p)->∀h' t,h'.DictOfH knd d (xs.filter λx=>decide (x.1≠k))->jE d s.heap h'->Q p.2 { s with heap:=h',toks:=t }):
  aew (model prog w) A (call (.builtin "dict.pop") [.ref d,.ref a]) Q E s:=by
 have ty:s.TypeIs (.ref d) "dict":=hm.typeIs;obtain⟨o,es,ep,ho,hc,hd,he,his,hnd⟩:=id hm;have hes:es.size<=aeu:=by have e:=size_of_entries he;omega
 have M:MeetsIn prog w (Builtin.«dict.pop» ⟨[.ref d,.ref a],[]⟩) (λA' R s'=>A'=A/\s'=s/\
   ∀(j:Nat)(p:aed×aej),xs[j]? =some (k,p)->∀h' t,h'.DictOfH knd d (xs.filter λx=>decide (x.1≠k))->jE d s.heap h'->R (.ok (.ret p.2)) { s with heap:=h',toks:=t }):=.of_wp λA' R s' ⟨eA,e,h2⟩=>by
  subst e eA;unfold Builtin.«dict.pop»;refine aex ?_;unfold Builtin.Dict.keyAndDefault;refine aex (wpAny_notOrdered_dict ty (show aew _ _ (pure (d,aL a,none)) _ _ s' from aeC ?_));have kp:(keyPart (aL a)).isSome=false:=rfl;simp only[kp,eS,if_false];refine aex (aey ho hd (aex (aeC ?_)));by_cases em:es.isEmpty=true
  ·have xe:xs=[]:=by
    have:=size_of_entries he;have e0:es.size=0:=by simpa [Array.isEmpty]using em
    exact List.length_eq_zero_iff.mp (by omega)
   obtain⟨j,p,q⟩:=hin;rw[xe]at q;cases q
  ·rw[if_neg em];refine aex ?_;unfold Builtin.Dict.takeOut;refine aez ?_;refine aex (knd.pyHash hu hkey (aex (wpAny_dictFind_heap (s:={ s' with toks:=s'.toks+knd.draws k }) hu hkey ho hd he his hnd (λno=>absurd hin.choose_spec.choose_spec (no _ _)) λj p hj=>?_)));refine aex (aey (s:={ s' with toks:=s'.toks+knd.draws k }) ho hd ?_);rw[entry_at he j,hj];refine aex (wpAny_updateDictKeys (hz:=hes) (s:={ s' with toks:=s'.toks+knd.draws k }) ho hd (aeC ?_));simp only[Option.isNone_some,eS,if_false];refine aex (wpAny_letGo (aeC ⟨p.2,rfl,h2 j p hj _ _ ?_ (v5 ..)⟩));refine⟨_,_,ep+1,rD _ ho (Obj.isFreed_of_dict (BQ hd _)),hc.mapDictKeys _,BQ hd _,?_,λy hy=>?_,?_⟩
   ·rw[<-x8 hnd hj,uQ,<-he];obtain⟨l⟩:=es;simp
   ·exact knd.keeps (his y (List.mem_filter.mp hy).1) ho hd (v5 ..)
   ·exact hnd.sublist (List.filter_sublist.map _)
 exact call_meetsIn PySem.F.slot_dict_pop ty PySem.F.entry_dict_pop (PySem.F.args_dict_pop_2 _ _) M ⟨rfl,rfl,hs⟩
end
section
variable {X:Cx}{o e:Expr}{apos cpos:Pos}{td ty:TE}
def P4(td ty:TE):TE:=λσ H Q=>td σ H λx H1=>∃a,x= .ref a/\XB H1 a/\ty σ H1 λy H2=>∃kvs k b v,H2 a=some (.dT kvs)/\y= .ref b/\H2 b=some (.tup (k.map kV))/\i7 kvs k=some v/\Q v (upd H2 a (.dT (kA kvs k)))
theorem GG(hu:X.A.units+1 < cLine)(ho:PE X o td)(he:PE X e ty)(m:M1 X o "pop" apos e cpos):PE X (.Call (.Attribute o "pop" apos) [e] [] cpos) (P4 td ty):=by
 intro pins s σ H Q I h;refine wpAny_Call_method m.base m.few m.line PySem.F.plainAttrs_dict PySem.F.slot_dict_pop PySem.F.type_dict_pop (bK (ho pins s σ H _ I h) λu s1 ⟨x,H1,I1,rx,a,ex,d,q1⟩=>?_);subst ex;obtain rfl:u=aL a:=rx;obtain⟨t1,t2,_⟩:=E6 I1 d;refine⟨t1,t2,?_⟩;rw[m.trees];refine EU rfl (EV (EK (bK (he pins s1 σ H1 _ I1 q1) λiv s2 ⟨y,H2,I2,ry,kvs,k,b,v,ea,ey,eb,ev,q3⟩=>EJ ?_)));subst ey;cases (show iv=aL b from ry);obtain⟨zz,hd,xs,rel,dd⟩:=E2 I2.hok ea;have vl:=rel.val k;have hin:∃(j:Nat)(p:aed×aej),xs[j]? =some (k,p):=Classical.byContradiction λno=>by rw[atKey_none_of_get (λj p q=>no ⟨j,p,q⟩)]at vl;rw[uS vl]at ev;cases ev
 refine DJ (tupleKind_room_in1 hu) (kX I2.hok eb) dd (by rw[<-Paired.length rel];exact zz) hin λj p hj h' t Mv hs=>?_;have hnd:(xs.map (·.1)).Nodup:=let ⟨_,_,_,_,_,_,_,_,n⟩:=dd;n;rw[atKey_of_get hnd hj]at vl;obtain⟨v',ev',rv⟩:=oY vl;rw[ev]at ev';cases ev';obtain⟨q,es,ep,hq,h2,h3,h4,_,h5⟩:=Mv;refine⟨v,_,qI (ob:=.dT (kA kvs k)) I2 (by rw[ea];exact gF) hs ⟨q,hq⟩ ⟨aV (E0 kvs k) zz,hd,_,(v_ rel).keeps λc ys ec=>?_,q,es,ep,hq,h2,h3,h4,h5⟩,rv,q3⟩;rw[aZ (En ec ea (λz=>nomatch z))]
 exact ec
def MP(d k:Wv)(st:Hs):Re Wv:=match d with
 |.ref l=>(match i9 k,st[l]? with
  |some kk,some (.et kvs)=>(match d_ kvs kk with |some w=> .ok w (st.set l (.et (sr kvs kk))) |none=> .bad)
  |_,_=> .bad)
 |_=> .bad
def uU(gd gk:GE):GE:=λρ st=>(gd ρ st).bind λd st1=>if Lh st1 d=true then(gk ρ st1).bind λk st2=>MP d k st2 else .bad
theorem Ll{gd gk:GE}(hu:X.A.units+1 < cLine)(ho:JE X o gd)(he:JE X e gk)(M:M1 X o "pop" apos e cpos):JE X (.Call (.Attribute o "pop" apos) [e] [] cpos) (uU gd gk) :=
 JE.of (GG hu bj bj M) λρ st σ H m Q S R p=>by
  refine ho.go S R (aM.bind p) λd st1 v m1 H1 p1 e1 S1 r1=>?_;by_cases hd:Lh st1 d=true
  ·rw[if_pos hd]at p1;cases d with
   |ref l=>
    unfold ah at r1;obtain⟨a,rfl,ha⟩:=r1;obtain⟨kv0,ek⟩:=Option.isSome_iff_exists.mp (show(fQ st1[l]?).isSome=true from hd);obtain⟨TU,h0,_⟩:=jS (X:=X) S1 ha ek;refine⟨a,rfl,.inr ⟨TU,h0⟩,?_⟩;refine he.go S1 (R.mono e1) ((aM.bind p1).imp e1 λ_ _ q=>q) λk st2 y m2 H2 p2 e2 S2 r2=>?_;unfold MP at p2;dsimp only at p2;cases q1:i9 k with
    |none=>rw[q1]at p2;exact ab p2
    |some kk=>
     cases q2:st2[l]? with
     |none=>rw[q1,q2]at p2;exact ab p2
     |some ob=>
      rw[q1,q2]at p2;cases ob with
      |et kvs=>
       dsimp only at p2;have ha2:m2[l]? =some a:=e2.pre _ _ ha;obtain⟨xs,y1,y2⟩:=(show ∃ys,H2 a=some (.dT ys)/\RelK X.K m2 H2 kvs ys from S2.obj _ _ _ ha2 q2);obtain⟨b,rfl,hb⟩:=jr r2 q1;obtain⟨i1,i2⟩:=y2.val kk;cases q3:d_ kvs kk with
       |none=>rw[q3]at p2;exact ab p2
       |some w=>rw[q3]at p2;obtain⟨u',j1,j2⟩:=i2 w q3;have ex:Ext X.K m2 H2 m2 (upd H2 a (.dT (kA xs kk))):=Ext.iy (.inr (.inr (.inr (.inl ⟨_,y1⟩))));exact⟨xs,kk,b,u',y1,rfl,hb,j1,p2 u' m2 _ (e1.trans (e2.trans ex)) (S2.oQ ha2 q2 rfl ⟨_,bE,(y2.drop kk).mono ex⟩) (ah.mono ex _ _ j2)⟩
      |_=>exact ab p2
   |_=>cases hd
  ·rw[if_neg hd]at p1;exact ab p1
end
section
variable {X:Cx}
def MQ(ws:List Wv)(st:Hs):Re Wk:=match ws with
 |[.int a,.int b,.int c]=>if Eh a b c then .ok (none,qo a c (iA a b c)) st else .bad
 |_=> .bad
def X'(g:GA):GI:=λρ st=>(g ρ st).bind MQ
end
abbrev Kw:=Int×(Int ⊕ Str)
def kd:Kw:=(0,.inl 0)
variable {X:Cx}
def oLt:gU:=λx y st=>Ub x y st
theorem P5(hu:X.A.units+64 < cLine):jh X (aeq .Lt) oLt:=PD hu
section
variable {X:Cx}
theorem Ln:fh X (aeq .IsNot) (λx y H Q=>∃a b,x= .bl a/\y= .bl b/\Q (.bl (a != b)) H):=by intro pins s σ H x y v u Q I rx ry h;obtain⟨a,b,rfl,rfl,q⟩:=h;cases rx;cases ry;exact isnot_bool ⟨.bl (a != b),H,I,rfl,q⟩
def qd:gU:=λx y st=>match x,y with
 |.bl a,.bl b=> .ok (.bl (a != b)) st
 |x,y=>rV x y st
theorem Lo:jh X (aeq .IsNot) qd:=by
 obtain⟨r,h1,h2⟩:=Fn (X:=X);refine⟨_,fh.or h1 Ln,λx y a b st H m Q S rx ry p=>?_⟩;cases x with
 |bl c=>
  cases y with
  |bl d=>
   have e1:a= .bl c:=by unfold ah at rx;exact rx
   have e2:b= .bl d:=by unfold ah at ry;exact ry
   exact .inr ⟨c,d,e1,e2,p _ m H Ext.refl S jN⟩
  |_=>exact .inl (h2 _ _ _ _ st H m Q S rx ry p)
 |_=>exact .inl (h2 _ _ _ _ st H m Q S rx ry p)
theorem P6:qd x .non st=rV x .non st:=by cases x<;>rfl
end
abbrev KN(H:Hp):List (NK.KD×V)->List (NK.KD×aed×aej)->Prop:=Paired λp q=>p.1=q.1/\KA H 8 (.ref q.2.1) p.1.1/\RelV p.2 q.2.2
variable{kvs:List (NK.KD×V)}{xs:List (NK.KD×aed×aej)}
theorem KN.val(r:KN H kvs xs)(k:NK.KD):i5 (i7 kvs k) ((atKey xs k).map (·.2)):=by
 induction r with
 |nil=>exact gF
 | @cons p q ps qs h t ih=>
  obtain⟨h1,_,h2⟩:=h;by_cases e:p.1=k
  ·have e':q.1=k:=h1.symm.trans e;have b:atKey (q::qs) k=some q.2:=by simp[atKey,kT,e']
   rw[kR e,b];exact h2
  ·have e':¬q.1=k:=λz=>e (h1.trans z);have b:atKey (q::qs) k=atKey qs k:=by simp[atKey,kT,e']
   rw[kU e,b];exact ih
theorem KN.keeps{H':Hp}(r:KN H kvs xs)(ht:∀b ys,H b=some (.tup ys)->H' b=some (.tup ys)):KN H' kvs xs :=
 Paired.CK r λ_ _ z=>⟨z.1,KA.stay ht _ _ _ z.2.1,z.2.2⟩
theorem MR(ok:kL P w H h)(e:H a=some (.dN kvs)):kvs.length<=aeu/\(a == sysModules)=false/\∃xs,KN H kvs xs/\h.DictOfH (NK.ji P w) a xs:=by
 obtain⟨z,y,xs,r,o,es,ep,h1,h2,h3,h4,h5⟩:=(show du P w H h a (.dN kvs) from ok a _ e);refine⟨z,y,xs,r,o,es,ep,h1,h2,h3,h4,λx hx=>?_,h5⟩;have all:∀{l:List (NK.KD×V)}{m:List (NK.KD×aed×aej)},KN H l m->∀x∈m,(NK.ji P w).is h x.1 x.2.1:=by
  intro l m q
  induction q with
  |nil=>intro x hx;exact nomatch hx
  | @cons p q ps qs hq t ih=>
   intro x hx;rcases List.mem_cons.mp hx with e |hx
   ·subst e;exact KA.rd ok 8 (.ref x.2.1) _ _ (by rw[<-hq.1];exact hq.2.1) rfl
   ·exact ih x hx
 exact all r x hx
def P7:TE:=λ_ H Q=>∀p,H p=none->Q (.ref p) (upd H p (.dN []))
section
variable {X:Cx}{o e f:Expr}{pos apos cpos:Pos}{td ty tx:TE}
theorem GH:PE X (.Dict [] [] pos) P7:=λpins s σ H Q I h=>
 wpAny_Dict_empty ⟨.ref s.heap.objs.size,_,I.laid (a:=s.heap.objs.size) (o:=.dN []) (t':=s.toks) (λ_ _ q=>bt _ q) (aE _) ⟨cO _,beq_eq_false_iff_ne.mpr (bA (bU I.big)),[],.nil,_,#[],0,cj _ rfl,⟨rfl,rfl,rfl⟩,rfl,rfl,Bo⟩,rfl,h _ (I.hok.fresh (aE _))⟩
end
def sA:Nat->Wv->Option PyData
 |_,.non=>some .none
 |_,.int i=>some (.int i)
 |_,.str x=>some (.str x)
 |n+1,.tup ws=>(ws.mapM (sA n)).map l5
 |_,_=>none
def Ad(w:Wv):Option NK.KD:=match sA 8 w with
 |some d=>if h:NK.kd 8 d=true/\NK.VJ d=true then some ⟨d,h⟩ else none
 |none=>none
theorem GJ:∀(n:Nat)(w:Wv)(v:V)(d:PyData),ah K m H w v->sA n w=some d->KA H n v d:=by
 intro n
 induction n with
 |zero=>
  intro w v d r e;cases w with
  |non=>cases e;unfold ah at r;subst r;exact gF
  |int i=>cases e;unfold ah at r;subst r;exact rfl
  |str x=>cases e;unfold ah at r;rw[r.1];exact rfl
  |_=>cases e
 |succ n ih=>
  intro w v d r e;cases w with
  |non=>cases e;unfold ah at r;subst r;exact gF
  |int i=>cases e;unfold ah at r;subst r;exact rfl
  |str x=>cases e;unfold ah at r;rw[r.1];exact rfl
  |tup ws=>
   unfold ah at r;obtain⟨a,xs,rfl,ha,rs⟩:=r;have e':(ws.mapM (sA n)).map l5=some d:=e;cases q:ws.mapM (sA n)with
   |none=>rw[q]at e';cases e'
   |some ds=>
    rw[q]at e';cases e';refine⟨xs,ha,?_⟩;have key:∀(ws:List Wv)(xs:List V)(ds:List PyData),aq K m H ws xs->ws.mapM (sA n)=some ds->Paired (KA H n) xs ds:=by
     intro ws
     induction ws with
     |nil=>intro xs ds r e;unfold aq at r;subst r;cases e;exact .nil
     |cons w ws ihw=>
      intro xs ds r e;unfold aq at r;obtain⟨y,t,rfl,r1,r2⟩:=r;rw[List.mapM_cons]at e;cases e1:sA n w with
      |none=>rw[e1]at e;cases e
      |some d1=>
       cases e2:ws.mapM (sA n)with
       |none=>rw[e1,e2]at e;cases e
       |some dr=>rw[e1,e2]at e;cases e;exact .cons (ih _ _ _ r1 e1) (ihw _ _ r2 e2)
    exact key ws xs ds rs q
  |_=>cases e
theorem GK{w:Wv}{k:NK.KD}(r:ah K m H w v)(e:Ad w=some k):∃b,v= .ref b/\KA H 8 (.ref b) k.1:=by
 unfold Ad at e;cases q:sA 8 w with
 |none=>rw[q]at e;cases e
 |some d=>
  rw[q]at e;dsimp only at e;by_cases h:NK.kd 8 d=true/\NK.VJ d=true
  ·rw[dif_pos h]at e;cases e;have ka:=GJ 8 w v d r q;cases v with
   |ref b=>exact⟨b,rfl,ka⟩
   |_=>cases d<;>first |exact ab ka |exact(aH h.2).elim
  ·rw[dif_neg h]at e;cases e
def BV:GE:=λ_ st=> .ok (.ref st.length) (st++[.oK []])
section
variable {X:Cx}{o e f:Expr}{apos cpos:Pos}
theorem Lp:JE X (.Dict [] [] pos) BV:=JE.of GH λρ st σ H m Q S R p=>λq hq=>
 p (.ref q) (m++[q]) _ (Ext.more.trans (Ext.iy (.inl hq))) (S.rQ hq ⟨[],bE,RelK.nil⟩) (S.newest q _)
end
end J
namespace TB
open PySem PySem.SetTable
def stp(M i:Nat):Nat:=(i * 5+1) % M
def Jx(h:Heap)(a:aed)(l:List (Int×aej)):Prop:=∃o es ep t,h.get? a=some o/\o.ExactSet/\o.data= .set es ep t/\es.toList.Perm l/\t.place.size=es.size/\t.dummies=#[]/\(t.mask=7\/t.mask=31\/t.mask=127\/t.mask=511)/\es.size * 5 < t.mask * 3
end TB
namespace JT
open PySem PyProof.Rows
class Od where
 kd:SortKind
 ik:aeE->Prop
 kn:aeE->Int
abbrev Kd[Od]:SortKind:=Od.kd
abbrev Ik[Od](p:aeE):Prop:=Od.ik p
def kn[Od](p:aeE):Int:=Od.kn p
def K[Od](xs:Array aeE)(i:Nat):Int:=match xs[i]? with
 |some p=>kn p
 |none=>0
class Oa [Od] (prog:aeh) (w:aek) (A:aee) (E:aej->aei->Prop) (s:aei):Prop where
 lt:∀{st:aeF}{x y:aeE}{Q:Option Bool->aeF->Prop},kindOf st=Kd->Ik x->Ik y->Q (some (decide (kn x < kn y))) st->wpS (model prog w) A E s (lt' x y) Q st
section
variable [Od] {prog:aeh}{w:aek}{A:aee}{E:aej->aei->Prop}{s:aei} [Oa prog w A E s]
def gp(left:Bool)(key:aeE)(arr:Array aeE)(base i:Nat):Bool:=if left then decide (K arr (base+i) < kn key)else !decide (kn key < K arr (base+i))
end
section
variable [Od]
def Up(l:List aeE):Prop:=l.Pairwise (kn · <=kn ·)
section
variable {α:Type}{f:α->Int}{A B:List α}
theorem drop_take{i n:Nat}(h:i<=n):A.drop i=(A.take n).drop i++A.drop n:=by
 have h1:=KS n A;have h2:=congrArg (List.drop i) h1;rw[List.drop_append]at h2;rw[<-h2];by_cases c:n<=A.length
 ·rw[nD,Nat.min_eq_left c,BG h,F3]
 ·rw[F8 (show A.length<=n by exact Nat.le_of_not_le ‹_›),List.drop_nil]
end
theorem vW{a:Array aeE}(i n:Nat):(a.extract i n).toList=(a.toList.take n).drop i:=by rw[T7,Pn,List.drop_take]
inductive Rn:Nat->List (Nat×Nat×Nat)->List aeE->Prop
 |nil {s:Nat}:Rn s [] []
 |cons {s n p:Nat}{P:List (Nat×Nat×Nat)}{A X:List aeE}:A.length=n->1<=n->Up A->Rn (s+n) P X->Rn s ((s,n,p)::P) (A++X)
section
variable [Od] {prog:aeh}{w:aek}{A₀:aee}{E:aej->aei->Prop}{s:aei} [Oa prog w A₀ E s]
def Wt(xs:Array aeE)(lo:Nat)(Z:List aeE)(st:aeF):Prop:=∃ys P X g,st=SortSt.mk' Kd ys (List.toArray P) g none/\ys.Perm xs/\ys.toList=X++Z/\X.length=lo/\Rn 0 P X
end
end
end JT
namespace J
open PySem PySem.Spec PyProof.Rows PySem.W L2
open PySem PySem.Spec PyProof.Rows L2
theorem o_:fillsNumberSlot (.type "tuple") "mul"=pure false :=
 PySem.fillsNumberSlot_seq (id:="tuple.__mul__") (r:=some (.builtin "tuple.__rmul__")) F.slot_tuple_mul.lookup (by decide+kernel) F.slot_tuple_rmul.lookup (by decide+kernel)
theorem wa:seqRepeat? (.type "tuple")=pure (some (.builtin "tuple.__mul__")):=by unfold seqRepeat?;rw[PySem.seqSlot_of (T:="tuple") (name:="__mul__") (id:="tuple.__mul__") F.slot_tuple_mul.lookup (by decide+kernel),PySem.seqSlot_of (T:="tuple") (name:="__rmul__") (id:="tuple.__rmul__") F.slot_tuple_rmul.lookup (by decide+kernel)];rfl
theorem wb(a:Int)(t:Tok)(l:aed)(o:Obj)(its:Array aej)(n:Nat):
  Meets (Builtin.«int.__rmul__» ⟨[.int a t,.ref l],[]⟩) (λ_ R s=>s.heap.get? l=some o/\o.cls= .type "tuple"/\o.data= .seq its n/\R (.ok (.ret Bd)) s) :=
 .of_wp λprog w A R s h=>by
  obtain⟨hp,g,d,tk,os⟩:=s;obtain⟨hl,hc,hd,h⟩:=h;have hT:(⟨hp,g,d,tk,os⟩:aei).TypeIs (.ref l) "tuple":=⟨o,hl,hc⟩
  wp_walk
  rw[hd];refine aeC ?_
  wp_walk
  exact⟨_,rfl,h⟩
theorem DK(l:aed)(o:Obj)(its:Array aej)(n:Nat)(x:Int)(u:Tok)(h0:its.isEmpty=false)(h1:2<=x)(h2:x < 2 ^ 63)(h3:its.size * x.toNat<=aeu):
  Meets (Builtin.«tuple.__mul__» ⟨[.ref l,.int x u],[]⟩) (λ_ R s=>s.heap.get? l=some o/\o.cls= .type "tuple"/\o.data= .seq its n/\R (.ok (.ret (aL s.heap.objs.size))) { s with heap:=s.heap.push { cls:=Value.type "tuple",data:=Data.seq (rH (λx1 x2=>x1++x2) #[] (aU x.toNat its)) } }) :=
 .of_wp λprog w A R s h=>by
  obtain⟨hl,hc,hd,h⟩:=h;show aew _ _ (asIndex (.int x u) >>= _) _ _ _;have hT:s.TypeIs (.ref l) "tuple":=⟨o,hl,hc⟩;have c1:(decide (x < -(2 ^ 63))||decide (x >= 2 ^ 63))=false:=by simp;omega
  have c2:(decide (x<=0)||its.isEmpty)=false:=by rw[h0];simp;omega
  have c3:(its.isEmpty||x == 1)=false:=by rw[h0];simp;omega
  have hm:(its.size:Int) * x<=aeu:=by
   have e:x=(x.toNat:Int):=by omega
   rw[e]
   exact_mod_cast h3
  have c4:¬(its.size:Int) * x > (2 ^ 63 - 1) / 8:=by
   have:(aeu:Int)<=(2 ^ 63 - 1) / 8:=by decide
   omega
  have c5:Builtin.Tuple.tupleTooMany ((its.size:Int) * x)=false:=decide_eq_false (by omega);refine aex (show aew _ _ (asIndex (.int x u)) _ _ _ from aeC ?_);rw[c1];refine(show aew _ _ (zc (.ref l) >>= _) _ _ _ from aex (wpAny_tupleItemsOf hl hd ?_));rw[c3];simp only[eS,if_false];rw[c2];simp only[eS,if_false];rw[if_neg c4,c5];simp only[eS,if_false];refine aex (show aew _ _ (newObj (.type "tuple") (.seq _)) _ _ _ from aeB (aeC ⟨_,rfl,h⟩) ?_);show(rH (λx1 x2=>x1++x2) #[] (aU x.toNat its)).size<=aeu;have f0:=foldl_rep its.toList x.toNat [];rw[lX]at f0;have f1:its.toList.toArray=its:=by simp
  rw[f1]at f0;rw[f0,bc,len_rep,Ba,Bj];exact h3
section
variable {X:Cx}
def Ug(K:PySem.W.Frag):R2:=λx y H Q=>∃a k xs,x= .ref a/\y= .int k/\fM K H a xs/\xs≠[]/\2<=k/\k < 2 ^ 63/\xs.length * k.toNat<=aeu/\∀p,H p=none->Q (.ref p) (upd H p (.tup (aU k.toNat xs).flatten))
theorem Lq:fh X (aem .Mult) (Ug X.K):=by
 intro pins s σ H x y v u Q I rx ry h;obtain⟨a,k,xs,rfl,rfl,hH,h0,h1,h2,hz,q⟩:=h;cases rx;obtain⟨t,rfl⟩:=ry;obtain⟨its,r,⟨o,g1,g2,n,g3⟩,_⟩:=I.tuple hH;have hl:=r.length;have hlen:its.toArray.size * k.toNat<=aeu:=by rw[bc,<-hl];exact hz
 have hne:its.toArray.isEmpty=false:=by
  cases r with
  |nil=>exact absurd rfl h0
  |cons _ _=>rfl
 have hnew:rH (λx1 x2=>x1++x2) #[] (aU k.toNat its.toArray)=(aU k.toNat its).flatten.toArray:=by have:=foldl_rep its k.toNat [];rw[lX]at this;exact this
 refine wpAny_binaryOp_repeat_ref (T:="tuple") (U:="int") (by decide) ⟨o,g1,g2⟩ (λs'=>typeIs_int s' k t) o_ F.fills_int_mul zB wa F.slot_int_index.lookup
  (call_meets zB (typeIs_int s k t) F.entry_int_rmul (F.args_int_rmul_2 _ _) (wb k t a o its.toArray n)
   ⟨g1,g2,g3,rfl,⟨o,g1,g2⟩,call_meets F.slot_tuple_mul ⟨o,g1,g2⟩ F.entry_tuple_mul (F.args_tuple_mul_2 _ _) (DK a o its.toArray n k t hne h1 h2 hlen) ⟨g1,g2,g3,?_⟩⟩)
 rw[hnew];refine⟨.ref s.heap.objs.size,_,I.laid (t':=s.toks) (o:=.tup (aU k.toNat xs).flatten) (λb ob q=>bt _ q) (aE _) ?_,rfl,q _ (I.hok.fresh (aE _))⟩;exact⟨by rw[len_rep,Bj];exact hz,_,r.rep k.toNat,vB _ _,vc.new _ _⟩
def dO:gU:=λx y st=>match x,y with
 |.tup ws,.int n=>if ws≠[]/\2<=n/\n < 2 ^ 62/\ws.length * n.toNat<=lim then .ok (.tup (aU n.toNat ws).flatten) st else .bad
 |x,y=>MM x y st
theorem GL:jh X (aem .Mult) dO:=by
 obtain⟨r,h1,h2⟩:=K_ (X:=X);refine⟨_,fh.or Lq h1,λx y a b st H m Q S rx ry p=>?_⟩;cases x with
 |tup ws=>
  cases y with
  |int n=>
   have p':df X.K m H (if ws≠[]/\2<=n/\n < 2 ^ 62/\ws.length * n.toNat<=lim then .ok (.tup (aU n.toNat ws).flatten) st else .bad) Q:=p;by_cases c:ws≠[]/\2<=n/\n < 2 ^ 62/\ws.length * n.toNat<=lim
   ·rw[if_pos c]at p';cases a8 ry;unfold ah at rx;obtain⟨d,xs,rfl,hd,rs⟩:=rx;refine .inl ⟨d,n,xs,rfl,rfl,fM.of hd,λe=>?_,c.2.1,by have:=c.2.2.1;omega,by rw[<-rs.length];exact fF c.2.2.2,λq hq=>?_⟩
    ·subst e;exact c.1 (zJ rs.length)
    ·have eY:Ext X.K m H m (upd H q (.tup (aU n.toNat xs).flatten)):=Ext.iy (.inl hq);refine p' (.ref q) m _ eY (S.fresh hq) ?_;unfold ah;exact⟨q,_,rfl,bE,(oT rs n.toNat).mono eY⟩
   ·rw[if_neg c]at p';exact ab p'
  |_=>exact .inr (h2 _ _ _ _ st H m Q S rx ry p)
 |_=>exact .inr (h2 _ _ _ _ st H m Q S rx ry p)
end
def GN(f:PySem.Str)(v:Wv):List (PySem.Str×Wv)->List (PySem.Str×Wv)
 |[]=>[(f,v)]
 |(g,x)::r=>if g=f then(g,v)::r else(g,x)::GN f v r
variable{c:PySem.Str}{C:aed}
section
variable {K:PySem.W.Frag}{m:Mp}{H:Hp}
theorem uV{f:PySem.Str}{w:Wv}:∀{fs:List (PySem.Str×Wv)}{xs:List (PySem.Str×V)},RelK K m H fs xs->fs.lookup f=some w->∃v,xs.lookup f=some v/\ah K m H w v
 |[],xs,r,e=>by cases e
 |(g,x)::t,xs,r,e=>by
  obtain⟨v,ys,rfl,r1,r2⟩:=r.cons_inv;rw[eG]at e ⊢;cases b:f == g with
  |true=>rw[b]at e;cases e;exact⟨v,rfl,r1⟩
  |false=>rw[b]at e;exact uV r2 e
theorem uW{f:PySem.Str}:∀{fs:List (PySem.Str×Wv)}{xs:List (PySem.Str×V)},RelK K m H fs xs->fs.lookup f=none->xs.lookup f=none
 |[],xs,r,e=>by rw[r.nil_inv];rfl
 |(g,x)::t,xs,r,e=>by
  obtain⟨v,ys,rfl,r1,r2⟩:=r.cons_inv;rw[eG]at e ⊢;cases b:f == g with
  |true=>rw[b]at e;cases e
  |false=>rw[b]at e;exact uW r2 e
theorem yb{f:PySem.Str}{w:Wv}{v:V}(h:ah K m H w v):∀{fs:List (PySem.Str×Wv)}{xs:List (PySem.Str×V)},RelK K m H fs xs->RelK K m H (GN f w fs) (jG f v xs)
 |[],xs,r=>by rw[r.nil_inv];exact RelK.nil.snoc f h
 |(g,x)::t,xs,r=>by
  obtain⟨y,ys,rfl,r1,r2⟩:=r.cons_inv;unfold GN jG;by_cases e:g=f
  ·rw[if_pos e,if_pos e];exact RelK.cons h r2
  ·rw[if_neg e,if_neg e];exact RelK.cons r1 (yb h r2)
theorem Ae{D:aed}(h:ClsAt K c C)(k:ClsAt K c D):C=D:=by unfold ClsAt at h k;rw[h]at k;cases k;rfl
end
def Own(K:PySem.W.Frag)(c f:PySem.Str):Prop:=∃C,ClsAt K c C/\Ee K C/\mQ K C f
def gP(st:Hs)(c:PySem.Str):Wv->Option (List (PySem.Str×Wv))
 |.ref l=>match st[l]? with
  |some (.ins c' fs)=>if c'=c then some fs else none
  |_=>none
 |_=>none
variable{K:PySem.W.Frag}{m:Mp}{H:Hp}
theorem pd{st:Hs}{o:Wv}{v:V}{fs:List (PySem.Str×Wv)}(S:cb K m st H)(r:ah K m H o v)(e:gP st c o=some fs):
  ∃l a C dx xs,o= .ref l/\st[l]? =some (.ins c fs)/\v= .ref a/\m[l]? =some a/\H a=some (.ins C dx xs)/\ClsAt K c C/\RelK K m H fs xs:=by
 cases o with
 |ref l=>
  unfold gP at e;cases e1:st[l]? with
  |none=>simp only[e1]at e;cases e
  |some ob=>
   simp only[e1]at e;cases ob with
   |ins c' gs=>
    dsimp only at e;by_cases ec:c'=c
    ·rw[if_pos ec]at e;cases e;subst ec;unfold ah at r;obtain⟨a,rfl,ha⟩:=r;obtain⟨C,dx,xs,h1,h2,h3⟩:=S.obj l a _ ha e1;exact⟨l,a,C,dx,xs,rfl,e1,rfl,ha,h1,h2,h3⟩
    ·rw[if_neg ec]at e;cases e
   |_=>cases e
 |_=>cases e
def jw(c f:PySem.Str)(g:GE):GE:=λρ st=>(g ρ st).bind λo st1=>match(gP st1 c o).bind (·.lookup f)with
 |some w=> .ok w st1
 |none=> .bad
def GP(c f:PySem.Str)(o v:Wv)(st:Hs):Option Hs:=match gP st c o,o with
 |some fs,.ref l=>if fs.length < 900 then some (st.set l (.ins c (GN f v fs)))else none
 |_,_=>none
def mJ(c f:PySem.Str)(gv go:GE):GS:=λρ st=>(gv ρ st).bK ρ λv st1=>(go ρ st1).bK ρ λo st2=>match GP c f o v st2 with
 |some st3=> .nx ρ st3
 |none=> .bad
def mz(c f:PySem.Str)(n:Nat)(F:List Wv->Hs->Re Wv)(go:GE)(ga:GA):GE:=λρ st=>(go ρ st).bind λo st1=>match(gP st1 c o).map (·.lookup f)with
 |some none=>(ga ρ st1).bind λws st2=>if ws.length+1=n then F (o::ws) st2 else .bad
 |_=> .bad
def V8(c:PySem.Str)(F:List Wv->Hs->Re Wv)(ws:List Wv)(st:Hs):Re Wv:=match F (.ref st.length::ws) (st++[.ins c []])with
 |.ok .non st2=> .ok (.ref st.length) st2
 |_=> .bad
def BW(c:PySem.Str)(n:Nat)(F:List Wv->Hs->Re Wv)(ga:GA):GE:=λρ st=>(ga ρ st).bind λws st1=>if ws.length+1=n then V8 c F ws st1 else .bad
def tU(P:aeh)(w:aek)(K:PySem.W.Frag)(mg:Str->Option aej)(base:Heap)(k:Nat)(c f:Str)(n:Nat)(F:List Wv->Hs->Re Wv):Prop :=
 ∃C a fd ps,FnOk P w K mg base (CXJ P w) k a fd ps (spW K n F)/\ClsAt K c C/\Ee K C/\Meth K C f a/\Binds K fd ps []
def yc(P:aeh)(w:aek)(K:PySem.W.Frag)(mg:Str->Option aej)(base:Heap)(k:Nat)(c:Str)(n:Nat)(F:List Wv->Hs->Re Wv):Prop :=
 ∃C a fd ps j,j+1<=k/\FnOk P w K mg base (CXJ P w) j a fd ps (spW K n F)/\ClsAt K c C/\mg c=some (.ref C)/\Mk K C a/\Binds K fd ps []
variable{c f:Str}{o e:Expr}{g:GA}{pos pos' apos p:Pos}{go ge:GE}{w:aek}{A:aee}{env:Env}{Q:aej->aei->Prop}{k n:Nat}{F:List Wv->Hs->Re Wv}{es:List Expr}
section
variable {X:Cx}
theorem P8{g:GE}(ho:JE X o g)(hb:attributeBase o f X.env (eval o X.env)=eval o X.env)(hc:Own X.K c f):JE X (.Attribute o f pos) (jw c f g) :=
 JE.of (N3 bj hb) λρ st σ H m Q S R p=>ho.go S R (aM.bind p) λw st1 v m1 H1 p1 e1 S1 r1=>by
  cases e:gP st1 c w with
  |none=>rw[e]at p1;exact ab p1
  |some fs=>
   rw[e]at p1;dsimp only[Option.bind]at p1;obtain⟨l,a,C,dx,xs,rfl,h1,rfl,ha,h2,h3,h4⟩:=pd S1 r1 e;obtain⟨C',k1,k2,k3⟩:=hc;cases Ae h3 k1;cases e2:fs.lookup f with
   |none=>rw[e2]at p1;exact ab p1
   |some u=>rw[e2]at p1;obtain⟨y,l1,l2⟩:=uV h4 e2;exact⟨a,C,dx,xs,y,rfl,h2,k2,k3,l1,p1 y m1 H1 e1 S1 l2⟩
theorem GQ(ho:JE X o go)(he:JE X e ge)(hs:swapsWith e (some (.Attribute o f pos')) pos.line X.env=pure false)(hc:Own X.K c f):JS X (.Assign [.Attribute o f pos'] e pos) (mJ c f ge go) :=
 JS.of (N4 bj bj hs) λρ st σ H m D S R p=>by
  refine he.go S R (bh.dc R p) λv st1 vv m1 H1 p1 e1 S1 rv=>?_;refine ho.go S1 (R.mono e1) ((bh.dc (m:=m) (H:=H) R p1).imp e1 λ_ _ q=>q) λd st2 vd m2 H2 p2 e2 S2 rd=>?_;cases e3:gP st2 c d with
  |none=>unfold GP at p2;rw[e3]at p2;exact ab p2
  |some fs=>
   obtain⟨l,a,C,dx,xs,rfl,h1,rfl,ha,h2,h3,h4⟩:=pd S2 rd e3;unfold GP at p2;rw[e3]at p2;dsimp only at p2;obtain⟨C',k1,k2,k3⟩:=hc;cases Ae h3 k1;by_cases hl:fs.length < 900
   ·rw[if_pos hl]at p2;have wr:Wr (H2 a):=.inr (.inr (.inr (.inr (.inr ⟨_,_,_,h2⟩))));have ex:Ext X.K m2 H2 m2 (upd H2 a (.ins C dx (jG f vv xs))):=Ext.iy wr;have P9:=e1.trans e2;refine⟨a,C,dx,xs,rfl,h2,k2,k3,(by have:=h4.length;omega),p2 σ m2 _ (P9.trans ex) ?_ (R.mono (P9.trans ex))⟩;exact S2.oQ ha h1 rfl ⟨C,dx,_,bE,h3,(yb (ah.mono e2 _ _ rv) h4).mono ex⟩
   ·rw[if_neg hl]at p2;exact ab p2
theorem GR{prog:aeh}{E:aej->aei->Prop}{s:aei}{name:Str}{args:List Expr}(hbase:attributeBase o name env (eval o env)=eval o env)
  (hfew:((backTo pos (aev args env)).all (λx=> !x.1)&&(backToKw pos (keywordEach [] env)).all (λx=>x.1.isSome)&&decide (args.length+([]:List Keyword).length+(if([]:List Keyword).isEmpty then 0 else 1) < 30))=true)(hline:(apos.endLine == pos.line)=true)
  (h:aew (model prog w) A (eval o env) (λov s₁=>∀pl,aew (model prog w) A (getMethod ov name pl) (λfx s₂=>aew (model prog w) A (callWith pos fx.1 fx.2 (backTo pos (aev args env)) (backToKw pos (keywordEach [] env))) Q E s₂) E s₁) E s):
  aew (model prog w) A (eval (.Call (.Attribute o name apos) args [] pos) env) Q E s:=by
 rw[arm_eval_Call,hbase];refine aex (aeA h (λov s₁ h₁=>?_) λ_ _ e=>e);refine aex (wpAny_standAt ?_);have Uh:methodCallForm (args.length+([]:List Keyword).length) (backTo pos (aev args env)) (backToKw pos (keywordEach [] env))=true:=hfew;have hpos:methodCallPos true o env apos pos=pure pos:=by unfold methodCallPos;simp[hline]
 unfold methodCall;rw[Uh];refine aex (aez ?_);unfold calleeOf;rw[if_pos rfl];exact aeA (h₁ _) (λfx s₂ h₂=>aex (wpAny_of_eq hpos h₂)) λ_ _ e=>e
theorem P_
  (G:tU X.prog X.w X.K X.mg X.base k c f n F)(hr:hX k X.A)(ho:JE X o go)(ha:JA X (e::es) g)
  (hst:aev (e::es) X.env=(false,eval e X.env)::aev es X.env)(hpl:(backTo pos (aev es X.env)).any (·.1)=false)
  (hbase:attributeBase o f X.env (eval o X.env)=eval o X.env)
  (hfew:((backTo pos (aev (e::es) X.env)).all (λx=> !x.1)&&(backToKw pos (keywordEach [] X.env)).all (λx=>x.1.isSome)&&decide ((e::es).length+([]:List Keyword).length+(if([]:List Keyword).isEmpty then 0 else 1) < 30))=true)(hline:(apos.endLine == pos.line)=true):
  JE X (.Call (.Attribute o f apos) (e::es) [] pos) (mz c f n F go g):=by
 obtain⟨C,fa,fd,ps,G,k1,k2,k3,hb⟩:=G;intro ρ st σ H m Q S R p pins s I;have ob:=ho.go (T:=λv H1=>∃w st1 m1,fZ X σ m H (match(gP st1 c w).map (·.lookup f)with
   |some none=>(g ρ st1).bind λws st2=>if ws.length+1=n then F (w::ws) st2 else .bad
   |_=> .bad) Q/\Ext X.K m H m1 H1/\cb X.K m1 st1 H1/\ah X.K m1 H1 w v) S R (aM.bind p)
  λw st1 v m1 H1 p1 e1 S1 r1=>⟨w,st1,m1,p1,e1,S1,r1⟩
 refine GR hbase hfew hline (bK (ob pins s I) λu s1 ⟨x,H1,I1,rx,w,st1,m1,p1,e1,S1,r1⟩ pl=>?_);cases e3:gP st1 c w with
 |none=>rw[e3]at p1;exact ab p1
 |some fs=>
  obtain⟨l,a,C',dx,xs,rfl,h1,rfl,hla,h2,h3,h4⟩:=pd S1 r1 e3;rw[e3]at p1;dsimp only[Option.map]at p1;cases Ae h3 k1;cases e4:fs.lookup f with
  |some z=>rw[e4]at p1;exact ab p1
  |none=>
   rw[e4]at p1;dsimp only at p1;obtain rfl:u=aL a:=rx;refine zm I1 h2 k2 k3 (uW h4 e4) ?_;have args:=ha.go (T:=λvs H2=>∃ws st2 m2,fZ X σ m H (if ws.length+1=n then F (.ref l::ws) st2 else .bad) Q/\Ext X.K m H m2 H2/\Ext X.K m1 H1 m2 H2/\cb X.K m2 st2 H2/\aq X.K m2 H2 ws vs) S1 (R.mono e1) ((aM.bind p1).imp e1 λ_ _ q=>q)
    λws st2 vs m2 H2 p2 e2 S2 rs=>⟨ws,st2,m2,p2,e1.trans e2,e2,S2,rs⟩
   refine PySem.W.callWith_K (first:=[.ref a]) (h₀:=X.base) I.ok.mod.RK k3.kp (bK (args pos pins s1 I1) λus s2 ⟨vs,H2,I2,r,ws,st2,m2,p2,P9,e2,S2,rs⟩=>⟨I2.ze,?_⟩) hst hpl;by_cases cn:ws.length+1=n
   ·rw[if_pos cn]at p2
    let E:XK:=λcl _ H3=>∃c' st3 m3 C,cl= .ref C/\ClsAt X.K c' C/\F (.ref l::ws) st2= .err c' st3/\Ext X.K m2 H2 m3 H3/\cb X.K m3 st3 H3
    have sp:spW X.K n F (V.ref a::vs) H2 Q E:=by
     refine⟨m2,st2,.ref l::ws,S2,aq.cons (ah.mono e2 _ _ r1) rs,cn,?_⟩;cases er:F (.ref l::ws) st2 with
     |ok w st3=>rw[er]at p2;exact fZ.shift (r:=.ok w st3) p2 P9
     |err c' st3=>exact λm3 H3 C e3 S3 hC=>⟨c',st3,m3,C,rfl,hC,er,e3,S3⟩
     |bad=>rw[er]at p2;exact ab p2
    have r':Vals (V.ref a::vs) (aL a::us):=.cons rfl r;have hl:(aL a::us).length=ps.length:=by rw[<-r'.length];exact G.len _ _ _ _ sp
    have bd:=hb s2 (aL a::us) I2.ze (by rw[i6];exact hl);rw[i6]at bd;refine wpAny_call (codeAny_mono (G.run X.A X.stack s2 H2 ⟨aL a::us,[]⟩ (aL a::us) (V.ref a::vs) Q E hr I2.N8 bd r' sp) λrr s3 hq=>?_);cases rr with
    |error x=>obtain⟨H3,C,fl,c',st3,m3,C',ec,hC,er,e3,S3⟩:=hq;cases ec;rw[er]at p2;exact p2 m3 H3 x s3 (P9.trans e3) S3 ⟨C,pins,H2,s2,hC,I2,.inl fl.any⟩
    |ok fw=>
     cases fw with
     |ret u=>exact I2.after hq
     |next=>exact ab hq
     |brk=>exact ab hq
     |cont=>exact ab hq
   ·rw[if_neg cn]at p2;exact ab p2
theorem Lr(G:yc X.prog X.w X.K X.mg X.base k c n F)(hr:hX k X.A)(hg:Gl X c)(ha:JA X (e::es) g)
  (hdb:(c == ("__debug__":Str))=false:=by decide)(he:aev (e::es) X.env=(false,eval e X.env)::aev es X.env:=by rfl)(hpl:(backTo pos (aev es X.env)).any (·.1)=false:=by rfl):
  JE X (.Call (.Name c p) (e::es) [] pos) (BW c n F g):=by
 obtain⟨C,fa,fd,ps,j,hj,G,k1,k2,k3,hb⟩:=G;refine JE.of (JH (E:=λ_ _ _=>False) k3 G (hr.mono hj) hg k2 hb .nil (λpins σ H s x s' I z=>let ⟨_,_,_,y⟩:=z;y.elim) kC hdb he hpl) λρ st σ H m Q S R p=>?_;refine ha.go S R (aM.bind p) λws st1 vs m1 H1 p1 e1 S1 rs=>?_;intro x dx hx hdx ne;by_cases cn:ws.length+1=n
 ·rw[if_pos cn]at p1;unfold V8 at p1;have hx2:(upd H1 dx (.own x)) x=none:=by rw[aZ (bA ne)];exact hx
  have S2:=S1.fresh (o:=.own x) hdx;have S3:cb X.K (m1++[x]) (st1++[.ins c []]) (upd (upd H1 dx (.own x)) x (.ins C dx [])):=S2.rQ hx2 ⟨C,dx,[],bE,k1,RelK.nil⟩;have ex:Ext X.K m1 H1 (m1++[x]) (upd (upd H1 dx (.own x)) x (.ins C dx [])):=(Ext.iy (.inl hdx)).trans (Ext.more.trans (Ext.iy (.inl hx2)));have new:(m1++[x])[st1.length]? =some x:=by rw[<-S1.len,kP (aE _),nK];rfl
  cases er:F (.ref st1.length::ws) (st1++[.ins c []])with
  |ok w st2=>
   rw[er]at p1;cases w with
   |non=>dsimp only at p1;rw[i6];refine⟨m1++[x],st1++[.ins c []],.ref st1.length::ws,S3,aq.cons (by unfold ah;exact⟨x,rfl,new⟩) (aq.mono ex _ _ rs),cn,?_⟩;rw[er];intro v m2 H2 e2 T2 rv;unfold ah at rv;refine⟨rv,p1 (.ref x) m2 H2 ((e1.trans ex).trans e2) T2 ?_⟩;unfold ah;exact⟨x,rfl,e2.pre _ _ new⟩
   |_=>exact ab p1
  |err c' st2=>rw[er]at p1;exact ab p1
  |bad=>rw[er]at p1;exact ab p1
 ·rw[if_neg cn]at p1;exact ab p1
end
section
variable {prog:aeh}{w:aek}{A:aee}{E:aej->aei->Prop}{s:aei}{T:String}{r d:aed}{n:Nat}{P:Nat->aej->Prop}{OK:Heap->Prop}
theorem yd{Q:List aej->aei->Prop}(K:KdlSrc prog w T r d n P OK)(hh:A.handled=none)(hok:OK s.heap)(hn:n<=aeu)
  (hQ:∀h' tk acc,(∀b o,s.heap.get? b=some o->h'.get? b=some o)->ItemsOf P acc n->Q acc.toList { s with heap:=h',toks:=tk }):aew (model prog w) A (collect (.ref r)) Q E s:=by
 unfold collect;refine aex (wpAny_runValue (codeAny_builtin F.entry_proto_collect ?_));rw[MS F.plain_proto_collect _];show aew _ A.in1 (newList [] >>= λl=>again (.builtin "list.__iadd__" ⟨[l,.ref r],[]⟩)) _ _ s;refine aex (aeB ?_);refine aeC ⟨plainId_quiet F.plain_list_iadd _,codeAny_builtin F.entry_list_iadd ?_⟩;rw[MS F.plain_list_iadd _];show aew _ A.in1 (Builtin.List.listExtendWith (.ref s.heap.objs.size) (.ref r) (.ref s.heap.objs.size)) _ _ _;have hS:(s.heap.push { cls:=.type "list",data:=.seq ([]:List aej).toArray }).get? s.heap.objs.size=some { cls:=.type "list",data:=.seq #[] 0 }:=cj _ rfl;have hlt:=K.there _ hok;have fin':∀h' tk acc c',(∀b o,b≠s.heap.objs.size->(s.heap.push { cls:=.type "list",data:=.seq ([]:List aej).toArray }).get? b=some o->h'.get? b=some o)->h'.get? s.heap.objs.size=some { cls:=.type "list",dict:=none,data:=.seq acc c',slots:=#[] }->ItemsOf P acc n->
   aew (model prog w) A (match aL s.heap.objs.size with
   |aL a=>do
    match(<-load a).data with
     |Data.seq xs _=>pure xs.toList
     |_=>unsupported "internal:collect"
   |_=>unsupported "internal:collect") Q E { s with heap:=h',toks:=tk }:=by
  intro h' tk acc c' hk hS' hacc;show aew _ A (load s.heap.objs.size >>= _) _ _ _;refine aex (wpAny_load hS' ?_);refine aeC ?_;exact hQ h' tk acc (λb o e=>hk b o (bU (a7 e)) (bt _ e)) hacc
 refine aeA (kdl_extend (A:=A) (R:=λr s'=>r= .ok (.ret (.ref s.heap.objs.size))/\∃h' tk acc c',s'={ s with heap:=h',toks:=tk }/\(∀b o,b≠s.heap.objs.size->(s.heap.push { cls:=.type "list",data:=.seq ([]:List aej).toArray }).get? b=some o->h'.get? b=some o)/\h'.get? s.heap.objs.size=some { cls:=.type "list",dict:=none,data:=.seq acc c',slots:=#[] }/\ItemsOf P acc n)
  (s:={ s with heap:=s.heap.push { cls:=.type "list",data:=.seq ([]:List aej).toArray } }) K hh (K.keep _ _ hok λb _ o e=>bt _ e) _ (qF hlt.1) (qF hlt.2) _ 0 hS (λh' tk acc c' a1 a2 a3=>⟨rfl,h',tk,acc,c',rfl,a1,a2,a3⟩) hn) (λfin s' h=>?_) (λe s' h=>?_)
 ·cases fin with
  |done f=>obtain⟨e,h',tk,acc,c',rfl,a1,a2,a3⟩:=h;cases e;exact fin' h' tk acc c' a1 a2 a3
  |again c'=>exact⟨h.1,codeAny_mono h.2 λr s'' hr=>by obtain⟨rfl,h',tk,acc,c'',rfl,a1,a2,a3⟩:=hr;exact fin' h' tk acc c'' a1 a2 a3⟩
 ·exact absurd h.1 (by simp)
theorem ye{Q₁:aej->aei->Prop}(K:KdlSrc prog w T r d n P OK)(hh:A.handled=none)(hok:OK s.heap)(hn:n<=aeu)
  (h:∀(h':Heap)(tk:Nat)(acc:Array aej),(∀b o,s.heap.get? b=some o->h'.get? b=some o)->ItemsOf P acc n->Q₁ (.ref h'.objs.size) { s with heap:=h'.push { cls:=.type "tuple",data:=.seq acc },toks:=tk }):
  aeo (model prog w) A (.call (.builtin "tuple.__new__") ⟨[.type "tuple",.ref r],[]⟩) (wants Q₁ E) s:=by
 refine codeAny_of_tree ?_;show aew _ A.in1 (do checkBuiltinCall "tuple.__new__" ⟨[.type "tuple",.ref r],[]⟩;again (.builtin "tuple.__new__" ⟨[.type "tuple",.ref r],[]⟩)) _ _ s;refine aex (wpAny_of_eq (F.newCall_tuple_1 _) (aeC ⟨plainId_quiet F.plain_tuple_new _,codeAny_builtin F.entry_tuple_new ?_⟩));rw[MS F.plain_tuple_new _];have hsub:=sub_tuple_self;have aaA:=init_tuple_lookup;have hmh:=madeHere_tuple;have hTI:=K.type s hok;have nt:=K.notTuple
 wp_walk using wpAny_typeOf hTI,yd (A:=A.in1) K (show A.in1.handled=none from hh) hok hn
 intro h' tk acc kp hacc;show aew _ _ (rB acc.toList.toArray >>= λv=>ret v) _ _ _;unfold rB;refine aex (aeB ?_ (by show acc.toList.toArray.size<=aeu;simp only[Array.toArray_toList];rw[hacc.1];exact hn));refine aeC ?_;have e:acc.toList.toArray=acc:=by simp
 rw[e];exact h h' tk acc kp hacc
theorem yf(K:KdlSrc prog w T r d n P OK)(hh:A.handled=none)(hok:OK s.heap)(hn:n<=aeu)
  (hQ:∀(h':Heap)(tk:Nat)(acc:Array aej),(∀b o,s.heap.get? b=some o->h'.get? b=some o)->ItemsOf P acc n->Q (.ref h'.objs.size) { s with heap:=h'.push { cls:=.type "tuple",data:=.seq acc },toks:=tk }):
  aew (model prog w) A (call (.type "tuple") [.ref r]) Q E s:=by
 refine callType_codes (Q₁:=λobj s₁=>s₁.TypeIs obj "tuple"/\Q obj s₁) F.called_tuple (F.typeCall_tuple_1 _) F.entry_object_init
  (ye (A:=A.in1) K hh hok hn λh' tk acc kp hacc=>⟨⟨_,cj _ rfl,rfl⟩,hQ h' tk acc kp hacc⟩) λobj s₁ h₁=>?_
 exact⟨h₁.1,F.args_object_init_2 obj _,object_init_meets F.called_tuple.init.lookup F.called_tuple.made (by decide) prog w A.in1 _ s₁ ⟨h₁.1,rfl,h₁.2⟩⟩
end
variable{kvs:List (NK.KD×V)}{xs:List (NK.KD×aed×aej)}{y:V}{u:aej}
section
variable {X:Cx}
theorem yg(hc:X.calm=true):dJ X (.type "tuple") (λxs H Q=>∃(p:aed)(kvs:List (NK.KD×V)),xs=[.ref p]/\H p=some (.dN kvs)/\∀l vs',H l=none->Paired (λv (k:NK.KD×V)=>KA H 8 v k.1.1) vs' kvs->Q (.ref l) (upd H l (.tup vs'))):=by
 intro pins s σ H xs us Q I r h;obtain⟨p,kvs,rfl,hp,q⟩:=h;obtain⟨u,rfl,rx⟩:=vals1 r;cases rx;obtain⟨z,lo,ys,kt,o,es,ep,g1,g2,g3,g4,g5,g6⟩:=MR I.hok hp;have len:es.size=ys.length:=by have:=congrArg fN g4;simpa using this
 have oX:kvs.length=ys.length:=Paired.length kt;have raw:oW s.heap p es ep:=⟨o,g1,g2.1,g3⟩;refine yf (BJ lo) (I.ok.hd hc) raw (by rw[len,<-oX];exact z) λh' tk acc kp hacc=>?_;have X2:acc.toList=ys.map λx=>aL x.2.1:=by
  refine Gh λj=>?_;cases e:acc.toList[j]? with
  |none=>
   have hj:acc.toList.length<=j:=by simpa using e
   have ha:=hacc.1;rw[K7];simp at hj ⊢;omega
  |some v=>
   obtain⟨hj,ev⟩:=hacc.2 j v (by rw[<-Array.getElem?_toList];exact e);have hj':j < ys.length:=by omega
   have q1:es.toList[j]'(by simpa using hj)=entryOfKey (NK.ji X.prog X.w) ys[j]:=by
    have:es.toList[j]? =(ys.map (entryOfKey (NK.ji X.prog X.w)))[j]?:=by rw[g4]
    rw[cA (by simpa using hj),eo,cA hj']at this;simpa using this
   rw[eo,cA hj',ev];have q2:es[j]=es.toList[j]'(by simpa using hj):=by simp
   rw[q2,q1];rfl
 have I1:Inv X pins σ H { s with heap:=h',toks:=tk }:=I.kept (t':=tk) kp;have vals:∀{kvs:List (NK.KD×V)}{ys:List (NK.KD×aed×aej)},KN H kvs ys->Vals (ys.map λx=>V.ref x.2.1) (ys.map λx=>aL x.2.1)/\Paired (λv (k:NK.KD×V)=>KA H 8 v k.1.1) (ys.map λx=>V.ref x.2.1) kvs:=by
  intro kvs ys h
  induction h with
  |nil=>exact⟨.nil,.nil⟩
  |cons h t ih=>exact⟨.cons rfl ih.1,.cons h.2.1 ih.2⟩
 have I2:Inv X pins σ (upd H h'.objs.size (.tup (ys.map λx=>V.ref x.2.1))) { s with heap:=h'.push { cls:=.type "tuple",data:=.seq acc },toks:=tk }:=by
  refine I1.laid (t':=tk) (λb o e=>bt _ e) (aE _) (show du X.prog X.w _ _ _ (.tup _) from⟨?_,acc.toList,by rw[X2];exact(vals kt).1,?_,vc.new _ _⟩)
  ·rw[bP,<-oX];exact z
  ·have:=vB h' acc;simpa using this
 exact⟨.ref h'.objs.size,_,I2,rfl,q _ _ (I1.hok.fresh (aE _)) (vals kt).2⟩
theorem KN.repl(r:KN H kvs xs)(k:NK.KD)(ry:RelV y u):
  KN H (kvs.map λkv=>if kv.1=k then(kv.1,y)else kv) (xs.map λx=>if x.1=k then(x.1,x.2.1,u)else x):=by
 induction r with
 |nil=>exact .nil
 | @cons p q ps qs h t ih=>
  obtain⟨h1,h2,h3⟩:=h;refine .cons ?_ ih;dsimp only;by_cases e:p.1=k
  ·rw[if_pos e,if_pos (h1.symm.trans e)];exact⟨h1,h2,ry⟩
  ·rw[if_neg e,if_neg (λz=>e (h1.trans z))];exact⟨h1,h2,h3⟩
theorem KN.put(r:KN H kvs xs)(k:NK.KD){b:aed}(hb:KA H 8 (.ref b) k.1)(ry:RelV y u):KN H (putK kvs k y) (storedH xs k b u):=by
 have e:(kvs.any λkv=>decide (kv.1=k))=(atKey xs k).isSome:=by rw[rM,(r.val k).oP,Bm]
 unfold putK storedH;rw[e];by_cases q:(atKey xs k).isSome=true
 ·rw[if_pos q,if_pos q];exact r.repl k ry
 ·rw[if_neg q,if_neg q];exact Paired.snoc r ⟨rfl,hb,ry⟩
def Ui(td ty tv:TE):TS:=λD σ H=>tv σ H λv H1=>td σ H1 λx H2=>ty σ H2 λy H3=>∃a b kvs k,x= .ref a/\H3 a=some (.dN kvs)/\y= .ref b/\KA H3 8 (.ref b) k.1/\kvs.length < aeu/\D.nx σ (upd H3 a (.dN (putK kvs k v)))
theorem GU{i value:Expr}{td ty tv:TE}(hu:X.A.units+9 < cLine)(ho:PE X o td)(hi:PE X i ty)(hv:PE X value tv)(hs:swapsWith value (some (.Subscript o i pos')) pos.line X.env=pure false):
  PS X (.Assign [.Subscript o i pos'] value pos) (Ui td ty tv):=by
 intro pins s σ H D I h;refine wpAny_Assign_Subscript (bK (hv pins s σ H _ I h) λr s1 ⟨v,H1,I1,rv,q1⟩=>bK (ho pins s1 σ H1 _ I1 q1) λu s2 ⟨x,H2,I2,rx,q2⟩=>bK (hi pins s2 σ H2 _ I2 q2) λiv s3 ⟨y,H3,I3,ry,a,b,kvs,k,ex,ea,ey,eb,l,q3⟩=>?_) hs;subst ex ey;obtain rfl:u=aL a:=rx;cases (show iv=aL b from ry);obtain⟨z,hd,xs,rel,dd⟩:=MR I3.hok ea;have hz:xs.length<=aeu:=by rw[<-Paired.length rel];exact z
 have hl:(putK kvs k v).length<=aeu:=by have:=kW kvs k v;omega
 refine wpAny_setItem_heap (knd:=NK.ji X.prog X.w) (hsz:=hz) (by show X.A.in1.units+8 < cLine;simp only[Around.in1_units];omega) (KA.rd I3.hok 8 (.ref b) _ _ eb rfl) dd λh' Mv hs=>?_;obtain⟨q,es,ep,hq,h2,h3,h4,_,h5⟩:=Mv;refine⟨σ,_,qI (ob:=.dN (putK kvs k v)) I3 (by rw[ea];exact gF) hs ⟨q,hq⟩ ⟨hl,hd,_,(rel.put k eb rv).keeps λc ys ec=>?_,q,es,ep,hq,h2,h3,h4,h5⟩,q3⟩;rw[aZ (En ec ea (λz=>nomatch z))]
 exact ec
end
def wD:Nat->PyData->Option Wv
 |_,.none=>some .non
 |_,.int i=>some (.int i)
 |_,.str x=>if aY x=true then some (.str x)else none
 |n+1,.tuple ds=>(ds.mapM (wD n)).map Wv.tup
 |_,_=>none
theorem Qa:∀(n:Nat)(d:PyData)(v:V)(w:Wv),KA H n v d->wD n d=some w->ah K m H w v:=by
 intro n
 induction n with
 |zero=>
  intro d v w r e;cases d with
  |none=>cases e;cases v<;>first |exact ab r |(unfold ah;rfl)
  |int i=>cases e;cases v<;>first |exact ab r |(unfold ah;rw[show _=i from r])
  |str x=>
   unfold wD at e;by_cases h:aY x=true
   ·rw[if_pos h]at e;cases e;cases v<;>first |exact ab r |(unfold ah;rw[show _=x from r];exact⟨rfl,h⟩)
   ·rw[if_neg h]at e;cases e
  |_=>cases e
 |succ n ih=>
  intro d v w r e;cases d with
  |none=>cases e;cases v<;>first |exact ab r |(unfold ah;rfl)
  |int i=>cases e;cases v<;>first |exact ab r |(unfold ah;rw[show _=i from r])
  |str x=>
   unfold wD at e;by_cases h:aY x=true
   ·rw[if_pos h]at e;cases e;cases v<;>first |exact ab r |(unfold ah;rw[show _=x from r];exact⟨rfl,h⟩)
   ·rw[if_neg h]at e;cases e
  |tuple ds=>
   have e':(ds.mapM (wD n)).map Wv.tup=some w:=e;cases q:ds.mapM (wD n)with
   |none=>rw[q]at e';cases e'
   |some ws=>
    rw[q]at e';cases e';cases v with
    |ref a=>
     obtain⟨vs,h1,h2⟩:=(show ∃vs,H a=some (.tup vs)/\Paired (KA H n) vs ds from r);unfold ah;refine⟨a,vs,rfl,h1,?_⟩;clear e r h1
     induction h2 generalizing ws with
     |nil=>cases q;exact aq.nil
     | @cons x d xs ds h t ihh=>
      rw[List.mapM_cons]at q;cases e1:wD n d with
      |none=>rw[e1]at q;cases q
      |some w1=>
       cases e2:ds.mapM (wD n)with
       |none=>rw[e1,e2]at q;cases q
       |some wr=>rw[e1,e2]at q;cases q;exact aq.cons (ih _ _ _ h e1) (ihh _ e2)
    |_=>exact ab r
  |_=>cases e
def pe(kvs:List (NK.KD×Wv)):Option (List Wv):=fP (λp=>wD 8 p.1.1) kvs
theorem uX{K:PySem.W.Frag}{m:Mp}{H:Hp}:∀{kvs:List (NK.KD×Wv)}{xs:List (NK.KD×V)}{vs:List V}{ws:List Wv},kvs.map (·.1)=xs.map (·.1)->Paired (λv (k:NK.KD×V)=>KA H 8 v k.1.1) vs xs->pe kvs=some ws->aq K m H ws vs
 |[],[],vs,ws,e,h,q=>by cases h;cases q;exact aq.nil
 |[],x::xs,vs,ws,e,h,q=>by cases e
 |p::kvs,[],vs,ws,e,h,q=>by cases e
 |p::kvs,x::xs,vs,ws,e,h,q=>by
  cases h with
  | @cons v _ vt _ h t=>
   unfold pe fP at q;cases e1:wD 8 p.1.1 with
   |none=>rw[e1]at q;cases q
   |some w1=>
    cases e2:fP (λp:NK.KD×Wv=>wD 8 p.1.1) kvs with
    |none=>rw[e1,e2]at q;cases q
    |some wr=>
     rw[e1,e2]at q;cases q;have e':p.1=x.1/\kvs.map (·.1)=xs.map (·.1):=by simpa using e
     exact aq.cons (Qa 8 _ _ _ (by rw[<-e'.1]at h;exact h) e1) (uX e'.2 t e2)
def uY:List Wv->Hs->Re Wv
 |[.ref l],st=>match st[l]? with
  |some (.oK kvs)=>(match pe kvs with |some ws=> .ok (.tup ws) st |none=> .bad)
  |_=> .bad
 |_,_=> .bad
def putN(d k v:Wv)(st:Hs):Option Hs:=match d with
 |.ref l=>(match Ad k,st[l]? with
  |some kk,some (.oK kvs)=>if kvs.length < lim then some (st.set l (.oK (lh kvs kk v)))else none
  |_,_=>none)
 |_=>none
def mK(gv gd gk:GE):GS:=λρ st=>(gv ρ st).bK ρ λv st1=>(gd ρ st1).bK ρ λd st2=>(gk ρ st2).bK ρ λk st3=>match putN d k v st3 with
 |some uA=> .nx ρ uA
 |none=> .bad
section
variable {X:Cx}
theorem Ls(hc:X.calm=true):cY X (.type "tuple") uY:=⟨_,yg hc,λws vs st H m Q S rs p=>by
 match ws,rs,p with
 |[],rs,p=>exact ab p
 |x::y::t,rs,p=>cases x<;>exact ab p
 |[x],rs,p=>
  cases x with
  |ref l=>
   obtain⟨v,rfl,r1⟩:=kZ rs;unfold uY at p;unfold ah at r1;obtain⟨a,rfl,ha⟩:=r1;cases e:st[l]? with
   |none=>simp only[e]at p;exact ab p
   |some ob=>
    simp only[e]at p;cases ob with
    |oK kvs=>
     dsimp only at p;cases e2:pe kvs with
     |none=>rw[e2]at p;exact ab p
     |some ks=>rw[e2]at p;obtain⟨xs,y1,y2⟩:=(show ∃ys,H a=some (.dN ys)/\RelK X.K m H kvs ys from S.obj _ _ _ ha e);refine⟨a,xs,rfl,y1,λq vs' hq hv=>?_⟩;have ex:Ext X.K m H m (upd H q (.tup vs')):=Ext.iy (.inl hq);refine p (.ref q) m _ ex (S.fresh hq) ?_;unfold ah;exact⟨q,vs',rfl,bE,aq.mono ex _ _ (uX y2.1 hv e2)⟩
    |_=>exact ab p
  |_=>exact ab p⟩
theorem GV{i:Expr}{gi:GE}(hu:X.A.units+9 < cLine)(he:JE X e ge)(ho:JE X o go)(hi:JE X i gi)(hs:swapsWith e (some (.Subscript o i pos')) pos.line X.env=pure false):JS X (.Assign [.Subscript o i pos'] e pos) (mK ge go gi) :=
 JS.of (GU hu bj bj bj hs) λρ st σ H m D S R p=>by
  refine he.go S R (bh.dc R p) λv st1 vv m1 H1 p1 e1 S1 rv=>?_;refine ho.go S1 (R.mono e1) ((bh.dc (m:=m) (H:=H) R p1).imp e1 λ_ _ q=>q) λd st2 vd m2 H2 p2 e2 S2 rd=>?_;refine hi.go S2 (R.mono (e1.trans e2)) ((bh.dc (m:=m) (H:=H) R p2).imp (e1.trans e2) λ_ _ q=>q) λk st3 vk m3 H3 p3 e3 S3 rk=>?_;have xi:=e1.trans (e2.trans e3);have rd3:=ah.mono e3 _ _ rd;have XI:=ah.mono (e2.trans e3) _ _ rv;unfold putN at p3;cases d with
  |ref l=>
   dsimp only at p3;unfold ah at rd3;obtain⟨a,rfl,ha⟩:=rd3;cases q1:Ad k with
   |none=>rw[q1]at p3;exact ab p3
   |some kk=>
    cases q2:st3[l]? with
    |none=>rw[q1,q2]at p3;exact ab p3
    |some ob=>
     rw[q1,q2]at p3;cases ob with
     |oK kvs=>
      dsimp only at p3;by_cases c:kvs.length < lim
      ·rw[if_pos c]at p3;obtain⟨xs,y1,y2⟩:=(show ∃ys,H3 a=some (.dN ys)/\RelK X.K m3 H3 kvs ys from S3.obj _ _ _ ha q2);obtain⟨b,rfl,hb⟩:=GK rk q1;have ex:Ext X.K m3 H3 m3 (upd H3 a (.dN (putK xs kk vv))):=Ext.iy (.inr (.inr (.inr (.inr (.inl ⟨_,y1⟩)))));exact⟨a,b,xs,kk,rfl,y1,rfl,hb,by rw[<-y2.length];exact vM c,p3 σ m3 _ (xi.trans ex) (S3.oQ ha q2 rfl ⟨_,bE,(y2.put kk XI).mono ex⟩) (R.mono (xi.trans ex))⟩
      ·rw[if_neg c]at p3;exact ab p3
     |_=>exact ab p3
  |_=>exact ab p3
end
structure Ya where
 c:Str:=""
 BX:List (Str×Nat×(List Wv->Hs->Re Wv)):=[]
 ini:List (Str×Nat×(List Wv->Hs->Re Wv)):=[]
 own:List Str:=[]
structure Af(t:Ya)(k:Nat)(P:aeh)(w:aek)(K:PySem.W.Frag)(mg:Str->Option aej)(base:Heap):Prop where
 BX:∀f n F,t.BX.lookup f=some (n,F)->tU P w K mg base k t.c f n F
 ini:∀x n F,t.ini.lookup x=some (n,F)->yc P w K mg base k x n F
 own:∀f,t.own.contains f=true->Own K t.c f
variable{P:aeh}{mg:Str->Option aej}{base:Heap}
theorem Af.no:Af {} k P w K mg base:=⟨(λ_ _ _ e=>by cases e),(λ_ _ _ e=>by cases e),λ_ e=>by cases e⟩
structure Ct where
 N:List Str
 names:List (Str×aeg)
 consts:List (Str×Wv)
 bl:List Str
 fns:List (Str×Nat×(List Wv->Hs->Re Wv))
 tb:Tab:=[]
 tt:Dj:=[]
 clss:List Str:=[]
 BY:List Str:=[]
 tc:Tab:=[]
 BZ:List (Str×Dc):=[]
 tJ:List Str:=[]
 dks:List Str:=[]
 MT:List Str:=[]
 Uj:List Str:=[]
 GW:List Str:=[]
 loop:Bool:=true
 free:Bool:=true
 top:Bool:=true
 lam:Option (Lm×LF):=none
 Jc:List (Str×FLt):=[]
 Yb:List Str:=[]
 lj:Nat:=0
 sk:Nat:=0
 Yc:List Str:=[]
 self:Str:=""
 it:Ya:={}
def pf(x:Str):List Str->Option Nat
 |[]=>none
 |y::r=>if x=y then some 0 else match pf x r with
  |some i=>some (i+1)
  |none=>none
theorem jy{x:Str}:∀{N:List Str}{i:Nat},pf x N=some i->N[i]? =some x
 |[],i,h=>by cases h
 |y::r,i,h=>by
  unfold pf at h;by_cases e:x=y
  ·rw[if_pos e]at h;cases h;subst e;rfl
  ·rw[if_neg e]at h;cases q:pf x r with
   |none=>rw[q]at h;cases h
   |some j=>rw[q]at h;cases h;simpa using jy q
def okN(x:Str):Bool:=!(x == ("__debug__":Str))&& !(x == ("__classdict__":Str))&& !(decide (x="__name__"))
variable{x:Str}
theorem iR(h:okN x=true):(x == ("__debug__":Str))=false:=by unfold okN at h;revert h;cases (x == ("__debug__":Str))<;>simp
theorem GX(h:okN x=true):(x == ("__classdict__":Str))=false:=by unfold okN at h;revert h;cases (x == ("__classdict__":Str))<;>simp
theorem GY(h:okN x=true):x≠"__name__":=by intro e;subst e;unfold okN at h;simp at h
def yh:List Wv->List V->Prop
 |[],[]=>True
 |.int i::r,.int j::t=>i=j/\yh r t
 |.str x::r,.str y::t=>(x=y/\aY x=true)/\yh r t
 |_,_=>False
theorem yh.rel:∀{ws:List Wv}{vs:List V},yh ws vs->aq K m H ws vs
 |[],[],_=>aq.nil
 |.int i::r,.int j::t,h=>by obtain⟨rfl,h⟩:=h;exact aq.cons (by unfold ah;rfl) h.rel
 |.str x::r,.str y::t,h=>by obtain⟨⟨rfl,hx⟩,h⟩:=h;exact aq.cons (by unfold ah;exact⟨rfl,hx⟩) h.rel
 |[],_::_,h=>ab h
 |.int i::r,[],h=>ab h
 |.str i::r,[],h=>ab h
 |.int i::r,.str _::_,h=>ab h
 |.str i::r,.int _::_,h=>ab h
def B0(K:PySem.W.Frag)(mg:Str->Option aej)(x:Str):Wv->Prop
 |.int i=>∃t,mg x=some (.int i t)
 |.str y=>(∃t,mg x=some (.str y t))/\aY y=true
 |.rN ws=>∃(a:aed)(vs:List V)(o:Obj)(its:Array aej)(n:Nat),mg x=some (.ref a)/\K.lookup a=some o/\o.cls= .type "tuple"/\o.data= .seq its n/\its.size<=aeu/\Vals vs its.toList/\yh ws vs
 |_=>False
structure Uk(c:Ct)(k:Nat)(X:Cx):Prop where
 lam:∀p L,c.lam=some (p,L)->PF X.prog X.w X.K X.mg X.base k p 3 L
 Jc:∀x F,c.Jc.lookup x=some F->FnL X.prog X.w X.K X.mg k c.lj x F
 RY:∀x n F,c.fns.lookup x=some (n,F)->c.Yb.contains x=true->∀base,Dz X.K X.mg base->eV X.prog X.w X.K X.mg base c.lj x n F
 at':c.top=true->c.self∈cQ->∃P,MN X c.self P
 sk:c.sk<=k
 RZ:∀x n F,c.fns.lookup x=some (n,F)->c.Yc.contains x=true->eV X.prog X.w X.K X.mg X.base c.lj x n F
 ins:Af c.it k X.prog X.w X.K X.mg X.base
structure Good(c:Ct)(k:Nat)(X:Cx):Prop where
 N:X.N=c.N
 sc:X.env.scope.names=c.names
 nd:c.N.Nodup
 un:X.A.units+64 < cLine
 free:c.free=true->hX k X.A/\X.calm=true
 loop:c.loop=true->X.calm=true/\PassesOwn (model X.prog X.w) X.A X.env X.xe
 cst:∀x w,c.consts.lookup x=some w->B0 X.K X.mg x w
 bl:∀x,c.bl.contains x=true->X.mg x=none
 fns:∀x n F,c.fns.lookup x=some (n,F)->eV X.prog X.w X.K X.mg X.base k x n F
 stk:c.top=true->Stk X
 fn:c.top=true->∀x,X.fn x=true
 kind:X.env.scope.kind= .function
 tab:TabOk X.K c.tb c.tt c.tc
 cls:∀x,c.clss.contains x=true->∃C,X.mg x=some (.ref C)/\Ky X.K x C
 BY:∀x,c.BY.contains x=true->∃C,X.mg x=some (.ref C)/\ClsAt X.K x C
 BZ:∀x kvs,c.BZ.lookup x=some kvs->zU X.K X.w X.mg x kvs
 rm:qa k X.A
 GW:∀x n F,c.GW.contains x=true->c.fns.lookup x=some (n,F)->K9 X.prog X.w X.K X.mg X.base k x n F
 x:Uk c k X
 fr:F1 X
 hd:Pa X
theorem qO(hr:hX k A):A.units+64 < cLine:=by have:=hr.un;omega
theorem GZ:aen "ValueError"=some (.type "ValueError"):=by decide+kernel
theorem yi:aen "dict"=some (.type "dict"):=by decide+kernel
def Lu(x:Str):Option String :=
 if x="int" then some "int" else if x="str" then some "str" else if x="bool" then some "bool" else if x="tuple" then some "tuple" else if x="list" then some "list" else if x="ValueError" then some "ValueError" else if x="dict" then some "dict" else none
theorem Lv{T:String}(h:Lu x=some T):aen x=some (.type T):=by
 unfold Lu at h;by_cases e:x="int"
 ·rw[if_pos e]at h;cases h;subst e;exact FI
 rw[if_neg e]at h;by_cases e:x="str"
 ·rw[if_pos e]at h;cases h;subst e;exact xH
 rw[if_neg e]at h;by_cases e:x="bool"
 ·rw[if_pos e]at h;cases h;subst e;exact FJ
 rw[if_neg e]at h;by_cases e:x="tuple"
 ·rw[if_pos e]at h;cases h;subst e;exact rY
 rw[if_neg e]at h;by_cases e:x="list"
 ·rw[if_pos e]at h;cases h;subst e;exact xI
 rw[if_neg e]at h;by_cases e:x="ValueError"
 ·rw[if_pos e]at h;cases h;subst e;exact GZ
 rw[if_neg e]at h;by_cases e:x="dict"
 ·rw[if_pos e]at h;cases h;subst e;exact yi
 rw[if_neg e]at h;cases h
variable{f fE:Expr->GE}{kvs:Dc}{i:Nat}{op:List Wv->Hs->Re Wv}{γ:Type}{scope:Scope}{cs:iM}{d:GE}{t:Expr->GT}
section
variable {X:Cx}
def Lw:gU:=λ_ _ _=> .bad
theorem G0{f:aej->aej->Sem aej}:jh X f Lw:=⟨λ_ _ _ _=>False,λ_ _ _ _ _ _ _ _ _ _ _ _ h=>h.elim,λ_ _ _ _ _ _ _ _ _ _ _ p=>p⟩
def Ul:Operator->gU
 |.Add=>de
 |.Sub=>kY
 |.Mult=>dO
 |.FloorDiv=>fH
 |.Mod=>oMod
 |.Pow=>jM
 |_=>Lw
theorem Ly(o:Operator):jh X (aem o) (Ul o):=by cases o<;>first |exact O0 |exact OX |exact GL |exact Kc |exact OY |exact OZ |exact G0
def tV:CmpOp->gU
 |.Eq=>oEq
 |.NotEq=>xC
 |.Lt=>oLt
 |.LtE=>oLe
 |.Gt=>Tv
 |.GtE=>Lw
 |.Is=>Ke
 |.IsNot=>qd
 |.In=>Ge
 |.NotIn=>Lw
theorem hZ(hu:X.A.units+64 < cLine)(o:CmpOp):jh X (aeq o) (tV o):=by cases o<;>first |exact MF hu |exact MG hu |exact P5 hu |exact PC hu |exact TC |exact TF |exact Lo |exact Pr |exact G0
def G5(c:Ct)(x:Str):GE:=if okN x=true then
  match c.names.lookup x with
  |some .local=>(match pf x c.N with |some i=>ae i |none=>dn)
  |some .cell=>(match pf x c.N with |some i=>ae i |none=>dn)
  |some .free=>(match pf x c.N with |some i=>ae i |none=>dn)
  |some .globalImplicit=>(match c.consts.lookup x with
   |some w=>gC w
   |none=>if c.clss.contains x=true then gC (.cls x)else if c.BY.contains x=true then gC (.cls x)else if c.bl.contains x=true then(match Lu x with |some T=>gC (.ty T) |none=>dn)else dn)
  |_=>dn
 else dn
theorem G6{c:Ct}(G:Good c k X)(x:Str)(pos:Pos):JE X (.Name x pos) (G5 c x):=by
 unfold G5;by_cases hx:okN x=true
 ·rw[if_pos hx];cases e:c.names.lookup x with
  |none=>exact bg
  |some kd=>
   have el:X.env.scope.names.lookup x=some kd:=by rw[G.sc];exact e
   cases kd with
   | «local»=>
    dsimp only;cases e2:pf x c.N with
    |none=>exact bg
    |some i=>exact zH i (by rw[G.N];exact jy e2) (Or.inl el) (iR hx) (GX hx)
   |cell=>
    dsimp only;cases e2:pf x c.N with
    |none=>exact bg
    |some i=>exact zH i (by rw[G.N];exact jy e2) (lY (Or.inl el)) (iR hx) (GX hx)
   |free=>
    dsimp only;cases e2:pf x c.N with
    |none=>exact bg
    |some i=>exact zH i (by rw[G.N];exact jy e2) (lY (lY el)) (iR hx) (GX hx)
   |globalImplicit=>
    dsimp only;have hg:Gl X x:=el;cases e2:c.consts.lookup x with
    |some w=>
     have q:=G.cst x w e2;cases w with
     |int i=>obtain⟨t,q⟩:=q;exact Fe hg q (iR hx)
     |str y=>obtain⟨⟨t,q⟩,z⟩:=q;exact Ff hg q z (iR hx)
     |rN ws=>obtain⟨a,vs,o,its,n,q1,q2,q3,q4,q5,q6,q7⟩:=q;exact JE.of (lU (v:=.ref a) hg q1 rfl (iR hx)) λρ st σ H m Q S R p=>p (.ref a) m H Ext.refl S (by unfold ah;exact⟨a,vs,rfl,⟨o,its,n,q2,q3,q4,q5,q6⟩,q7.rel⟩)
     |_=>exact ab q
    |none=>
     dsimp only;by_cases e5:c.clss.contains x=true
     ·rw[if_pos e5];obtain⟨C,q1,q2⟩:=G.cls x e5;exact JE.of (lU (v:=.ref C) hg q1 rfl (iR hx)) λρ st σ H m Q S R p=>p (.ref C) m H Ext.refl S (by unfold ah;exact⟨C,rfl,q2.cls⟩)
     rw[if_neg e5];by_cases e6:c.BY.contains x=true
     ·rw[if_pos e6];obtain⟨C,q1,q2⟩:=G.BY x e6;exact JE.of (lU (v:=.ref C) hg q1 rfl (iR hx)) λρ st σ H m Q S R p=>p (.ref C) m H Ext.refl S (by unfold ah;exact⟨C,rfl,q2⟩)
     rw[if_neg e6];by_cases e3:c.bl.contains x=true
     ·rw[if_pos e3];cases e4:Lu x with
      |none=>exact bg
      |some T=>exact Tq hg (G.bl x e3) (Lv e4) (GY hx) (iR hx)
     ·rw[if_neg e3];exact bg
   |_=>exact bg
 ·rw[if_neg hx];exact bg
def G7:Const->GE
 |.none=>gC .non
 |.bool b=>gC (.bl b)
 |.int i=>gC (.int i)
 |.str x=>if aY x=true then gC (.str x)else dn
 |_=>dn
theorem DL(k:Const)(j:Nat)(pos:Pos):JE X (.Constant k j pos) (G7 k):=by
 cases k with
 |none=>exact OJ
 |bool b=>exact Tp
 |int i=>exact OH
 |str x=>
  show JE X _ (if aY x=true then gC (.str x)else dn);by_cases h:aY x=true
  ·rw[if_pos h];exact OL h
  ·rw[if_neg h];exact bg
 |_=>exact bg
def plain:Expr->Bool
 |.Starred .. =>false
 |_=>true
theorem aR(h:plain e=true):aev (e::es) env=(false,eval e env)::aev es env:=by cases e<;>first |rfl |cases h
theorem fI{pos:Pos}{env:Env}:∀{es:List Expr},es.all plain=true->(backTo pos (aev es env)).any (·.1)=false
 |[],_=>rfl
 |e::es,h=>by rw[dY,dI]at h;rw[aR h.1];have q:=fI (pos:=pos) (env:=env) h.2;unfold backTo at q ⊢;rw[aK,f7,q];rfl
def jz(f:Expr->GE):List Expr->GA
 |[]=>aj
 |e::es=>aa (f e) (jz f es)
theorem fk{f:Expr->GE}(h:∀e,JE X e (f e)):∀es:List Expr,es.all plain=true->JA X es (jz f es)
 |[],_=>Fj
 |e::es,g=>by rw[dY,dI]at g;exact Bu (h e) (fk h es g.2) (aR g.1)
def V9(c:Ct)(x:Str):Option (aej×(List Wv->Hs->Re Wv)) :=
 if x="len" then some (.builtin "len",if c.tJ.isEmpty=true then jO else uR)else if x="abs" then some (.builtin "abs",Km)else if x="isinstance" then some (.builtin "isinstance",nR c.tb c.tt)else if x="str" then some (.type "str",uG)else if x="list"/\c.free=true then some (.type "list",mV)else if x="tuple" then some (.type "tuple",jq)else if x="max"/\c.free=true then some (.builtin "max",p5)else if x="min"/\c.free=true then some (.builtin "min",p9)else if x="sum"/\c.free=true then some (.builtin "sum",Dp)else if x="dict"/\c.free=true then some (.type "dict",n6)else none
theorem DM:aen "max"=some (.builtin "max"):=by decide+kernel
theorem DN:aen "min"=some (.builtin "min"):=by decide+kernel
theorem DO:aen "sum"=some (.builtin "sum"):=by decide+kernel
theorem Qb(c:Ct):cY X (.builtin "len") (if c.tJ.isEmpty=true then jO else uR):=by
 by_cases e2:c.tJ.isEmpty=true
 ·rw[if_pos e2];exact Fq
 ·rw[if_neg e2];exact Le
theorem Qc{c:Ct}{v:aej}(O:TabOk X.K c.tb c.tt c.tc)(hc:c.free=true->X.calm=true)(h:V9 c x=some (v,op)):aen x=some v/\cY X v op/\((∃id,v= .builtin id)\/∃T,v= .type T):=by
 unfold V9 at h;by_cases e:x="len"
 ·rw[if_pos e]at h;cases h;subst e;exact⟨Dh,Qb c,.inl ⟨_,rfl⟩⟩
 rw[if_neg e]at h;by_cases e:x="abs"
 ·rw[if_pos e]at h;cases h;subst e;exact⟨Dg,O3,.inl ⟨_,rfl⟩⟩
 rw[if_neg e]at h;by_cases e:x="isinstance"
 ·rw[if_pos e]at h;cases h;subst e;exact⟨FH,O_ O,.inl ⟨_,rfl⟩⟩
 rw[if_neg e]at h;by_cases e:x="str"
 ·rw[if_pos e]at h;cases h;subst e;exact⟨xH,KC,.inr ⟨_,rfl⟩⟩
 rw[if_neg e]at h;by_cases e:x="list"/\c.free=true
 ·rw[if_pos e]at h;cases h;obtain⟨rfl,e2⟩:=e;exact⟨xI,Gi (hc e2),.inr ⟨_,rfl⟩⟩
 rw[if_neg e]at h;by_cases e:x="tuple"
 ·rw[if_pos e]at h;cases h;subst e;exact⟨rY,Pm,.inr ⟨_,rfl⟩⟩
 rw[if_neg e]at h;by_cases e:x="max"/\c.free=true
 ·rw[if_pos e]at h;cases h;obtain⟨rfl,e2⟩:=e;exact⟨DM,KY (hc e2),.inl ⟨_,rfl⟩⟩
 rw[if_neg e]at h;by_cases e:x="min"/\c.free=true
 ·rw[if_pos e]at h;cases h;obtain⟨rfl,e2⟩:=e;exact⟨DN,KZ (hc e2),.inl ⟨_,rfl⟩⟩
 rw[if_neg e]at h;by_cases e:x="sum"/\c.free=true
 ·rw[if_pos e]at h;cases h;obtain⟨rfl,e2⟩:=e;exact⟨DO,Po (hc e2),.inl ⟨_,rfl⟩⟩
 rw[if_neg e]at h;by_cases e:x="dict"/\c.free=true
 ·rw[if_pos e]at h;cases h;obtain⟨rfl,e2⟩:=e;exact⟨yi,Lg,.inr ⟨_,rfl⟩⟩
 rw[if_neg e]at h;cases h
def Ag(c:Ct)(fE:Expr->GE)(x:Str)(es:List Expr):GE:=if okN x=true/\es.all plain=true/\c.names.lookup x=some .globalImplicit then
   (match c.fns.lookup x with
   |some (n,F)=>if c.free=true then aA n F (jz fE es)else dn
   |none=>if c.bl.contains x=true then(match V9 c x with |some (_,op)=>ba op (jz fE es) |none=>dn)else dn)
  else dn
def G8(fE:Expr->GE)(o:Expr)(name:Str)(e:Expr)(apos cpos:Pos):GE:=if plain e=true/\(apos.endLine == cpos.line)=true then
   (if name="append" then k6 iz (fE o) (fE e)else if name="extend" then k6 xZ (fE o) (fE e)else dn)
  else dn
def wc(fE:Expr->GE)(o:Expr)(name:Str)(es:List Expr)(apos cpos:Pos):GE:=dn
theorem all_plain{pos:Pos}{env:Env}:∀{es:List Expr},es.all plain=true->(backTo pos (aev es env)).all (λx=> !x.1)=true
 |[],_=>rfl
 |e::es,h=>by rw[dY,dI]at h;rw[aR h.1];have q:=all_plain (pos:=pos) (env:=env) h.2;unfold backTo at q ⊢;rw[aK,dY,q];rfl
theorem ph(h:∀e,JE X e (fE e))(o:Expr)(name:Str)(e:Expr)(es:List Expr)(apos cpos:Pos):JE X (.Call (.Attribute o name apos) (e::es) [] cpos) (wc fE o name (e::es) apos cpos):=by exact bg
def Lz(c:Ct)(x:Str):Option Dc:=if okN x=true/\c.names.lookup x=some .globalImplicit then c.BZ.lookup x else none
theorem LA{c:Ct}(G:Good c k X)(h:Lz c x=some kvs):Gl X x/\(x == ("__debug__":Str))=false/\zU X.K X.w X.mg x kvs:=by
 unfold Lz at h;by_cases g:okN x=true/\c.names.lookup x=some .globalImplicit
 ·rw[if_pos g]at h;refine⟨?_,iR g.1,G.BZ x kvs h⟩;show X.env.scope.names.lookup x=_;rw[G.sc];exact g.2
 ·rw[if_neg g]at h;cases h
def G9(c:Ct)(fE:Expr->GE)(x:Str)(p:Pos)(e:Expr)(apos cpos:Pos):GE:=if c.tJ.contains x=true/\plain e=true/\(apos.endLine == cpos.line)=true then uU (fE (.Name x p)) (fE e)else dn
theorem G_{c:Ct}(G:Good c k X)(h:∀e,JE X e (fE e))(x:Str)(p:Pos)(e:Expr)(apos cpos:Pos):JE X (.Call (.Attribute (.Name x p) "pop" apos) [e] [] cpos) (G9 c fE x p e apos cpos):=by
 unfold G9;by_cases g:c.tJ.contains x=true/\plain e=true/\(apos.endLine == cpos.line)=true
 ·rw[if_pos g];obtain⟨_,g1,g3⟩:=g;refine Ll (by have:=G.un;omega) (h _) (h e) ⟨rfl,?_,g3,?_⟩
  ·rw[all_plain (es:=[e]) (by simp[g1])];rfl
  ·rw[aR g1];rfl
 ·rw[if_neg g];exact bg
def Ha(c:Ct)(fE:Expr->GE)(x:Str)(p:Pos)(e:Expr)(apos cpos:Pos):GE:=if c.tJ.contains x=true/\plain e=true/\(apos.endLine == cpos.line)=true then mX (fE (.Name x p)) (fE e)else dn
theorem Hd{c:Ct}(G:Good c k X)(h:∀e,JE X e (fE e))(x:Str)(p:Pos)(e:Expr)(apos cpos:Pos):JE X (.Call (.Attribute (.Name x p) "get" apos) [e] [] cpos) (Ha c fE x p e apos cpos):=by
 unfold Ha;by_cases g:c.tJ.contains x=true/\plain e=true/\(apos.endLine == cpos.line)=true
 ·rw[if_pos g];obtain⟨_,g1,g3⟩:=g;refine ya (by have:=G.un;omega) (h _) (h e) ⟨rfl,?_,g3,?_⟩
  ·rw[all_plain (es:=[e]) (by simp[g1])];rfl
  ·rw[aR g1];rfl
 ·rw[if_neg g];exact bg
def Hf(c:Ct)(fE:Expr->GE)(cpos:Pos):Expr->List Expr->List Keyword->GE
 |.Name x _,e::es,[]=>Ag c fE x (e::es)
 |.Attribute (.Name x p) name apos,[e],[]=>if name="get" then Ha c fE x p e apos cpos else if name="pop" then G9 c fE x p e apos cpos else if name="append"\/name="extend" then G8 fE (.Name x p) name e apos cpos else wc fE (.Name x p) name [e] apos cpos
 |.Attribute (.Name x p) name apos,[e,f],[]=>wc fE (.Name x p) name [e,f] apos cpos
 |.Attribute o name apos,e::es,[]=>wc fE o name (e::es) apos cpos
 |_,_,_=>dn
theorem DP{c:Ct}(G:Good c k X)(h:∀e,JE X e (fE e))(x:Str)(e:Expr)(es:List Expr)(p pos:Pos):JE X (.Call (.Name x p) (e::es) [] pos) (Ag c fE x (e::es)):=by
 unfold Ag;by_cases g:okN x=true/\(e::es).all plain=true/\c.names.lookup x=some .globalImplicit
 ·rw[if_pos g];obtain⟨g1,g2,g3⟩:=g;have hg:Gl X x:=by show X.env.scope.names.lookup x=_;rw[G.sc];exact g3
  have gp:plain e=true/\es.all plain=true:=by rw[dY,dI]at g2;exact g2
  have ha:=fk h (e::es) g2;cases e1:c.fns.lookup x with
  |some nF=>
   obtain⟨n,F⟩:=nF;dsimp only;by_cases cf:c.free=true
   ·rw[if_pos cf];obtain⟨a,fd,ps,G1,G2,G3,G4⟩:=G.fns x n F e1;exact Kt G1 (G.free cf).1 G2 G3 G4 ha hg (iR g1) (aR gp.1) (fI gp.2)
   ·rw[if_neg cf];exact bg
  |none=>
   dsimp only;by_cases e3:c.bl.contains x=true
   ·rw[if_pos e3];cases e4:V9 c x with
    |none=>exact bg
    |some io=>
     obtain⟨v,op⟩:=io;obtain⟨b1,b2,b3⟩:=Qc (X:=X) G.tab (λz=>(G.free z).2) e4;rcases b3 with ⟨id,rfl⟩ |⟨T,rfl⟩
     ·exact Fo b2 hg (G.bl x e3) b1 ha (GY g1) (iR g1) (aR gp.1) (fI gp.2)
     ·exact uE b2 hg (G.bl x e3) b1 ha (GY g1) (iR g1) (aR gp.1) (fI gp.2)
   ·rw[if_neg e3];exact bg
 ·rw[if_neg g];exact bg
theorem Hg(h:∀e,JE X e (fE e))(x name:Str)(e:Expr)(p apos cpos:Pos):JE X (.Call (.Attribute (.Name x p) name apos) [e] [] cpos) (G8 fE (.Name x p) name e apos cpos):=by
 unfold G8;by_cases g:plain e=true/\(apos.endLine == cpos.line)=true
 ·rw[if_pos g];by_cases n1:name="append"
  ·rw[if_pos n1];subst n1;exact BA FU PySem.F.slot_list_append PySem.F.type_list_append (h _) (h e) (aR g.1) g.2
  rw[if_neg n1];by_cases n2:name="extend"
  ·rw[if_pos n2];subst n2;exact BA La PySem.F.slot_list_extend PySem.F.type_list_extend (h _) (h e) (aR g.1) g.2
  rw[if_neg n2];exact bg
 ·rw[if_neg g];exact bg
theorem Hh{c:Ct}(G:Good c k X)(h:∀e,JE X e (fE e))(f:Expr)(as:List Expr)(ks:List Keyword)(pos:Pos):JE X (.Call f as ks pos) (Hf c fE pos f as ks):=by
 unfold Hf;split
 ·exact DP G h _ _ _ _ _
 ·rename_i x p name apos e;by_cases gg:name="get"
  ·rw[if_pos gg];subst gg;exact Hd G h _ _ _ _ _
  rw[if_neg gg];by_cases gp:name="pop"
  ·rw[if_pos gp];subst gp;exact G_ G h _ _ _ _ _
  rw[if_neg gp];by_cases g:name="append"\/name="extend"
  ·rw[if_pos g];exact Hg h _ _ _ _ _ _
  ·rw[if_neg g];exact ph h _ _ _ _ _ _
 ·rename_i x p name apos e f
  ·exact ph h _ _ _ _ _ _
 ·exact ph h _ _ _ _ _ _
 ·exact bg
def DQ:Expr->Bool
 |.Slice .. =>true
 |_=>false
def Hi(f:Expr->GE):Option Expr->GO
 |none=>l9
 |some e=>pX (f e)
theorem B1(h:∀e,JE X e (f e))(o:Option Expr):JO X o (Hi f o):=by
 cases o with
 |none=>exact Kk
 |some e=>exact Kl (h e)
def LB(f:Expr->GE)(a:Expr):Expr->GE
 |.Slice lo hi none _=>iQ (f a) (Hi f lo) (Hi f hi)
 |.Slice .. =>dn
 |b=>ao bq (f a) (f b)
theorem Hj(h:∀e,JE X e (f e))(a b:Expr)(pos:Pos):JE X (.Subscript a b pos) (LB f a b):=by
 unfold LB;split
 ·exact Dv (h a) (B1 h _) (B1 h _)
 ·exact bg
 ·rename_i n1 n2;refine TM (h a) (h b) ?_;intro o i;cases b<;>first |rfl |(rename_i lo hi st p;exact(n2 _ _ _ _ rfl).elim)
def Yd(c:Ct):Expr->Bool
 |.Name x _=>c.tJ.contains x
 |_=>false
def Um(c:Ct):Expr->Bool
 |.Subscript (.Name x _) (.Constant (.int 0) _ _) _=>c.tJ.contains (x++"[]")
 |.Subscript (.Call (.Name x _) _ _ _) (.Constant (.int 0) _ _) _=>c.tJ.contains (x++"()[]")
 |.Call (.Name x _) _ _ _=>c.tJ.contains (x++"()")
 |e=>Yd c e
theorem pj{o:CmpOp}{p:Prop}[Decidable p]{f g:gU}(h1:jh X (aeq o) f)(h2:jh X (aeq o) g):jh X (aeq o) (if p then f else g):=by
 by_cases h:p
 ·rw[if_pos h];exact h1
 ·rw[if_neg h];exact h2
def Uo:Expr->Str
 |.Name x _=>x
 |.Attribute _ x _=>x
 |.Call (.Name x _) _ _ _=>x++"()"
 |_=>""
def inS(c:Ct)(b:Expr)(neg:Bool)(o:gU):gU:=if c.Uj.contains (Uo b)=true then(if c.tJ.contains (Uo b)=true then qq neg else kN neg)else o
def Ye(c:Ct)(a b:Expr):CmpOp->gU
 |.Eq=>if Um c a=true then GD else tV .Eq
 |.NotEq=>if Um c a=true then Ac else tV .NotEq
 |.In=>inS c b false (tV .In)
 |.NotIn=>inS c b true (tV .NotIn)
 |o=>tV o
theorem Hk(hu:X.A.units+64 < cLine)(c:Ct)(a b:Expr)(o:CmpOp):jh X (aeq o) (Ye c a b o):=by
 cases o with
 |Eq=>exact pj (PY hu) (hZ hu .Eq)
 |NotEq=>exact pj (PZ hu) (hZ hu .NotEq)
 |In=>exact pj (pj (P2 hu) (PL hu)) (hZ hu .In)
 |NotIn=>exact pj (pj (DI hu) (DE hu)) (hZ hu .NotIn)
 |_=>exact hZ hu _
def Qd(bad:γ)(one:CmpOp->Expr->γ)(two:CmpOp->CmpOp->Expr->Expr->γ)(os:List CmpOp)(bs:List Expr):γ:=match os with
 |[o]=>(match bs with
  |[b]=>one o b
  |_=>bad)
 |[o,o']=>(match bs with
  |[b,b']=>two o o' b b'
  |_=>bad)
 |_=>bad
theorem B2{bad:γ}{one:CmpOp->Expr->γ}{two:CmpOp->CmpOp->Expr->Expr->γ}{P:List CmpOp->List Expr->γ->Prop}(hb:∀os bs,P os bs bad)(h1:∀o b,P [o] [b] (one o b))(h2:∀o o' b b',P [o,o'] [b,b'] (two o o' b b'))(os:List CmpOp)(bs:List Expr):P os bs (Qd bad one two os bs):=by
 cases os with
 |nil=>exact hb _ _
 |cons o os=>
  cases os with
  |nil=>
   cases bs with
   |nil=>exact hb _ _
   |cons b bs=>
    cases bs with
    |nil=>exact h1 _ _
    |cons _ _=>exact hb _ _
  |cons o' os=>
   cases os with
   |cons _ _=>exact hb _ _
   |nil=>
    cases bs with
    |nil=>exact hb _ _
    |cons b bs=>
     cases bs with
     |nil=>exact hb _ _
     |cons b' bs=>
      cases bs with
      |nil=>exact h2 _ _ _ _
      |cons _ _=>exact hb _ _
def Uq(c:Ct)(f:Expr->GE)(a:Expr)(os:List CmpOp)(bs:List Expr):GE:=Qd dn (λo b=>if ael o b=false then ao (Ye c a b o) (f a) (f b)else dn) (λo o' b b'=>if lastMarks [o,o'] [b,b']=false then rT (tV o) (tV o') (f a) (f b) (f b')else dn) os bs
theorem LC{c:Ct}(G:Good c k X)(h:∀e,JE X e (f e))(a:Expr)(os:List CmpOp)(bs:List Expr)(pos:Pos):JE X (.Compare a os bs pos) (Uq c f a os bs) :=
 B2 (P:=λos bs g=>JE X (.Compare a os bs pos) g) (λ_ _=>bg) (λo b=>by
  by_cases g:ael o b=false
  ·rw[if_pos g];exact ON (Hk G.un c a b o) (h a) (h b) g
  ·rw[if_neg g];exact bg) (λo o' b b'=>by
  by_cases g:lastMarks [o,o'] [b,b']=false
  ·rw[if_pos g];exact Fg (hZ G.un o) (hZ G.un o') (h a) (h b) (h b') g
  ·rw[if_neg g];exact bg) os bs
def MU(c:Ct)(f:Expr->GE)(a:Expr)(os:List CmpOp)(bs:List Expr):GT:=Qd nN (λo b=>if ael o b=false then bu (ao (Ye c a b o) (f a) (f b))else nN) (λo o' b b'=>if lastMarks [o,o'] [b,b']=false then bu (rT (tV o) (tV o') (f a) (f b) (f b'))else nN) os bs
theorem Hl{c:Ct}(G:Good c k X)(h:∀e,JE X e (f e))(a:Expr)(os:List CmpOp)(bs:List Expr)(pos:Pos):JT X (.Compare a os bs pos) (MU c f a os bs) :=
 B2 (P:=λos bs g=>JT X (.Compare a os bs pos) g) (λ_ _=>oS) (λo b=>by
  by_cases g:ael o b=false
  ·rw[if_pos g];exact OO (Hk G.un c a b o) (h a) (h b) g
  ·rw[if_neg g];exact oS) (λo o' b b'=>by
  by_cases g:lastMarks [o,o'] [b,b']=false
  ·rw[if_pos g];exact Fh (hZ G.un o) (hZ G.un o') (h a) (h b) (h b') g
  ·rw[if_neg g];exact oS) os bs
def LD(c:Ct):Expr->Bool
 |.Name x _=>c.tJ.contains x||c.dks.contains x
 |_=>false
def Qe(c:Ct)(f:Expr->GE):Expr->Expr->GE
 |.Name x p,b=>(match Lz c x with |some kvs=>if DQ b=false then BI kvs (f b)else dn |none=>if LD c (.Name x p)=true/\DQ b=false then BO (f (.Name x p)) (f b)else LB f (.Name x p) b)
 |a,b=>LB f a b
theorem LG{c:Ct}(G:Good c k X)(h:∀e,JE X e (f e))(a b:Expr)(pos:Pos):JE X (.Subscript a b pos) (Qe c f a b):=by
 unfold Qe;split
 ·rename_i x p;cases e:Lz c x with
  |none=>
   dsimp only;by_cases g:LD c (.Name x p)=true/\DQ b=false
   ·rw[if_pos g];refine Lc (by have:=G.un;omega) (h _) (h b) ?_;intro o i;cases b<;>first |rfl |cases g.2
   ·rw[if_neg g];exact Hj h _ b pos
  |some kvs=>
   dsimp only;by_cases g:DQ b=false
   ·rw[if_pos g];obtain⟨g1,g2,g3⟩:=LA G e;refine K2 (h b) ?_ g1 g2 g3;intro o i;cases b<;>first |rfl |cases g
   ·rw[if_neg g];exact bg
 ·exact Hj h _ b pos
def Qf(f:Expr->GE):List Expr->GE
 |[]=>dn
 |[a]=>f a
 |a::b::r=>uB (f a) (Qf f (b::r))
theorem B3{f:Expr->GE}(h:∀e,JE X e (f e))(pos:Pos):∀es,JE X (.BoolOp .And es pos) (Qf f es)
 |[]=>bg
 |[a]=>OT (h a)
 |a::b::r=>OU (h a) (B3 h pos (b::r))
def Qg(f:Expr->GT):List Expr->GT
 |[]=>nN
 |[a]=>f a
 |a::b::r=>Fi (f a) (Qg f (b::r))
def Yf(f:Expr->GT):List Expr->GT
 |[]=>nN
 |[a]=>f a
 |a::b::r=>Eg (f a) (Yf f (b::r))
theorem Hm:JW X e nN:=λρ st σ H m Q S R p=>ab p
theorem B4{f:Expr->GT}(h:∀e,JT X e (f e))(pos:Pos):∀es,JW X (.BoolOp .And es pos) (Qg f es)
 |[]=>Hm
 |[a]=>J_ (h a)
 |a::b::r=>OR (h a) (B4 h pos (b::r))
theorem Hn{f:Expr->GT}(h:∀e,JT X e (f e))(pos:Pos):∀es,JW X (.BoolOp .Or es pos) (Yf f es)
 |[]=>Hm
 |[a]=>OQ (h a)
 |a::b::r=>Tr (h a) (Hn h pos (b::r))
def unG(f:Expr->GE):UnaryOp->Expr->GE
 |.USub,a=>Bt iP (f a)
 |_,_=>dn
def DR(f:Expr->GE)(g:GA->GE)(es:List Expr):GE:=if es.all plain=true then g (jz f es)else dn
def isSet:Expr->Bool
 |.Set .. =>true
 |_=>false
theorem me(h:isSet e=false)(x:aej):aer e env x=pure x:=by cases e<;>first |rfl |cases h
def fm(c:Ct)(x:Str):Bool:=decide (x="range")&&decide (c.names.lookup x=some .globalImplicit)&&c.bl.contains x&&(match c.fns.lookup x with |some _=>false |none=>true)
theorem sC{c:Ct}(G:Good c k X)(y:Str)(hy:fm c y=true):y="range"/\Gl X y/\X.mg y=none:=by unfold fm at hy;simp only[dI,decide_eq_true_eq]at hy;refine⟨hy.1.1.1,?_,G.bl y hy.1.2⟩;show X.env.scope.names.lookup y=_;rw[G.sc];exact hy.1.1.2
def Ho(c:Ct)(f:Expr->GE):Expr->GI
 |.Call (.Name x p) [a] [] q=>if fm c x=true then(if plain a=true then KO (jz f [a])else BD)else jR (f (.Call (.Name x p) [a] [] q))
 |.Call (.Name x p) [a,b] [] q=>if fm c x=true then(if plain a=true/\plain b=true then F6 (jz f [a,b])else BD)else jR (f (.Call (.Name x p) [a,b] [] q))
 |e=>if isSet e=false then jR (f e)else BD
theorem B5{c:Ct}(G:Good c k X)(h:∀e,JE X e (f e))(tg e:Expr):JI X tg e (Ho c f e):=by
 unfold Ho;split
 ·rename_i y p a q;by_cases g:fm c y=true
  ·rw[if_pos g];obtain⟨rfl,g2,g3⟩:=sC G y g;by_cases ga:plain a=true
   ·rw[if_pos ga];exact T4 g2 g3 (fk h [a] (by simp[ga])) (aR ga)
   ·rw[if_neg ga];exact zR
  ·rw[if_neg g];exact vY (h _)
 ·rename_i y p a b q;by_cases g:fm c y=true
  ·rw[if_pos g];obtain⟨rfl,g2,g3⟩:=sC G y g;by_cases ga:plain a=true/\plain b=true
   ·rw[if_pos ga];exact T5 g2 g3 (fk h [a,b] (by simp[ga])) (by rw[aR ga.1,aR ga.2];rfl) (by rw[aR ga.2];rfl)
   ·rw[if_neg ga];exact zR
  ·rw[if_neg g];exact vY (h _)
 ·by_cases g:isSet e=false
  ·rw[if_pos g];exact vY (h _)
  ·rw[if_neg g];exact zR
def qe(c:Ct):List (Str×aeg)->Option iM
 |[]=>some []
 |(n,.free)::r=>if c.names.lookup n=some .cell\/c.names.lookup n=some .free then(match pf n c.N,qe c r with |some i,some l=>some ((n,i)::l) |_,_=>none)else none
 |_::r=>qe c r
theorem sD{c:Ct}:∀{ns:List (Str×aeg)}{cs:iM},qe c ns=some cs->(∀y∈ns,y.2= .free->c.names.lookup y.1=some .cell\/c.names.lookup y.1=some .free)/\∀p∈cs,(p.1,fi)∈ns/\c.N[p.2]? =some p.1
 |[],cs,h=>by cases h;exact⟨(λ_ z=>by cases z),(λ_ z=>by cases z)⟩
 |(n,k)::r,cs,h=>by
  unfold qe at h;split at h
  ·cases ‹_::_=[]›
  ·rename_i n' r' he;cases he;by_cases g:c.names.lookup n=some .cell\/c.names.lookup n=some .free
   ·rw[if_pos g]at h;cases e1:pf n c.N with
    |none=>rw[e1]at h;cases h
    |some i=>
     cases e2:qe c r with
     |none=>rw[e1,e2]at h;cases h
     |some l=>
      rw[e1,e2]at h;cases h;obtain⟨q1,q2⟩:=sD e2;refine⟨λy hy e=>?_,λp hp=>?_⟩
      ·rcases List.mem_cons.mp hy with z |z
       ·subst z;exact g
       ·exact q1 y z e
      ·rcases List.mem_cons.mp hp with z |z
       ·subst z;exact⟨bC,jy e1⟩
       ·exact⟨bb _ (q2 p z).1,(q2 p z).2⟩
   ·rw[if_neg g]at h;cases h
  ·rename_i kk r' hk he;cases he;obtain⟨q1,q2⟩:=sD h;refine⟨λy hy e=>?_,λp hp=>⟨bb _ (q2 p hp).1,(q2 p hp).2⟩⟩;rcases List.mem_cons.mp hy with z |z
   ·subst z;have e':k= .free:=e;subst e';exact(hk n rfl).elim
   ·exact q1 y z e
def Ah(c:Ct)(ns:List (Str×aeg)):List (Str×aeg):=ns.map λ(n,k)=>if(k == .free&&c.names.lookup n == some .cell)then(n,.cell)else(n,k)
def Hq:ScopeKind->Bool
 |.function=>true
 |_=>false
def mf(scope:Scope)(x:Str):Bool:=Hq scope.kind&&scope.names.all (λy=>decide (scope.names.lookup y.1=some y.2))&&scope.names.all (λy=>decide (y.2≠.cell))&&decide (scope.names.lookup x=some .local)
def Ct.block(c:Ct)(scope:Scope)(x:Str)(cs:iM):Ct:={ c with N:=x::cs.map (·.1),names:=Ah c scope.names,loop:=false,top:=false }
def yj(c:Ct)(sub:Ct->(Expr->GE)×(Expr->GT))(f:Expr->GE)(elt:Expr)(x:Str)(iter:Expr)(Qh:Ct->GT)(scope:Scope):GE :=
 if mf scope x=true/\c.free=true/\isSet iter=false then(match qe c scope.names with
  |some cs=>if(x::cs.map (·.1)).Nodup then k_ cs (Ho c f iter) (Qh (c.block scope x cs)) ((sub (c.block scope x cs)).1 elt)else dn
  |none=>dn)else dn
def V_(c:Ct)(sub:Ct->(Expr->GE)×(Expr->GT))(f:Expr->GE)(elt:Expr)(scope:Scope):List Comprehension->GE
 |[⟨.Name x _,iter,[],0⟩]=>yj c sub f elt x iter (λ_=>λ_ st=> .ok true st) scope
 |[⟨.Name x _,iter,[q],0⟩]=>yj c sub f elt x iter (λc'=>(sub c').2 q) scope
 |_=>dn
theorem sE{c:Ct}(G:Good c k X)(hs:mf scope x=true)(nd:(x::cs.map (·.1)).Nodup)(C:aed)(s0:aei)(H0:Hp)(fp:List aed)(pn:List (aed×Obj))(E:aej->aei->Prop)(hA:Dk X.A H0):
  Good (c.block scope x cs) k (hG X scope x cs C s0 H0 fp pn E):=by
 have hk:scope.kind= .function:=by
  have:Hq scope.kind=true:=by unfold mf at hs;simp only[dI]at hs;exact hs.1.1.1
  revert this;cases scope.kind<;>intro z<;>first |rfl |cases z
 refine⟨rfl,?_,nd,G.un,G.free,(λz=>by cases z),G.cst,G.bl,G.fns,(λz=>by cases z),(λz=>by cases z),hk,G.tab,G.cls,G.BY,G.BZ,⟨G.rm.d,G.rm.u⟩,G.GW,⟨G.x.lam,G.x.Jc,G.x.RY,(λz=>by cases z),G.x.sk,G.x.RZ,G.x.ins⟩,G.fr,hA⟩;show(relabel scope X.env).names=Ah c scope.names;unfold relabel Ah Env.kindOf;rw[G.kind,G.sc];simp
theorem Hr{c:Ct}(G:Good c k X)(hs:mf scope x=true)(hcs:qe c scope.names=some cs)(nd:(x::cs.map (·.1)).Nodup):dZ X scope x cs:=by
 have hs:(Hq scope.kind=true/\∀y∈scope.names,scope.names.lookup y.1=some y.2)/\((scope.names.filter λy=>y.2 == .cell)=[]\/(scope.names.filter λy=>y.2 == .cell)=[(x,.cell)])/\(scope.names.lookup x=some .local\/scope.names.lookup x=some .cell):=by unfold mf at hs;simp only[dI,decide_eq_true_eq,Ai]at hs;exact⟨hs.1.1,.inl (List.filter_eq_nil_iff.mpr λy hy=>by simpa using hs.1.2 y hy),.inl hs.2⟩
 obtain⟨⟨h1,h2⟩,h3,h4⟩:=hs;have hk:scope.kind= .function:=by revert h1;cases scope.kind<;>intro z<;>first |rfl |cases z
 obtain⟨q1,q2⟩:=sD hcs;refine⟨hk,h2,h3,h4,λy hy e=>?_,λp hp=>⟨by rw[G.N];exact(q2 p hp).2,h2 _ (q2 p hp).1⟩,nd⟩;show X.env.scope.names.lookup y.1=_\/X.env.scope.names.lookup y.1=_;rw[G.sc];exact q1 y hy e
def Qi(X:Cx)(e:Expr)(g:GE):Prop:=∀(i:Nat)(y:Str)(py spos:Pos),X.N.Nodup->X.N[i]? =some y->Loc X.env.scope y->(X.fn y=true\/X.env.scope.names.lookup y=some .local)->JS X (.Assign [.Name y py] e spos) (bG i g)
theorem DS{s:Stmt}:JS X s (bG i dn):=λρ st σ H m D S R p=>ab p
theorem iS:Qi X e dn:=λi y py spos _ _ _ _=>DS
theorem B6{c:Ct}(G:Good c k X){sub:Ct->(Expr->GE)×(Expr->GT)}(hb:∀c X,Good c k X->(∀e,JE X e ((sub c).1 e))/\∀e,JT X e ((sub c).2 e))(h:∀e,JE X e (f e))(elt:Expr)(scope:Scope)(gens:List Comprehension)(pos:Pos):
  JE X (.ListComp elt gens scope pos) (V_ c sub f elt scope gens)/\Qi X (.ListComp elt gens scope pos) (V_ c sub f elt scope gens):=by
 have core:∀(x:Str)(px:Pos)(iter:Expr)(ifs:List Expr)(Qh:Ct->GT),(∀c X,Good c k X->MK X ifs (Qh c))->
   JE X (.ListComp elt [⟨.Name x px,iter,ifs,0⟩] scope pos) (yj c sub f elt x iter Qh scope)/\Qi X (.ListComp elt [⟨.Name x px,iter,ifs,0⟩] scope pos) (yj c sub f elt x iter Qh scope):=by
  intro x px iter ifs Qh hg;unfold yj;by_cases g:mf scope x=true/\c.free=true/\isSet iter=false
  ·rw[if_pos g];obtain⟨g1,g2,g3⟩:=g;cases ec:qe c scope.names with
   |none=>exact⟨bg,iS⟩
   |some cs=>
    dsimp only;by_cases nd:(x::cs.map (·.1)).Nodup
    ·rw[if_pos nd];have CS:=Hr G g1 ec nd;have hE:∀C s0 H0 fp pn E,Dk X.A H0->JE (hG X scope x cs C s0 H0 fp pn E) elt ((sub (c.block scope x cs)).1 elt):=λC s0 H0 fp pn E z=>(hb _ _ (sE G g1 nd C s0 H0 fp pn E z)).1 elt;have hT:∀C s0 H0 fp pn E,Dk X.A H0->MK (hG X scope x cs C s0 H0 fp pn E) ifs (Qh (c.block scope x cs)):=λC s0 H0 fp pn E z=>hg _ _ (sE G g1 nd C s0 H0 fp pn E z);exact⟨BF G.fr CS (xQ (G.free g2).2) G.hd (B5 G h _ iter).y hE hT (me g3),λi y py spos hN hi hl hf=>KP i hN G.fr CS (xQ (G.free g2).2) G.hd (B5 G h _ iter).y hE hT (me g3) hi hl hf⟩
    ·rw[if_neg nd];exact⟨bg,iS⟩
  ·rw[if_neg g];exact⟨bg,iS⟩
 unfold V_;split
 ·exact core _ _ _ _ _ λ_ _ _=>KJ
 ·exact core _ _ _ _ _ λc X G'=>KL ((hb c X G').2 _)
 ·exact⟨bg,iS⟩
def Qj(c:Ct)(x:Str):List Expr->Bool
 |[.Attribute _ fl _]=>decide (x="tuple")&&c.MT.contains fl&&decide (c.names.lookup x=some .globalImplicit)&&c.bl.contains x&&c.free
 |_=>false
def Yg(c:Ct)(fE:Expr->GE)(d:GE)(x:Str)(e:Expr)(es:List Expr):GE:=match c.it.ini.lookup x with
 |some nF=>if okN x=true/\(e::es).all plain=true/\c.names.lookup x=some .globalImplicit/\c.free=true then BW x nF.1 nF.2 (jz fE (e::es))else dn
 |none=>if Qj c x (e::es)=true/\(e::es).all plain=true then ba uY (jz fE (e::es))else d
def Yh(c:Ct)(fE:Expr->GE)(d:GE)(pos:Pos)(o:Expr)(name:Str)(apos:Pos)(e:Expr)(es:List Expr):GE:=match o with
 |.Name x p=>(match c.it.BX.lookup name with
  |some nF=>if(e::es).all plain=true/\c.free=true/\(e::es).length < 20/\(apos.endLine == pos.line)=true then mz c.it.c name nF.1 nF.2 (fE (.Name x p)) (jz fE (e::es))else dn
  |none=>d)
 |.Attribute o2 fl r=>(match es with
  |[]=>if name="get"/\c.tJ.contains fl=true/\plain e=true/\(apos.endLine == pos.line)=true then mX (fE (.Attribute o2 fl r)) (fE e)else d
  |_=>d)
 |_=>d
def Yi(c:Ct)(fE:Expr->GE)(d:GE)(pos:Pos)(f:Expr)(as:List Expr)(ks:List Keyword):GE:=match ks with
 |[]=>(match as with
  |e::es=>(match f with
   |.Attribute o name apos=>Yh c fE d pos o name apos e es
   |.Name x _=>Yg c fE d x e es
   |_=>d)
  |[]=>d)
 |_=>d
theorem Qk{c:Ct}(G:Good c k X)(h:∀e,JE X e (fE e))(x:Str)(p:Pos)(e:Expr)(es:List Expr)(pos:Pos)(hd:JE X (.Call (.Name x p) (e::es) [] pos) d):JE X (.Call (.Name x p) (e::es) [] pos) (Yg c fE d x e es):=by
 unfold Yg;cases q:c.it.ini.lookup x with
 |some nF=>
  obtain⟨n,F⟩:=nF;dsimp only;by_cases g:okN x=true/\(e::es).all plain=true/\c.names.lookup x=some .globalImplicit/\c.free=true
  ·rw[if_pos g];obtain⟨g1,g2,g3,g4⟩:=g;have gp:plain e=true/\es.all plain=true:=by rw[dY,dI]at g2;exact g2
   exact Lr (G.x.ins.ini x n F q) (G.free g4).1 (by show X.env.scope.names.lookup x=_;rw[G.sc];exact g3) (fk h (e::es) g2) (iR g1) (aR gp.1) (fI gp.2)
  ·rw[if_neg g];exact bg
 |none=>
  dsimp only;by_cases g:Qj c x (e::es)=true/\(e::es).all plain=true
  ·rw[if_pos g];obtain⟨g,g0⟩:=g;have gp:plain e=true/\es.all plain=true:=by rw[dY,dI]at g0;exact g0
   unfold Qj at g;split at g
   ·simp only[dI,decide_eq_true_eq]at g;obtain⟨⟨⟨⟨rfl,g2⟩,g3⟩,g4⟩,g5⟩:=g;exact uE (Ls (G.free g5).2) (by show X.env.scope.names.lookup _=_;rw[G.sc];exact g3) (G.bl _ g4) rY (fk h _ g0) (by decide) (by decide) (aR gp.1) (fI gp.2)
   ·cases g
  ·rw[if_neg g];exact hd
theorem Ql{c:Ct}(G:Good c k X)(h:∀e,JE X e (fE e))(o:Expr)(name:Str)(apos:Pos)(e:Expr)(es:List Expr)(pos:Pos)(hd:JE X (.Call (.Attribute o name apos) (e::es) [] pos) d):JE X (.Call (.Attribute o name apos) (e::es) [] pos) (Yh c fE d pos o name apos e es):=by
 unfold Yh;cases o with
 |Name x p=>
  dsimp only;cases q:c.it.BX.lookup name with
  |some nF=>
   obtain⟨n,F⟩:=nF;dsimp only;by_cases g:(e::es).all plain=true/\c.free=true/\(e::es).length < 20/\(apos.endLine == pos.line)=true
   ·rw[if_pos g];obtain⟨g2,g4,g5,g6⟩:=g;have gp:plain e=true/\es.all plain=true:=by rw[dY,dI]at g2;exact g2
    refine P_ (G.x.ins.BX name n F q) (G.free g4).1 (h _) (fk h (e::es) g2) (aR gp.1) (fI gp.2) rfl ?_ g6;rw[all_plain g2];show(true&&true&&decide ((e::es).length+0+0 < 30))=true;rw[decide_eq_true (by omega)];rfl
   ·rw[if_neg g];exact bg
  |none=>exact hd
 |Attribute o2 fl r=>
  dsimp only;cases es with
  |cons _ _=>exact hd
  |nil=>
   dsimp only;by_cases g:name="get"/\c.tJ.contains fl=true/\plain e=true/\(apos.endLine == pos.line)=true
   ·rw[if_pos g];obtain⟨rfl,_,g1,g3⟩:=g;refine ya (by have:=G.un;omega) (h _) (h e) ⟨rfl,?_,g3,?_⟩
    ·rw[all_plain (es:=[e]) (by simp[g1])];rfl
    ·rw[aR g1];rfl
   ·rw[if_neg g];exact hd
 |_=>exact hd
theorem Qm{c:Ct}(G:Good c k X)(h:∀e,JE X e (fE e))(f:Expr)(as:List Expr)(ks:List Keyword)(pos:Pos)(hd:JE X (.Call f as ks pos) d):JE X (.Call f as ks pos) (Yi c fE d pos f as ks):=by
 unfold Yi;cases ks with
 |cons _ _=>exact hd
 |nil=>
  cases as with
  |nil=>exact hd
  |cons e es=>
   cases f with
   |Attribute o name apos=>exact Ql G h o name apos e es pos hd
   |Name x p=>exact Qk G h x p e es pos hd
   |_=>exact hd
def Qn(c:Ct)(f:Expr->GE)(o:Expr)(fl:Str):GE:=match o with
 |.Name x p=>if c.it.own.contains fl=true then jw c.it.c fl (f (.Name x p))else dn
 |_=>dn
theorem LH{c:Ct}(G:Good c k X)(h:∀e,JE X e (f e))(o:Expr)(fl:Str)(p:Pos):JE X (.Attribute o fl p) (Qn c f o fl):=by
 unfold Qn;cases o with
 |Name x q=>
  dsimp only;by_cases g:c.it.own.contains fl=true
  ·rw[if_pos g];exact P8 (h _) rfl (G.x.ins.own fl g)
  ·rw[if_neg g];exact bg
 |_=>exact bg
def Ht(c:Ct)(sub:Ct->(Expr->GE)×(Expr->GT))(f:Expr->GE)(t:Expr->GT):Expr->GE
 |.Name x _=>G5 c x
 |.Constant k _ _=>G7 k
 |.BinOp a o b _=>ao (Ul o) (f a) (f b)
 |.UnaryOp o a _=>unG f o a
 |.BoolOp .And es _=>Qf f es
 |.Compare a os bs _=>Uq c f a os bs
 |.IfExp q a b _=>my (t q) (f a) (f b)
 |.Tuple es _ _=>DR f cT es
 |.List es _=>DR f f9 es
 |.Subscript a b _=>Qe c f a b
 |.Call g as ks p=>Yi c f (Hf c f p g as ks) p g as ks
 |.Attribute o fl _=>Qn c f o fl
 |.ListComp elt gens scope _=>V_ c sub f elt scope gens
 |_=>dn
def stepT(c:Ct)(f:Expr->GE)(t:Expr->GT):Expr->GT
 |.UnaryOp .Not a _=>zI (t a)
 |.BoolOp .And es _=>Qg t es
 |.BoolOp .Or es _=>Yf t es
 |.Compare a os bs _=>MU c f a os bs
 |.Name x p=>dB (f (.Name x p))
 |.Call g as ks p=>dB (f (.Call g as ks p))
 |.Subscript a b p=>dB (f (.Subscript a b p))
 |.Constant k j p=>dB (f (.Constant k j p))
 |.BinOp a o b p=>dB (f (.BinOp a o b p))
 |_=>nN
theorem yk{c:Ct}(G:Good c k X){sub:Ct->(Expr->GE)×(Expr->GT)}(hb:∀k c X,Good c k X->(∀e,JE X e ((sub c).1 e))/\∀e,JT X e ((sub c).2 e))(h:∀e,JE X e (f e))(ht:∀e,JT X e (t e))(e:Expr):JE X e (Ht c sub f t e):=by
 have hu:X.A.units+64 < cLine:=G.un;cases e with
 |Name x p=>exact G6 G x p
 |Constant v j p=>exact DL v j p
 |BinOp a o b p=>exact OM (Ly o) (h a) (h b)
 |UnaryOp o a p=>
  cases o with
  |USub=>exact OP (h a)
  |_=>exact bg
 |BoolOp o es p=>
  cases o with
  |And=>exact B3 h p es
  |Or=>exact bg
 |Compare a os bs p=>exact LC G h a os bs p
 |IfExp q a b p=>exact Ts (ht q) (h a) (h b)
 |Tuple es j p=>
  show JE X _ (DR f cT es);unfold DR;by_cases g:es.all plain=true
  ·rw[if_pos g];exact OV (fk h es g)
  ·rw[if_neg g];exact bg
 |List es p=>
  show JE X _ (DR f f9 es);unfold DR;by_cases g:es.all plain=true
  ·rw[if_pos g];exact OW (fk h es g)
  ·rw[if_neg g];exact bg
 |Subscript a b p=>exact LG G h a b p
 |Call g as ks p=>exact Qm G h g as ks p (Hh G h g as ks p)
 |Attribute o fl p=>exact LH G h o fl p
 |ListComp elt gens scope p=>exact(B6 G (hb k) h elt scope gens p).1
 |_=>exact bg
def DT:Expr->Bool
 |.ListComp .. =>true
 |.SetComp .. =>true
 |.DictComp .. =>true
 |.Set .. =>true
 |_=>false
theorem we{t:Option Expr}(h:DT e=false):swapsWith e t n env=pure false:=by cases e<;>first |rfl |cases h
theorem sF{i:Expr}:swapsWith e (some (.Subscript o i p)) n env=pure false:=by cases e<;>rfl
theorem Hu{c:Ct}(G:Good c k X){sub:Ct->(Expr->GE)×(Expr->GT)}(hb:∀k c X,Good c k X->(∀e,JE X e ((sub c).1 e))/\∀e,JT X e ((sub c).2 e))(h:∀e,JE X e (f e))(ht:∀e,JT X e (t e))(e:Expr):Qi X e (Ht c sub f t e):=by
 by_cases g:DT e=false
 ·exact λi y py spos hN hi hl hf=>zL i hN (yk G hb h ht e) hi hl (we g) hf
 ·cases e with
  |ListComp elt gens scope p=>exact(B6 G (hb k) h elt scope gens p).2
  |SetComp=>exact iS
  |DictComp=>exact iS
  |Set=>exact iS
  |_=>exact absurd rfl g
theorem Hv{c:Ct}(G:Good c k X)(h:∀e,JE X e (f e))(ht:∀e,JT X e (t e))(e:Expr):JT X e (stepT c f t e):=by
 have hu:X.A.units+64 < cLine:=G.un;cases e with
 |UnaryOp o a p=>
  cases o with
  |Not=>exact OS (ht a)
  |_=>exact oS
 |BoolOp o es p=>
  cases o with
  |And=>exact(B4 ht p es).jt
  |Or=>exact(Hn ht p es).jt
 |Compare a os bs p=>exact Hl G h a os bs p
 |Name x p=>exact rW (h _) (λ_=>rfl)
 |Call g as ks p=>exact rW (h _) (λ_=>rfl)
 |Subscript a b p=>exact rW (h _) (λ_=>rfl)
 |Constant v j p=>exact rW (h _) (λ_=>rfl)
 |BinOp a o b p=>exact rW (h _) (λ_=>rfl)
 |_=>exact oS
end
def mL:Nat->Ct->(Expr->GE)×(Expr->GT)
 | 0,_=>(λ_=>dn,λ_=>nN)
 |n+1,c=>(Ht c (mL n) (mL n c).1 (mL n c).2,stepT c (mL n c).1 (mL n c).2)
variable{c:Ct}{gb:GS}
section
variable {X:Cx}
theorem eZ:∀(n:Nat)(k:Nat)(c:Ct)(X:Cx),Good c k X->(∀e,JE X e ((mL n c).1 e))/\∀e,JT X e ((mL n c).2 e)
 | 0,_,_,_,_=>⟨λ_=>bg,λ_=>oS⟩
 |n+1,k,c,X,G=>⟨λe=>yk G (λk c X G=>eZ n k c X G) (eZ n k c X G).1 (eZ n k c X G).2 e,λe=>Hv G (eZ n k c X G).1 (eZ n k c X G).2 e⟩
theorem Hw:∀(n:Nat)(c:Ct)(X:Cx),Good c k X->∀e,Qi X e ((mL n c).1 e)
 | 0,_,_,_,_=>iS
 |n+1,c,X,G,e=>Hu G (λk c X G=>eZ n k c X G) (eZ n k c X G).1 (eZ n k c X G).2 e
def slot(c:Ct)(x:Str):Option Nat:=if c.names.lookup x=some .local\/(c.names.lookup x=some .cell/\c.top=true)then pf x c.N else none
theorem wg(G:Good c k X)(h:slot c x=some i):X.N[i]? =some x/\(Loc X.env.scope x/\(X.fn x=true\/X.env.scope.names.lookup x=some .local)):=by
 unfold slot at h;by_cases e:c.names.lookup x=some .local\/(c.names.lookup x=some .cell/\c.top=true)
 ·rw[if_pos e]at h;refine⟨by rw[G.N];exact jy h,?_⟩;rcases e with e |⟨e,e2⟩
  ·have q:X.env.scope.names.lookup x=some .local:=by rw[G.sc];exact e
   exact⟨.inl q,.inr q⟩
  ·have q:X.env.scope.names.lookup x=some .cell:=by rw[G.sc];exact e
   exact⟨.inr q,.inl (G.fn e2 x)⟩
 ·rw[if_neg e]at h;cases h
def slots(c:Ct):List Expr->Option (List Nat)
 |[]=>some []
 |.Name x _::es=>(match slot c x,slots c es with |some i,some is=>some (i::is) |_,_=>none)
 |_=>none
theorem ym{c:Ct}{k:Nat}(G:Good c k X):∀{es:List Expr}{is:List Nat},slots c es=some is->Slots X es is
 |[],is,h=>by cases h;exact .nil
 |e::es,is,h=>by
  cases e with
  |Name x p=>
   have h:(match slot c x,slots c es with |some i,some is=>some (i::is) |_,_=>none)=some is:=h
   cases e1:slot c x with
   |none=>rw[e1]at h;cases h
   |some i=>
    cases e2:slots c es with
    |none=>rw[e1,e2]at h;cases h
    |some js=>rw[e1,e2]at h;cases h;obtain⟨q1,q2⟩:=wg G e1;exact .cons q1 q2 (ym G e2)
  |_=>cases h
def Ur:Expr->Bool
 |.Tuple .. =>true
 |_=>false
def LI(es:List Expr)(v:Expr):Bool:=!Ur v||decide (4<=es.length)
def DU:Expr->Bool
 |.Dict [] [] _=>true
 |_=>false
theorem DV{v:Expr}(h:LI es v=true):swappedStores [.Tuple es k p] v X.env=pure none:=by
 cases v with
 |Tuple vs k2 p2=>
  have h4:4<=es.length:=by simpa [LI,Ur]using h
  unfold swappedStores;have:(!(es.length == 2||es.length == 3)||vs.length != es.length||X.env.blockKind != .function)=true:=by
   have h2:(es.length == 2)=false:=by simp;omega
   have h3:(es.length == 3)=false:=by simp;omega
   rw[h2,h3];rfl
  dsimp only;rw[if_pos this]
 |_=>rfl
def Us(c:Ct):Expr->Bool
 |.Attribute _ fl _=>c.MT.contains fl
 |_=>false
theorem B7{f:Str}:swapsWith e (some (.Attribute o f p)) n env=pure false:=by cases e<;>rfl
def Qo(c:Ct)(f:Expr->GE)(v o:Expr)(fl:Str):GS:=if c.it.own.contains fl=true then mJ c.it.c fl (if DU v=true/\c.MT.contains fl=true then BV else f v) (f o)else eC
theorem LJ(G:Good c k X)(h:∀e,JE X e (f e))(v o:Expr)(fl:Str)(p pos:Pos):JS X (.Assign [.Attribute o fl p] v pos) (Qo c f v o fl):=by
 unfold Qo;by_cases g:c.it.own.contains fl=true
 ·rw[if_pos g];by_cases g2:DU v=true/\c.MT.contains fl=true
  ·rw[if_pos g2];have gv:=g2.1;unfold DU at gv;split at gv
   ·exact GQ (h o) Lp B7 (G.x.ins.own fl g)
   ·cases gv
  ·rw[if_neg g2];exact GQ (h o) (h v) B7 (G.x.ins.own fl g)
 ·rw[if_neg g];exact cZ
def Qp(c:Ct)(f:Expr->GE)(v:Expr):List Expr->GS
 |[.Name x _]=>(match slot c x with |some i=>if DU v=true/\c.tJ.contains x=true then bG i kE else bG i (f v) |none=>eC)
 |[.Attribute o fl _]=>Qo c f v o fl
 |[.Subscript o i _]=>if DQ i=false then(if Us c o=true then mK (f v) (f o) (f i)else if LD c o=true then ju (f v) (f o) (f i)else Bx (f v) (f o) (f i))else eC
 |[.Tuple es _ _]=>if DT v=false/\LI es v=true/\c.free=true then(match slots c es with |some is=>mI is (f v) |none=>eC)else eC
 |_=>eC
theorem Qq(G:Good c k X)(h:∀e,JE X e (f e))(ha:∀e,Qi X e (f e))(v:Expr)(ts:List Expr)(pos:Pos):JS X (.Assign ts v pos) (Qp c f v ts):=by
 unfold Qp;split
 ·rename_i x p;cases e:slot c x with
  |none=>exact cZ
  |some i=>
   obtain⟨e1,e2⟩:=wg G e;dsimp only;by_cases g:DU v=true/\c.tJ.contains x=true
   ·rw[if_pos g];have gv:=g.1;unfold DU at gv;split at gv
    ·exact zL i (by rw[G.N];exact G.nd) K3 e1 e2.1 rfl e2.2
    ·cases gv
   ·rw[if_neg g];exact ha v i x _ _ (by rw[G.N];exact G.nd) e1 e2.1 e2.2
 ·exact LJ G h v _ _ _ _
 ·rename_i o i p;by_cases g2:DQ i=false
  ·rw[if_pos g2];by_cases gn:Us c o=true
   ·rw[if_pos gn];exact GV (by have:=G.un;omega) (h v) (h o) (h i) sF
   rw[if_neg gn];by_cases gd:LD c o=true
   ·rw[if_pos gd];exact K5 (by have:=G.un;omega) (h v) (h o) (h i) sF
   rw[if_neg gd];refine Kr (h v) (h o) (h i) (by unfold swapsWithSole;exact sF) ?_ rfl ?_
   ·cases v<;>rfl
   ·intro _;cases i<;>first |rfl |cases g2
  ·rw[if_neg g2];exact cZ
 ·rename_i es kk p;by_cases g:DT v=false/\LI es v=true/\c.free=true
  ·rw[if_pos g];cases e1:slots c es with
   |none=>exact cZ
   |some is=>have g2:=g.2.1;refine KG (by rw[G.N];exact G.nd) (G.free g.2.2).2 (ym G e1) (h v) (we g.1) ?_;exact DV g2
  ·rw[if_neg g];exact cZ
 ·exact cZ
def Qr(c:Ct)(f:Expr->GE)(i:Nat)(gb:GS):Expr->GS
 |.Call (.Name x p) [a] [] q=>if fm c x=true then(if plain a=true then mT i (jz f [a]) gb else eC)else ql i (f (.Call (.Name x p) [a] [] q)) gb
 |.Call (.Name x p) [a,b] [] q=>if fm c x=true then(if plain a=true/\plain b=true then vS i (jz f [a,b]) gb else eC)else ql i (f (.Call (.Name x p) [a,b] [] q)) gb
 |.Call (.Name x p) [a,b,d] [] q=>if fm c x=true then(if[a,b,d].all plain=true then si i (jz f [a,b,d]) gb else eC)else ql i (f (.Call (.Name x p) [a,b,d] [] q)) gb
 |e=>if isSet e=false then ql i (f e) gb else eC
theorem Qs(G:Good c k X)(hl:c.loop=true)(h:∀e,JE X e (f e))(hx:slot c x=some i){body:List Stmt}(hb:qK X body gb)(e:Expr)(pos pos':Pos):JS X (.For (.Name x pos') e body [] pos) (Qr c f i gb e):=by
 have nd:X.N.Nodup:=by rw[G.N];exact G.nd
 obtain⟨e1,e2⟩:=wg G hx;have rg:=sC G;unfold Qr;split
 ·rename_i y p a q;by_cases g:fm c y=true
  ·rw[if_pos g];obtain⟨rfl,g2,g3⟩:=rg y g;by_cases ga:plain a=true
   ·rw[if_pos ga];exact FQ i nd (G.loop hl).2 (G.loop hl).1 g2 g3 (fk h [a] (by simp[ga])) hb e1 e2.1 e2.2 (aR ga)
   ·rw[if_neg ga];exact cZ
  ·rw[if_neg g];exact vR i nd (G.loop hl).2 (G.loop hl).1 (h _) hb e1 e2.1 e2.2 (me rfl)
 ·rename_i y p a b q;by_cases g:fm c y=true
  ·rw[if_pos g];obtain⟨rfl,g2,g3⟩:=rg y g;by_cases ga:plain a=true/\plain b=true
   ·rw[if_pos ga];exact FR i nd (G.loop hl).2 (G.loop hl).1 g2 g3 (fk h [a,b] (by simp[ga])) hb e1 e2.1 e2.2 (by rw[aR ga.1,aR ga.2];rfl) (by rw[aR ga.2];rfl)
   ·rw[if_neg ga];exact cZ
  ·rw[if_neg g];exact vR i nd (G.loop hl).2 (G.loop hl).1 (h _) hb e1 e2.1 e2.2 (me rfl)
 ·rename_i y p a b d q;by_cases g:fm c y=true
  ·rw[if_pos g];obtain⟨rfl,g2,g3⟩:=rg y g;by_cases ga:[a,b,d].all plain=true
   ·rw[if_pos ga];have gp:plain a=true/\[b,d].all plain=true:=by rw[dY,dI]at ga;exact ga
    exact Gp i nd (G.loop hl).2 (G.loop hl).1 g2 g3 (fk h [a,b,d] ga) hb e1 e2.1 e2.2 (aR gp.1) (fI gp.2)
   ·rw[if_neg ga];exact cZ
  ·rw[if_neg g];exact vR i nd (G.loop hl).2 (G.loop hl).1 (h _) hb e1 e2.1 e2.2 (me rfl)
 ·by_cases g:isSet e=false
  ·rw[if_pos g];exact vR i nd (G.loop hl).2 (G.loop hl).1 (h _) hb e1 e2.1 e2.2 (me g)
  ·rw[if_neg g];exact cZ
def Hx(c:Ct)(f:Expr->GE)(t:Expr->GT)(b:Ct->List Stmt->GS):Stmt->GS
 |.Return (some e) _=>aN (f e)
 |.Return none _=>aN (gC .non)
 |.Expr e _=>if DT e=false then kD (f e)else eC
 |.If q x y _=>dS (t q) (b c x) (b c y)
 |.Assign ts v _=>Qp c f v ts
 |.For (.Name x _) e body [] _=>if c.loop=true then(match slot c x with |some i=>Qr c f i (b c body) e |none=>eC)else eC
 |_=>eC
theorem Hy(G:Good c k X){b:Ct->List Stmt->GS}(h:∀e,JE X e (f e))(ha:∀e,Qi X e (f e))(ht:∀e,JT X e (t e))(hb:∀c X,Good c k X->∀s,qK X s (b c s))(s:Stmt):JS X s (Hx c f t b s):=by
 unfold Hx;split
 ·exact O5 (h _)
 ·exact Kx
 ·rename_i e p;by_cases g:DT e=false
  ·rw[if_pos g];exact Kq (h _) (we g)
  ·rw[if_neg g];exact cZ
 ·exact TQ (ht _) (hb c X G _) (hb c X G _)
 ·exact Qq G h ha _ _ _
 ·rename_i x p e body q;by_cases g:c.loop=true
  ·rw[if_pos g];cases e1:slot c x with
   |none=>exact cZ
   |some i=>exact Qs G g h e1 (hb c X G body) e _ _
  ·rw[if_neg g];exact cZ
 ·exact cZ
end
def Aj(f:Stmt->GS):List Stmt->GS
 |[]=>aQ
 |[s]=>f s
 |s::s'::r=>aI (f s) (Aj f (s'::r))
theorem yn{X:Cx}{f:Stmt->GS}(h:∀s,JS X s (f s)):∀ss,qK X ss (Aj f ss)
 |[]=>Ko
 |[s]=>Kp (h s)
 |s::s'::r=>Fx (h s) (yn h (s'::r))
def bf:Nat->Ct->List Stmt->GS
 | 0,_=>λ_=>eC
 |n+1,c=>Aj (Hx c (mL 40 c).1 (mL 40 c).2 (bf n))
theorem ll{k:Nat}:∀(n:Nat)(c:Ct)(X:Cx),Good c k X->∀ss:List Stmt,qK X ss (bf n c ss)
 | 0,_,_,_,_=>Dd
 |n+1,c,X,G,ss=>yn (λs=>Hy G (eZ 40 k c X G).1 (Hw 40 c X G) (eZ 40 k c X G).2 (ll n) s) ss
structure LK(K:PySem.W.Frag)(mg:Str->Option aej)(q:Str)(P:aed):Prop where
 tab:jL K q=some P
 code:∃c o vs file tf flags tg Yj text tt,PySem.W.tabIn K q=some (c,P)/\K.lookup c=some o/\o.cls= .type "code"/\o.data= .fields vs/\vs[11]? =some (.ref P)/\vs.getD 11 .none= .ref P/\vs.getD 18 .none= .str file tf/\
  vs.getD 7 .none= .int flags tg/\vs.getD 9 .none= .bool Yj/\vs.getD 10 .none= .int text tt/\c≠P
 mem:q∈cQ
 uniq:∀q',q'∈cQ->jL K q'=some P->q'=q
variable{f:aed}{cdv:aej}
theorem LK.at'{X:Cx}{q:Str}{P:aed}(h:LK X.K X.mg q P)(M:Dz X.K X.mg X.base)(hn:PySem.W.nsIn X.K aet q=some (some (.ref f)))(hc:FE X.K f cdv)(e1:X.env.code=cdv)(e2:X.env.qual=q++".<locals>."):MN X q P:=by
 obtain⟨c,o,vs,file,tf,flags,tg,Yj,text,tt,t,l,r⟩:=h.code;refine⟨⟨c,?_,o,vs,file,tf,flags,tg,Yj,text,tt,M.1.RK _ _ l,r⟩,e2,h.tab,h.mem,h.uniq,M.2⟩
 ·obtain⟨of,lf,fd,d,cd⟩:=hc;rw[e1,<-cd];unfold PySem.W.tabIn at t;rw[hn]at t;dsimp only at t;rw[lf]at t;obtain⟨oc,od,da,sl⟩:=of;dsimp only at d;subst d;dsimp only at t;cases q1:fd.code with
  |ref c2=>
   rw[q1]at t;dsimp only at t;split at t
   ·split at t
    ·cases t;rfl
    ·cases t
   ·cases t
  |_=>rw[q1]at t;cases t
structure mY(c:Ct)(k:Nat)(P:aeh)(w:aek)(K:PySem.W.Frag)(mg:Str->Option aej)(base:Heap):Prop where
 lam:∀p L,c.lam=some (p,L)->PF P w K mg base k p 3 L
 Jc:∀x F,c.Jc.lookup x=some F->FnL P w K mg k c.lj x F
 RY:∀x n F,c.fns.lookup x=some (n,F)->c.Yb.contains x=true->∀base,Dz K mg base->eV P w K mg base c.lj x n F
 at':c.self∈cQ->∃P,LK K mg c.self P
 sk:c.sk<=k
 RZ:∀x n F,c.fns.lookup x=some (n,F)->c.Yc.contains x=true->eV P w K mg base c.lj x n F
 ins:Af c.it k P w K mg base
theorem mY.no(h1:c.lam=none)(h2:c.Jc=[])(h3:c.Yb=[])(h4:c.self="")(h5:c.sk=0:=by rfl)(h6:c.Yc=[]:=by rfl)(h7:Af c.it k P w K mg base:=by exact Af.no):mY c k P w K mg base :=
 ⟨(λp L e=>by rw[h1]at e;cases e),(λx F e=>by rw[h2]at e;cases e),(λx n F _ e=>by rw[h3]at e;cases e),(λe=>by rw[h4]at e;exact absurd e (by decide)),by rw[h5];exact cO _,(λx n F _ e=>by rw[h6]at e;cases e),h7⟩
structure sG(c:Ct)(k:Nat)(P:aeh)(w:aek)(K:PySem.W.Frag)(mg:Str->Option aej)(base:Heap):Prop where
 cst:∀x w,c.consts.lookup x=some w->B0 K mg x w
 bl:∀x,c.bl.contains x=true->mg x=none
 fns:∀x n F,c.fns.lookup x=some (n,F)->eV P w K mg base k x n F
 tab:TabOk K c.tb c.tt c.tc
 cls:∀x,c.clss.contains x=true->∃C,mg x=some (.ref C)/\Ky K x C
 BY:∀x,c.BY.contains x=true->∃C,mg x=some (.ref C)/\ClsAt K x C
 BZ:∀x kvs,c.BZ.lookup x=some kvs->zU K w mg x kvs
 GW:∀x n F,c.GW.contains x=true->c.fns.lookup x=some (n,F)->K9 P w K mg base k x n F
 x:mY c k P w K mg base
variable{st:Stmt}{g:GS}{h:Heap}{ps:List Str}
theorem aP(KX:K.In h)(NS:h.Ns aet mg)(D:bw K x st)(T:sG c k P w K mg base)
  (S:FnScope c.N ps (defScope st))(hn:(defScope st).names=c.names)(hg:bf 30 c (defBody st)=g)
  (hb:∀(kV doc pm:aej)(an:Option aed)(cdv ct:aej)(us:List aej),us.length=ps.length->bindArgs (PySem.W.fnOf x x (defArgs st) (defBody st) (defScope st) .none kV doc pm an cdv ct) ⟨us,[]⟩=pure (ps.zip us))(hM:c.self∈cQ->Dz K mg base/\c.self=x:=by exact λz=>absurd (show("":Str)∈cQ from z) (by decide)):
  eV P w K mg base (k+1) x ps.length (bB c.N.length g):=by
 obtain⟨f,fd,a,F⟩:=D;refine⟨f,fd,ps,?_,PySem.W.mg_of KX NS a,F.kp,F.binds hb⟩;subst hg;refine By F S λcdv Yk A outer s H E hr=>?_;refine ll (k:=k) 30 c _ ⟨rfl,hn,S.nd,qO hr,λ_=>⟨hr,rfl⟩,λ_=>⟨rfl,wj⟩,T.cst,T.bl,T.fns,λ_=>⟨rfl,rfl,rfl⟩,λ_ _=>rfl,S.kind,T.tab,T.cls,T.BY,T.BZ,qa.of hr,T.GW,⟨T.x.lam,T.x.Jc,T.x.RY,λ_ z=>?_,T.x.sk,T.x.RZ,T.x.ins⟩,⟨_,_,_,rfl,rfl,rfl⟩,.inl hr.hd⟩ _;obtain⟨P',L⟩:=T.x.at' z;obtain⟨M,e⟩:=hM z;exact⟨P',LK.at' L M (by rw[e];exact a) Yk rfl (by rw[e];rfl)⟩
theorem LL{fa:aed}(KX:K.In h)(NS:h.Ns aet mg)(hmg:mg "law"=some (.ref fa))(D:bw K "law" st)
  (hp:∀(kV doc pm:aej)(an:Option aed)(cdv ct:aej)(s:aei)(u:aej),BindsTo s (PySem.W.fnOf "law" "law" (defArgs st) (defBody st) (defScope st) .none kV doc pm an cdv ct) ⟨[u],[]⟩ [("script",u)])
  (FN:∀(f:aed)(fd:aef),J4 K "law" "law" st f fd->∀base:Heap,K.In base->base.Ns aet mg->FnOk P w K mg base (CXJ P w) k f fd ["script"] (spW K 1 F)):
  ∃fd:aef,(∀(s:aei)(u:aej),BindsTo s fd ⟨[u],[]⟩ [("script",u)])/\∀base:Heap,K.In base->base.Ns aet mg->FnOk P w K mg base (CXJ P w) k fa fd ["script"] (spW K 1 F):=by
 obtain⟨f,fd,a,Fu⟩:=D;have e:=hmg.symm.trans (PySem.W.mg_of KX NS a);cases e;refine⟨fd,λs u=>?_,FN fa fd Fu⟩;obtain⟨oc,od,kV,doc,pm,an,cdv,ct,osl,rfl,lk,hcd⟩:=Fu.ex;exact hp kV doc pm an cdv ct s u
variable{fd:aef}
theorem Qt(F:J4 K x x st f fd)(T:sG c k P w K mg base)
  (S:FnScope c.N ps (defScope st))(hn:(defScope st).names=c.names)(hg:bf 30 c (defBody st)=g)(hs:c.self∉cQ:=by exact(show("":Str)∉cQ by decide)):FnOk P w K mg base (CXJ P w) (k+1) f fd ps (spW K ps.length (bB c.N.length g)):=by
 subst hg;refine By F S λcdv _ A outer s H E hr=>?_;exact ll (k:=k) 30 c _ ⟨rfl,hn,S.nd,qO hr,λ_=>⟨hr,rfl⟩,λ_=>⟨rfl,wj⟩,T.cst,T.bl,T.fns,λ_=>⟨rfl,rfl,rfl⟩,λ_ _=>rfl,S.kind,T.tab,T.cls,T.BY,T.BZ,qa.of hr,T.GW,⟨T.x.lam,T.x.Jc,T.x.RY,λ_ z=>absurd z hs,T.x.sk,T.x.RZ,T.x.ins⟩,⟨_,_,_,rfl,rfl,rfl⟩,.inl hr.hd⟩ _
def yo(K:PySem.W.Frag)(cl x qual:Str)(st:Stmt):Prop:=∃C f fd,ClsAt K cl C/\Ee K C/\Meth K C x f/\J4 K x qual st f fd
def Hz(K:PySem.W.Frag)(cl qual:Str)(st:Stmt):Prop:=∃C f fd,ClsAt K cl C/\Mk K C f/\J4 K "__init__" qual st f fd
variable{cl qual:Str}{oc:aej}{osl:Array (Option aej)}
theorem Ak{od an:Option aed}{kV doc pm ct:aej}(a:PySem.W.nsIn K aet cl=some (some (.ref C)))(b:Ee K C)(i:PySem.W.findIn K (.ref C) x=some (some (.ref f)))
  (l:K.lookup f=some ⟨oc,od,.func (PySem.W.fnOf x qual (defArgs st) (defBody st) (defScope st) .none kV doc pm an cdv ct),osl⟩)(c:PySem.W.codeIn K cdv qual=true)(k:PySem.W.keepIn K (.ref f)=true)(n:PySem.W.isFn K (.ref f)=true):yo K cl x qual st:=⟨C,f,_,a,b,⟨i,n,k⟩,zC l c k⟩
theorem Qu{od an:Option aed}{kV doc pm ct:aej}(a:PySem.W.nsIn K aet cl=some (some (.ref C)))(b:PySem.W.makesIn K C=true)(kc:PySem.W.keepIn K (.ref C)=true)(i:PySem.W.findIn K (.ref C) "__init__"=some (some (.ref f)))
  (l:K.lookup f=some ⟨oc,od,.func (PySem.W.fnOf "__init__" qual (defArgs st) (defBody st) (defScope st) .none kV doc pm an cdv ct),osl⟩)(c:PySem.W.codeIn K cdv qual=true)(k:PySem.W.keepIn K (.ref f)=true)(n:PySem.W.isFn K (.ref f)=true):Hz K cl qual st:=⟨C,f,_,a,⟨b,i,n,kc⟩,zC l c k⟩
theorem Qv{f:Str}(a:PySem.W.nsIn K aet cl=some (some (.ref C)))(b:Ee K C)(n:PySem.W.findIn K (.ref C) f=some none):Own K cl f:=⟨C,a,b,n⟩
theorem wk(D:yo K cl x qual st)(T:sG c k P w K mg base)
  (S:FnScope c.N ps (defScope st))(hn:(defScope st).names=c.names)(hg:bf 30 c (defBody st)=g)
  (hb:∀(kV doc pm:aej)(an:Option aed)(cdv ct:aej)(us:List aej),us.length=ps.length->bindArgs (PySem.W.fnOf x qual (defArgs st) (defBody st) (defScope st) .none kV doc pm an cdv ct) ⟨us,[]⟩=pure (ps.zip us))(hs:c.self∉cQ:=by exact(show("":Str)∉cQ by decide)):
  tU P w K mg base (k+1) cl x ps.length (bB c.N.length g):=by
 obtain⟨C,f,fd,a,b,d,F⟩:=D;refine⟨C,f,fd,ps,?_,a,b,d,F.binds hb⟩;subst hg;refine By F S λcdv _ A outer s H E hr=>?_;exact ll (k:=k) 30 c _ ⟨rfl,hn,S.nd,qO hr,λ_=>⟨hr,rfl⟩,λ_=>⟨rfl,wj⟩,T.cst,T.bl,T.fns,λ_=>⟨rfl,rfl,rfl⟩,λ_ _=>rfl,S.kind,T.tab,T.cls,T.BY,T.BZ,qa.of hr,T.GW,⟨T.x.lam,T.x.Jc,T.x.RY,λ_ z=>absurd z hs,T.x.sk,T.x.RZ,T.x.ins⟩,⟨_,_,_,rfl,rfl,rfl⟩,.inl hr.hd⟩ _
theorem LM(KX:K.In h)(NS:h.Ns aet mg)(D:Hz K cl qual st)(T:sG c k P w K mg base)
  (S:FnScope c.N ps (defScope st))(hn:(defScope st).names=c.names)(hg:bf 30 c (defBody st)=g)
  (hb:∀(kV doc pm:aej)(an:Option aed)(cdv ct:aej)(us:List aej),us.length=ps.length->bindArgs (PySem.W.fnOf "__init__" qual (defArgs st) (defBody st) (defScope st) .none kV doc pm an cdv ct) ⟨us,[]⟩=pure (ps.zip us))(hs:c.self∉cQ:=by exact(show("":Str)∉cQ by decide)):
  yc P w K mg base (k+2) cl ps.length (bB c.N.length g):=by
 obtain⟨C,f,fd,a,b,F⟩:=D;refine⟨C,f,fd,ps,k+1,aE _,?_,a,PySem.W.mg_of KX NS a,b,F.binds hb⟩;subst hg;refine By F S λcdv _ A outer s H E hr=>?_;exact ll (k:=k) 30 c _ ⟨rfl,hn,S.nd,qO hr,λ_=>⟨hr,rfl⟩,λ_=>⟨rfl,wj⟩,T.cst,T.bl,T.fns,λ_=>⟨rfl,rfl,rfl⟩,λ_ _=>rfl,S.kind,T.tab,T.cls,T.BY,T.BZ,qa.of hr,T.GW,⟨T.x.lam,T.x.Jc,T.x.RY,λ_ z=>absurd z hs,T.x.sk,T.x.RZ,T.x.ins⟩,⟨_,_,_,rfl,rfl,rfl⟩,.inl hr.hd⟩ _
theorem tU.mono{j:Nat}{c:Str}(h:tU P w K mg base j c x n F)(l:j<=k):tU P w K mg base k c x n F:=by obtain⟨C,f,fd,ps,G,r⟩:=h;exact⟨C,f,fd,ps,G.mono l,r⟩
theorem yc.mono{j:Nat}{c:Str}(h:yc P w K mg base j c n F)(l:j<=k):yc P w K mg base k c n F:=by obtain⟨C,f,fd,ps,i,hi,r⟩:=h;exact⟨C,f,fd,ps,i,aV hi l,r⟩
def AllP{α:Type}(P:α->Prop):List α->Prop
 |[]=>True
 |a::l=>P a/\AllP P l
theorem AllP.look{κ β:Type}[BEq κ][LawfulBEq κ]{P:κ×β->Prop}:∀{l:List (κ×β)}{x:κ}{b:β},AllP P l->l.lookup x=some b->P (x,b)
 |[],_,_,_,h=>by cases h
 |(y,c)::l,x,b,a,h=>by
  rw[eG]at h;cases e:x == y with
  |true=>rw[e]at h;cases h;have e':=eq_of_beq e;subst e';exact a.1
  |false=>rw[e]at h;exact AllP.look a.2 h
theorem AllP.mem{P:Str->Prop}:∀{l:List Str}{x:Str},AllP P l->l.contains x=true->P x
 |[],_,_,h=>by cases h
 |y::l,x,a,h=>by
  rw[List.contains_cons,Fw]at h;rcases h with e |h
  ·have e':=eq_of_beq e;subst e';exact a.1
  ·exact AllP.mem a.2 h
theorem n8{c:PySem.Str}{D:aed}(h:ClsAt K c C)(k:ClsAt K c D):C=D:=by unfold ClsAt at h k;rw[h]at k;cases k;rfl
theorem Qw{tb:Tab}{tt:Dj}{tc:Tab}(h:AllP (λp=>∃C D,ClsAt K p.1.1 C/\ClsAt K p.1.2 D/\Kz K C/\PySem.W.kitOne K (.ref C) (.ref D)=some p.2) tb)
  (g:AllP (λp=>∃C,ClsAt K p.1.1 C/\Kz K C/\PySem.W.kitOne K (.ref C) (.type p.1.2)=some p.2) tt)
  (f:AllP (λp=>∃C D,ClsAt K p.1.1 C/\ClsAt K p.1.2 D/\PySem.W.excIn K C RT RU=true/\PySem.W.excIn K D RT RU=true/\PySem.W.mroIn K C (.ref D)=some p.2) tc):TabOk K tb tt tc :=
 ⟨λc d b C D e hC hD=>by
  obtain⟨C',D',q1,q2,r⟩:=AllP.look h e;cases n8 hC q1;cases n8 hD q2;exact r,λc d b C D e hC hD=>by
  obtain⟨C',D',q1,q2,r⟩:=AllP.look f e;cases n8 hC q1;cases n8 hD q2;exact r,λc T b C e hC=>by
  obtain⟨C',q1,r⟩:=AllP.look g e;cases n8 hC q1;exact r⟩
theorem aJ(hc:AllP (λp=>B0 K mg p.1 p.2) c.consts)(hb:AllP (λx=>mg x=none) c.bl)(hf:AllP (λp=>eV P w K mg base k p.1 p.2.1 p.2.2) c.fns)
  (ht:TabOk K c.tb c.tt c.tc)(hk:AllP (λx=>∃C,mg x=some (.ref C)/\Ky K x C) c.clss)(hn:AllP (λx=>∃C,mg x=some (.ref C)/\ClsAt K x C) c.BY)(hd:AllP (λp=>zU K w mg p.1 p.2) c.BZ)
  (hu:AllP (λx=>∀n F,c.fns.lookup x=some (n,F)->K9 P w K mg base k x n F) c.GW:=by exact trivial)(hx:mY c k P w K mg base:=by exact mY.no rfl rfl rfl rfl):sG c k P w K mg base :=
 ⟨λ_ _ h=>hc.look h,λ_ h=>hb.mem h,λx n F h=>hf.look (b:=(n,F)) h,ht,λ_ h=>hk.mem h,λ_ h=>hn.mem h,λx kvs h=>hd.look (b:=kvs) h,λx n F h k=>hu.mem h n F k,hx⟩
theorem lp{t:Ya}(h1:AllP (λp=>tU P w K mg base k t.c p.1 p.2.1 p.2.2) t.BX)(h2:AllP (λp=>yc P w K mg base k p.1 p.2.1 p.2.2) t.ini)(h3:AllP (λf=>Own K t.c f) t.own):Af t k P w K mg base :=
 ⟨λx n F h=>h1.look (b:=(n,F)) h,λx n F h=>h2.look (b:=(n,F)) h,λ_ h=>h3.mem h⟩
def Rs.sq(r:Rs)(h:GS):Rs:=match r with
 |.nx ρ st=>h ρ st
 |r=>r
variable{v x:Wv}{b:Bool}{j:Int}{gr:GA}{ws:List Wv}{l:Nat}
section
variable {α β:Type}{ρ ρ':b7}{st:Hs}{h g ga' gb':GS}{ga gb gc:GE}{gt gu:GT}{w:Wv}{c:PySem.Str}{f:α->Hs->Re β}{k:α->Hs->Rs}{a:α}{i:Nat}
@[simp] theorem aaD:(Rs.nx ρ st).sq h=h ρ st:=rfl
@[simp] theorem aaE:(Rs.rt w st).sq h= .rt w st:=rfl
@[simp] theorem aaF:(Rs.bk ρ st).sq h= .bk ρ st:=rfl
@[simp] theorem aaG:(Rs.ct ρ st).sq h= .ct ρ st:=rfl
@[simp] theorem Yl:(Rs.err c ρ st).sq h= .err c ρ st:=rfl
@[simp] theorem Ym:Rs.bad.sq h= .bad:=rfl
@[simp] theorem wq:(Re.ok a st).bind f=f a st:=rfl
@[simp] theorem Ut:(Re.err c st).bind f= .err c st:=rfl
@[simp] theorem Uu:(Re.bad:Re α).bind f= .bad:=rfl
@[simp] theorem HA:(Re.ok a st).bK ρ k=k a st:=rfl
@[simp] theorem Wa:(Re.err c st:Re α).bK ρ k= .err c ρ st:=rfl
@[simp] theorem HB:(Re.ok a st).pW= .ok a st:=rfl
@[simp] theorem Wb:(Re.bad:Re α).pW= .bad:=rfl
@[simp] theorem Wc:(Re.bad:Re α).bK ρ k= .bad:=rfl
@[simp] theorem yp:aI g h ρ st=(g ρ st).sq h:=by unfold aI Rs.sq;cases g ρ st<;>rfl
@[simp] theorem e_next:aQ ρ st= .nx ρ st:=rfl
@[simp] theorem aaH:aN ga ρ st=(ga ρ st).bK ρ λw st'=> .rt w st':=rfl
@[simp] theorem e_expr:kD ga ρ st=(ga ρ st).bK ρ λ_ st'=> .nx ρ st':=rfl
@[simp] theorem yq:bG i ga ρ st=(ga ρ st).bK ρ λw st'=> .nx (ρ.set i (some w)) st':=rfl
def Yn(ga gb:GS)(ρ:b7):Bool->Hs->Rs:=λb st'=>if b=true then ga ρ st' else gb ρ st'
@[simp] theorem aaI:Yn g h ρ true st=g ρ st:=rfl
@[simp] theorem aaJ:Yn g h ρ false st=h ρ st:=rfl
@[simp] theorem Yo:dS gt g h ρ st=(gt ρ st).bK ρ (Yn g h ρ):=rfl
def rdV(o:Option (Option Wv))(st:Hs):Re Wv:=match o with
 |some (some w)=> .ok w st
 |_=> .bad
@[simp] theorem HC:rdV (some (some w)) st= .ok w st:=rfl
@[simp] theorem yt:ae i ρ st=rdV ρ[i]? st:=rfl
@[simp] theorem e_c:gC w ρ st= .ok w st:=rfl
def kB(op:gU)(gb:GE)(ρ:b7):Wv->Hs->Re Wv:=λx st1=>(gb ρ st1).bind λy st2=>(op x y st2).pW
@[simp] theorem Yp{op:gU}:kB op gb ρ x st=(gb ρ st).bind λy st2=>(op x y st2).pW:=rfl
@[simp] theorem B8{op:gU}:ao op ga gb ρ st=(ga ρ st).bind (kB op gb ρ):=rfl
@[simp] theorem aaL:bu ga ρ st=(ga ρ st).bind RQ:=rfl
@[simp] theorem aaM:RQ (.bl b) st= .ok b st:=rfl
@[simp] theorem aaN:dB ga ρ st=(ga ρ st).bind oR:=rfl
@[simp] theorem Yq:oR (.bl b) st= .ok b st:=rfl
@[simp] theorem aaO:zI gt ρ st=(gt ρ st).bind λb st1=> .ok (!b) st1:=rfl
def Qx(gb:GT)(ρ:b7):Bool->Hs->Re Bool:=λb st1=>if b=true then gb ρ st1 else .ok false st1
@[simp] theorem Yr:Qx gu ρ true st=gu ρ st:=rfl
@[simp] theorem Ys:Qx gu ρ false st= .ok false st:=rfl
@[simp] theorem aaP:Fi gt gu ρ st=(gt ρ st).bind (Qx gu ρ):=rfl
def Yt(gb:GT)(ρ:b7):Bool->Hs->Re Bool:=λb st1=>if b=true then .ok true st1 else gb ρ st1
@[simp] theorem aaQ:Yt gu ρ true st= .ok true st:=rfl
@[simp] theorem aaR:Yt gu ρ false st=gu ρ st:=rfl
@[simp] theorem acy:Eg gt gu ρ st=(gt ρ st).bind (Yt gu ρ):=rfl
def HD(gb:GE)(ρ:b7):Wv->Hs->Re Wv:=λw st1=>match w with
 |.bl true=>gb ρ st1
 |.bl false=> .ok (.bl false) st1
 |_=> .bad
@[simp] theorem Wd:HD gb ρ (.bl true) st=gb ρ st:=rfl
@[simp] theorem We:HD gb ρ (.bl false) st= .ok (.bl false) st:=rfl
@[simp] theorem Yu:uB ga gb ρ st=(ga ρ st).bind (HD gb ρ):=rfl
def Uv:Wv->Hs->Re Wv:=λw st1=>match w with
 |.bl b=> .ok (.bl (!b)) st1
 |_=> .bad
@[simp] theorem Wf:Uv (.bl b) st= .ok (.bl (!b)) st:=rfl
def Qy(ga gb:GE)(ρ:b7):Bool->Hs->Re Wv:=λb st1=>if b=true then ga ρ st1 else gb ρ st1
@[simp] theorem Yv:Qy ga gb ρ true st=ga ρ st:=rfl
@[simp] theorem Yw:Qy ga gb ρ false st=gb ρ st:=rfl
@[simp] theorem aaS:my gt ga gb ρ st=(gt ρ st).bind (Qy ga gb ρ):=rfl
@[simp] theorem HE:aj ρ st= .ok [] st:=rfl
def MV(gr:GA)(ρ:b7):Wv->Hs->Re (List Wv):=λx st1=>(gr ρ st1).bind λxs st2=> .ok (x::xs) st2
@[simp] theorem Wg:MV gr ρ x st=(gr ρ st).bind λxs st2=> .ok (x::xs) st2:=rfl
@[simp] theorem Al:aa ga gr ρ st=(ga ρ st).bind (MV gr ρ):=rfl
def DW:List Wv->Hs->Re Wv:=λws st1=>if ws.length<=lim then .ok (.tup ws) st1 else .bad
theorem wu(hl:ws.length<=lim):DW ws st= .ok (.tup ws) st:=if_pos hl
@[simp] theorem aaT:cT gr ρ st=(gr ρ st).bind DW:=rfl
def sH:List Wv->Hs->Re Wv:=λws st1=>if ws.length<=lim then .ok (.ref st1.length) (st1++[.lst ws])else .bad
theorem jT(hl:ws.length<=lim):sH ws st= .ok (.ref st.length) (st++[.lst ws]):=if_pos hl
@[simp] theorem HF:f9 gr ρ st=(gr ρ st).bind sH:=rfl
section
variable {x x0 x1 x2 x3 x4 x5 x6 x7:Wv}
@[simp] theorem Yx:DW [x0] st= .ok (.tup [x0]) st:=wu (by simp[lim])
@[simp] theorem Yy:DW [x0,x1] st= .ok (.tup [x0,x1]) st:=wu (by simp[lim])
@[simp] theorem Yz:DW [x0,x1,x2] st= .ok (.tup [x0,x1,x2]) st:=wu (by simp[lim])
@[simp] theorem YA:DW [x0,x1,x2,x3] st= .ok (.tup [x0,x1,x2,x3]) st:=wu (by simp[lim])
@[simp] theorem YB:sH [] st= .ok (.ref st.length) (st++[.lst []]):=jT (by simp[lim])
@[simp] theorem YC:sH [x0] st= .ok (.ref st.length) (st++[.lst [x0]]):=jT (by simp[lim])
@[simp] theorem YD:sH [x0,x1] st= .ok (.ref st.length) (st++[.lst [x0,x1]]):=jT (by simp[lim])
@[simp] theorem YE:sH [x0,x1,x2,x3] st= .ok (.ref st.length) (st++[.lst [x0,x1,x2,x3]]):=jT (by simp[lim])
@[simp] theorem YF:sH [x0,x1,x2,x3,x4] st= .ok (.ref st.length) (st++[.lst [x0,x1,x2,x3,x4]]):=jT (by simp[lim])
@[simp] theorem YG:sH [x0,x1,x2,x3,x4,x5] st= .ok (.ref st.length) (st++[.lst [x0,x1,x2,x3,x4,x5]]):=jT (by simp[lim])
@[simp] theorem YH:sH [x0,x1,x2,x3,x4,x5,x6] st= .ok (.ref st.length) (st++[.lst [x0,x1,x2,x3,x4,x5,x6]]):=jT (by simp[lim])
end
def uZ(n:Nat)(F:List Wv->Hs->Re Wv):List Wv->Hs->Re Wv:=λws st1=>if ws.length=n then F ws st1 else .bad
section
variable {F:List Wv->Hs->Re Wv}{x0 x1 x2 x3:Wv}{gr:GA}
@[simp] theorem Wh:uZ 1 F [x0] st=F [x0] st:=rfl
@[simp] theorem Wi:uZ 2 F [x0,x1] st=F [x0,x1] st:=rfl
@[simp] theorem Wj:uZ 3 F [x0,x1,x2] st=F [x0,x1,x2] st:=rfl
@[simp] theorem Wl:uZ 4 F [x0,x1,x2,x3] st=F [x0,x1,x2,x3] st:=rfl
@[simp] theorem Am:aA n F gr ρ st=(gr ρ st).bind (uZ n F):=rfl
@[simp] theorem Wm:ba op gr ρ st=(gr ρ st).bind λws st1=>(op ws st1).pW:=rfl
end
@[simp] theorem acz{op:Wv->Hs->Re Wv}:Bt op ga ρ st=(ga ρ st).bind op:=rfl
@[simp] theorem aaU{i:Int}:iP (.int i) st= .ok (.int (-i)) st:=rfl
@[simp] theorem Uw{i:Int}:de (.int i) (.int j) st= .ok (.int (i+j)) st:=rfl
@[simp] theorem aaV{i:Int}:kY (.int i) (.int j) st= .ok (.int (i - j)) st:=rfl
@[simp] theorem YI:qd x .non st=rV x .non st:=P6
@[simp] theorem acA{i:Int}:oLt (.int i) (.int j) st= .ok (.bl (decide (i < j))) st:=rfl
@[simp] theorem acB{i:Int}:oLe (.int i) (.int j) st= .ok (.bl (decide (i<=j))) st:=rfl
@[simp] theorem acC{i:Int}:Tv (.int i) (.int j) st= .ok (.bl (decide (j < i))) st:=rfl
@[simp] theorem acD{i:Int}:oGe (.int i) (.int j) st= .ok (.bl (decide (j<=i))) st:=rfl
@[simp] theorem acE{i:Int}:oEq (.int i) (.int j) st= .ok (.bl (i == j)) st:=rfl
@[simp] theorem acF{i:Int}:xC (.int i) (.int j) st= .ok (.bl (!(i == j))) st:=rfl
@[simp] theorem acG{i j:PySem.Str}:oEq (.str i) (.str j) st= .ok (.bl (i == j)) st:=rfl
@[simp] theorem acH{i j:PySem.Str}:xC (.str i) (.str j) st= .ok (.bl (!(i == j))) st:=rfl
@[simp] theorem acI{i j:Bool}:oEq (.bl i) (.bl j) st= .ok (.bl (i == j)) st:=by cases i<;>cases j<;>rfl
@[simp] theorem acJ{i j:Bool}:xC (.bl i) (.bl j) st= .ok (.bl (!(i == j))) st:=by cases i<;>cases j<;>rfl
theorem lq{i:Int}(h:j≠0/\j.natAbs.log2 < 9000):fH (.int i) (.int j) st= .ok (.int (i.fdiv j)) st:=by show(if _ then _ else _)=_;rw[if_pos h]
theorem kF{i:Int}(h:j≠0):oMod (.int i) (.int j) st= .ok (.int (i.fmod j)) st:=by show(if _ then _ else _)=_;rw[if_pos h]
theorem yu{i:Int}(h:IntMulOk i j):dO (.int i) (.int j) st= .ok (.int (i * j)) st:=by show(if _ then _ else _)=_;rw[if_pos h]
theorem HG{i:Int}(h1:-(2 ^ 64) < i)(h2:i < 2 ^ 64):dO (.int i) (.int j) st= .ok (.int (i * j)) st:=yu (IntMulOk.of_left (intBits_le_64 h1 h2))
theorem mul_r{i:Int}(h1:-(2 ^ 64) < j)(h2:j < 2 ^ 64):dO (.int i) (.int j) st= .ok (.int (i * j)) st:=yu (IntMulOk.of_right (intBits_le_64 h1 h2))
theorem HH{i:Int}(h:0<=j/\j<=1000000/\i.natAbs < 2 ^ 64):jM (.int i) (.int j) st= .ok (.int (i ^ j.toNat)) st:=by show(if _ then _ else _)=_;rw[if_pos h]
theorem mB{i:Int}(h:aG st l=some ws)(h2:oJ ws i=some v):bq (.ref l) (.int i) st= .ok v st:=by
 show(match aG st l with |some ws=>(match oJ ws i with |some w=>Re.ok w st |none=> .bad) |none=> .bad)=_
 rw[h];dsimp only;rw[h2]
theorem add_l{k:Nat}{xs ys:List Wv}(h1:aG st l=some xs)(h2:aG st k=some ys)(hl:xs.length+ys.length<=lim):de (.ref l) (.ref k) st= .ok (.ref st.length) (st++[.lst (xs++ys)]):=by
 show(match aG st l,aG st k with |some i,some j=>if i.length+j.length<=lim then Re.ok (Wv.ref st.length) (st++[Ob.lst (i++j)])else .bad |_,_=> .bad)=_
 rw[h1,h2];exact if_pos hl
theorem LN{i:Int}(h2:oJ ws i=some v):bq (.tup ws) (.int i) st= .ok v st:=by
 show(match oJ ws i with |some w=>Re.ok w st |none=> .bad)=_
 rw[h2]
end
variable{st st':Hs}{w:Wv}
theorem B9(h:g (ws.map some++aU (n - ws.length) none) st= .rt w st'):bB n g ws st= .ok w st':=by unfold bB;rw[h]
variable{y:Wv}{cat:PySem.Str->Option Bool}{gs:GS}
section
variable {ρ:b7}{st:Hs}{ga gb gc:GE}{gl gh:GO}
def kSl(gl gh:GO)(ρ:b7):Wv->Hs->Re Wv:=λx st1=>(gl ρ st1).bind λlo st2=>(gh ρ st2).bind λhi st3=>Gd x lo hi st3
@[simp] theorem Wn:iQ ga gl gh ρ st=(ga ρ st).bind (kSl gl gh ρ):=rfl
@[simp] theorem aaX:kSl gl gh ρ x st=(gl ρ st).bind λlo st2=>(gh ρ st2).bind λhi st3=>Gd x lo hi st3:=rfl
@[simp] theorem Ux:l9 ρ st= .ok none st:=rfl
def MW:Wv->Hs->Re (Option Int):=λw st1=>match w with
 |.int i=> .ok (some i) st1
 |_=> .bad
@[simp] theorem YJ:pX ga ρ st=(ga ρ st).bind MW:=rfl
@[simp] theorem Wq{i:Int}:MW (.int i) st= .ok (some i) st:=rfl
theorem sI(h:aG st l=some ws):jO [.ref l] st= .ok (.int ws.length) st:=by
 show(match aG st l with |some ws=>Re.ok (Wv.int ws.length) st |none=> .bad)=_
 rw[h]
def YK(op':gU)(gc:GE)(y:Wv)(ρ:b7):Wv->Hs->Re Wv:=λz st3=>match z with
 |.bl true=>(gc ρ st3).bind λu uA=>(op' y u uA).pW
 |.bl false=> .ok (.bl false) st3
 |_=> .bad
def YL(op' Qz:gU)(gc gd:GE)(y:Wv)(ρ:b7):Wv->Hs->Re Wv:=λz st3=>match z with
 |.bl true=>(gc ρ st3).bind λu uA=>(op' y u uA).pW.bind (YK Qz gd u ρ)
 |.bl false=> .ok (.bl false) st3
 |_=> .bad
@[simp] theorem YM{op' Qz:gU}{gd:GE}:YL op' Qz gc gd y ρ (.bl false) st= .ok (.bl false) st:=rfl
def MX(cat:PySem.Str->Option Bool)(gs:GS)(r:Rs):Rs:=match r with
 |.err c ρ' st'=>(match cat c with
  |some true=>(match gs ρ' st' with
   |.nx ρ2 st2=> .nx ρ2 st2
   |.rt w st2=> .rt w st2
   |_=> .bad)
  |_=> .bad)
 |r=>r
@[simp] theorem Uy:MX cat gs (.nx ρ st)= .nx ρ st:=rfl
@[simp] theorem Uz:MX cat gs (.rt w st)= .rt w st:=rfl
end
theorem cX:aG (st++[.lst ws]) st.length=some ws:=by unfold aG;simp
theorem yv(h:aG st l=some ws):l < st.length:=by
 unfold aG at h;cases e:st[l]? with
 |none=>rw[e]at h;cases h
 |some o=>exact(List.getElem?_eq_some_iff.mp e).1
def bL(l:Nat)(st st':Hs):Prop:=st.length<=st'.length/\∀k,k < st.length->k≠l->st'[k]? =st[k]?
theorem bL.refl:bL l st st:=⟨aE _,λ_ _ _=>rfl⟩
theorem bL.trans{a b c:Hs}(h:bL l a b)(k:bL l b c):bL l a c:=⟨aV h.1 k.1,λj h1 h2=>(k.2 j (bT h1 h.1) h2).trans (h.2 j h1 h2)⟩
variable{o:Ob}
theorem bL.push:bL l st (st++[o]):=⟨by simp,λk h _=>f6 h⟩
theorem bL.set:bL l st (st.set l o):=⟨by simp,λk _ h=>bN (λz=>h z.symm)⟩
theorem bL.lst(k:bL l st st'){j:Nat}(h:aG st j=some ws)(hj:j≠l):aG st' j=some ws:=by unfold aG at h ⊢;rw[k.2 j (yv (st:=st) (ws:=ws) (by unfold aG;exact h)) hj];exact h
variable{ga:GA}{ρ:b7}
@[simp] theorem Wu:mT i ga gb ρ st=(ga ρ st).bK ρ λws st1=>match ws with
 |[.int j]=>if dM j then dg i gb (cU 0 j.toNat) ρ st1 else .bad
 |_=> .bad:=rfl
@[simp] theorem Ww:vS i ga gb ρ st=(ga ρ st).bK ρ λws st1=>match ws with
 |[.int a,.int j]=>if dM a/\dM j then dg i gb (cU a (j - a).toNat) ρ st1 else .bad
 |_=> .bad:=rfl
def B_(mt:Wv->Wv->Hs->Re Wv)(ga:GE)(ρ:b7):Wv->Hs->Re Wv:=λo st1=>match o with
 |.ref l=>(match aG st1 l with
  |some _=>(ga ρ st1).bind λv st2=>(mt o v st2).pW
  |none=> .bad)
 |_=> .bad
variable{ga:GE}{mt:Wv->Wv->Hs->Re Wv}
@[simp] theorem QA:k6 mt go ga ρ st=(go ρ st).bind (B_ mt ga ρ):=rfl
theorem mh(h:aG st l=some ws):B_ mt ga ρ (.ref l) st=(ga ρ st).bind λv st2=>(mt (.ref l) v st2).pW:=by
 show(match aG st l with |some _=>(ga ρ st).bind λv st2=>(mt (.ref l) v st2).pW |none=> .bad)=_
 rw[h]
theorem sJ(h:st[l]? =some (.lst ws))(hl:ws.length < lim):iz (.ref l) v st= .ok .non (st.set l (.lst (ws++[v]))):=by
 show(match st[l]? with |some (.lst ws)=>if ws.length < lim then Re.ok Wv.non (st.set l (.lst (ws++[v])))else .bad |_=> .bad)=_
 rw[h];exact if_pos hl
def kFor(i:Nat)(gb:GS)(ρ:b7):Wv->Hs->Rs:=λw st1=>match w with
 |.ref l=>(match aG st1 l with |some ws=>forL i gb l ws ws ρ st1 |none=> .bad)
 |.tup ws=>dg i gb ws ρ st1
 |.rN ws=>dg i gb ws ρ st1
 |_=> .bad
@[simp] theorem aaY:ql i ga gb ρ st=(ga ρ st).bK ρ (kFor i gb ρ):=rfl
theorem wx(h:aG st l=some ws):kFor i gb ρ (.ref l) st=forL i gb l ws ws ρ st:=by
 show(match aG st l with |some ws=>forL i gb l ws ws ρ st |none=> .bad)=_
 rw[h]
@[simp] theorem YN:kFor i gb ρ (.tup ws) st=dg i gb ws ρ st:=rfl
theorem mi{i:Nat}{gb:GS}(P:Nat->b7->Hs->Prop):∀(ws:List Wv)(k:Nat)(ρ:b7)(st:Hs),P k ρ st->
  (∀(j:Nat)(w:Wv),ws[j]? =some w->∀ρ st,P (k+j) ρ st->∃ρ' st',gb (ρ.set i (some w)) st= .nx ρ' st'/\P (k+j+1) ρ' st')->∃ρ' st',dg i gb ws ρ st= .nx ρ' st'/\P (k+ws.length) ρ' st'
 |[],k,ρ,st,h,_=>⟨ρ,st,rfl,h⟩
 |w::r,k,ρ,st,h,step=>by
  obtain⟨ρ1,st1,e1,p1⟩:=step 0 w rfl ρ st h;obtain⟨ρ2,st2,e2,p2⟩:=mi P r (k+1) ρ1 st1 p1 λj w hw ρ st hp=>by
   have e:k+(j+1)=k+1+j:=by omega
   have q:=step (j+1) w hw ρ st (by rw[e];exact hp);rw[e]at q;exact q
  refine⟨ρ2,st2,?_,?_⟩
  ·unfold dg;rw[e1];exact e2
  ·have e:k+(w::r).length=k+1+r.length:=by simp;omega
   rw[e];exact p2
theorem yw{i:Nat}{gb:GS}(P:b7->Hs->Prop):∀(ws:List Wv)(ρ:b7)(st:Hs),P ρ st->
  (∀w∈ws,∀ρ st,P ρ st->∃ρ' st',gb (ρ.set i (some w)) st= .nx ρ' st'/\P ρ' st')->∃ρ' st',dg i gb ws ρ st= .nx ρ' st'/\P ρ' st'
 |[],ρ,st,h,_=>⟨ρ,st,rfl,h⟩
 |w::r,ρ,st,h,step=>by obtain⟨ρ1,st1,e1,p1⟩:=step w bC ρ st h;obtain⟨ρ2,st2,e2,p2⟩:=yw P r ρ1 st1 p1 λw hw=>step w (bb _ hw);refine⟨ρ2,st2,?_,p2⟩;unfold dg;rw[e1];exact e2
variable{i:Int}
@[simp] theorem HI:uG [.int i] st=Pb [.int i] st:=rfl
variable{gt:GT}
@[simp] theorem YO{gi:GI}:k_ cs gi gt ge ρ st=(gi ρ st).bind (gG cs gt ge ρ):=rfl
@[simp] theorem Wx{g:GE}:jR g ρ st=(g ρ st).bind xU:=rfl
variable{g:GA}
@[simp] theorem YQ:KO g ρ st=(g ρ st).bind xS:=rfl
@[simp] theorem YR:F6 g ρ st=(g ρ st).bind BC:=rfl
@[simp] theorem YS:X' g ρ st=(g ρ st).bind MQ:=rfl
theorem QB(h:dM j):xS [.int j] st= .ok (none,cU 0 j.toNat) st:=if_pos h
theorem QC(h:dM i)(k:dM j):BC [.int i,.int j] st= .ok (none,cU i (j - i).toNat) st:=if_pos ⟨h,k⟩
theorem pq(h:aG st l=some ws):xU (.ref l) st= .ok (some l,ws) st:=by
 show(match aG st l with |some ws=>Re.ok (some l,ws) st |none=> .bad)=_
 rw[h]
variable{z:PySem.Str}
@[simp] theorem YT:xU (.str z) st= .ok (none,i8 z) st:=rfl
@[simp] theorem YU:xU (.tup ws) st= .ok (none,ws) st:=rfl
theorem LO{acc:List Wv}(h:acc.length < lim):iz (.ref st.length) v (st++[.lst acc])= .ok .non (st++[.lst (acc++[v])]):=by
 rw[sJ (ws:=acc) (by simp) h]
 congr 1
 simp
theorem mZ{w:Wk}{gt:Wv->Hs->Re Bool}{ge:Wv->Hs->Re Wv}{st:Hs}{t:Wv->Bool}{f:Wv->Wv}(ck:mU w st):∀(ws acc:List Wv),(∀v∈ws,∀acc,gt v (st++[.lst acc])= .ok (t v) (st++[.lst acc]))->
  (∀v∈ws,t v=true->∀acc,ge v (st++[.lst acc])= .ok (f v) (st++[.lst acc]))->acc.length+ws.length < lim->k9 (mU w) gt ge st.length ws (st++[.lst acc])=some (st++[.lst (acc++(ws.filter t).map f)])
 |[],acc,_,_,_=>by simp[k9]
 |v::r,acc,h1,h2,hl=>by
  have hl':acc.length+(r.length+1) < lim:=hl;unfold k9;rw[h1 v bC acc];cases e:t v with
  |false=>dsimp only;rw[if_pos (r9 ck),mZ ck r acc (λv hv=>h1 v (bb _ hv)) (λv hv=>h2 v (bb _ hv)) (by omega),FW (by simp[e])]
  |true=>dsimp only;rw[h2 v bC e acc];dsimp only;rw[LO (by omega)];dsimp only;rw[if_pos (r9 ck),mZ ck r (acc++[f v]) (λv hv=>h1 v (bb _ hv)) (λv hv=>h2 v (bb _ hv)) (by simp;omega),FV e];simp
theorem mj{w:Wk}{t:Wv->Bool}{f:Wv->Wv}(ck:mU w st)(h1:∀v∈w.2,∀acc,gt (some v::kM cs ρ) (st++[.lst acc])= .ok (t v) (st++[.lst acc]))
  (h2:∀v∈w.2,t v=true->∀acc,ge (some v::kM cs ρ) (st++[.lst acc])= .ok (f v) (st++[.lst acc]))(hl:w.2.length < lim):gG cs gt ge ρ w st= .ok (.ref st.length) (st++[.lst ((w.2.filter t).map f)]):=by
 unfold gG;rw[mZ ck w.2 [] h1 h2 (by simpa using hl)];simp
variable{α:Type}
theorem sL{ws:List α}{d:Int}(h0:0<=d)(h1:d < ws.length):∃v,L2.oJ ws d=some v/\v∈ws:=by
 have hk:d.toNat < ws.length:=by omega
 have ek:d=((d.toNat:Nat):Int):=by omega
 refine⟨ws[d.toNat],?_,vX hk⟩;have q:=L2.lW (cA hk);rw[<-ek]at q;exact q
variable{o':Ob}
theorem cC(h:st[l]? =some o):(st.set l o')[l]? =some o':=lT (List.getElem?_eq_some_iff.mp h).1
theorem sM(h:st[l]? =some o):(st++[o'])[l]? =some o:=by rw[f6 (List.getElem?_eq_some_iff.mp h).1];exact h
theorem bF(h:st[l]? =some (.lst ws)):aG st l=some ws:=by unfold aG;rw[h]
theorem cV(h:st[l]? =some o):l < st.length:=(List.getElem?_eq_some_iff.mp h).1
theorem eI:(st++[o])[st.length]? =some o:=by simp
variable{x:PySem.Str}
theorem UA{y:PySem.Str}(h:x.length+y.length<=lim):de (.str x) (.str y) st= .ok (.str (x++y)) st:=by show(if x.length+y.length<=lim then Re.ok (Wv.str (x++y)) st else .bad)=_;rw[if_pos h]
theorem UB(h:z.length<=lim):jO [.str z] st= .ok (.int z.length) st:=by show(if z.length<=lim then Re.ok (Wv.int z.length) st else .bad)=_;rw[if_pos h]
@[simp] theorem aaZ:Km [.int i] st= .ok (.int (if i < 0 then -i else i)) st:=rfl
variable{ns:List Int}
@[simp] theorem MY(h:aG st l=some (ns.map Wv.int)):Dp [.ref l] st= .ok (.int ns.sum) st:=by
 show(match aG st l with |some ws=>(match intsOf ws with |some ns=>Re.ok (Wv.int ns.sum) st |none=> .bad) |none=> .bad)=_
 rw[h];dsimp only;rw[jP]
theorem LP{lo:Int}(h:w∈cU lo n):∃k:Int,w= .int k/\lo<=k/\k < lo+n:=by unfold cU at h;obtain⟨k,hk,rfl⟩:=List.mem_map.mp h;have:=List.mem_range.mp hk;exact⟨lo+k,rfl,by omega,by omega⟩
theorem HJ(h1:-1000000<=i)(h2:i<=1000000):dM i:=⟨by omega,by omega⟩
@[simp] theorem Wy:uZ 0 F [] st=F [] st:=rfl
theorem u5{w:Wk}{gt:Wv->Hs->Re Bool}{ge:Wv->Hs->Re Wv}{rr:Nat}(P:Hs->Prop)(E:Wv->Prop)(hP:∀st acc,P st->P (st.set rr (.lst acc)))(hck:∀st,P st->mU w st):
  ∀(ws:List Wv),(∀v∈ws,∀st acc,P st->st[rr]? =some (.lst acc)->∃st1,gt v st= .ok true st1/\P st1/\st1[rr]? =some (.lst acc)/\∃u st2,ge v st1= .ok u st2/\E u/\P st2/\st2[rr]? =some (.lst acc))->
   ∀(acc:List Wv)(st:Hs),P st->st[rr]? =some (.lst acc)->acc.length+ws.length < lim->(∀a∈acc,E a)->∃st' acc',k9 (mU w) gt ge rr ws st=some st'/\P st'/\st'[rr]? =some (.lst acc')/\(∀a∈acc',E a)/\acc'.length=acc.length+ws.length
 |[],_,acc,st,hp,hg,_,ha=>⟨st,acc,rfl,hp,hg,ha,rfl⟩
 |v::r,step,acc,st,hp,hg,hl,ha=>by
  obtain⟨st1,e1,p1,g1,u,st2,e2,hu,p2,g2⟩:=step v bC st acc hp hg;have hl':acc.length+(r.length+1) < lim:=hl;obtain⟨st3,YV,f1,f2,f3,f4,f5⟩:=u5 P E hP hck r (λv hv=>step v (bb _ hv)) (acc++[u]) (st2.set rr (.lst (acc++[u]))) (hP _ _ p2) (cC g2) (by simp;omega) (by
   intro a h;rcases List.mem_append.mp h with z |z
   ·exact ha a z
   ·simp at z;rw[z];exact hu)
  refine⟨st3,YV,?_,f2,f3,f4,?_⟩
  ·unfold k9;rw[e1];dsimp only;rw[e2];dsimp only;rw[sJ g2 (by omega)];dsimp only;rw[if_pos (hck _ (hP _ _ p2)),f1]
  ·rw[f5];simp;omega
def Gr(st st':Hs):Prop:=st.length<=st'.length/\∀k,k < st.length->st'[k]? =st[k]?
theorem Gr.trans{a b c:Hs}(h:Gr a b)(k:Gr b c):Gr a c:=⟨aV h.1 k.1,λj h1=>(k.2 j (bT h1 h.1)).trans (h.2 j h1)⟩
theorem Gr.push:Gr st (st++[o]):=⟨by simp,λk h=>f6 h⟩
theorem Gr.app{xs:Hs}:Gr st (st++xs):=⟨by simp,λk h=>f6 h⟩
variable{j:Nat}
theorem Gr.lst(k:Gr st st')(h:aG st j=some ws):aG st' j=some ws:=by unfold aG at h ⊢;rw[k.2 j (yv (st:=st) (ws:=ws) (by unfold aG;exact h))];exact h
theorem Gr.get(k:Gr st st')(h:st[j]? =some o):st'[j]? =some o:=by rw[k.2 j (cV h)];exact h
theorem Gr.keep(k:Gr st st'):bL l st st':=⟨k.1,λj h _=>k.2 j h⟩
theorem Gr.pv{s1 s2:Hs}(h:st.length<=l)(g:Gr st s1)(k:bL l s1 s2):Gr st s2:=⟨aV g.1 k.1,λj h1=>(k.2 j (bT h1 g.1) (by omega)).trans (g.2 j h1)⟩
theorem sN{α:Type}(f:α->Wv){i:Nat}{gb:GS}{l:Nat}{all:List Wv}(full:List α)(P:List α->b7->Hs->Prop)
  (step:∀a pre post ρ st,full=pre++a::post->P pre ρ st->aG st l=some all->∃ρ' st',gb (ρ.set i (some (f a))) st= .nx ρ' st'/\aG st' l=some all/\P (pre++[a]) ρ' st'):
  ∀(post pre:List α)(ρ:b7)(st:Hs),full=pre++post->P pre ρ st->aG st l=some all->∃ρ' st',forL i gb l all (post.map f) ρ st= .nx ρ' st'/\P full ρ' st'/\aG st' l=some all
 |[],pre,ρ,st,hf,h,hl=>⟨ρ,st,rfl,by rw[hf];simpa using h,hl⟩
 |a::r,pre,ρ,st,hf,h,hl=>by obtain⟨ρ1,st1,e1,l1,p1⟩:=step a pre r ρ st hf h hl;obtain⟨ρ2,st2,e2,p2,l2⟩:=sN f full P step r (pre++[a]) ρ1 st1 (by rw[hf];simp) p1 l1;refine⟨ρ2,st2,?_,p2,l2⟩;rw[aK];unfold forL;rw[e1];simp only[if_pos l1];exact e2
theorem yx{α:Type}(f:α->Wv){i:Nat}{gb:GS}(full:List α)(P:List α->b7->Hs->Prop)
  (step:∀a pre post ρ st,full=pre++a::post->P pre ρ st->∃ρ' st',gb (ρ.set i (some (f a))) st= .nx ρ' st'/\P (pre++[a]) ρ' st'):
  ∀(post pre:List α)(ρ:b7)(st:Hs),full=pre++post->P pre ρ st->∃ρ' st',dg i gb (post.map f) ρ st= .nx ρ' st'/\P full ρ' st'
 |[],pre,ρ,st,hf,h=>⟨ρ,st,rfl,by rw[hf];simpa using h⟩
 |a::r,pre,ρ,st,hf,h=>by obtain⟨ρ1,st1,e1,p1⟩:=step a pre r ρ st hf h;obtain⟨ρ2,st2,e2,p2⟩:=yx f full P step r (pre++[a]) ρ1 st1 (by rw[hf];simp) p1;refine⟨ρ2,st2,?_,p2⟩;rw[aK];unfold dg;rw[e1];exact e2
theorem MZ:aT (.int i) (.int i)=true:=by simp[aT]
theorem M0:aT (.str x) (.str x)=true:=by simp[aT]
theorem HK{y:PySem.Str}:aT (.tuple [.str x,.str y]) (.tuple [.str x,.str y])=true:=by simp[aT,eF]
theorem HL{x:Wv}{d:PyData}(h1:a_ st 20 x=some d)(h2:a_ st 20 y=some d)(h:aT d d=true):xC x y st= .ok (.bl false) st:=by unfold xC;rw[h1,h2];show Re.ok (Wv.bl (!PyData.eqv d d)) st=_;rw[h];rfl
theorem UC{n:Int}(h:aG st l=some ((n::ns).map Wv.int)):p5 [.ref l] st= .ok (.int (Dq n ns)) st:=by unfold p5;simp only[h,jP]
theorem UD{n:Int}(h:aG st l=some ((n::ns).map Wv.int)):p9 [.ref l] st= .ok (.int (Dr n ns)) st:=by unfold p9;simp only[h,jP]
@[simp] theorem aa0{j:Int}:p5 [.int i,.int j] st= .ok (.int (if j > i then j else i)) st:=rfl
@[simp] theorem aa1{j:Int}:p9 [.int i,.int j] st= .ok (.int (if j < i then j else i)) st:=rfl
theorem UE{a:α}{r:List α}:L2.oJ (a::r) 0=some a:=L2.lW (j:=0) rfl
theorem n9{t:List α}{a:α}:L2.oJ (t++[a]) (-1)=some a:=by
 unfold L2.oJ L2.C2;simp;rw[if_pos (by omega)];have e:(-1+((t.length:Int)+1)).toNat=t.length:=by omega
 simp[e]
def M3(kvs:Dc):Wv->Hs->Re Wv:=λa st1=>match a with
 |.str k=>(match kvs.lookup k with |some w=> .ok w st1 |none=> .bad)
 |_=> .bad
@[simp] theorem YW:BI kvs ga ρ st=(ga ρ st).bind (M3 kvs):=rfl
theorem LQ{k:PySem.Str}(h:kvs.lookup k=some w):M3 kvs (.str k) st= .ok w st:=by
 show(match kvs.lookup k with |some w=>Re.ok w st |none=> .bad)=_
 rw[h]
theorem B':(st++[o]).set st.length o'=st++[o']:=by simp
open PySem L2
theorem tb_none(h1:PySem.W.nsIn K aet "form_of"=some none)(h2:PySem.W.nsIn K aet "formula_by"=some none)(h3:PySem.W.nsIn K aet "turned"=some none)(h4:PySem.W.nsIn K aet "readied_content"=some none)(h5:PySem.W.nsIn K aet "ordered"=some none):vL K H:=λq P hq e=>by
 have no:∀q,PySem.W.nsIn K aet q=some none->jL K q=none:=λq h=>by unfold jL PySem.W.tabIn;rw[h]
 simp only[cQ,fq,h8,or_false]at hq;rcases hq with rfl |rfl |rfl |rfl |rfl
 ·rw[no _ h1]at e;cases e
 ·rw[no _ h2]at e;cases e
 ·rw[no _ h3]at e;cases e
 ·rw[no _ h4]at e;cases e
 ·rw[no _ h5]at e;cases e
theorem u6(us:List aej)(hl:us.length=1)(h:∀a0:aej,bindArgs fd { pos:=[a0] }=pure (ps.zip [a0])):bindArgs fd { pos:=us }=pure (ps.zip us):=match us,hl with |[a0],_=>h a0
theorem ln2(us:List aej)(hl:us.length=2)(h:∀a0 a1:aej,bindArgs fd { pos:=[a0,a1] }=pure (ps.zip [a0,a1])):bindArgs fd { pos:=us }=pure (ps.zip us):=match us,hl with |[a0,a1],_=>h a0 a1
theorem Jd(us:List aej)(hl:us.length=3)(h:∀a0 a1 a2:aej,bindArgs fd { pos:=[a0,a1,a2] }=pure (ps.zip [a0,a1,a2])):bindArgs fd { pos:=us }=pure (ps.zip us):=match us,hl with |[a0,a1,a2],_=>h a0 a1 a2
theorem ln5(us:List aej)(hl:us.length=5)(h:∀a0 a1 a2 a3 a4:aej,bindArgs fd { pos:=[a0,a1,a2,a3,a4] }=pure (ps.zip [a0,a1,a2,a3,a4])):bindArgs fd { pos:=us }=pure (ps.zip us):=match us,hl with |[a0,a1,a2,a3,a4],_=>h a0 a1 a2 a3 a4
variable{w:aek}{x:Str}
theorem eV.mo(h:eV P w K mg base j x n F)(l:j<=k:=by first |decide |omega):eV P w K mg base k x n F:=h.mono l
theorem hdf{st:Stmt}{g:GS}(KX:K.In h)(NS:h.Ns aet mg)(D:bw K x st)(T:sG c k P w K mg base)
  (S:FnScope c.N ps (defScope st))(hg:bf 30 c (defBody st)=g)(hM:c.self∈cQ->Dz K mg base/\c.self=x:=by exact λz=>absurd (show("":Str)∈cQ from z) (by decide))(hn:(defScope st).names=c.names:=by exact rfl)
  (hb:∀(kV doc pm:aej)(an:Option aed)(cdv ct:aej)(us:List aej),us.length=ps.length->bindArgs (PySem.W.fnOf x x (defArgs st) (defBody st) (defScope st) .none kV doc pm an cdv ct) ⟨us,[]⟩=pure (ps.zip us):=by intro _ _ _ _ _ _ us hl;first |exact u6 us hl λ_=>rfl |exact ln2 us hl λ_ _=>rfl |exact Jd us hl λ_ _ _=>rfl |exact ln4 us hl λ_ _ _ _=>rfl |exact ln5 us hl λ_ _ _ _ _=>rfl |exact ln6 us hl λ_ _ _ _ _ _=>rfl |exact ln7 us hl λ_ _ _ _ _ _ _=>rfl):
  eV P w K mg base (k+1) x ps.length (bB c.N.length g):=aP KX NS D T S hn hg hb hM
theorem tk(ht:TabOk K c.tb c.tt c.tc)(hf:AllP (λp=>eV P w K mg base k p.1 p.2.1 p.2.2) c.fns:=by exact trivial)(hc:AllP (λp=>B0 K mg p.1 p.2) c.consts:=by exact trivial)(hb:AllP (λx=>mg x=none) c.bl:=by exact trivial)
  (hk:AllP (λx=>∃C,mg x=some (.ref C)/\Ky K x C) c.clss:=by exact trivial)(hn:AllP (λx=>∃C,mg x=some (.ref C)/\ClsAt K x C) c.BY:=by exact trivial)(hd:AllP (λp=>zU K w mg p.1 p.2) c.BZ:=by exact trivial)
  (hu:AllP (λx=>∀n F,c.fns.lookup x=some (n,F)->K9 P w K mg base k x n F) c.GW:=by exact trivial)(hx:mY c k P w K mg base:=by exact mY.no rfl rfl rfl rfl):sG c k P w K mg base:=aJ hc hb hf ht hk hn hd hu hx
end J
namespace K20
open PySem J
open L2 (defScope defBody defArgs FnScope CX0 FnOk XK Hp)
def top (i:Nat):Stmt:=PySem.Challenge.pw_onelook_k20_whole_a_look_hangs_on_its_re.main.body.getD i (.Pass ⟨0,0,0,0⟩)
def mx:Tab:=[]
def jA:Dj:=[]
def gH:Dc:=[("num",.int 0),("text",.int 0),("lost",.int 0),("at",.int 0),("minus",.int 1),("not",.int 1),("+",.int 2),("-",.int 2),("*",.int 2),("/",.int 2),("&",.int 2),("<",.int 2),("=",.int 2),("rest",.int 2),("if",.int 3),("else",.int 2),("sum",.int 0),("count",.int 0),("least",.int 0),("greatest",.int 0),("find",.int 1)]
def yy:Tab:=[]
def cB(s:Stmt)(n b:List Str)(f:List (Str×Nat×(List Wv->Hs->Re Wv))):Ct:={ N:=n,names:=(defScope s).names,consts:=[],bl:=b,fns:=f,tb:=mx,tt:=jA,tc:=yy }
theorem iB{N P:List Str}{sc:Scope}(h:sc.kind= .function/\sc.isCoroutine=false/\sc.isGenerator=false/\N.take P.length=P)(k:N.Nodup/\(∀x∈P,sc.names.lookup x=some .local\/sc.names.lookup x=some .cell)/\∀y∈sc.names,y.2≠.free):FnScope N P sc:=⟨h.1,h.2.1,h.2.2.1,k.1,h.2.2.2,k.2.1,k.2.2⟩
abbrev fR:Stmt:=top 35
def iC:GS:=(aI (dS (bu (ao oLt (ae 1) (ba jO (aa (ae 0) aj)))) (aN (ao bq (ae 0) (ae 1))) aQ)
  (aN (gC (.int 0))))
def bR:List Wv->Hs->Re Wv:=bB 2 iC
def iD:Ct:=cB fR ["script","k"] ["len"] []
theorem sO:bf 30 (iD) (defBody fR)=iC:=by kernel_rfl
theorem qr:FnScope (iD).N ["script","k"] (defScope fR):=iB ⟨rfl,rfl,rfl,rfl⟩ (by decide+kernel)
abbrev iT:Stmt:=top 46
def lr:GS:=(aI (bG 1 (ao fH (aA 2 bR (aa (ae 0) (aa (gC (.int 0)) aj))) (gC (.int 2))))
  (aI (bG 2 (ao bq (f9 (aa (gC (.int 0)) (aa (ao oMod (ao fH (ae 1) (gC (.int 4))) (gC (.int 97))) aj))) (ao oMod (ae 1) (gC (.int 2)))))
  (aN (cT (aa (ae 2) (aa (ao bq (f9 (aa (gC (.int 0)) (aa (ao oMod (ao fH (ae 1) (gC (.int 400))) (gC (.int 23))) aj))) (ao oMod (ao fH (ae 1) (gC (.int 2))) (gC (.int 2)))) aj))))))
def gQ:List Wv->Hs->Re Wv:=bB 3 lr
def lu:Ct:=cB iT ["script","first","down"] [] [("_law_cell_at",2,bR)]
theorem yz:bf 30 (lu) (defBody iT)=lr:=by kernel_rfl
theorem wy:FnScope (lu).N ["script"] (defScope iT):=iB ⟨rfl,rfl,rfl,rfl⟩ (by decide+kernel)
abbrev h_:Stmt:=top 38
def jU:GS:=(aI (bG 2 (ao oMod (ao bq (ae 0) (gC (.int 0))) (ae 1)))
  (aI (Bx (ao fH (ao bq (ae 0) (gC (.int 0))) (ae 1)) (ae 0) (gC (.int 0)))
  (aN (ae 2))))
def aB:List Wv->Hs->Re Wv:=bB 3 jU
def jV:Ct:=cB h_ ["row","many","digit"] [] []
theorem wz:bf 30 (jV) (defBody h_)=jU:=by kernel_rfl
theorem tW:FnScope (jV).N ["row","many"] (defScope h_):=iB ⟨rfl,rfl,rfl,rfl⟩ (by decide+kernel)
abbrev ie:Stmt:=top 48
def jW:GS:=(aI (bG 1 (aA 2 aB (aa (ae 0) (aa (gC (.int 8)) aj))))
  (aI (dS (bu (ao oEq (ae 1) (gC (.int 0)))) (aN (gC .non)) aQ)
  (aI (dS (bu (ao oEq (ae 1) (gC (.int 1)))) (aN (cT (aa (gC (.str "fault")) (aa (ao bq (f9 (aa (gC (.str "kind")) (aa (gC (.str "great")) (aa (gC (.str "nought")) (aa (gC (.str "none")) (aa (gC (.str "lost")) aj)))))) (aA 2 aB (aa (ae 0) (aa (gC (.int 5)) aj)))) aj)))) aQ)
  (aI (dS (bu (ao oEq (ae 1) (gC (.int 2)))) (aN (ao bq (f9 (aa (gC (.str "")) (aa (gC (.str "a")) (aa (gC (.str "b7")) (aa (gC (.str "no")) (aa (ao dO (gC (.str "a")) (gC (.int 199))) (aa (gC (.str "-1")) aj))))))) (aA 2 aB (aa (ae 0) (aa (gC (.int 6)) aj))))) aQ)
  (aI (dS (bu (ao oEq (ae 1) (gC (.int 3)))) (aN (ao kY (aA 2 aB (aa (ae 0) (aa (ao de (ao dO (gC (.int 2)) (ao jM (gC (.int 10)) (gC (.int 60)))) (gC (.int 1))) aj))) (ao jM (gC (.int 10)) (gC (.int 60))))) aQ)
  (aI (dS (bu (ao oEq (ae 1) (gC (.int 4)))) (aN (ao bq (f9 (aa (ao jM (gC (.int 10)) (gC (.int 60))) (aa (Bt iP (ao jM (gC (.int 10)) (gC (.int 60)))) (aa (ao jM (gC (.int 10)) (gC (.int 30))) (aa (ao kY (gC (.int 1)) (ao jM (gC (.int 10)) (gC (.int 60)))) aj))))) (aA 2 aB (aa (ae 0) (aa (gC (.int 4)) aj))))) aQ)
  (aN (ao kY (aA 2 aB (aa (ae 0) (aa (gC (.int 7)) aj))) (gC (.int 3))))))))))
def dD:List Wv->Hs->Re Wv:=bB 2 jW
def jX:Ct:=cB ie ["row","way"] [] [("_law_digit",2,aB)]
theorem wA:bf 30 (jX) (defBody ie)=jW:=by kernel_rfl
theorem tX:FnScope (jX).N ["row"] (defScope ie):=iB ⟨rfl,rfl,rfl,rfl⟩ (by decide+kernel)
abbrev ig:Stmt:=top 36
def jY:GS:=(aI (bG 2 (ao oMod (ao dO (ao de (ao de (ao oMod (ae 0) (gC (.int 1000000007))) (ao dO (gC (.int 7919)) (ae 1))) (gC (.int 1))) (gC (.int 48271))) (gC (.int 2147483647))))
  (aN (ao oMod (ao dO (ao oMod (ao dO (ae 2) (ae 2)) (gC (.int 2147483629))) (gC (.int 69621))) (gC (.int 2147483647)))))
def fS:List Wv->Hs->Re Wv:=bB 3 jY
def jZ:Ct:=cB ig ["cell","k","stir"] [] []
theorem wB:bf 30 (jZ) (defBody ig)=jY:=by kernel_rfl
theorem tY:FnScope (jZ).N ["cell","k"] (defScope ig):=iB ⟨rfl,rfl,rfl,rfl⟩ (by decide+kernel)
abbrev gI:Stmt:=top 37
def eJ:GS:=(aI (bG 5 (aA 2 fS (aa (ao de (ae 2) (ba Dp (aa (ae 0) aj))) (aa (ao de (ao dO (gC (.int 8)) (ae 1)) (ae 3)) aj))))
  (bG 4 (ao de (ao dO (ae 4) (gC (.int 2147483647))) (ae 5))))
def cI:GS:=(bG 2 (ao de (ao dO (ae 2) (ao jM (gC (.int 10)) (gC (.int 60)))) (ao oMod (ao bq (ae 0) (ae 3)) (ao jM (gC (.int 10)) (gC (.int 60))))))
def i_:GS:=(aI (bG 2 (gC (.int 0)))
  (aI (si 3 (aa (ao de (ae 1) (gC (.int 1))) (aa (ba jO (aa (ae 0) aj)) (aa (gC (.int 13)) aj))) cI)
  (aI (dS (bu (ao oEq (ao oMod (aA 2 bR (aa (ae 0) (aa (gC (.int 0)) aj))) (gC (.int 2))) (gC (.int 1)))) (aN (f9 (aa (ae 2) aj))) aQ)
  (aI (bG 4 (gC (.int 0)))
  (aI (mT 3 (aa (gC (.int 8)) aj) eJ)
  (aN (f9 (aa (ao fH (ae 4) (gC (.int 8))) aj))))))))
def b8:List Wv->Hs->Re Wv:=bB 6 i_
def ja:Ct:=cB gI ["script","k","cell","j","found","drawn"] ["range","len","sum"] [("_law_mixed",2,fS),("_law_cell_at",2,bR)]
theorem tZ:bf 30 (ja) (defBody gI)=i_:=by kernel_rfl
theorem sP:FnScope (ja).N ["script","k"] (defScope gI):=iB ⟨rfl,rfl,rfl,rfl⟩ (by decide+kernel)
abbrev ij:Stmt:=top 49
def cm:GS:=(aI (bG 6 (cT (aa (ao de (ao bq (ae 1) (gC (.int 0))) (ao fH (ae 5) (gC (.int 4)))) (aa (ao de (ao bq (ae 1) (gC (.int 1))) (ao oMod (ae 5) (gC (.int 4)))) aj))))
  (aI (bG 7 (aA 1 dD (aa (ae 2) aj)))
  (dS (bu (ao oEq (aA 2 aB (aa (ae 2) (aa (gC (.int 6)) aj))) (gC (.int 0)))) (kD (k6 iz (ae 4) (ae 6))) (dS (Eg (bu (ao qd (ae 7) (gC .non))) (bu (ao oEq (aA 2 aB (aa (ae 2) (aa (gC (.int 2)) aj))) (gC (.int 0))))) (ju (ae 7) (ae 3) (ae 6)) aQ))))
def j6:GS:=(aI (bG 2 (f9 (aa (ao de (ao bq (aA 2 b8 (aa (ae 0) (aa (gC (.int 40)) aj))) (gC (.int 0))) (ao oMod (aA 2 bR (aa (ae 0) (aa (gC (.int 2)) aj))) (ao jM (gC (.int 10)) (gC (.int 60))))) aj)))
  (aI (bG 3 kE)
  (aI (bG 4 (f9 aj))
  (aI (mT 5 (aa (gC (.int 12)) aj) cm)
  (aN (cT (aa (ae 3) (aa (ae 4) aj))))))))
def dE:List Wv->Hs->Re Wv:=bB 8 j6
def j7:Ct:={ cB ij ["script","spot","row","worths","waiting","k","place","worth"] ["range"] [("_law_worth",1,dD),("_law_digit",2,aB),("_law_stream",2,b8),("_law_cell_at",2,bR)]with tJ:=["worths"] }
theorem wC:bf 30 (j7) (defBody ij)=j6:=by kernel_rfl
theorem t8:FnScope (j7).N ["script","spot"] (defScope ij):=iB ⟨rfl,rfl,rfl,rfl⟩ (by decide+kernel)
abbrev iU:Stmt:=top 40
def lx:GS:=(aI (bG 2 (aA 2 aB (aa (ae 0) (aa (gC (.int 3)) aj))))
  (aI (bG 3 (aA 2 aB (aa (ae 0) (aa (gC (.int 4)) aj))))
  (aI (bG 4 (ao de (ae 2) (aA 2 aB (aa (ae 0) (aa (ao kY (gC (.int 3)) (ae 2)) aj)))))
  (aI (bG 5 (ao de (ae 3) (aA 2 aB (aa (ae 0) (aa (ao kY (gC (.int 4)) (ae 3)) aj)))))
  (aI (mI [6,7] (ae 1))
  (aN (cT (aa (ao de (ae 6) (ae 2)) (aa (ao de (ae 7) (ae 3)) (aa (ao de (ae 6) (ae 4)) (aa (ao de (ae 7) (ae 5)) aj)))))))))))
def dy:List Wv->Hs->Re Wv:=bB 8 lx
def lz:Ct:=cB iU ["row","spot","top","left","bottom","right","down","across"] [] [("_law_digit",2,aB)]
theorem yA:bf 30 (lz) (defBody iU)=lx:=by kernel_rfl
theorem wF:FnScope (lz).N ["row","spot"] (defScope iU):=iB ⟨rfl,rfl,rfl,rfl⟩ (by decide+kernel)
abbrev iV:Stmt:=top 41
def gX:GT:=(λ_ st=> .ok true st)
def fu:GE:=(aA 2 aB (aa (ae 1) (aa (gC (.int 2)) aj)))
def lB:GS:=(aN (ba jq (aa (k_ [("row",0)] (KO (aa (ae 1) aj)) gX fu) aj)))
def b9:List Wv->Hs->Re Wv:=bB 2 lB
def lC:Ct:=cB iV ["row","many"] ["tuple","range"] [("_law_digit",2,aB)]
theorem yB:bf 30 (lC) (defBody iV)=lB:=by kernel_rfl
theorem wG:FnScope (lC).N ["row","many"] (defScope iV):=iB ⟨rfl,rfl,rfl,rfl⟩ (by decide+kernel)
abbrev gJ:Stmt:=top 42
def jb:GS:=(aI (dS (bu (ao oEq (aA 2 aB (aa (ae 0) (aa (gC (.int 5)) aj))) (gC (.int 0)))) (aN (ao kY (ao jM (gC (.int 10)) (gC (.int 60))) (aA 2 aB (aa (ae 0) (aa (gC (.int 3)) aj))))) aQ)
  (aN (aA 2 aB (aa (ae 0) (aa (gC (.int 6)) aj)))))
def e_:List Wv->Hs->Re Wv:=bB 1 jb
def jc:Ct:=cB gJ ["row"] [] [("_law_digit",2,aB)]
theorem t9:bf 30 (jc) (defBody gJ)=jb:=by kernel_rfl
theorem sQ:FnScope (jc).N ["row"] (defScope gJ):=iB ⟨rfl,rfl,rfl,rfl⟩ (by decide+kernel)
abbrev il:Stmt:=top 39
def j8:GS:=(aN (cT (aa (ao de (ao bq (ae 1) (gC (.int 0))) (aA 2 aB (aa (ae 0) (aa (gC (.int 3)) aj)))) (aa (ao de (ao bq (ae 1) (gC (.int 1))) (aA 2 aB (aa (ae 0) (aa (gC (.int 4)) aj)))) aj))))
def dF:List Wv->Hs->Re Wv:=bB 2 j8
def j9:Ct:=cB il ["row","spot"] [] [("_law_digit",2,aB)]
theorem wH:bf 30 (j9) (defBody il)=j8:=by kernel_rfl
theorem t_:FnScope (j9).N ["row","spot"] (defScope il):=iB ⟨rfl,rfl,rfl,rfl⟩ (by decide+kernel)
abbrev iW:Stmt:=top 43
def lD:GS:=(aI (bG 2 (aA 2 aB (aa (ae 0) (aa (gC (.int 8)) aj))))
  (aI (dS (bu (ao oEq (ae 2) (gC (.int 0)))) (aN (cT (aa (gC (.str "num")) (aa (aA 1 e_ (aa (ae 0) aj)) aj)))) aQ)
  (aI (dS (bu (ao oEq (ae 2) (gC (.int 1)))) (aN (cT (aa (gC (.str "text")) (aa (ao bq (f9 (aa (gC (.str "")) (aa (gC (.str "a")) (aa (gC (.str "b7")) (aa (gC (.str "no")) aj))))) (aA 2 aB (aa (ae 0) (aa (gC (.int 4)) aj)))) aj)))) aQ)
  (aI (dS (Fi (bu (ao oEq (ae 2) (gC (.int 2)))) (bu (ao oEq (aA 2 aB (aa (ae 0) (aa (gC (.int 3)) aj))) (gC (.int 0))))) (aN (cT (aa (gC (.str "lost")) aj))) aQ)
  (aI (dS (bu (ao oLt (ae 2) (gC (.int 6)))) (aN (cT (aa (gC (.str "at")) (aa (aA 2 dF (aa (ae 0) (aa (ae 1) aj))) (aa (aA 2 b9 (aa (ae 0) (aa (gC (.int 2)) aj))) aj))))) aQ)
  (aI (bG 3 (ao bq (f9 (aa (gC (.str "sum")) (aa (gC (.str "count")) (aa (gC (.str "least")) (aa (gC (.str "greatest")) aj))))) (aA 2 aB (aa (ae 0) (aa (gC (.int 4)) aj)))))
  (aI (bG 4 (aA 2 dy (aa (ae 0) (aa (ae 1) aj))))
  (aN (cT (aa (ae 3) (aa (ae 4) (aa (aA 2 b9 (aa (ae 0) (aa (gC (.int 4)) aj))) aj))))))))))))
def fJ:List Wv->Hs->Re Wv:=bB 5 lD
def lE:Ct:=cB iW ["row","spot","way","word","area"] [] [("_law_digit",2,aB),("_law_area",2,dy),("_law_pins",2,b9),("_law_number",1,e_),("_law_place",2,dF)]
theorem yC:bf 30 (lE) (defBody iW)=lD:=by kernel_rfl
theorem wI:FnScope (lE).N ["row","spot"] (defScope iW):=iB ⟨rfl,rfl,rfl,rfl⟩ (by decide+kernel)
abbrev fT:Stmt:=top 44
def fU(aW:List Wv->Hs->Re Wv):GS:=(aI (dS (bu (ao oEq (ae 2) (gC (.int 0)))) (aN (aA 2 fJ (aa (ae 0) (aa (ae 1) aj)))) aQ)
  (aI (bG 3 (aA 2 aB (aa (ae 0) (aa (gC (.int 16)) aj))))
  (aI (dS (bu (ao oLt (ae 3) (gC (.int 3)))) (aN (aA 2 fJ (aa (ae 0) (aa (ae 1) aj)))) aQ)
  (aI (bG 4 (aA 3 aW (aa (ae 0) (aa (ae 1) (aa (ao kY (ae 2) (gC (.int 1))) aj)))))
  (aI (dS (bu (ao oLt (ae 3) (gC (.int 5)))) (aN (cT (aa (ao bq (f9 (aa (gC (.str "minus")) (aa (gC (.str "not")) aj))) (ao kY (ae 3) (gC (.int 3)))) (aa (ae 4) aj)))) aQ)
  (aI (dS (bu (ao oEq (ae 3) (gC (.int 5)))) (aN (cT (aa (gC (.str "find")) (aa (ae 4) (aa (aA 2 dy (aa (ae 0) (aa (ae 1) aj))) (aa (aA 2 b9 (aa (ae 0) (aa (gC (.int 4)) aj))) aj)))))) aQ)
  (aI (bG 5 (aA 3 aW (aa (ae 0) (aa (ae 1) (aa (ao kY (ae 2) (gC (.int 1))) aj)))))
  (aI (dS (bu (ao oLt (ae 3) (gC (.int 8)))) (aN (cT (aa (gC (.str "if")) (aa (ae 4) (aa (ae 5) (aa (aA 3 aW (aa (ae 0) (aa (ae 1) (aa (ao kY (ae 2) (gC (.int 1))) aj)))) aj)))))) aQ)
  (aI (dS (bu (ao oEq (ae 3) (gC (.int 15)))) (aN (cT (aa (ao bq (f9 (aa (gC (.str "=")) (aa (gC (.str "&")) aj))) (aA 2 aB (aa (ae 0) (aa (gC (.int 2)) aj)))) (aa (ae 4) (aa (ae 5) aj))))) aQ)
  (aN (cT (aa (ao bq (f9 (aa (gC (.str "else")) (aa (gC (.str "rest")) (aa (gC (.str "+")) (aa (gC (.str "-")) (aa (gC (.str "*")) (aa (gC (.str "/")) (aa (gC (.str "<")) aj)))))))) (ao kY (ae 3) (gC (.int 8)))) (aa (ae 4) (aa (ae 5) aj))))))))))))))
def lF(aW:List Wv->Hs->Re Wv):Ct where
  N:=["row","spot","deep","way","one","other"]
  names:=(defScope fT).names
  consts:=[]
  bl:=[]
  fns:=[("_law_digit",2,aB),("_law_formula",3,aW),("_law_leaf",2,fJ),("_law_area",2,dy),("_law_pins",2,b9)]
  tb:=mx
  tt:=jA
  tc:=yy
theorem sR(aW:List Wv->Hs->Re Wv):bf 30 (lF aW) (defBody fT)=fU aW:=by kernel_rfl
theorem qu(aW:List Wv->Hs->Re Wv):FnScope ["row","spot","deep","way","one","other"] ["row","spot","deep"] (defScope fT):=iB ⟨rfl,rfl,rfl,rfl⟩ (by decide+kernel)
def kG:Nat->(List Wv->Hs->Re Wv)
  | 0=>zX
  |n+1=>bB 6 (fU ((kG n)))
def b_(n:Nat):List Wv->Hs->Re Wv:=(kG n)
theorem mC(n:Nat):b_ (n+1)=bB 6 (fU (b_ n)):=rfl
def aW:List Wv->Hs->Re Wv:=b_ 6
abbrev eK:Stmt:=L2.inClass (top 22) 0
def f_:GS:=(aI (mJ "Look" "worths" (ae 1) (ae 0))
  (aI (mJ "Look" "waiting" (ae 2) (ae 0))
  (mJ "Look" "met" BV (ae 0))))
def bV:List Wv->Hs->Re Wv:=bB 3 f_
def f':Ct:={ cB eK ["self","worths","waiting"] [] []with it:={ c:="Look",BX:=[],ini:=[],own:=["worths","waiting","met"] },MT:=["met"] }
theorem pz:bf 30 (f') (defBody eK)=f_:=by kernel_rfl
theorem n_:FnScope (f').N ["self","worths","waiting"] (defScope eK):=iB ⟨rfl,rfl,rfl,rfl⟩ (by decide+kernel)
abbrev iX:Stmt:=top 4
def lG:GS:=(aN (BI gH (ae 0)))
def gR:List Wv->Hs->Re Wv:=bB 1 lG
def lH:Ct:={ cB iX ["word"] [] []with BZ:=[("PART_COUNTS",gH)] }
theorem yD:bf 30 (lH) (defBody iX)=lG:=by kernel_rfl
theorem wJ:FnScope (lH).N ["word"] (defScope iX):=iB ⟨rfl,rfl,rfl,rfl⟩ (by decide+kernel)
abbrev j_:Stmt:=top 5
def m6:GS:=(aN (iQ (ae 0) (pX (gC (.int 1))) (pX (ao de (gC (.int 1)) (aA 1 gR (aa (ao bq (ae 0) (gC (.int 0))) aj))))))
def cq:List Wv->Hs->Re Wv:=bB 1 m6
def m7:Ct:=cB j_ ["formula"] [] [("part_many",1,gR)]
theorem An:bf 30 (m7) (defBody j_)=m6:=by kernel_rfl
theorem yE:FnScope (m7).N ["formula"] (defScope j_):=iB ⟨rfl,rfl,rfl,rfl⟩ (by decide+kernel)
abbrev eL:Stmt:=top 1
def eD:GT:=(λ_ st=> .ok true st)
def c9:GE:=(cT (aa (ae 1) (aa (ae 0) aj)))
def di:GS:=(kD (k6 xZ (ae 1) (k_ [("row",2)] (F6 (aa (ao bq (ae 0) (gC (.int 1))) (aa (ao de (ao bq (ae 0) (gC (.int 3))) (gC (.int 1))) aj))) eD c9)))
def eM:GS:=(aI (bG 1 (f9 aj))
  (aI (vS 2 (aa (ao bq (ae 0) (gC (.int 0))) (aa (ao de (ao bq (ae 0) (gC (.int 2))) (gC (.int 1))) aj)) di)
  (aN (ae 1))))
def bW:List Wv->Hs->Re Wv:=bB 3 eM
def gj:Ct:=cB eL ["area","places","row"] ["range"] []
theorem pA:bf 30 (gj) (defBody eL)=eM:=by kernel_rfl
theorem oe:FnScope (gj).N ["area"] (defScope eL):=iB ⟨rfl,rfl,rfl,rfl⟩ (by decide+kernel)
abbrev eN:Stmt:=L2.inClass (top 22) 1
def gm:GS:=(aN (my (bu (ao (qq false) (ae 1) (jw "Look" "waiting" (ae 0)))) (cT (aa (gC (.str "waits")) (aa (ae 1) aj))) (mX (jw "Look" "worths" (ae 0)) (ae 1))))
def bD:List Wv->Hs->Re Wv:=bB 2 gm
def gw:Ct:={ cB eN ["self","place"] [] []with tJ:=["worths","waiting"],it:={ c:="Look",BX:=[],ini:=[],own:=["worths","waiting"] },Uj:=["waiting"] }
theorem pB:bf 30 (gw) (defBody eN)=gm:=by kernel_rfl
theorem og:FnScope (gw).N ["self","place"] (defScope eN):=iB ⟨rfl,rfl,rfl,rfl⟩ (by decide+kernel)
abbrev qP:Stmt:=top 23
def Ca:GS:=(aN (ba (nR mx jA) (aa (ae 0) (aa (gC (.ty "tuple")) aj))))
def cg:List Wv->Hs->Re Wv:=bB 1 Ca
def wK:Ct:=cB qP ["standing"] ["isinstance","tuple"] []
theorem LR:bf 30 (wK) (defBody qP)=Ca:=by kernel_rfl
theorem HM:FnScope (wK).N ["standing"] (defScope qP):=iB ⟨rfl,rfl,rfl,rfl⟩ (by decide+kernel)
abbrev ke:Stmt:=top 9
def sS:GS:=(aN (uB (ba (nR mx jA) (aa (ae 0) (aa (gC (.ty "tuple")) aj))) (ao oEq (iQ (ae 0) l9 (pX (gC (.int 1)))) (cT (aa (gC (.str "fault")) aj)))))
def aX:List Wv->Hs->Re Wv:=bB 1 sS
def m8:Ct:=cB ke ["worth"] ["isinstance","tuple"] []
theorem Ao:bf 30 (m8) (defBody ke)=sS:=by kernel_rfl
theorem yF:FnScope (m8).N ["worth"] (defScope ke):=iB ⟨rfl,rfl,rfl,rfl⟩ (by decide+kernel)
abbrev ip:Stmt:=top 12
def oh:GS:=(aI (dS (Eg (dB (aA 1 aX (aa (ae 0) aj))) (dB (aA 1 aX (aa (ae 1) aj)))) (aN (gC (.bl false))) aQ)
  (aI (dS (bu (ao Ke (ae 0) (gC .non))) (aN (ao Ge (ae 1) (cT (aa (gC .non) (aa (gC (.int 0)) (aa (gC (.str "")) aj)))))) aQ)
  (aI (dS (bu (ao Ke (ae 1) (gC .non))) (aN (ao Ge (ae 0) (cT (aa (gC (.int 0)) (aa (gC (.str "")) aj))))) aQ)
  (aN (ao oEq (ae 0) (ae 1))))))
def eO:List Wv->Hs->Re Wv:=bB 2 oh
def kf:Ct:=cB ip ["one","other"] [] [("is_fault",1,aX)]
theorem wL:bf 30 (kf) (defBody ip)=oh:=by kernel_rfl
theorem ua:FnScope (kf).N ["one","other"] (defScope ip):=iB ⟨rfl,rfl,rfl,rfl⟩ (by decide+kernel)
abbrev wM:Stmt:=top 24
def Ap:GS:=(aN (uB (ao qd (ae 1) (gC .non)) (uB (ao qd (ae 0) (gC .non)) (aA 2 eO (aa (ae 0) (aa (ae 1) aj))))))
def m_:List Wv->Hs->Re Wv:=bB 2 Ap
def Aq:Ct:=cB wM ["standing","key"] [] [("same_worth",2,eO)]
theorem QD:bf 30 (Aq) (defBody wM)=Ap:=by kernel_rfl
theorem LS:FnScope (Aq).N ["standing","key"] (defScope wM):=iB ⟨rfl,rfl,rfl,rfl⟩ (by decide+kernel)
abbrev fv:Stmt:=L2.inClass (top 22) 3
def cJ:GS:=(aI (kD (k6 iz (ae 3) (mz "Look" "standing" 2 bD (ae 0) (aa (ae 4) aj))))
  (dS (Eg (dB (aA 1 cg (aa (ao bq (ae 3) (Bt iP (gC (.int 1)))) aj))) (dB (aA 2 m_ (aa (ao bq (ae 3) (Bt iP (gC (.int 1)))) (aa (ae 2) aj))))) (aI (mK (gC (.bl true)) (jw "Look" "met" (ae 0)) (cT (aa (gC (.str "part")) (aa (ae 1) (aa (ae 4) aj)))))
    (aN (ae 3))) aQ))
def gY:GS:=(aI (bG 3 (f9 aj))
  (aI (ql 4 (aA 1 bW (aa (ae 1) aj)) cJ)
  (aI (mK (gC (.bl true)) (jw "Look" "met" (ae 0)) (cT (aa (gC (.str "part")) (aa (ae 1) (aa (iQ (ae 1) (pX (gC (.int 2))) l9) aj)))))
  (aN (ae 3)))))
def bI:List Wv->Hs->Re Wv:=bB 5 gY
def gZ:Ct:={ cB fv ["self","area","key","standings","place"] [] [("places_between",1,bW),("halts",1,cg),("fits",2,m_)]with it:={ c:="Look",BX:=[("standing",2,bD)],ini:=[],own:=["met"] },MT:=["met"] }
theorem qv:bf 30 (gZ) (defBody fv)=gY:=by kernel_rfl
theorem pC:FnScope (gZ).N ["self","area","key"] (defScope fv):=iB ⟨rfl,rfl,rfl,rfl⟩ (by decide+kernel)
abbrev kg:Stmt:=top 10
def ng:GS:=(aN (ao Tv (ba Km (aa (ae 0) aj)) (ao jM (gC (.int 10)) (gC (.int 60)))))
def iE:List Wv->Hs->Re Wv:=bB 1 ng
def nh:Ct:=cB kg ["number"] ["abs"] []
theorem Ar:bf 30 (nh) (defBody kg)=ng:=by kernel_rfl
theorem yG:FnScope (nh).N ["number"] (defScope kg):=iB ⟨rfl,rfl,rfl,rfl⟩ (by decide+kernel)
abbrev qQ:Stmt:=top 8
def Cb:GS:=(aN (cT (aa (gC (.str "fault")) (aa (ae 0) aj))))
def bQ:List Wv->Hs->Re Wv:=bB 1 Cb
def wN:Ct:=cB qQ ["word"] [] []
theorem LU:bf 30 (wN) (defBody qQ)=Cb:=by kernel_rfl
theorem HN:FnScope (wN).N ["word"] (defScope qQ):=iB ⟨rfl,rfl,rfl,rfl⟩ (by decide+kernel)
abbrev mn:Stmt:=top 11
def pD:GS:=(aN (my (dB (aA 1 iE (aa (ae 0) aj))) (aA 1 bQ (aa (gC (.str "great")) aj)) (ae 0)))
def bX:List Wv->Hs->Re Wv:=bB 1 pD
def pE:Ct:=cB mn ["number"] [] [("is_great",1,iE),("fault",1,bQ)]
theorem DX:bf 30 (pE) (defBody mn)=pD:=by kernel_rfl
theorem As:FnScope (pE).N ["number"] (defScope mn):=iB ⟨rfl,rfl,rfl,rfl⟩ (by decide+kernel)
abbrev kj:Stmt:=top 20
def iF:GT:=(dB (ba (nR mx jA) (aa (ae 0) (aa (gC (.ty "int")) aj))))
def lI:GE:=(ae 0)
def iG:GT:=(dB (aA 1 aX (aa (ae 0) aj)))
def lJ:GE:=(ae 0)
def ko:GS:=(aI (bG 2 (k_ [] (jR (ae 1)) iG lJ))
  (aI (dS (dB (ae 2)) (aN (ao bq (ae 2) (gC (.int 0)))) aQ)
  (aI (bG 3 (k_ [] (jR (ae 1)) iF lI))
  (aI (dS (bu (ao oEq (ae 0) (gC (.str "sum")))) (aN (aA 1 bX (aa (ba Dp (aa (ae 3) aj)) aj))) aQ)
  (aI (dS (bu (ao oEq (ae 0) (gC (.str "count")))) (aN (ba jO (aa (ae 3) aj))) aQ)
  (aI (dS (zI (dB (ae 3))) (aN (aA 1 bQ (aa (gC (.str "none")) aj))) aQ)
  (aN (aA 1 bX (aa (my (bu (ao oEq (ae 0) (gC (.str "least")))) (ba p9 (aa (ae 3) aj)) (ba p5 (aa (ae 3) aj))) aj)))))))))
def gy:List Wv->Hs->Re Wv:=bB 4 ko
def ni:Ct:=cB kj ["word","worths","faults","numbers"] ["len","isinstance","int","sum","min","max"] [("bounded",1,bX),("fault",1,bQ),("is_fault",1,aX)]
theorem Au:bf 30 (ni) (defBody kj)=ko:=by kernel_rfl
theorem yH:FnScope (ni).N ["word","worths"] (defScope kj):=iB ⟨rfl,rfl,rfl,rfl⟩ (by decide+kernel)
abbrev dj:Stmt:=top 29
def dk:GS:=(aI (bG 3 (mz "Look" "stretch" 3 bI (ae 2) (aa (ae 1) (aa (gC .non) aj))))
  (aN (my (dB (aA 1 cg (aa (ao bq (ae 3) (Bt iP (gC (.int 1)))) aj))) (ao bq (ae 3) (Bt iP (gC (.int 1)))) (aA 2 gy (aa (ae 0) (aa (ae 3) aj))))))
def bS:List Wv->Hs->Re Wv:=bB 4 dk
def eT:Ct:={ cB dj ["word","area","look","standings"] [] [("halts",1,cg),("gathered",2,gy)]with it:={ c:="Look",BX:=[("stretch",3,bI)],ini:=[],own:=[] } }
theorem mD:bf 30 (eT) (defBody dj)=dk:=by kernel_rfl
theorem lK:FnScope (eT).N ["word","area","look"] (defScope dj):=iB ⟨rfl,rfl,rfl,rfl⟩ (by decide+kernel)
abbrev iq:Stmt:=L2.inClass (top 22) 2
def kq:GS:=(aI (mK (gC (.bl true)) (jw "Look" "met" (ae 0)) (cT (aa (gC (.str "at")) (aa (ae 1) aj))))
  (aN (mz "Look" "standing" 2 bD (ae 0) (aa (ae 1) aj))))
def cD:List Wv->Hs->Re Wv:=bB 2 kq
def kr:Ct:={ cB iq ["self","place"] [] []with it:={ c:="Look",BX:=[("standing",2,bD)],ini:=[],own:=["met"] },MT:=["met"] }
theorem wO:bf 30 (kr) (defBody iq)=kq:=by kernel_rfl
theorem ub:FnScope (kr).N ["self","place"] (defScope iq):=iB ⟨rfl,rfl,rfl,rfl⟩ (by decide+kernel)
abbrev iY:Stmt:=top 13
def qg:GS:=(aN (my (bu (ao Ke (ae 0) (gC .non))) (gC (.int 0)) (ae 0)))
def cF:List Wv->Hs->Re Wv:=bB 1 qg
def lL:Ct:=cB iY ["worth"] [] []
theorem yI:bf 30 (lL) (defBody iY)=qg:=by kernel_rfl
theorem wQ:FnScope (lL).N ["worth"] (defScope iY):=iB ⟨rfl,rfl,rfl,rfl⟩ (by decide+kernel)
abbrev oj:Stmt:=top 15
def iH:GS:=(aI (dS (dB (aA 1 aX (aa (ae 1) aj))) (aN (ae 1)) aQ)
  (aI (dS (dB (ba (nR mx jA) (aa (ae 1) (aa (gC (.ty "str")) aj)))) (aN (aA 1 bQ (aa (gC (.str "kind")) aj))) aQ)
  (aI (bG 2 (aA 1 cF (aa (ae 1) aj)))
  (aI (dS (bu (ao oEq (ae 0) (gC (.str "minus")))) (aN (aA 1 bX (aa (Bt iP (ae 2)) aj))) aQ)
  (aN (my (bu (ao oEq (ae 2) (gC (.int 0)))) (gC (.int 1)) (gC (.int 0))))))))
def dq:List Wv->Hs->Re Wv:=bB 3 iH
def sV:Ct:=cB oj ["word","one","number"] ["isinstance","str"] [("is_fault",1,aX),("number_of",1,cF),("fault",1,bQ),("bounded",1,bX)]
theorem HP:bf 30 (sV) (defBody oj)=iH:=by kernel_rfl
theorem DY:FnScope (sV).N ["word","one"] (defScope oj):=iB ⟨rfl,rfl,rfl,rfl⟩ (by decide+kernel)
abbrev ku:Stmt:=top 19
def dG:GS:=(aI (dS (bu (ao oEq (ae 0) (gC (.str "+")))) (aN (aA 1 bX (aa (ao de (ae 1) (ae 2)) aj))) aQ)
  (aI (dS (bu (ao oEq (ae 0) (gC (.str "-")))) (aN (aA 1 bX (aa (ao kY (ae 1) (ae 2)) aj))) aQ)
  (aI (dS (bu (ao oEq (ae 0) (gC (.str "*")))) (aN (aA 1 bX (aa (ao dO (ae 1) (ae 2)) aj))) aQ)
  (aI (dS (bu (ao oEq (ae 2) (gC (.int 0)))) (aN (aA 1 bQ (aa (gC (.str "nought")) aj))) aQ)
  (aI (dS (bu (ao oEq (ae 0) (gC (.str "/")))) (aN (aA 1 bX (aa (ao fH (ae 1) (ae 2)) aj))) aQ)
  (aN (aA 1 bX (aa (ao oMod (ae 1) (ae 2)) aj))))))))
def cK:List Wv->Hs->Re Wv:=bB 3 dG
def nj:Ct:=cB ku ["op","number","other"] [] [("bounded",1,bX),("fault",1,bQ)]
theorem Av:bf 30 (nj) (defBody ku)=dG:=by kernel_rfl
theorem yJ:FnScope (nj).N ["op","number","other"] (defScope ku):=iB ⟨rfl,rfl,rfl,rfl⟩ (by decide+kernel)
abbrev mq:Stmt:=top 14
def mr:GS:=(aN (my (bu (ao Ke (ae 0) (gC .non))) (gC (.str "")) (ba uG (aa (ae 0) aj))))
def fK:List Wv->Hs->Re Wv:=bB 1 mr
def pF:Ct:=cB mq ["worth"] ["str"] []
theorem DZ:bf 30 (pF) (defBody mq)=mr:=by kernel_rfl
theorem Aw:FnScope (pF).N ["worth"] (defScope mq):=iB ⟨rfl,rfl,rfl,rfl⟩ (by decide+kernel)
abbrev om:Stmt:=top 17
def oo:GS:=(aI (bG 2 (ao de (aA 1 fK (aa (ae 0) aj)) (aA 1 fK (aa (ae 1) aj))))
  (aN (my (bu (ao Tv (ba jO (aa (ae 2) aj)) (gC (.int 200)))) (aA 1 bQ (aa (gC (.str "great")) aj)) (ae 2))))
def oq:List Wv->Hs->Re Wv:=bB 3 oo
def sW:Ct:={ cB om ["one","other","text"] ["len"] [("text_of",1,fK),("fault",1,bQ)]with consts:=[("MOST_JOINED",(.int 200))] }
theorem HQ:bf 30 (sW) (defBody om)=oo:=by kernel_rfl
theorem D0:FnScope (sW).N ["one","other"] (defScope om):=iB ⟨rfl,rfl,rfl,rfl⟩ (by decide+kernel)
abbrev wR:Stmt:=top 18
def wU:GS:=(aI (dS (Eg (dB (ba (nR mx jA) (aa (ae 0) (aa (gC (.ty "str")) aj)))) (dB (ba (nR mx jA) (aa (ae 1) (aa (gC (.ty "str")) aj))))) (aI (dS (Eg (dB (ba (nR mx jA) (aa (ae 0) (aa (gC (.ty "int")) aj)))) (dB (ba (nR mx jA) (aa (ae 1) (aa (gC (.ty "int")) aj))))) (aN (aA 1 bQ (aa (gC (.str "kind")) aj))) aQ)
    (aN (my (bu (ao oLt (aA 1 fK (aa (ae 0) aj)) (aA 1 fK (aa (ae 1) aj)))) (gC (.int 1)) (gC (.int 0))))) aQ)
  (aN (my (bu (ao oLt (aA 1 cF (aa (ae 0) aj)) (aA 1 cF (aa (ae 1) aj)))) (gC (.int 1)) (gC (.int 0)))))
def wV:List Wv->Hs->Re Wv:=bB 2 wU
def Ax:Ct:=cB wR ["one","other"] ["isinstance","str","int"] [("fault",1,bQ),("number_of",1,cF),("text_of",1,fK)]
theorem QE:bf 30 (Ax) (defBody wR)=wU:=by kernel_rfl
theorem LV:FnScope (Ax).N ["one","other"] (defScope wR):=iB ⟨rfl,rfl,rfl,rfl⟩ (by decide+kernel)
abbrev ou:Stmt:=top 16
def eE:GS:=(aI (dS (dB (aA 1 aX (aa (ae 1) aj))) (aN (ae 1)) aQ)
  (aI (dS (dB (aA 1 aX (aa (ae 2) aj))) (aN (ae 2)) aQ)
  (aI (dS (bu (ao oEq (ae 0) (gC (.str "=")))) (aN (my (dB (aA 2 eO (aa (ae 1) (aa (ae 2) aj)))) (gC (.int 1)) (gC (.int 0)))) aQ)
  (aI (dS (bu (ao oEq (ae 0) (gC (.str "&")))) (aN (aA 2 oq (aa (ae 1) (aa (ae 2) aj)))) aQ)
  (aI (dS (bu (ao oEq (ae 0) (gC (.str "<")))) (aN (aA 2 wV (aa (ae 1) (aa (ae 2) aj)))) aQ)
  (aI (dS (Eg (dB (ba (nR mx jA) (aa (ae 1) (aa (gC (.ty "str")) aj)))) (dB (ba (nR mx jA) (aa (ae 2) (aa (gC (.ty "str")) aj))))) (aN (aA 1 bQ (aa (gC (.str "kind")) aj))) aQ)
  (aN (aA 3 cK (aa (ae 0) (aa (aA 1 cF (aa (ae 1) aj)) (aa (aA 1 cF (aa (ae 2) aj)) aj)))))))))))
def cL:List Wv->Hs->Re Wv:=bB 3 eE
def sX:Ct:=cB ou ["op","one","other"] ["isinstance","str"] [("is_fault",1,aX),("reckoned",3,cK),("joined",2,oq),("less",2,wV),("fault",1,bQ),("number_of",1,cF),("same_worth",2,eO)]
theorem HR:bf 30 (sX) (defBody ou)=eE:=by kernel_rfl
theorem D3:FnScope (sX).N ["op","one","other"] (defScope ou):=iB ⟨rfl,rfl,rfl,rfl⟩ (by decide+kernel)
abbrev gK:Stmt:=top 27
def cG(aC au av af ai:List Wv->Hs->Re Wv):GS:=(aI (bG 2 (aA 2 ai (aa (ao bq (ae 0) (gC (.int 1))) (aa (ae 1) aj))))
  (aI (dS (dB (aA 1 cg (aa (ae 2) aj))) (aN (ae 2)) aQ)
  (aI (bG 3 (aA 2 dq (aa (gC (.str "not")) (aa (ae 2) aj))))
  (aI (dS (dB (aA 1 aX (aa (ae 3) aj))) (aN (ae 3)) aQ)
  (aN (aA 2 ai (aa (my (bu (ao oEq (ae 3) (gC (.int 1)))) (ao bq (ae 0) (gC (.int 3))) (ao bq (ae 0) (gC (.int 2)))) (aa (ae 1) aj))))))))
def mM(aC au av af ai:List Wv->Hs->Re Wv):Ct where
  N:=["formula","look","asked","denied"]
  names:=(defScope gK).names
  consts:=[]
  bl:=[]
  fns:=[("gone_through",2,ai),("halts",1,cg),("single",2,dq),("is_fault",1,aX)]
  tb:=mx
  tt:=jA
  tc:=yy
theorem uc(aC au av af ai:List Wv->Hs->Re Wv):bf 30 (mM aC au av af ai) (defBody gK)=cG aC au av af ai:=by kernel_rfl
theorem sY(aC au av af ai:List Wv->Hs->Re Wv):FnScope ["formula","look","asked","denied"] ["formula","look"] (defScope gK):=iB ⟨rfl,rfl,rfl,rfl⟩ (by decide+kernel)
abbrev fA:Stmt:=top 28
def dR(aC au av af ai:List Wv->Hs->Re Wv):GS:=(aI (bG 2 (aA 2 ai (aa (ao bq (ae 0) (gC (.int 1))) (aa (ae 1) aj))))
  (aN (my (dB (aA 1 aX (aa (ae 2) aj))) (aA 2 ai (aa (ao bq (ae 0) (gC (.int 2))) (aa (ae 1) aj))) (ae 2))))
def kH(aC au av af ai:List Wv->Hs->Re Wv):Ct where
  N:=["formula","look","standing"]
  names:=(defScope fA).names
  consts:=[]
  bl:=[]
  fns:=[("gone_through",2,ai),("is_fault",1,aX)]
  tb:=mx
  tt:=jA
  tc:=yy
theorem qw(aC au av af ai:List Wv->Hs->Re Wv):bf 30 (kH aC au av af ai) (defBody fA)=dR aC au av af ai:=by kernel_rfl
theorem pG(aC au av af ai:List Wv->Hs->Re Wv):FnScope ["formula","look","standing"] ["formula","look"] (defScope fA):=iB ⟨rfl,rfl,rfl,rfl⟩ (by decide+kernel)
abbrev fB:Stmt:=top 30
def bJ(aC au av af ai:List Wv->Hs->Re Wv):GS:=(aI (bG 2 (aA 2 ai (aa (ao bq (ae 0) (gC (.int 1))) (aa (ae 1) aj))))
  (aI (dS (dB (aA 1 cg (aa (ae 2) aj))) (aN (ae 2)) aQ)
  (aI (dS (bu (ao Ke (ae 2) (gC .non))) (aN (aA 1 bQ (aa (gC (.str "none")) aj))) aQ)
  (aI (bG 3 (ao bq (ae 0) (gC (.int 2))))
  (aI (bG 4 (mz "Look" "stretch" 3 bI (ae 1) (aa (cT (aa (ao bq (ae 3) (gC (.int 0))) (aa (ao bq (ae 3) (gC (.int 1))) (aa (ao bq (ae 3) (gC (.int 2))) (aa (ao bq (ae 3) (gC (.int 1))) aj))))) (aa (ae 2) aj))))
  (aI (dS (dB (aA 1 cg (aa (ao bq (ae 4) (Bt iP (gC (.int 1)))) aj))) (aN (ao bq (ae 4) (Bt iP (gC (.int 1))))) aQ)
  (aI (dS (zI (dB (aA 2 m_ (aa (ao bq (ae 4) (Bt iP (gC (.int 1)))) (aa (ae 2) aj))))) (aN (aA 1 bQ (aa (gC (.str "none")) aj))) aQ)
  (aN (mz "Look" "cell" 2 cD (ae 1) (aa (cT (aa (ao kY (ao de (ao bq (ae 3) (gC (.int 0))) (ba jO (aa (ae 4) aj))) (gC (.int 1))) (aa (ao bq (ae 3) (gC (.int 3))) aj))) aj))))))))))
def kI(aC au av af ai:List Wv->Hs->Re Wv):Ct where
  N:=["formula","look","key","area","standings"]
  names:=(defScope fB).names
  consts:=[]
  bl:=["len"]
  fns:=[("gone_through",2,ai),("halts",1,cg),("fault",1,bQ),("fits",2,m_)]
  tb:=mx
  tt:=jA
  tc:=yy
  it:={ c:="Look",BX:=[("stretch",3,bI),("cell",2,cD)],ini:=[],own:=[] }
theorem qx(aC au av af ai:List Wv->Hs->Re Wv):bf 30 (kI aC au av af ai) (defBody fB)=bJ aC au av af ai:=by kernel_rfl
theorem pH(aC au av af ai:List Wv->Hs->Re Wv):FnScope ["formula","look","key","area","standings"] ["formula","look"] (defScope fB):=iB ⟨rfl,rfl,rfl,rfl⟩ (by decide+kernel)
abbrev dm:Stmt:=top 26
def aO(aC au av af ai:List Wv->Hs->Re Wv):GS:=(aI (kD (k6 iz (ae 2) (aA 2 ai (aa (ae 3) (aa (ae 1) aj)))))
  (dS (dB (aA 1 cg (aa (ao bq (ae 2) (Bt iP (gC (.int 1)))) aj))) (aN (ao bq (ae 2) (Bt iP (gC (.int 1))))) aQ))
def cz(aC au av af ai:List Wv->Hs->Re Wv):GS:=(aI (bG 2 (f9 aj))
  (aI (ql 3 (aA 1 cq (aa (ae 0) aj)) (aO aC au av af ai))
  (aI (dS (bu (ao oEq (ba jO (aa (ae 2) aj)) (gC (.int 1)))) (aN (aA 2 dq (aa (ao bq (ae 0) (gC (.int 0))) (aa (ao bq (ae 2) (gC (.int 0))) aj)))) aQ)
  (aN (aA 3 cL (aa (ao bq (ae 0) (gC (.int 0))) (aa (ao bq (ae 2) (gC (.int 0))) (aa (ao bq (ae 2) (gC (.int 1))) aj))))))))
def hI(aC au av af ai:List Wv->Hs->Re Wv):Ct where
  N:=["formula","look","standings","part"]
  names:=(defScope dm).names
  consts:=[]
  bl:=["len"]
  fns:=[("parts_of",1,cq),("paired",3,cL),("halts",1,cg),("single",2,dq),("gone_through",2,ai)]
  tb:=mx
  tt:=jA
  tc:=yy
theorem mE(aC au av af ai:List Wv->Hs->Re Wv):bf 30 (hI aC au av af ai) (defBody dm)=cz aC au av af ai:=by kernel_rfl
theorem lM(aC au av af ai:List Wv->Hs->Re Wv):FnScope ["formula","look","standings","part"] ["formula","look"] (defScope dm):=iB ⟨rfl,rfl,rfl,rfl⟩ (by decide+kernel)
abbrev fV:Stmt:=top 25
def bo(aC au av af ai:List Wv->Hs->Re Wv):GS:=(aI (bG 2 (ao bq (ae 0) (gC (.int 0))))
  (aI (dS (Eg (bu (ao oEq (ae 2) (gC (.str "num")))) (bu (ao oEq (ae 2) (gC (.str "text"))))) (aN (ao bq (ae 0) (gC (.int 1)))) aQ)
  (aI (dS (bu (ao oEq (ae 2) (gC (.str "lost")))) (aN (aA 1 bQ (aa (gC (.str "lost")) aj))) aQ)
  (aI (dS (bu (ao oEq (ae 2) (gC (.str "at")))) (aN (mz "Look" "cell" 2 cD (ae 1) (aa (ao bq (ae 0) (gC (.int 1))) aj))) aQ)
  (aI (dS (bu (ao oEq (ae 2) (gC (.str "if")))) (aN (aA 2 aC (aa (ae 0) (aa (ae 1) aj)))) aQ)
  (aI (dS (bu (ao oEq (ae 2) (gC (.str "else")))) (aN (aA 2 au (aa (ae 0) (aa (ae 1) aj)))) aQ)
  (aI (dS (bu (ao oEq (ae 2) (gC (.str "find")))) (aN (aA 2 av (aa (ae 0) (aa (ae 1) aj)))) aQ)
  (aI (dS (dB (aA 1 cq (aa (ae 0) aj))) (aN (aA 2 af (aa (ae 0) (aa (ae 1) aj)))) aQ)
  (aN (aA 3 bS (aa (ae 2) (aa (ao bq (ae 0) (gC (.int 1))) (aa (ae 1) aj)))))))))))))
def lN(aC au av af ai:List Wv->Hs->Re Wv):Ct where
  N:=["formula","look","word"]
  names:=(defScope fV).names
  consts:=[]
  bl:=[]
  fns:=[("parts_of",1,cq),("gathered_standing",3,bS),("fault",1,bQ),("if_standing",2,aC),("else_standing",2,au),("find_standing",2,av),("reckoned_standing",2,af)]
  tb:=mx
  tt:=jA
  tc:=yy
  it:={ c:="Look",BX:=[("cell",2,cD)],ini:=[],own:=[] }
theorem sZ(aC au av af ai:List Wv->Hs->Re Wv):bf 30 (lN aC au av af ai) (defBody fV)=bo aC au av af ai:=by kernel_rfl
theorem qy(aC au av af ai:List Wv->Hs->Re Wv):FnScope ["formula","look","word"] ["formula","look"] (defScope fV):=iB ⟨rfl,rfl,rfl,rfl⟩ (by decide+kernel)
def aD:Nat->(List Wv->Hs->Re Wv)×(List Wv->Hs->Re Wv)×(List Wv->Hs->Re Wv)×(List Wv->Hs->Re Wv)×(List Wv->Hs->Re Wv)
  | 0=>(zX,zX,zX,zX,zX)
  |n+1=>(bB 4 (cG ((aD n).1) ((aD n).2.1) ((aD n).2.2.1) ((aD n).2.2.2.1) ((aD n).2.2.2.2)),bB 3 (dR ((aD n).1) ((aD n).2.1) ((aD n).2.2.1) ((aD n).2.2.2.1) ((aD n).2.2.2.2)),bB 5 (bJ ((aD n).1) ((aD n).2.1) ((aD n).2.2.1) ((aD n).2.2.2.1) ((aD n).2.2.2.2)),bB 4 (cz ((aD n).1) ((aD n).2.1) ((aD n).2.2.1) ((aD n).2.2.2.1) ((aD n).2.2.2.2)),bB 3 (bo ((aD n).1) ((aD n).2.1) ((aD n).2.2.1) ((aD n).2.2.2.1) ((aD n).2.2.2.2)))
def aF(n:Nat):List Wv->Hs->Re Wv:=(aD n).1
def ay(n:Nat):List Wv->Hs->Re Wv:=(aD n).2.1
def az(n:Nat):List Wv->Hs->Re Wv:=(aD n).2.2.1
def ag(n:Nat):List Wv->Hs->Re Wv:=(aD n).2.2.2.1
def ax(n:Nat):List Wv->Hs->Re Wv:=(aD n).2.2.2.2
theorem cM(n:Nat):aF (n+1)=bB 4 (cG (aF n) (ay n) (az n) (ag n) (ax n)):=rfl
def aC:List Wv->Hs->Re Wv:=aF 10
theorem gS(n:Nat):ay (n+1)=bB 3 (dR (aF n) (ay n) (az n) (ag n) (ax n)):=rfl
def au:List Wv->Hs->Re Wv:=ay 10
theorem bM(n:Nat):az (n+1)=bB 5 (bJ (aF n) (ay n) (az n) (ag n) (ax n)):=rfl
def av:List Wv->Hs->Re Wv:=az 10
theorem fc(n:Nat):ag (n+1)=bB 4 (cz (aF n) (ay n) (az n) (ag n) (ax n)):=rfl
def af:List Wv->Hs->Re Wv:=ag 10
theorem a9(n:Nat):ax (n+1)=bB 3 (bo (aF n) (ay n) (az n) (ag n) (ax n)):=rfl
def ai:List Wv->Hs->Re Wv:=ax 10
abbrev mv:Stmt:=top 31
def pI:GS:=(aI (bG 3 (BW "Look" 3 bV (aa (ae 1) (aa (ae 2) aj))))
  (aI (bG 4 (aA 2 ai (aa (ae 0) (aa (ae 3) aj))))
  (aI (bG 5 (ba uY (aa (jw "Look" "met" (ae 3)) aj)))
  (aI (dS (Fi (dB (aA 1 cg (aa (ae 4) aj))) (zI (dB (aA 1 aX (aa (ae 4) aj))))) (aN (cT (aa (gC (.str "waits")) (aa (ao bq (ae 4) (gC (.int 1))) (aa (ae 5) aj))))) aQ)
  (aN (cT (aa (gC (.str "worth")) (aa (ae 4) (aa (ae 5) aj)))))))))
def dU:List Wv->Hs->Re Wv:=bB 6 pI
def pJ:Ct:={ cB mv ["formula","worths","waiting","look","standing","reads"] ["tuple"] [("gone_through",2,ai),("halts",1,cg),("is_fault",1,aX)]with it:={ c:="Look",BX:=[],ini:=[("Look",3,bV)],own:=["met"] },MT:=["met"] }
theorem D4:bf 30 (pJ) (defBody mv)=pI:=by kernel_rfl
theorem Ay:FnScope (pJ).N ["formula","worths","waiting"] (defScope mv):=iB ⟨rfl,rfl,rfl,rfl⟩ (by decide+kernel)
abbrev gL:Stmt:=top 33
def fW:GT:=(bu (ao oLe (ae 0) (ao bq (ae 1) (gC (.int 2)))))
def iZ:GE:=(ae 0)
def gM:GS:=(aI (dS (bu (ao oEq (ao bq (ae 0) (gC (.int 0))) (gC (.str "at")))) (aN (f9 (aa (ao bq (ae 0) (gC (.int 1))) aj))) aQ)
  (aN (k_ [("item",0)] (jR (aA 1 bW (aa (ao bq (ae 0) (gC (.int 1))) aj))) fW iZ)))
def dW:List Wv->Hs->Re Wv:=bB 1 gM
def jd:Ct:=cB gL ["item"] [] [("places_between",1,bW)]
theorem ud:bf 30 (jd) (defBody gL)=gM:=by kernel_rfl
theorem s_:FnScope (jd).N ["item"] (defScope gL):=iB ⟨rfl,rfl,rfl,rfl⟩ (by decide+kernel)
abbrev gN:Stmt:=top 32
def gz:GS:=(ju (gC (.bl true)) (ae 1) (ae 3))
def eP:GS:=(ql 3 (aA 1 dW (aa (ae 2) aj)) gz)
def je:GS:=(aI (bG 1 kE)
  (aI (ql 2 (ae 0) eP)
  (aN (ba mV (aa (ae 1) aj)))))
def cH:List Wv->Hs->Re Wv:=bB 4 je
def jf:Ct:={ cB gN ["reads","places","item","place"] ["list"] [("item_places",1,dW)]with tJ:=["places"] }
theorem ue:bf 30 (jf) (defBody gN)=je:=by kernel_rfl
theorem tm:FnScope (jf).N ["reads"] (defScope gN):=iB ⟨rfl,rfl,rfl,rfl⟩ (by decide+kernel)
abbrev eQ:Stmt:=top 50
def br:GS:=(aI (bG 9 (cT (aa (ao de (ao bq (ae 1) (gC (.int 0))) (ao fH (ae 8) (gC (.int 4)))) (aa (ao de (ao bq (ae 1) (gC (.int 1))) (ao oMod (ae 8) (gC (.int 4)))) aj))))
  (aI (bG 10 (aA 1 dD (aa (ae 5) aj)))
  (dS (bu (ao (kN false) (ae 9) (ae 2))) (dS (bu (ao (kN false) (ae 9) (ae 4))) (kD (k6 iz (ae 7) (ae 9))) (dS (bu (ao (qq false) (ae 9) (ae 3))) (ju (BO (ae 3) (ae 9)) (ae 6) (ae 9)) aQ)) (dS (bu (ao oEq (aA 2 aB (aa (ae 5) (aa (gC (.int 3)) aj))) (gC (.int 0)))) (kD (k6 iz (ae 7) (ae 9))) (ju (ae 10) (ae 6) (ae 9))))))
def gB:GS:=(aI (bG 5 (aA 2 b8 (aa (ae 0) (aa (gC (.int 5)) aj))))
  (aI (bG 6 kE)
  (aI (bG 7 (f9 aj))
  (aI (mT 8 (aa (gC (.int 12)) aj) br)
  (aN (cT (aa (ae 6) (aa (ae 7) aj))))))))
def bY:List Wv->Hs->Re Wv:=bB 11 gB
def gD:Ct:={ cB eQ ["script","spot","read","worths","waiting","row","other","late","k","place","worth"] ["range"] [("_law_stream",2,b8),("_law_worth",1,dD),("_law_digit",2,aB)]with tJ:=["other","worths"],Uj:=["read","waiting","worths"] }
theorem pK:bf 30 (gD) (defBody eQ)=gB:=by kernel_rfl
theorem ow:FnScope (gD).N ["script","spot","read","worths","waiting"] (defScope eQ):=iB ⟨rfl,rfl,rfl,rfl⟩ (by decide+kernel)
abbrev kx:Stmt:=top 51
def dX:GS:=(aI (bG 4 (ao (kN false) (ae 1) (aA 1 cH (aa (cT (aa (ae 3) aj)) aj))))
  (dS (zI (dB (ae 4))) (kD (k6 iz (ae 2) (ae 3))) (dS (bu (ao oEq (ao bq (ae 3) (gC (.int 0))) (gC (.str "at")))) (aN (ba jq (aa (ao de (ae 2) (f9 (aa (ae 3) aj))) aj))) (aN (ba jq (aa (ao de (ae 2) (f9 (aa (cT (aa (gC (.str "part")) (aa (ao bq (ae 3) (gC (.int 1))) (aa (ae 1) aj)))) aj))) aj))))))
def nk:GS:=(aI (bG 2 (f9 aj))
  (aI (ql 3 (ae 0) dX)
  (aN (ba jq (aa (ae 2) aj)))))
def iI:List Wv->Hs->Re Wv:=bB 5 nk
def nr:Ct:={ cB kx ["items","place","found","item","ended"] ["tuple"] [("places_read",1,cH)]with Uj:=["places_read()"] }
theorem Az:bf 30 (nr) (defBody kx)=nk:=by kernel_rfl
theorem yK:FnScope (nr).N ["items","place"] (defScope kx):=iB ⟨rfl,rfl,rfl,rfl⟩ (by decide+kernel)
abbrev Cc:Stmt:=top 52
def oy:GS:=(aI (bG 13 (ba n6 (aa (ae 2) aj)))
  (aI (dS (bu (ao (qq false) (ao bq (ae 9) (ae 12)) (ae 13))) (kD (uU (ae 13) (ao bq (ae 9) (ae 12)))) aQ)
  (aI (bG 14 (aA 3 dU (aa (ae 4) (aa (ae 13) (aa (ao de (ae 3) (f9 (aa (ao bq (ae 9) (ae 12)) aj))) aj)))))
  (dS (bu (ao xC (ae 14) (cT (aa (gC (.str "waits")) (aa (ao bq (ae 9) (ae 12)) (aa (aA 2 iI (aa (ao bq (ae 5) (gC (.int 2))) (aa (ao bq (ae 9) (ae 12)) aj))) aj)))))) (aN (gC (.bl false))) aQ))))
def lO:GS:=(ju (gC (.bl true)) (ae 6) (ae 7))
def HS:GS:=(aI (bG 1 (aA 1 gQ (aa (ae 0) aj)))
  (aI (mI [2,3] (aA 2 dE (aa (ae 0) (aa (ae 1) aj))))
  (aI (bG 4 (aA 3 aW (aa (aA 2 b8 (aa (ae 0) (aa (gC (.int 0)) aj))) (aa (ae 1) (aa (gC (.int 3)) aj)))))
  (aI (bG 5 (aA 3 dU (aa (ae 4) (aa (ae 2) (aa (ae 3) aj)))))
  (aI (bG 6 kE)
  (aI (ql 7 (ae 3) lO)
  (aI (bG 8 (ba n6 (aa (ae 2) aj)))
  (aI (dS (Eg (bu (ao xC (aA 3 dU (aa (ae 4) (aa (ae 8) (aa (ba jq (aa (ae 3) aj)) aj)))) (ae 5))) (bu (ao xC (aA 3 dU (aa (ae 4) (aa (ae 8) (aa (ae 6) aj)))) (ae 5)))) (aN (gC (.bl false))) aQ)
  (aI (dS (Eg (bu (ao Ac (ae 8) (ae 2))) (bu (ao xC (ba mV (aa (ae 6) aj)) (ae 3)))) (aN (gC (.bl false))) aQ)
  (aI (bG 9 (aA 1 cH (aa (ao bq (ae 5) (gC (.int 2))) aj)))
  (aI (mI [10,11] (aA 5 bY (aa (ae 0) (aa (ae 1) (aa (ae 9) (aa (ae 2) (aa (ae 3) aj)))))))
  (aI (dS (bu (ao xC (aA 3 dU (aa (ae 4) (aa (ae 10) (aa (ae 11) aj)))) (ae 5))) (aN (gC (.bl false))) aQ)
  (aI (mT 12 (aa (ba uR (aa (ae 9) aj)) aj) oy)
  (aN (gC (.bl true))))))))))))))))
def F_law:List Wv->Hs->Re Wv:=bB 15 HS
def HU:Ct:={ cB Cc ["script","spot","worths","waiting","formula","found","late","place","handed","read","other","more","k","fewer","told"] ["dict","range","len","list","tuple"] [("_law_spot",1,gQ),("_law_known",2,dE),("_law_formula",3,aW),("look_at",3,dU),("places_read",1,cH),("_law_otherwise",5,bY),("_law_stream",2,b8),("_law_cut",2,iI)]with tJ:=["late","handed","fewer","worths"],Uj:=["fewer"] }
theorem UG:bf 30 (HU) (defBody Cc)=HS:=by kernel_rfl
theorem QF:FnScope (HU).N ["script"] (defScope Cc):=iB ⟨rfl,rfl,rfl,rfl⟩ (by decide+kernel)
abbrev S:=PySem.Str
def tI(l:List Int):Wv:=.tup (l.map Wv.int)
inductive Fm
 |lit (x:S) (ws:List Wv)
 |pt (x:S) (l p:List Int)
 |fd (a:Fm) (l p:List Int)
 |o1 (x:S) (a:Fm)
 |o2 (x:S) (a b:Fm)
 |o3 (a b c:Fm)
def Fm.v:Fm->S×List Wv
 |.lit x ws=>(x,ws)
 |.pt x l p=>(x,[tI l,tI p])
 |.fd a l p=>("find",[.tup (.str a.v.1::a.v.2),tI l,tI p])
 |.o1 x a=>(x,[.tup (.str a.v.1::a.v.2)])
 |.o2 x a b=>(x,[.tup (.str a.v.1::a.v.2),.tup (.str b.v.1::b.v.2)])
 |.o3 a b c=>("if",[.tup (.str a.v.1::a.v.2),.tup (.str b.v.1::b.v.2),.tup (.str c.v.1::c.v.2)])
def Fm.w(f:Fm):Wv:=.tup (.str f.v.1::f.v.2)
def Fm.dp:Fm->Nat
 |.lit _ _=>1
 |.pt _ _ _=>1
 |.fd a _ _=>a.dp+1
 |.o1 _ a=>a.dp+1
 |.o2 _ a b=>max a.dp b.dp+1
 |.o3 a b c=>max a.dp (max b.dp c.dp)+1
def Fm.sz:Fm->Nat
 |.lit _ _=>1
 |.pt _ _ _=>1
 |.fd a _ _=>a.sz+1
 |.o1 _ a=>a.sz+1
 |.o2 _ a b=>a.sz+b.sz+1
 |.o3 a b c=>a.sz+b.sz+c.sz+1
def eW:Int:=10 ^ 60
def Sg(c:Nat):Prop:=32<=c/\c<=126/\c≠34/\c≠37
def QG(s:S):Prop:=s.length<=40/\∀c∈s.cps.toList,Sg c
def UH(x:S)(ws:List Wv):Prop:=(x="num"/\∃i,ws=[.int i]/\0<=i/\i<=eW)\/(x="text"/\∃s,ws=[.str s]/\QG s)\/(x="lost"/\ws=[])
def Cd(q:Int):Prop:=q=0\/q=1
def qz(a b:Int):Prop:=0<=a/\a < 99/\0<=b/\b < 26
def g_(a b c d:Int):Prop:=0<=a/\a<=c/\c < 99/\0<=b/\b<=d/\d < 26/\(c - a+1) * (d - b+1)<=300
def Sh2(l p:List Int):Prop:=∃a b q r,l=[a,b]/\p=[q,r]/\qz a b/\Cd q/\Cd r
def Sh4(l p:List Int):Prop:=∃a b c d q r s t,l=[a,b,c,d]/\p=[q,r,s,t]/\g_ a b c d/\Cd q/\Cd r/\Cd s/\Cd t
def AW:List S:=["sum","count","least","greatest"]
def W1:List S:=["minus","not"]
def W2:List S:=["else","rest","+","-","*","/","&","<","="]
def Fm.ok:Fm->Prop
 |.lit x ws=>UH x ws
 |.pt x l p=>(x="at"/\Sh2 l p)\/(x∈AW/\Sh4 l p)
 |.fd a l p=>a.ok/\Sh4 l p
 |.o1 x a=>x∈W1/\a.ok
 |.o2 x a b=>x∈W2/\a.ok/\b.ok
 |.o3 a b c=>a.ok/\b.ok/\c.ok
def Ro(r:Nat)(st:Hs):Prop:=∃v:Int,st[r]? =some (.lst [.int v])
def Dw(r:Nat)(st st':Hs):Prop:=bL r st st'/\Ro r st'
variable{r:Nat}
theorem Dw.trans{a b c:Hs}(h:Dw r a b)(k:Dw r b c):Dw r a c:=⟨h.1.trans k.1,k.2⟩
variable{st:Hs}{o:Ob}
theorem Ro.push(h:Ro r st):Ro r (st++[o]):=let ⟨v,e⟩:=h;⟨v,sM e⟩
theorem Dw.of(h:Ro r st):Dw r st st:=⟨bL.refl,h⟩
variable{l:Nat}{many:Int}
theorem digit{n:Int}(h:st[l]? =some (.lst [.int n]))(hm:many≠0/\many.natAbs.log2 < 9000):
  aB [.ref l,.int many] st= .ok (.int (n.fmod many)) (st.set l (.lst [.int (n.fdiv many)])):=by
 have hl:aG st l=some [.int n]:=by unfold aG;rw[h]
 have h0:L2.oJ [Wv.int n] 0=some (.int n):=rfl;unfold aB bB jU;simp[mB hl h0,kF hm.1,lq hm,Bx,TR,h,L2.C2]
variable{m:Int}
theorem dig(h:Ro r st)(h0:0 < m)(h1:m < 1000000):∃d st',aB [.ref r,.int m] st= .ok (.int d) st'/\0<=d/\d < m/\Dw r st st':=by obtain⟨v,e⟩:=h;have hl:m.natAbs.log2 < 9000:=vK ((Nat.log2_lt (k:=20) (by omega)).mpr (by omega)) (by decide);exact⟨_,_,digit e ⟨by omega,hl⟩,jg _ h0,ky _ h0,bL.set,_,cC e⟩
theorem UI{x y p q:Int}(h0:0<=x)(h1:x<=p)(k0:0<=y)(k1:y<=q):x * y<=p * q:=Int.mul_le_mul h1 k1 k0 (by omega)
theorem jx0{a b:Wv}:bq (.tup [a,b]) (.int 0) st= .ok a st:=rfl
theorem jx1{a b:Wv}:bq (.tup [a,b]) (.int 1) st= .ok b st:=rfl
variable{a b:Int}
theorem place(h:Ro r st):∃c d st',dF [.ref r,tI [a,b]] st= .ok (tI [a+c,b+d]) st'/\(0<=c/\c < 3/\0<=d/\d < 4)/\Dw r st st':=by obtain⟨c,s1,e1,c0,c1,d1⟩:=dig (m:=3) h (by decide) (by decide);obtain⟨d,s2,e2,a0,a1,d2⟩:=dig (m:=4) d1.2 (by decide) (by decide);unfold dF bB j8;exact⟨c,d,s2,by simp[e1,e2,tI,jx0,jx1],⟨c0,c1,a0,a1⟩,d1.trans d2⟩
theorem YX(h:Ro r st):∃t l p q st',dy [.ref r,tI [a,b]] st= .ok (tI [a+t,b+l,a+p,b+q]) st'/\(0<=t/\t<=p/\p < 3/\0<=l/\l<=q/\q < 4)/\Dw r st st':=by obtain⟨t,s1,e1,t0,t1,d1⟩:=dig (m:=3) h (by decide) (by decide);obtain⟨l,s2,e2,l0,l1,d2⟩:=dig (m:=4) d1.2 (by decide) (by decide);obtain⟨p,s3,e3,p0,p1,d3⟩:=dig (m:=3 - t) d2.2 (by omega) (by omega);obtain⟨q,s4,e4,q0,q1,d4⟩:=dig (m:=4 - l) d3.2 (by omega) (by omega);have sT:mI [6,7] (ae 1) [some (.ref r),some (tI [a,b]),some (.int t),some (.int l),some (.int (t+p)),some (.int (l+q)),none,none] s4= .nx [some (.ref r),some (tI [a,b]),some (.int t),some (.int l),some (.int (t+p)),some (.int (l+q)),some (.int a),some (.int b)] s4:=rfl;refine⟨t,l,t+p,l+q,s4,?_,by omega,((d1.trans d2).trans d3).trans d4⟩;unfold dy bB lx;simp[e1,e2,e3,e4,sT];rfl
theorem pins(h:Ro r st){n:Nat}(hn:n<=4):∃p st',b9 [.ref r,.int n] st= .ok (tI p) st'/\p.length=n/\(∀q∈p,q=0\/q=1)/\Dw r st st':=by
 have hr:r < st.length:=let ⟨v,e⟩:=h;cV e;have cn:dM (n:Int):=HJ (by omega) (by omega);obtain⟨st',acc,e,⟨p1,p2⟩,hg,ha,hl⟩:=u5 (w:=(none,cU 0 n)) (gt:=λv=>gX (some v::kM [("row",0)] [some (.ref r),some (.int (n:Int))])) (ge:=λv=>fu (some v::kM [("row",0)] [some (.ref r),some (.int (n:Int))])) (rr:=st.length)
  (λs=>bL r st s/\Ro r s) (λu=>∃q:Int,u= .int q/\(q=0\/q=1))
  (λs acc ⟨k,v,e⟩=>⟨⟨by simpa using k.1,λj hj hne=>by rw[bN (by omega)];exact k.2 j hj hne⟩,v,by rw[bN (by omega)];exact e⟩) (λ_ _=>trivial) (cU 0 n)
  (λv hv s acc ⟨k,ro⟩ hg=>by
   obtain⟨q,s2,e2,q0,q1,k2,LW⟩:=dig (m:=2) ro (by decide) (by decide);refine⟨s,rfl,⟨k,ro⟩,hg,.int q,s2,?_,⟨q,rfl,by omega⟩,⟨k.trans k2,LW⟩,?_⟩
   ·unfold fu;simp[kM,e2]
   ·rw[k2.2 _ (cV hg) (by omega)];exact hg)
  [] (st++[.lst []]) ⟨bL.push,h.push⟩ eI (by rw[c7];simp[lim];omega) (by simp)
 obtain⟨p,hp⟩:∃p:List Int,acc=p.map Wv.int/\∀q∈p,q=0\/q=1:=by
  clear e hg hl
  induction acc with
  |nil=>exact⟨[],rfl,by simp⟩
  |cons a t ih=>obtain⟨p,e1,e2⟩:=ih λu hu=>ha u (bb _ hu);obtain⟨q,e3,e4⟩:=ha a bC;exact⟨q::p,by rw[e1,e3];rfl,by simpa using ⟨e4,e2⟩⟩
 obtain⟨rfl,hp⟩:=hp;refine⟨p,st',?_,by simpa [c7]using hl,hp,p1,p2⟩;have run:gG [("row",0)] gX fu [some (.ref r),some (.int (n:Int))] (none,cU 0 n) st= .ok (.ref st.length) st':=by unfold gG;rw[e]
 have tc:jq [.ref st.length] st'= .ok (.tup (p.map Wv.int)) st':=by
  show(match aG st' st.length with |some ws=>Re.ok (Wv.tup ws) st' |none=> .bad)=_
  rw[bF hg]
 unfold b9 bB lB;have r1:xS [.int (n:Int)] st= .ok (none,cU 0 n) st:=by rw[QB cn];simp
 simp[r1,run,tc,tI]
inductive Wo where
 |non
 |int (i:Int)
 |txt (x:PySem.Str)
 |kK (x:PySem.Str)
def Wo.w:Wo->Wv
 |.non=> .non
 |.int i=> .int i
 |.txt x=> .str x
 |.kK x=> .tup [.str "fault",.str x]
def Wo.f:Wo->Bool
 |.kK _=>true
 |_=>false
def Wo.n:Wo->Bool
 |.int _=>true
 |_=>false
theorem wW(a:Wo)(st:Hs):aX [a.w] st= .ok (.bl a.f) st:=by cases a<;>rfl
def nums:List Wo->List Int
 |[]=>[]
 |.int i::r=>i::nums r
 |_::r=>nums r
def qA:List Wo->List PySem.Str
 |[]=>[]
 |.kK x::r=>x::qA r
 |_::r=>qA r
theorem yL:∀a:List Wo,(nums a).length<=a.length
 |[]=>aE _
 |x::r=>by have:=yL r;cases x<;>simp[nums]<;>omega
theorem yM:∀a:List Wo,(a.map Wo.w).filter (λv=>match v with |.int _=>true |_=>false)=(nums a).map Wv.int
 |[]=>rfl
 |x::r=>by have:=yM r;cases x<;>simp[nums,Wo.w,this]
theorem yN:∀a:List Wo,(a.map Wo.w).filter (λv=>match v with |.tup _=>true |_=>false)=(qA a).map λx=>Wv.tup [.str "fault",.str x]
 |[]=>rfl
 |x::r=>by have:=yN r;cases x<;>simp[qA,Wo.w,this]
theorem Wz:jM (.int 10) (.int 60) st= .ok (.int eW) st:=HH (by decide)
def bnd(i:Int):Wv:=if eW < (if i < 0 then -i else i)then .tup [.str "fault",.str "great"]else .int i
variable{i:Int}
theorem bounded:bX [.int i] st= .ok (bnd i) st:=by
 have g:iE [.int i] st= .ok (.bl (decide (eW < (if i < 0 then -i else i)))) st:=by unfold iE bB ng;simp[Wz]
 have f:bQ [.str "great"] st= .ok (.tup [.str "fault",.str "great"]) st:=rfl;unfold bX bB pD bnd;by_cases c:eW < (if i < 0 then -i else i)
 ·simp[g,f,c]
 ·simp[g,f,c]
inductive mF where
 |sum |count |least |lP
def mF.s:mF->PySem.Str
 |.sum=>"sum"
 |.count=>"count"
 |.least=>"least"
 |.lP=>"greatest"
def due(wd:mF)(ws:List Wo):Wv:=match qA ws with
 |x::_=> .tup [.str "fault",.str x]
 |[]=>match wd with
  |.sum=>bnd (nums ws).sum
  |.count=> .int (nums ws).length
  |.least=>(match nums ws with |[]=> .tup [.str "fault",.str "none"] |n::r=>bnd (Dr n r))
  |.lP=>(match nums ws with |[]=> .tup [.str "fault",.str "none"] |n::r=>bnd (Dq n r))
theorem UJ:(("sum":PySem.Str) == "sum")=true:=rfl
theorem UK:(("count":PySem.Str) == "sum")=false:=rfl
theorem UL:(("least":PySem.Str) == "sum")=false:=rfl
theorem UM:(("greatest":PySem.Str) == "sum")=false:=rfl
theorem UN:(("count":PySem.Str) == "count")=true:=rfl
theorem UO:(("least":PySem.Str) == "count")=false:=rfl
theorem UP:(("greatest":PySem.Str) == "count")=false:=rfl
theorem UQ:(("least":PySem.Str) == "least")=true:=rfl
theorem UR:(("greatest":PySem.Str) == "least")=false:=rfl
theorem US(a:Wo)(st:Hs):nR mx jA [a.w,.ty "int"] st= .ok (.bl a.n) st:=by cases a<;>rfl
variable{wd:mF}
theorem gather{ws:List Wo}(h:aG st l=some (ws.map Wo.w))(hl:ws.length < 1000):∃st',gy [.str wd.s,.ref l] st= .ok (due wd ws) st'/\Gr st st':=by
 have c1:∀st:Hs,aG st l=some (ws.map Wo.w)->∀ρ,gG [] iG lJ ρ (some l,ws.map Wo.w) st= .ok (.ref st.length) (st++[.lst ((qA ws).map λx=>Wv.tup [.str "fault",.str x])]):=by
  intro st h ρ;rw[mj (w:=(some l,ws.map Wo.w)) (t:=λv=>match v with |.tup _=>true |_=>false) (f:=id) h]
  ·rw[Ce,yN]
  ·intro v hv acc;obtain⟨a,_,rfl⟩:=List.mem_map.mp hv;unfold iG;simp[wW];cases a<;>rfl
  ·intro v hv _ acc;rfl
  ·simp;unfold lim;omega
 have c2:∀st:Hs,aG st l=some (ws.map Wo.w)->∀ρ,gG [] iF lI ρ (some l,ws.map Wo.w) st= .ok (.ref st.length) (st++[.lst ((nums ws).map Wv.int)]):=by
  intro st h ρ;rw[mj (w:=(some l,ws.map Wo.w)) (t:=λv=>match v with |.int _=>true |_=>false) (f:=id) h]
  ·rw[Ce,yM]
  ·intro v hv acc;obtain⟨a,_,rfl⟩:=List.mem_map.mp hv;unfold iF;simp[US];cases a<;>rfl
  ·intro v hv _ acc;rfl
  ·simp;unfold lim;omega
 have l1:=cX (st:=st) (ws:=(qA ws).map λx=>Wv.tup [.str "fault",.str x]);cases e2:qA ws with
 |cons x r=>
  have q:due wd ws= .tup [.str "fault",.str x]:=by unfold due;rw[e2]
  rw[e2]at l1;refine⟨st++[.lst ((qA ws).map λx=>Wv.tup [.str "fault",.str x])],?_,Gr.push⟩;rw[q];have i:=mB (st:=st++[.lst ((qA ws).map λx=>Wv.tup [.str "fault",.str x])]) (l:=st.length) (i:=0) (ws:=(x::r).map λx=>Wv.tup [.str "fault",.str x]) (v:=.tup [.str "fault",.str x]) (by rw[e2];exact l1) (by rw[aK];exact UE);have tr:oR (.ref st.length) (st++[.lst ((qA ws).map λx=>Wv.tup [.str "fault",.str x])])= .ok true (st++[.lst ((qA ws).map λx=>Wv.tup [.str "fault",.str x])]):=by unfold oR;simp only[e2,l1];rfl
  unfold gy bB ko;simp[pq h,c1 _ h,tr,i]
 |nil=>
  rw[e2]at l1;have h2:aG (st++[.lst []]) l=some (ws.map Wo.w):=Gr.push.lst h;have l3:=cX (st:=st++[.lst []]) (ws:=(nums ws).map Wv.int);have UT:=c1 _ h;rw[e2]at UT;simp only[jJ]at UT;have WA:=c2 _ h2;have tr:oR (.ref st.length) (st++[.lst []])= .ok false (st++[.lst []]):=by unfold oR;simp only[show aG (st++[.lst []]) st.length=some [] from l1];rfl
  refine⟨st++[.lst []]++[.lst ((nums ws).map Wv.int)],?_,Gr.push.trans Gr.push⟩;generalize st++[.lst []]=s1 at tr h2 l3 WA UT;generalize hs2:s1++[.lst ((nums ws).map Wv.int)]=s2 at l3 WA;have f:bQ [.str "none"] s2= .ok (.tup [.str "fault",.str "none"]) s2:=rfl;have sm:=MY l3;have ln:jO [.ref s1.length] s2= .ok (.int (nums ws).length) s2:=by
   have:=sI l3
   rwa [bP]at this
  have WB:oR (.ref s1.length) s2= .ok (!((nums ws).map Wv.int).isEmpty) s2:=by unfold oR;simp only[l3]
  unfold due;rw[e2];unfold gy bB ko;cases en:nums ws with
  |nil=>rw[en]at sm ln WB;cases wd<;>simp[pq h,UT,tr,pq h2,WA,sm,ln,WB,f,mF.s,UJ,UK,UL,UM,UN,UO,UP,UQ,UR,bounded]
  |cons n r=>rw[en]at sm ln WB l3;cases wd<;>simp[pq h,UT,tr,pq h2,WA,sm,ln,WB,f,mF.s,UJ,UK,UL,UM,UN,UO,UP,UQ,UR,bounded,UC l3,UD l3]
variable{n:Int}{ws:List Wv}
theorem HV(h:st[l]? =some (.lst [.int n]))(hm:many≠0/\many.natAbs.log2 < 9000)(hp:0 < many)(hw:(ws.length:Int)=many):
  ∃v st',v∈ws/\aB [.ref l,.int many] (st++[.lst ws])= .ok (.int (n.fmod many)) st'/\bq (.ref st.length) (.int (n.fmod many)) st'= .ok v st'/\bL l st st'/\st'[l]? =some (.lst [.int (n.fdiv many)]):=by
 have hl:l < st.length:=(List.getElem?_eq_some_iff.mp h).1;obtain⟨v,e1,e2⟩:=sL (ws:=ws) (d:=n.fmod many) (jg _ hp) (by rw[hw];exact ky _ hp);refine⟨v,_,e2,digit (sM h) hm,mB (ws:=ws) ?_ e1,bL.push.trans bL.set,cC (sM h)⟩;have k:bL l (st++[Ob.lst ws]) ((st++[Ob.lst ws]).set l (.lst [.int (n.fdiv many)])):=bL.set;exact k.lst cX (by omega)
def P30:Int:=10 ^ (30:Int).toNat
theorem p30:jM (.int 10) (.int 30) st= .ok (.int P30) st:=HH (by decide)
theorem m60:dO (.int 2) (.int eW) st= .ok (.int (2 * eW)) st:=yu (by decide+kernel)
def UU:PySem.Str:=tS (199:Int).toNat "a"
theorem YY:dO (.str "a") (.int 199) st= .ok (.str UU) st:=by
 have c:pY "a" 199:=by decide+kernel
 show(if(199:Int)=0\/(199:Int)=1 then Re.ok (Wv.str (if(199:Int)=0 then PySem.Str.empty else "a")) st else FG (.str "a") (.int 199) st)=_;rw[if_neg (by decide)];show(if pY "a" 199 then Re.ok (Wv.str (tS (199:Int).toNat "a")) st else .bad)=_;rw[if_pos c];rfl
def Wo.Ok:Wo->Prop
 |.int i=> -eW<=i/\i<=eW
 |.txt x=>x.length<=200
 |_=>True
theorem worth(h:st[l]? =some (.lst [.int n])):∃(a:Wo)(st':Hs)(n':Int),dD [.ref l] st= .ok a.w st'/\bL l st st'/\st'[l]? =some (.lst [.int n'])/\a.Ok:=by
 have d8:=digit (many:=8) h (by decide);have h1:=cC (o':=.lst [.int (n.fdiv 8)]) h;have k1:bL l st (st.set l (.lst [.int (n.fdiv 8)])):=bL.set;generalize st.set l (.lst [.int (n.fdiv 8)])=st1 at d8 h1 k1;generalize n.fdiv 8=n1 at h1;generalize hw:n.fmod 8=way at d8;unfold dD bB jW;by_cases w0:way=0
 ·subst w0;exact⟨.non,st1,n1,by simp[d8,Wo.w],k1,h1,trivial⟩
 by_cases w1:way=1
 ·subst w1;obtain⟨v,st2,hv,e1,e2,k2,h2⟩:=HV (many:=5) (ws:=[.str "kind",.str "great",.str "nought",.str "none",.str "lost"]) h1 (by decide) (by decide) rfl;obtain⟨x,rfl⟩:∃x,v= .str x:=by simp at hv;rcases hv with rfl |rfl |rfl |rfl |rfl<;>exact⟨_,rfl⟩
  exact⟨.kK x,st2,_,by simp[d8,e1,e2,Wo.w],k1.trans k2,h2,trivial⟩
 by_cases w2:way=2
 ·subst w2;obtain⟨v,st2,hv,e1,e2,k2,h2⟩:=HV (many:=6) (ws:=[.str "",.str "a",.str "b7",.str "no",.str UU,.str "-1"]) h1 (by decide) (by decide) rfl;obtain⟨x,rfl,hx⟩:∃x,v= .str x/\x.length<=200:=by simp at hv;rcases hv with rfl |rfl |rfl |rfl |rfl |rfl<;>exact⟨_,rfl,by decide+kernel⟩
  exact⟨.txt x,st2,_,by simp[d8,e1,e2,YY,Wo.w],k1.trans k2,h2,hx⟩
 by_cases w3:way=3
 ·subst w3;exact⟨.int (n1.fmod (2 * eW+1) - eW),_,n1.fdiv (2 * eW+1),by simp[d8,Wz,m60,digit h1 (many:=2 * eW+1) (by decide+kernel),Wo.w],k1.trans bL.set,cC h1,by have q1:=jg n1 (b:=2 * eW+1) (by decide+kernel);have q2:=ky n1 (b:=2 * eW+1) (by decide+kernel);exact⟨by omega,by omega⟩⟩
 by_cases w4:way=4
 ·subst w4;obtain⟨v,st2,hv,e1,e2,k2,h2⟩:=HV (many:=4) (ws:=[.int eW,.int (-eW),.int P30,.int (1 - eW)]) h1 (by decide) (by decide) rfl;obtain⟨x,rfl,hx⟩:∃x,v= .int x/\-eW<=x/\x<=eW:=by simp at hv;rcases hv with rfl |rfl |rfl |rfl<;>exact⟨_,rfl,by decide+kernel,by decide+kernel⟩
  exact⟨.int x,st2,_,by simp[d8,e1,e2,Wz,p30,Wo.w],k1.trans k2,h2,hx⟩
 ·have v0:(way == 0)=false:=beq_false_of_ne w0;have v1:(way == 1)=false:=beq_false_of_ne w1;have v2:(way == 2)=false:=beq_false_of_ne w2;have v3:(way == 3)=false:=beq_false_of_ne w3;have v4:(way == 4)=false:=beq_false_of_ne w4;exact⟨.int (n1.fmod 7 - 3),_,n1.fdiv 7,by simp[d8,v0,v1,v2,v3,v4,digit h1 (many:=7) (by decide),Wo.w],k1.trans bL.set,cC h1,by
   have q1:=jg n1 (b:=7) (by decide);have q2:=ky n1 (b:=7) (by decide);have q3:(10:Int)<=eW:=by decide+kernel
   exact⟨by omega,by omega⟩⟩
def same:Wo->Wo->Bool
 |.kK _,_=>false
 |_,.kK _=>false
 |.non,.non=>true
 |.non,.int j=>((0:Int) == j)||false
 |.non,.txt y=>(("":PySem.Str) == y)||false
 |.int i,.non=>((0:Int) == i)||false
 |.txt x,.non=>(("":PySem.Str) == x)||false
 |.int i,.int j=>i == j
 |.txt x,.txt y=>x == y
 |_,_=>false
theorem sw(a b:Wo)(st:Hs):eO [a.w,b.w] st= .ok (.bl (same a b)) st:=by cases a<;>cases b<;>rfl
variable{c:Int}
theorem mixed{k:Int}(h0:0<=k)(h1:k < 1000000):∃v:Int,0<=v/\fS [.int c,.int k] st= .ok (.int v) st:=by
 have z1:dO (.int 7919) (.int k) st= .ok (.int (7919 * k)) st:=HG (by decide) (by decide);have z2:∀i:Int,dO (.int i) (.int 48271) st= .ok (.int (i * 48271)) st:=λi=>mul_r (by decide) (by decide);have z3:∀i:Int,dO (.int i) (.int 69621) st= .ok (.int (i * 69621)) st:=λi=>mul_r (by decide) (by decide);generalize hs:((c.fmod 1000000007+7919 * k+1) * 48271).fmod 2147483647=s;have s0:0<=s:=by rw[<-hs];exact jg _ (by decide)
 have s1:s < 2147483647:=by rw[<-hs];exact ky _ (by decide)
 have z4:dO (.int s) (.int s) st= .ok (.int (s * s)) st:=HG (by omega) (by omega);refine⟨((s * s).fmod 2147483629 * 69621).fmod 2147483647,jg _ (by decide),?_⟩;unfold fS bB jY;simp[z1,z2,z3,z4,hs,kF]
variable{ns:List Int}
theorem HW{k:Int}(h0:0<=k)(c:k < ns.length):L2.oJ (ns.map Wv.int) k=some (.int (ns.getD k.toNat 0)):=by
 have hk:k.toNat < ns.length:=by omega
 have ek:k=((k.toNat:Nat):Int):=by omega
 have q:=L2.lW (xs:=ns.map Wv.int) (j:=k.toNat) (v:=.int (ns.getD k.toNat 0)) (by simp[hk]);rw[<-ek]at q;exact q
theorem wX(h:aG st l=some (ns.map Wv.int)){k:Int}(h0:0<=k):∃v:Int,bR [.ref l,.int k] st= .ok (.int v) st:=by
 have ln:=sI h;rw[bP]at ln;unfold bR bB iC;by_cases c:k < ns.length
 ·exact⟨_,by simp[ln,c,mB h (HW h0 c)];rfl⟩
 ·exact⟨0,by simp[ln,c]⟩
theorem M4:jM (.int 10) (.int 60) st= .ok (.int (10 ^ 60)) st:=HH (by decide)
variable{n j:Nat}
theorem HX{lo:Int}{w:Wv}(h:(qo lo c n)[j]? =some w):w= .int (lo+j * c)/\j < n:=by
 have hj:j < n:=by have:=(List.getElem?_eq_some_iff.mp h).1;rw[nZ]at this;exact this
 rw[uO hj]at h;exact⟨(Option.some.inj h).symm,hj⟩
theorem QH{k:Nat}(h0:0<=c)(h1:c < (10 ^ 60) ^ k)(hk:k<=5):IntMulOk c (10 ^ 60):=by
 have b:c.natAbs < 2 ^ 1000:=by
  have e:(10 ^ 60:Int) ^ k < 2 ^ 1000:=by
   have hk':k=0\/k=1\/k=2\/k=3\/k=4\/k=5:=by omega
   rcases hk' with rfl |rfl |rfl |rfl |rfl |rfl<;>decide+kernel
  have e2:((2 ^ 1000:Nat):Int)=2 ^ 1000:=by norm_cast
  omega
 exact QI (aV (Cf b) (by decide)) (aV (Cf (k:=200) (by decide+kernel)) (by decide))
theorem stream(h:aG st l=some (ns.map Wv.int))(hn:ns.length<=63){k:Int}(h0:0<=k)(h1:k<=40):∃n:Int,b8 [.ref l,.int k] st= .ok (.ref st.length) (st++[.lst [.int n]]):=by
 obtain⟨v0,ev0⟩:=wX h (k:=0) (Int.le_refl _);have ln:=sI h;rw[bP]at ln;have sm:=MY h;have cr:Eh (k+1) ns.length 13:=⟨by omega,by omega,by omega,by omega,by decide,by decide⟩;have sn:iA (k+1) ns.length 13<=5:=by unfold iA;split<;>omega
 have l1:∃(o3:Option Wv)(c:Int),dg 3 cI (qo (k+1) 13 (iA (k+1) ns.length 13)) [some (.ref l),some (.int k),some (.int 0),none,none,none] st= .nx [some (.ref l),some (.int k),some (.int c),o3,none,none] st:=by
  obtain⟨ρ,st',e,o3,c,rfl,rfl,_,_⟩:=mi (i:=3) (gb:=cI) (λi ρ st'=>∃(o3:Option Wv)(c:Int),ρ=[some (.ref l),some (.int k),some (.int c),o3,none,none]/\st'=st/\0<=c/\c < (10 ^ 60) ^ i) (qo (k+1) 13 (iA (k+1) ns.length 13)) 0 [some (.ref l),some (.int k),some (.int 0),none,none,none] st ⟨none,0,rfl,rfl,by decide,by decide⟩ (by
   rintro j w hw _ s ⟨o3,c,rfl,rfl,c0,c1⟩;obtain⟨rfl,hj⟩:=HX hw;have hj5:0+j<=5:=by omega
   have jx:k+1+(j:Int) * 13 < ns.length:=by unfold iA at hj;split at hj<;>omega
   have m1:dO (.int c) (.int (10 ^ 60)) s= .ok (.int (c * 10 ^ 60)) s:=yu (QH c0 c1 hj5);have m2:oMod (.int (ns.getD (k+1+(j:Int) * 13).toNat 0)) (.int (10 ^ 60)) s= .ok (.int ((ns.getD (k+1+(j:Int) * 13).toNat 0).fmod (10 ^ 60))) s:=kF (by decide);have x1:=mB h (HW (k:=k+1+(j:Int) * 13) (by omega) jx);have q0:=jg (ns.getD (k+1+(j:Int) * 13).toNat 0) (b:=10 ^ 60) (by decide);have q1:=ky (ns.getD (k+1+(j:Int) * 13).toNat 0) (b:=10 ^ 60) (by decide);generalize (ns.getD (k+1+(j:Int) * 13).toNat 0).fmod (10 ^ 60)=q at m2 q0 q1;refine⟨_,_,?_,⟨some (.int (k+1+(j:Int) * 13)),c * 10 ^ 60+q,rfl,rfl,?_,?_⟩⟩
   ·unfold cI;simp only[yq,B8,yt,e_c,HY,HZ,Cg,Ci,HC,wq,Yp,M4,HB,m1,x1,m2,Uw,HA]
   ·have:=Int.mul_nonneg c0 (show(0:Int)<=10 ^ 60 by decide);omega
   ·have e:(10 ^ 60:Int) ^ (0+j+1)=(10 ^ 60) ^ (0+j) * 10 ^ 60:=Int.pow_succ ..;rw[e];have:(c+1) * 10 ^ 60<=(10 ^ 60) ^ (0+j) * 10 ^ 60:=Int.mul_le_mul_of_nonneg_right (by omega) (by decide);rw[Int.add_mul]at this;omega)
  exact⟨o3,c,e⟩
 obtain⟨o3,c,e1⟩:=l1;have l2:∃(WC WD:Option Wv)(g':Int),dg 3 eJ (cU 0 8) [some (.ref l),some (.int k),some (.int c),o3,some (.int 0),none] st= .nx [some (.ref l),some (.int k),some (.int c),WC,some (.int g'),WD] st:=by obtain⟨ρ,st',e,WC,WD,g',rfl,rfl⟩:=yw (i:=3) (gb:=eJ) (λρ st'=>∃(o3 o5:Option Wv)(g:Int),ρ=[some (.ref l),some (.int k),some (.int c),o3,some (.int g),o5]/\st'=st) (cU 0 8) [some (.ref l),some (.int k),some (.int c),o3,some (.int 0),none] st ⟨o3,none,0,rfl,rfl⟩ (by rintro w hw _ s ⟨o3,o5,g,rfl,rfl⟩;obtain⟨j,rfl,j0,j1⟩:=LP hw;obtain⟨u,_,eu⟩:=mixed (st:=s) (c:=c+ns.sum) (k:=8 * k+j) (by omega) (by omega);have z1:dO (.int 8) (.int k) s= .ok (.int (8 * k)) s:=HG (by decide) (by decide);have z3:dO (.int g) (.int 2147483647) s= .ok (.int (g * 2147483647)) s:=mul_r (by decide) (by decide);refine⟨_,_,?_,⟨some (.int j),some (.int u),g * 2147483647+u,rfl,rfl⟩⟩;unfold eJ;simp[sm,z1,z3,eu]);exact⟨WC,WD,g',e⟩
 obtain⟨WC,WD,g',e2⟩:=l2;have f8:∀i:Int,fH (.int i) (.int 8) st= .ok (.int (i.fdiv 8)) st:=λi=>lq (by decide);have c8:dM 8:=HJ (by decide) (by decide);have er3:∀(ga:GA)(ρ:b7)(s s1:Hs)(a b c:Int),ga ρ s= .ok [.int a,.int b,.int c] s1->Eh a b c->si 3 ga cI ρ s=dg 3 cI (qo a c (iA a b c)) ρ s1:=λga ρ s s1 a b c h1 h2=>by unfold si;rw[h1];show(if Eh a b c then _ else _)=_;rw[if_pos h2]
 have e3:=er3 (aa (ao de (ae 1) (gC (.int 1))) (aa (ba jO (aa (ae 0) aj)) (aa (gC (.int 13)) aj))) [some (.ref l),some (.int k),some (.int 0),none,none,none] st st (k+1) ns.length 13 (by simp[ln]) cr;rw[e1]at e3;unfold b8 bB i_;by_cases b:v0.fmod 2=1
 ·exact⟨c,by simp[e3,ev0,kF,b]⟩
 ·have b':(v0.fmod 2 == 1)=false:=beq_false_of_ne b;exact⟨g'.fdiv 8,by simp[e3,ev0,kF,b',c8,e2,f8]⟩
def Fits:List Int->Prop
 |[a,b]=>qz a b
 |[a,b,c,d]=>g_ a b c d
 |_=>False
theorem QJ:jM (.int 10) (.int 60) st= .ok (.int eW) st:=M4
theorem YZ:(1000:Int) < eW:=by unfold eW;decide+kernel
theorem pick(h:Ro r st)(hw:(ws.length:Int)=m)(h0:0 < m)(h1:m < 1000000):
  ∃d v st',aB [.ref r,.int m] (st++[.lst ws])= .ok (.int d) st'/\bq (.ref st.length) (.int d) st'= .ok v st'/\v∈ws/\Dw r st st':=by
 have hr:r < st.length:=let ⟨v,e⟩:=h;cV e;obtain⟨d,s2,e2,d0,d1,k2,LW⟩:=dig (m:=m) (h.push (o:=.lst ws)) h0 h1;obtain⟨v,e3,e4⟩:=sL (ws:=ws) (d:=d) d0 (by omega);exact⟨d,v,s2,e2,mB (k2.lst cX (by omega)) e3,e4,bL.push.trans k2,LW⟩
theorem UW(h:Ro r st):∃q s st',b9 [.ref r,.int 2] st= .ok (tI [q,s]) st'/\Cd q/\Cd s/\Dw r st st':=by
 obtain⟨p,st',e,hl,hp,d⟩:=pins h (n:=2) (by decide)
 match p,hl with
 |[q,s],_=>exact⟨q,s,st',e,hp q (by simp),hp s (by simp),d⟩
theorem M5(h:Ro r st):∃q s t u st',b9 [.ref r,.int 4] st= .ok (tI [q,s,t,u]) st'/\Cd q/\Cd s/\Cd t/\Cd u/\Dw r st st':=by
 obtain⟨p,st',e,hl,hp,d⟩:=pins h (n:=4) (by decide)
 match p,hl with
 |[q,s,t,u],_=>exact⟨q,s,t,u,st',e,hp q (by simp),hp s (by simp),hp t (by simp),hp u (by simp),d⟩
theorem number(h:Ro r st):∃n st',e_ [.ref r] st= .ok (.int n) st'/\0<=n/\n<=eW/\Dw r st st':=by
 have pb:=YZ;obtain⟨w,s1,e1,w0,w1,d1⟩:=dig (m:=5) h (by decide) (by decide);unfold e_ bB jb;by_cases c0:w=0
 ·obtain⟨d,s2,e2,a0,a1,d2⟩:=dig (m:=3) d1.2 (by decide) (by decide);subst c0;exact⟨eW - d,s2,by simp[e1,e2,QJ],by omega,by omega,d1.trans d2⟩
 have b0:(w == 0)=false:=beq_false_of_ne c0;obtain⟨d,s2,e2,a0,a1,d2⟩:=dig (m:=6) d1.2 (by decide) (by decide);exact⟨d,s2,by simp[e1,e2,b0],by omega,by omega,d1.trans d2⟩
def tq(a b:Int):Prop:=0<=a/\a<=96/\0<=b/\b<=22
theorem QK(h:Ro r st)(k:tq a b):∃c d st',dF [.ref r,tI [a,b]] st= .ok (tI [c,d]) st'/\Fits [c,d]/\Dw r st st':=by obtain⟨c,d,s1,e,hc,d1⟩:=place (a:=a) (b:=b) h;exact⟨_,_,s1,e,by unfold tq at k;show qz _ _;unfold qz;omega,d1⟩
theorem M6(h:Ro r st)(k:tq a b):∃c d e f st',dy [.ref r,tI [a,b]] st= .ok (tI [c,d,e,f]) st'/\Fits [c,d,e,f]/\Dw r st st':=by obtain⟨t,l,p,q,s1,e,hc,d1⟩:=YX (a:=a) (b:=b) h;refine⟨_,_,_,_,s1,e,?_,d1⟩;unfold tq at k;show g_ _ _ _ _;unfold g_;have:=UI (x:=a+p - (a+t)+1) (y:=b+q - (b+l)+1) (p:=3) (q:=4) (by omega) (by omega) (by omega) (by omega);omega
variable{x:S}
theorem UX(h:(decide (x.length<=40)&&x.cps.toList.all λc=>decide (32<=c/\c<=126/\c≠34/\c≠37))=true):QG x:=by rw[dI,Ai]at h;exact⟨of_decide_eq_true h.1,λc hc=>(show 32<=c/\c<=126/\c≠34/\c≠37 from of_decide_eq_true (h.2 c hc))⟩
variable{v:Wv}
theorem LX(hv:v∈[Wv.str "",.str "a",.str "b7",.str "no"]):∃i:S,v= .str i/\QG i:=by simp at hv;rcases hv with rfl |rfl |rfl |rfl<;>exact⟨_,rfl,UX (by decide+kernel)⟩
theorem leaf(h:Ro r st)(hs:tq a b):∃f st',fJ [.ref r,tI [a,b]] st= .ok (Fm.w f) st'/\f.ok/\f.sz=1/\f.dp=1/\Dw r st st':=by
 obtain⟨w,s1,e1,w0,w1,d1⟩:=dig (m:=8) h (by decide) (by decide);unfold fJ bB lD;by_cases c0:w=0
 ·subst c0;obtain⟨i,s2,e2,i0,i1,d2⟩:=number d1.2;exact⟨.lit "num" [.int i],s2,by simp[e1,e2,Fm.w,Fm.v],.inl ⟨rfl,i,rfl,i0,i1⟩,rfl,rfl,d1.trans d2⟩
 have b0:(w == 0)=false:=beq_false_of_ne c0;by_cases c1:w=1
 ·subst c1;obtain⟨d,v,s4,e4,e5,hv,d4⟩:=pick (m:=4) (ws:=[.str "",.str "a",.str "b7",.str "no"]) d1.2 rfl (by decide) (by decide);obtain⟨i,rfl,ht⟩:=LX hv;exact⟨.lit "text" [.str i],s4,by simp[e1,e4,e5,Fm.w,Fm.v],.inr (.inl ⟨rfl,i,rfl,ht⟩),rfl,rfl,d1.trans d4⟩
 have b1:(w == 1)=false:=beq_false_of_ne c1;have at':∀s2,Dw r s1 s2->∃(c d q s:Int)(s4 s5:Hs),dF [.ref r,tI [a,b]] s2= .ok (tI [c,d]) s4/\b9 [.ref r,.int 2] s4= .ok (tI [q,s]) s5/\Fits [c,d]/\Cd q/\Cd s/\Dw r st s5:=λs2 d2=>by obtain⟨c,d,s4,e4,hf,d4⟩:=QK d2.2 hs;obtain⟨q,s,s5,e5,q1,q2,d5⟩:=UW d4.2;exact⟨c,d,q,s,s4,s5,e4,e5,hf,q1,q2,((d1.trans d2).trans d4).trans d5⟩
 by_cases c2:w=2
 ·subst c2;obtain⟨x,s2,e2,x0,x1,d2⟩:=dig (m:=3) d1.2 (by decide) (by decide);by_cases cx:x=0
  ·subst cx;exact⟨.lit "lost" [],s2,by simp[e1,e2,Fm.w,Fm.v],.inr (.inr ⟨rfl,rfl⟩),rfl,rfl,d1.trans d2⟩
  ·have bx:(x == 0)=false:=beq_false_of_ne cx;obtain⟨c,d,q,s,s4,s5,e4,e5,hf,q1,q2,d5⟩:=at' s2 d2;exact⟨.pt "at" [c,d] [q,s],s5,by simp[e1,e2,bx,e4,e5,Fm.w,Fm.v],.inl ⟨rfl,c,d,q,s,rfl,rfl,hf,q1,q2⟩,rfl,rfl,d5⟩
 have b2:(w == 2)=false:=beq_false_of_ne c2;by_cases c3:w < 6
 ·obtain⟨c,d,q,s,s4,s5,e4,e5,hf,q1,q2,d5⟩:=at' s1 (Dw.of d1.2);exact⟨.pt "at" [c,d] [q,s],s5,by simp[e1,b0,b1,b2,c3,e4,e5,Fm.w,Fm.v],.inl ⟨rfl,c,d,q,s,rfl,rfl,hf,q1,q2⟩,rfl,rfl,d5⟩
 ·obtain⟨d,v,s2,e2,e3,hv,d2⟩:=pick (m:=4) (ws:=[.str "sum",.str "count",.str "least",.str "greatest"]) d1.2 rfl (by decide) (by decide);obtain⟨x,rfl,hx⟩:∃x:S,v= .str x/\x∈AW:=by simp at hv;rcases hv with rfl |rfl |rfl |rfl<;>exact⟨_,rfl,by decide+kernel⟩
  obtain⟨a',b',c',d',s3,e4,har,d3⟩:=M6 d2.2 hs;obtain⟨q,s,t,u,s4,e5,q1,q2,q3,q4,d4⟩:=M5 d3.2;exact⟨.pt x [a',b',c',d'] [q,s,t,u],s4,by simp[e1,b0,b1,b2,c3,e2,e3,e4,e5,Fm.w,Fm.v],.inr ⟨hx,a',b',c',d',q,s,t,u,rfl,rfl,har,q1,q2,q3,q4⟩,rfl,rfl,((d1.trans d2).trans d3).trans d4⟩
theorem Cj{d:Int}(h0:0<=d)(h1:d < ws.length):∃v,bq (.ref st.length) (.int d) (st++[.lst ws])= .ok v (st++[.lst ws])/\v∈ws:=by obtain⟨v,e3,e4⟩:=sL (ws:=ws) (d:=d) h0 h1;exact⟨v,mB cX e3,e4⟩
theorem Dw.push(h:Ro r st):Dw r st (st++[o]):=⟨bL.push,h.push⟩
def sq:Nat->Nat
 | 0=>1
 |k+1=>3 * sq k+1
theorem Y0{k:Nat}(h:¬k=0):sq k=3 * sq (k - 1)+1:=by obtain⟨j,rfl⟩:∃j,k=j+1:=⟨k - 1,by omega⟩;rfl
theorem Y1(k:Nat):1<=sq k:=by cases k<;>simp[sq]
theorem qR{r:Nat}{a b:Int}(hs:tq a b):∀(n:Nat){st:Hs}{k:Nat},Ro r st->k<=n->∃f st',b_ (n+1) [.ref r,tI [a,b],.int k] st= .ok (Fm.w f) st'/\f.ok/\f.sz<=sq k/\f.dp<=k+1/\Dw r st st'
 |n,st,k,h,hk=>by
  have q1':=Y1 k;rw[mC];unfold bB fU;by_cases c0:k=0
  ·obtain⟨f,s2,e2,h1,h2,h3,d2⟩:=leaf h hs;subst c0;exact⟨f,s2,by simp[e2],h1,by omega,by omega,d2⟩
  have hq:=Y0 c0;obtain⟨w,s1,e1,w0,w1,d1⟩:=dig (m:=16) h (by decide) (by decide);have bk:((k:Int) == 0)=false:=beq_false_of_ne (by omega);by_cases cw:w < 3
  ·obtain⟨f,s2,e2,h1,h2,h3,d2⟩:=leaf d1.2 hs;exact⟨f,s2,by simp[e1,e2,bk,cw],h1,by omega,by omega,d1.trans d2⟩
  obtain⟨n',rfl⟩:∃n',n=n'+1:=⟨n - 1,by omega⟩;have ek:((k:Int) - 1)=((k - 1:Nat):Int):=by omega
  obtain⟨x,s2,e2,a1,a2,a3,d2⟩:=qR hs n' (k:=k - 1) d1.2 (by omega);by_cases c5:w < 5
  ·obtain⟨v,e3,hv⟩:=Cj (st:=s2) (ws:=[.str "minus",.str "not"]) (d:=w - 3) (by omega) (by simp;omega);obtain⟨y,rfl,hy⟩:∃y:S,v= .str y/\y∈W1:=by simp at hv;rcases hv with rfl |rfl<;>exact⟨_,rfl,by decide+kernel⟩
   refine⟨.o1 y x,s2++[.lst [.str "minus",.str "not"]],?_,⟨hy,a1⟩,by simp only[Fm.sz];omega,by simp only[Fm.dp];omega,(d1.trans d2).trans (Dw.push d2.2)⟩;simp[e1,bk,cw,ek,e2,c5,e3];rfl
  by_cases c6:w=5
  ·subst c6;obtain⟨a',b',c',d',s3,e3,har,d3⟩:=M6 d2.2 hs;obtain⟨q,s,t,u,s4,e4,q1,q2,q3,q4,d4⟩:=M5 d3.2;refine⟨.fd x [a',b',c',d'] [q,s,t,u],s4,?_,⟨a1,a',b',c',d',q,s,t,u,rfl,rfl,har,q1,q2,q3,q4⟩,by simp only[Fm.sz];omega,by simp only[Fm.dp];omega,((d1.trans d2).trans d3).trans d4⟩;simp[e1,bk,ek,e2,e3,e4];rfl
  have b6:(w == 5)=false:=beq_false_of_ne c6;obtain⟨y,s3,e3,b1,b2,b3,d3⟩:=qR hs n' (k:=k - 1) d2.2 (by omega);by_cases c8:w < 8
  ·obtain⟨z,s4,e4,z1,z2,z3,d4⟩:=qR hs n' (k:=k - 1) d3.2 (by omega);refine⟨.o3 x y z,s4,?_,⟨a1,b1,z1⟩,by simp only[Fm.sz];omega,by simp only[Fm.dp];omega,((d1.trans d2).trans d3).trans d4⟩;simp[e1,bk,cw,c5,b6,ek,e2,e3,c8,e4];rfl
  by_cases c15:w=15
  ·subst c15;obtain⟨d,v,s4,e4,e5,hv,d4⟩:=pick (m:=2) (ws:=[.str "=",.str "&"]) d3.2 rfl (by decide) (by decide);obtain⟨o,rfl,ho⟩:∃y:S,v= .str y/\y∈W2:=by simp at hv;rcases hv with rfl |rfl<;>exact⟨_,rfl,by decide+kernel⟩
   refine⟨.o2 o x y,s4,?_,⟨ho,a1,b1⟩,by simp only[Fm.sz];omega,by simp only[Fm.dp];omega,((d1.trans d2).trans d3).trans d4⟩;simp[e1,bk,ek,e2,e3,e4,e5];rfl
  have b15:(w == 15)=false:=beq_false_of_ne c15;obtain⟨v,e4,hv⟩:=Cj (st:=s3) (ws:=[.str "else",.str "rest",.str "+",.str "-",.str "*",.str "/",.str "<"]) (d:=w - 8) (by omega) (by simp;omega);obtain⟨o,rfl,ho⟩:∃y:S,v= .str y/\y∈W2:=by simp at hv;rcases hv with rfl |rfl |rfl |rfl |rfl |rfl |rfl<;>exact⟨_,rfl,by decide+kernel⟩
  refine⟨.o2 o x y,s3++[.lst [.str "else",.str "rest",.str "+",.str "-",.str "*",.str "/",.str "<"]],?_,⟨ho,a1,b1⟩,by simp only[Fm.sz];omega,by simp only[Fm.dp];omega,((d1.trans d2).trans d3).trans (Dw.push d3.2)⟩;simp[e1,bk,cw,c5,b6,ek,e2,e3,c8,b15,e4];rfl
theorem spot(h:aG st l=some (ns.map Wv.int)):∃a b st',gQ [.ref l] st= .ok (tI [a,b]) st'/\tq a b/\∃more,st'=st++more:=by
 obtain⟨v,e⟩:=wX h (k:=0) (by decide);have lg:∀j:Int,(j=2\/j=4\/j=400)->j≠0/\j.natAbs.log2 < 9000:=by rintro j (rfl |rfl |rfl)<;>decide+kernel
 let f:=v.fdiv 2
 let x:=(f.fdiv 4).fmod 97
 let y:=(f.fdiv 400).fmod 23
 have x0:0<=x:=jg _ (by decide);have x1:x < 97:=ky _ (by decide);have y0:0<=y:=jg _ (by decide);have y1:y < 23:=ky _ (by decide)
 let s1:=st++[.lst [.int 0,.int x]]
 let s2:=s1++[.lst [.int 0,.int y]]
 obtain⟨p,e2,hp⟩:=Cj (st:=st) (ws:=[.int 0,.int x]) (d:=f.fmod 2) (jg _ (by decide)) (by simpa using ky f (by decide));obtain⟨q,e3,hq⟩:=Cj (st:=s1) (ws:=[.int 0,.int y]) (d:=(f.fdiv 2).fmod 2) (jg _ (by decide)) (by simpa using ky (f.fdiv 2) (by decide));obtain⟨a,rfl,ha⟩:∃a:Int,p= .int a/\0<=a/\a<=96:=by
  simp at hp;rcases hp with rfl |rfl
  ·exact⟨0,rfl,by omega⟩
  ·exact⟨x,rfl,by omega⟩
 obtain⟨b,rfl,hb⟩:∃b:Int,q= .int b/\0<=b/\b<=22:=by
  simp at hq;rcases hq with rfl |rfl
  ·exact⟨0,rfl,by omega⟩
  ·exact⟨y,rfl,by omega⟩
 refine⟨a,b,s2,?_,⟨ha.1,ha.2,hb.1,hb.2⟩,[.lst [.int 0,.int x],.lst [.int 0,.int y]],by simp[s2,s1]⟩;have m1:∀{i:Int}{s:Hs},oMod (.int i) (.int 97) s= .ok (.int (i.fmod 97)) s:=kF (by decide);have m2:∀{i:Int}{s:Hs},oMod (.int i) (.int 23) s= .ok (.int (i.fmod 23)) s:=kF (by decide);have m3:∀{i:Int}{s:Hs},oMod (.int i) (.int 2) s= .ok (.int (i.fmod 2)) s:=kF (by decide);have f2:∀{i:Int}{s:Hs},fH (.int i) (.int 2) s= .ok (.int (i.fdiv 2)) s:=lq (lg 2 (by simp));have f4:∀{i:Int}{s:Hs},fH (.int i) (.int 4) s= .ok (.int (i.fdiv 4)) s:=lq (lg 4 (by simp));have Y2:∀{i:Int}{s:Hs},fH (.int i) (.int 400) s= .ok (.int (i.fdiv 400)) s:=lq (lg 400 (by simp));unfold gQ bB lr;dsimp only[s1,x,y,f]at e2 e3 ⊢;simp[e,m1,m2,m3,f2,f4,Y2,e2];simp at e3;simp[e3,tI,s2,s1,x,y,f]
theorem jx4{a b c d:Wv}:bq (.tup [a,b,c,d]) (.int 0) st= .ok a st/\bq (.tup [a,b,c,d]) (.int 1) st= .ok b st/\bq (.tup [a,b,c,d]) (.int 2) st= .ok c st/\bq (.tup [a,b,c,d]) (.int 3) st= .ok d st:=⟨rfl,rfl,rfl,rfl⟩
theorem pL{xs:List Ob}:aG (st++ .lst ws::xs) st.length=some ws:=by unfold aG;simp
variable{m:Nat}{more:Hs}{acc row:List Wv}
section
variable {a b c d:Int}{st:Hs}
theorem QL:L2.oJ [Wv.int a,.int b,.int c,.int d] 1=some (.int b):=rfl
theorem at3:L2.oJ [Wv.int a,.int b,.int c,.int d] 3=some (.int d):=rfl
def pM(r b:Int)(n:Nat):List Wv:=(dh n).map λk:Nat=> .tup [.int r,.int (b+k)]
def iJ(a b:Int)(m n:Nat):List Wv:=((dh m).map λk:Nat=>pM (a+k) b n).flatten
theorem u7:(iJ a b m n).length=m * n:=by
 unfold iJ;rw[List.length_flatten,dC];have:(fN ∘ λk:Nat=>pM (a+k) b n)=λ_=>n:=by funext k;simp[pM]
 rw[this];clear this
 induction m with
 |zero=>simp
 |succ m ih=>rw[qS,dH,List.sum_append,ih,Nat.succ_mul];simp
theorem AA:iJ a b (m+1) n=iJ a b m n++pM (a+m) b n:=by unfold iJ;rw[qS,dH,H_];simp
theorem Ia{o:Wv}{r:Int}(hb:dM b)(hd:dM (d+1))(hn:(d+1 - b).toNat<=300):
  k_ [("row",2)] (F6 (aa (ao bq (ae 0) (gC (.int 1))) (aa (ao de (ao bq (ae 0) (gC (.int 3))) (gC (.int 1))) aj))) eD c9 [some (.tup [.int a,.int b,.int c,.int d]),some o,some (.int r)] st=
   .ok (.ref st.length) (st++[.lst (pM r b (d+1 - b).toNat)]):=by
 have q:=mj (cs:=[("row",2)]) (gt:=eD) (ge:=c9) (ρ:=[some (.tup [.int a,.int b,.int c,.int d]),some o,some (.int r)]) (w:=(none,cU b (d+1 - b).toNat)) (st:=st) (t:=λ_=>true) (f:=λv=> .tup [.int r,v]) trivial
  (λv _ acc=>rfl) (λv _ _ acc=>by unfold c9;simp[kM]) (by rw[show((none,cU b (d+1 - b).toNat):Wk).2=cU b (d+1 - b).toNat from rfl,c7];unfold lim;omega)
 have e:((cU b (d+1 - b).toNat).filter λ_=>true).map (λv=>Wv.tup [.int r,v])=pM r b (d+1 - b).toNat:=by rw[List.filter_eq_self.mpr (λ_ _=>rfl)];unfold cU pM;rw[dC];rfl
 rw[show((none,cU b (d+1 - b).toNat):Wk).2=cU b (d+1 - b).toNat from rfl,e]at q;simp[LN QL,LN at3,QC hb hd,q]
theorem vW(h:acc.length+row.length<=lim):Pd (.ref st.length) (.ref (st++ .lst acc::more).length) ((st++ .lst acc::more)++[.lst row])= .ok .non (st++ .lst (acc++row)::(more++[.lst row])):=by
 have g1:((st++Ob.lst acc::more)++[Ob.lst row])[st.length]? =some (.lst acc):=by simp
 have g2:((st++Ob.lst acc::more)++[Ob.lst row])[(st++Ob.lst acc::more).length]? =some (.lst row):=by rw[kP (aE _),nK];rfl
 show(match((st++Ob.lst acc::more)++[Ob.lst row])[st.length]?,((st++Ob.lst acc::more)++[Ob.lst row])[(st++Ob.lst acc::more).length]? with
  |some (.lst ws),some (.lst zs)=>if ws.length+zs.length<=lim then Re.ok Wv.non (((st++Ob.lst acc::more)++[Ob.lst row]).set st.length (.lst (ws++zs)))else .bad
  |_,_=> .bad)=_
 rw[g1,g2];dsimp only;rw[if_pos h]
 congr 1
 simp
theorem Ib(h:acc.length+row.length<=lim):xZ (.ref st.length) (.ref (st++ .lst acc::more).length) ((st++ .lst acc::more)++[.lst row])= .ok .non (st++ .lst (acc++row)::(more++[.lst row])):=vW h
theorem D5(hb:dM b)(hd:dM (d+1))(hn:(d+1 - b).toNat<=300)(hm:m<=100){ρ0:Option Wv}:∃(o:Option Wv)(more:Hs),
  dg 2 di (cU a m) [some (.tup [.int a,.int b,.int c,.int d]),some (.ref st.length),ρ0] (st++[.lst []])= .nx [some (.tup [.int a,.int b,.int c,.int d]),some (.ref st.length),o] (st++ .lst (iJ a b m (d+1 - b).toNat)::more):=by
 obtain⟨ρ1,st1,e1,o,more,rfl,rfl⟩:=mi (i:=2) (gb:=di) (λk ρ st'=>∃(o:Option Wv)(more:Hs),ρ=[some (.tup [.int a,.int b,.int c,.int d]),some (.ref st.length),o]/\st'=st++ .lst (iJ a b k (d+1 - b).toNat)::more)
  (cU a m) 0 [some (.tup [.int a,.int b,.int c,.int d]),some (.ref st.length),ρ0] (st++[.lst []]) ⟨ρ0,[],rfl,rfl⟩ (λj w hw ρ st' hP=>by
   obtain⟨o,more,rfl,rfl⟩:=hP;have hj:j < m:=by have q:=(List.getElem?_eq_some_iff.mp hw).1;rw[c7]at q;exact q
   rw[jm hj]at hw;cases hw;have ln:(iJ a b (0+j) (d+1 - b).toNat).length+(pM (a+j) b (d+1 - b).toNat).length<=lim:=by
    rw[u7];have z:(pM (a+(j:Int)) b (d+1 - b).toNat).length=(d+1 - b).toNat:=by unfold pM;simp
    rw[z];have:(0+j) * (d+1 - b).toNat<=100 * 300:=Nat.mul_le_mul (by omega) hn;unfold lim;omega
   refine⟨_,_,?_,some (.int (a+(j:Int))),more++[.lst (pM (a+j) b (d+1 - b).toNat)],rfl,rfl⟩;have e:iJ a b (0+j+1) (d+1 - b).toNat=iJ a b (0+j) (d+1 - b).toNat++pM (a+j) b (d+1 - b).toNat:=by rw[mw];exact AA
   rw[e];have rc:=Ia (a:=a) (c:=c) (o:=.ref st.length) (r:=a+(j:Int)) (st:=st++ .lst (iJ a b (0+j) (d+1 - b).toNat)::more) hb hd hn;have km:=λga ρ=>mh (mt:=xZ) (ga:=ga) (ρ:=ρ) (st:=st++ .lst (iJ a b (0+j) (d+1 - b).toNat)::more) (l:=st.length) pL;have em:=Ib (st:=st) (more:=more) ln;unfold di;simp only[e_expr,QA,yt,Ci,Cg,HZ,HY,HC,wq,km,rc,em,HB,HA])
 exact⟨o,more,by rw[e1,c7,mw]⟩
theorem tu(h:g_ a b c d):∃more:Hs,bW [tI [a,b,c,d]] st= .ok (.ref st.length) (st++ .lst (iJ a b (c+1 - a).toNat (d+1 - b).toNat)::more):=by
 unfold g_ at h;obtain⟨o,more,e⟩:=D5 (a:=a) (c:=c) (st:=st) (b:=b) (d:=d) (ρ0:=none) (by unfold dM;omega) (by unfold dM;omega) (by omega) (m:=(c+1 - a).toNat) (by omega);have ca:dM a:=by unfold dM;omega
 have cc:dM (c+1):=by unfold dM;omega
 refine⟨more,B9 (n:=3) (g:=eM) ?_⟩;unfold eM;simp[tI,jx4,ca,cc];simp[e]
end
abbrev Pt:=Int×Int
def D6(a b:Int)(m n:Nat):List Pt:=((dh m).map λk:Nat=>(dh n).map λj:Nat=>((a+k,b+j):Pt)).flatten
theorem yO:iJ a b m n=(D6 a b m n).map pw:=by
 unfold iJ D6 pM;rw[List.map_flatten,dC]
 congr 1
 refine oz λk _=>?_;show _=((dh n).map λj:Nat=>((a+k,b+j):Pt)).map pw;rw[dC];rfl
def Lx(x y:Pt):Prop:=x.1 < y.1\/(x.1=y.1/\x.2 < y.2)
variable{p:Pt}
theorem LY:p∈D6 a b m n↔(a<=p.1/\p.1 < a+m)/\b<=p.2/\p.2 < b+n:=by
 unfold D6;rw[List.mem_flatten];constructor
 ·rintro⟨l,hl,hp⟩;obtain⟨k,hk,rfl⟩:=List.mem_map.mp hl;obtain⟨j,hj,rfl⟩:=List.mem_map.mp hp;have:=List.mem_range.mp hk;have:=List.mem_range.mp hj;dsimp only;omega
 ·rintro⟨⟨h1,h2⟩,h3,h4⟩;refine⟨_,List.mem_map.mpr ⟨(p.1 - a).toNat,List.mem_range.mpr (by omega),rfl⟩,List.mem_map.mpr ⟨(p.2 - b).toNat,List.mem_range.mpr (by omega),?_⟩⟩;refine jI ?_ ?_
  ·show a+((p.1 - a).toNat:Int)=p.1;omega
  ·show b+((p.2 - b).toNat:Int)=p.2;omega
theorem QM:(D6 a b m n).Pairwise Lx:=by
 unfold D6;rw[List.pairwise_flatten];refine⟨λl hl=>?_,?_⟩
 ·obtain⟨k,hk,rfl⟩:=List.mem_map.mp hl;rw[List.pairwise_map];exact List.pairwise_lt_range.imp λh=> .inr ⟨rfl,by dsimp only;omega⟩
 ·rw[List.pairwise_map];refine List.pairwise_lt_range.imp λ{i j} h x hx y hy=>?_;obtain⟨k,_,rfl⟩:=List.mem_map.mp hx;obtain⟨q,_,rfl⟩:=List.mem_map.mp hy;exact .inl (by dsimp only;omega)
theorem LZ:(D6 a b m n).length=m * n:=by have:=congrArg fN (yO (a:=a) (b:=b) (m:=m) (n:=n));rw[u7,bP]at this;exact this.symm
def dz(a b c d:Int):List Pt:=D6 a b (c+1 - a).toNat (d+1 - b).toNat
theorem L0{d:Int}(h:g_ a b c d):p∈dz a b c d↔(a<=p.1/\p.1<=c)/\b<=p.2/\p.2<=d:=by unfold dz;rw[LY];unfold g_ at h;omega
def dP(p:Pt):PyData:=.tuple [.int p.1,.int p.2]
theorem pN(p q:Pt):aT (dP p) (dP q)=decide (p=q):=by rw[xl];simp[dP,aT,eF,Prod.ext_iff]
theorem Ck{st:Hs}{n:Nat}:∀l:List Pt,fP (a_ st (n+1)) (l.map pw)=some (l.map dP)
 |[]=>rfl
 |p::r=>by
  rw[aK];unfold fP;rw[Ck r];have:a_ st (n+1) (pw p)=some (dP p):=by cases n<;>rfl
  rw[this];rfl
variable{ps:List Pt}
theorem AB(h:aG st l=some (ps.map pw)):a_ st 20 (.ref l)=some (.list (ps.map dP)):=by
 show(match aG st l with |some ws=>(fP (a_ st 19) ws).map Bw |none=>none)=_
 rw[h];dsimp only;rw[Ck];rfl
theorem Ie:∀l:List Pt,eF (l.map dP) (l.map dP)=true
 |[]=>by simp[eF]
 |p::r=>by rw[aK];show(aT (dP p) (dP p)&&eF (r.map dP) (r.map dP))=true;rw[pN,Ie r];simp
theorem Cm(h:aG st l=some (ps.map pw))(p:Pt):kN false (pw p) (.ref l) st= .ok (.bl (decide (p∈ps))) st:=by
 have d2:a_ st 20 (pw p)=some (dP p):=rfl;have e:((ps.map dP).any λz=>aT z (dP p))=decide (p∈ps):=by
  rw[xl,AD,decide_eq_true_eq];constructor
  ·rintro⟨z,hz,e⟩;obtain⟨m,hm,rfl⟩:=List.mem_map.mp hz;rw[pN]at e;rw[<-of_decide_eq_true e];exact hm
  ·intro hm;exact⟨_,List.mem_map.mpr ⟨p,hm,rfl⟩,by rw[pN];simp⟩
 unfold kN;rw[AB h,d2];dsimp only;rw[e];simp
theorem WE{x:Wv}:bq (.tup (x::ws)) (.int 0) st= .ok x st:=LN (L2.lW (j:=0) rfl)
variable{y:Wv}
theorem ix1{x:Wv}:bq (.tup (x::y::ws)) (.int 1) st= .ok y st:=LN (L2.lW (j:=1) rfl)
variable{us:List Wv}
theorem UY{lo hi:Option Int}(h:¬nX ws.length lo hi)(h2:vP ws lo hi=us):Gd (.tup ws) lo hi st= .ok (.tup us) st:=by show(if nX ws.length lo hi then Re.ok (Wv.tup ws) st else RS (.tup ws) lo hi st)=_;rw[if_neg h];show(if nX ws.length lo hi then Re.bad else Re.ok (Wv.tup (vP ws lo hi)) st)=_;rw[if_neg h,h2]
theorem D7{k:Int}(h:gH.lookup x=some (.int k)):gR [.str x] st= .ok (.int k) st:=by unfold gR bB lG;simp[LQ h]
theorem tw{k:Int}(h:gH.lookup x=some (.int k))(n1:¬nX (ws.length+1) (some 1) (some (1+k)))(hc:vP (.str x::ws) (some 1) (some (1+k))=us)(st:Hs):cq [.tup (.str x::ws)] st= .ok (.tup us) st:=by unfold cq bB m6;have s:=UY (ws:=.str x::ws) (us:=us) (lo:=some 1) (hi:=some (1+k)) (st:=st) n1 hc;simp[WE,D7 h,s]
def kO(p:Pt):List L2.Key:=[.inl p.1,.inl p.2]
variable{q:Pt}
theorem iK:kO p=kO q↔p=q:=by
 constructor
 ·intro h;unfold kO at h;injection h with h1 h2;injection h2 with h2 h3;injection h1 with h1;injection h2 with h2;exact jI h1 h2
 ·rintro rfl;rfl
theorem AE:i9 (pw p)=some (kO p):=rfl
abbrev Ws:=List (Pt×Wo)
def iu(W:Ws):List (List L2.Key×Wv):=W.map λq=>(kO q.1,q.2.w)
def wo:Ws->Pt->Wo
 |[],_=> .non
 |q::r,p=>if q.1=p then q.2 else wo r p
theorem wY:∀(W:Ws)(p:Pt),(d_ (iu W) (kO p)).getD .non=(wo W p).w
 |[],p=>rfl
 |q::r,p=>by
  have ih:=wY r p;unfold iu at ih ⊢;rw[aK];unfold d_ wo;dsimp only;by_cases e:q.1=p
  ·rw[if_pos (iK.mpr e),if_pos e];rfl
  ·rw[if_neg (λz=>e (iK.mp z)),if_neg e];exact ih
theorem QN(ps:List Pt)(p:Pt):kN false (pw p) (.tup (ps.map pw)) st= .ok (.bl (decide (p∈ps))) st:=by
 have d2:a_ st 20 (pw p)=some (dP p):=rfl;have d1:a_ st 20 (.tup (ps.map pw))=some (.tuple (ps.map dP)):=by
  have:∀ps:List Pt,fP (a_ st 19) (ps.map pw)=some (ps.map dP):=λps=>by
   induction ps with
   |nil=>rfl
   |cons q r ih=>rw[aK];unfold fP;rw[ih];rfl
  show(fP (a_ st 19) (ps.map pw)).map l5=_;rw[this];rfl
 have e:((ps.map dP).any λz=>aT z (dP p))=decide (p∈ps):=by
  rw[xl,AD,decide_eq_true_eq];constructor
  ·rintro⟨z,hz,e⟩;obtain⟨m,hm,rfl⟩:=List.mem_map.mp hz;rw[pN]at e;rw[<-of_decide_eq_true e];exact hm
  ·intro hm;exact⟨_,List.mem_map.mpr ⟨p,hm,rfl⟩,by rw[pN];simp⟩
 unfold kN;rw[d1,d2];dsimp only;rw[e];simp
def Ig(P:List Pt):List (List L2.Key×Wv):=P.map λp=>(kO p,.bl true)
def Wt(st:Hs)(y:Wv)(P:List Pt):Prop:=y= .tup (P.map pw)\/∃k,y= .ref k/\(st[k]? =some (.lst (P.map pw))\/st[k]? =some (.et (Ig P)))
variable{P:List Pt}{st':Hs}
theorem Wt.to(h:Wt st y P)(g:∀k o,y= .ref k->st[k]? =some o->st'[k]? =some o):Wt st' y P:=by
 rcases h with h |⟨k,h1,h2 |h2⟩
 ·exact .inl h
 ·exact .inr ⟨k,h1,.inl (g k _ h1 h2)⟩
 ·exact .inr ⟨k,h1,.inr (g k _ h1 h2)⟩
theorem Wt.lt{k:Nat}(h:Wt st (.ref k) P):k < st.length:=by
 rcases h with h |⟨_,h1,h2 |h2⟩
 ·cases h
 ·cases h1;exact cV h2
 ·cases h1;exact cV h2
theorem Cn:∀(P:List Pt)(p:Pt),(d_ (Ig P) (kO p)).isSome=decide (p∈P)
 |[],p=>rfl
 |q::r,p=>by
  have ih:=Cn r p;unfold Ig at ih ⊢;rw[aK];unfold d_;dsimp only;by_cases e:q=p
  ·rw[if_pos (iK.mpr e)];simp[e]
  ·rw[if_neg (λz=>e (iK.mp z)),ih];simp[bA e]
theorem UZ(h:Wt st y P)(p:Pt):qq false (pw p) y st= .ok (.bl (decide (p∈P))) st:=by
 rcases h with rfl |⟨k,rfl,h |h⟩
 ·exact QN P p
 ·have e:fQ st[k]? =none:=by rw[h];rfl
  show(match fQ st[k]?,i9 (pw p)with |some kvs,some k=>Re.ok (Wv.bl ((d_ kvs k).isSome != false)) st |_,_=>kN false (pw p) (.ref k) st)=_
  rw[e];exact Cm (bF h) p
 ·have e:fQ st[k]? =some (Ig P):=by rw[h];rfl
  show(match fQ st[k]?,i9 (pw p)with |some kvs,some k=>Re.ok (Wv.bl ((d_ kvs k).isSome != false)) st |_,_=>kN false (pw p) (.ref k) st)=_
  rw[e,AE];dsimp only;rw[Cn];cases decide (p∈P)<;>rfl
structure Kn(W:Ws)(P:List Pt)(d:Nat)(l:Wv)(st:Hs):Prop where
 d:st[d]? =some (.et (iu W))
 l:Wt st l P
variable{gd gk:GE}{ρ:b7}
section
variable {W:Ws}{P:List Pt}{d k m:Nat}{l:Wv}{st st':Hs}
theorem Kn.gr(h:Kn W P d l st)(g:Gr st st'):Kn W P d l st':=⟨g.get h.d,h.l.to λk o _ e=>g.get e⟩
theorem Kn.nl(h:Kn W P d l st):l≠.ref st.length:=λe=>fg _ (Wt.lt (e ▸ h.l))
theorem Kn.inn(h:Kn W P d l st)(p:Pt):qq false (pw p) l st= .ok (.bl (decide (p∈P))) st:=UZ h.l p
theorem Kn.Y3(h:Kn W P d l st){st0:Hs}(e1:gd ρ st0= .ok (.ref d) st)(e2:gk ρ st= .ok (pw p) st):mX gd gk ρ st0= .ok (wo W p).w st:=by
 have w:fQ st[d]? =some (iu W):=by rw[h.d];rfl
 unfold mX;rw[e1];show(if _ then _ else _)=_;rw[w,if_pos (show(some (iu W)).isSome=true from rfl),e2];show(match i9 (pw p),fQ st[d]? with |some kk,some kvs=>Re.ok ((d_ kvs kk).getD .non) st |_,_=> .bad)=_
 rw[AE,w];dsimp only;rw[wY]
end
inductive Sd
 |wt (p:Pt)
 |wo (a:Wo)
def Sd.w:Sd->Wv
 |.wt p=> .tup [.str "waits",pw p]
 |.wo a=>a.w
def Sd.h:Sd->Bool
 |.wt _=>true
 |.wo a=>a.f
def dt(W:Ws)(P:List Pt)(p:Pt):Sd:=if p∈P then .wt p else .wo (wo W p)
def Wo.nn:Wo->Bool
 |.non=>false
 |_=>true
def ft(a b:Wo):Bool:=b.nn&&(a.nn&&same a b)
theorem halts(s:Sd):cg [s.w] st= .ok (.bl s.h) st:=by
 cases s with
 |wt p=>rfl
 |wo a=>cases a<;>rfl
theorem Y4(a:Wo):qd a.w .non st= .ok (.bl a.nn) st:=by cases a<;>rfl
theorem Y5(a:Wo):rV a.w .non st= .ok (.bl a.nn) st:=by cases a<;>rfl
theorem isn(a:Wo):Ke a.w .non st= .ok (.bl (!a.nn)) st:=by cases a<;>rfl
theorem fits(a b:Wo):m_ [a.w,b.w] st= .ok (.bl (ft a b)) st:=by unfold m_ bB Ap;cases hb:b.nn<;>cases ha:a.nn<;>simp[Y5,sw,ft,ha,hb]
def stp(W:Ws)(P:List Pt)(key:Wo)(p:Pt):Bool:=(dt W P p).h||ft (wo W p) key
inductive Rd
 |mG (p:Pt)
 |part (a b c d:Int) (p:Pt)
 deriving DecidableEq
def Rd.d:Rd->PyData
 |.mG p=> .tuple [.str "at",.tuple [.int p.1,.int p.2]]
 |.part a b c d p=> .tuple [.str "part",.tuple [.int a,.int b,.int c,.int d],.tuple [.int p.1,.int p.2]]
def Rd.w:Rd->Wv
 |.mG p=> .tup [.str "at",pw p]
 |.part a b c d p=> .tup [.str "part",tI [a,b,c,d],pw p]
theorem M7:aY "at"=true:=by decide+kernel
theorem Co:aY "part"=true:=by decide+kernel
theorem Rd.ok(r:Rd):NK.kd 8 r.d=true/\NK.VJ r.d=true:=by cases r<;>exact⟨by simp[NK.kd,Rd.d,M7,Co],rfl⟩
def Rd.k(r:Rd):NK.KD:=⟨r.d,r.ok⟩
theorem Rd.key(r:Rd):Ad r.w=some r.k:=by
 have e:sA 8 r.w=some r.d:=by cases r<;>simp[sA,Rd.w,Rd.d,tI,pw]
 unfold Ad;rw[e];dsimp only;rw[dif_pos r.ok];rfl
theorem Rd.back(r:Rd):wD 8 r.d=some r.w:=by cases r<;>simp[wD,Rd.w,Rd.d,tI,pw,M7,Co]
theorem Rd.inj{r s:Rd}:r.k=s.k↔r=s:=by
 constructor
 ·intro h;have h:r.d=s.d:=congrArg Subtype.val h;cases r<;>cases s<;>simp[Rd.d]at h
  ·exact congrArg Rd.mG (jI h.1 h.2)
  ·obtain⟨⟨rfl,rfl,rfl,rfl⟩,h5,h6⟩:=h;exact congrArg (Rd.part _ _ _ _) (jI h5 h6)
 ·rintro rfl;rfl
def Ei(r:Rd):NK.KD×Wv:=(r.k,.bl true)
def bp(rs:List Rd)(r:Rd):List Rd:=if r∈rs then rs else rs++[r]
theorem QO(rs:List Rd)(r:Rd):lh (rs.map Ei) r.k (.bl true)=(bp rs r).map Ei:=by
 unfold lh bp;have e:((rs.map Ei).any λkv=>decide (kv.1=r.k))=decide (r∈rs):=by
  rw[xl,AD,decide_eq_true_eq];constructor
  ·rintro⟨z,hz,e⟩;obtain⟨s,hs,rfl⟩:=List.mem_map.mp hz;rw[<-Rd.inj.mp (of_decide_eq_true e)];exact hs
  ·intro h;exact⟨Ei r,List.mem_map.mpr ⟨r,h,rfl⟩,decide_eq_true rfl⟩
 rw[e];by_cases h:r∈rs
 ·rw[if_pos (decide_eq_true h),if_pos h,dC];refine oz λs _=>?_;show(if(Ei s).1=r.k then((Ei s).1,Wv.bl true)else Ei s)=Ei s;split<;>rfl
 ·rw[if_neg (by simp[h]),if_neg h,dH];rfl
theorem Cp:∀rs:List Rd,pe (rs.map Ei)=some (rs.map Rd.w)
 |[]=>rfl
 |r::rs=>by have ih:=Cp rs;unfold pe at ih ⊢;rw[aK];unfold fP;rw[ih];have e:wD 8 (Ei r).1.1=some r.w:=r.back;rw[e];rfl
def lf(d:Nat)(l:Wv)(m:Nat):List (S×Wv):=[("worths",.ref d),("waiting",l),("met",.ref m)]
variable{k:Nat}{st1:Hs}{fs:List (S×Wv)}
theorem D8{c f:S}{g:GE}{w:Wv}(h:g ρ st= .ok (.ref k) st1)(h2:st1[k]? =some (.ins c fs))(h3:fs.lookup f=some w):jw c f g ρ st= .ok w st1:=by
 have e:gP st1 c (.ref k)=some fs:=by unfold gP;simp[h2]
 unfold jw;rw[h];show(match(gP st1 c (.ref k)).bind (·.lookup f)with |some w=>Re.ok w st1 |none=> .bad)=_
 rw[e];show(match fs.lookup f with |some w=>Re.ok w st1 |none=> .bad)=_
 rw[h3]
variable{go:GE}
theorem D9{c f:S}{F:List Wv->Hs->Re Wv}{ga:GA}{st2:Hs}(h:go ρ st= .ok (.ref k) st1)(h2:st1[k]? =some (.ins c fs))(h3:fs.lookup f=none)(h4:ga ρ st1= .ok ws st2)(h5:ws.length+1=n):
  mz c f n F go ga ρ st=F (.ref k::ws) st2:=by
 have e:gP st1 c (.ref k)=some fs:=by unfold gP;simp[h2]
 unfold mz;rw[h];show(match(gP st1 c (.ref k)).map (·.lookup f)with
  |some none=>(ga ρ st1).bind λws st2=>if ws.length+1=n then F (.ref k::ws) st2 else .bad
  |_=> .bad)=_
 rw[e];show(match some (fs.lookup f)with
  |some none=>(ga ρ st1).bind λws st2=>if ws.length+1=n then F (.ref k::ws) st2 else .bad
  |_=> .bad)=_
 rw[h3];dsimp only;rw[h4];show(if ws.length+1=n then F (.ref k::ws) st2 else .bad)=_;rw[if_pos h5]
structure Lk(W:Ws)(P:List Pt)(d:Nat)(l:Wv)(k m:Nat)(rs:List Rd)(st:Hs):Prop where
 n:Kn W P d l st
 o:st[k]? =some (.ins "Look" (lf d l m))
 m:st[m]? =some (.oK (rs.map Ei))
variable{r:Rd}{s:Nat}{rs':List Rd}{gv:GE}
section
variable {W:Ws}{P:List Pt}{d k m:Nat}{l:Wv}{rs:List Rd}{st st':Hs}
theorem Lk.ne(h:Lk W P d l k m rs st):d≠m/\l≠.ref m/\k≠m:=by
 refine⟨λe=>?_,λe=>?_,λe=>?_⟩
 ·have:=h.n.d;rw[e,h.m]at this;cases this
 ·rcases h.n.l with z |⟨_,z,w |w⟩
  ·rw[e]at z;cases z
  ·rw[e]at z;cases z;rw[h.m]at w;cases w
  ·rw[e]at z;cases z;rw[h.m]at w;cases w
 ·have:=h.o;rw[e,h.m]at this;cases this
theorem Lk.gr(h:Lk W P d l k m rs st)(g:Gr st st'):Lk W P d l k m rs st':=⟨h.n.gr g,g.get h.o,g.get h.m⟩
theorem Lk.set(h:Lk W P d l k m rs st){vs:List Wv}(hs:st[s]? =some (.lst us))(hl:l≠.ref s):Lk W P d l k m rs (st.set s (.lst vs)):=by
 have q:∀j o,st[j]? =some o->j≠s->(st.set s (.lst vs))[j]? =some o:=λj o e z=>by rw[bN (bA z)];exact e
 refine⟨⟨q _ _ h.n.d λe=>?_,h.n.l.to λk o z w=>q _ _ w λe=>hl (e ▸ z)⟩,q _ _ h.o λe=>?_,q _ _ h.m λe=>?_⟩
 ·have:=h.n.d;rw[e,hs]at this;cases this
 ·have:=h.o;rw[e,hs]at this;cases this
 ·have:=h.m;rw[e,hs]at this;cases this
def kz(st:Hs)(m:Nat)(rs:List Rd):Hs:=st.set m (.oK (rs.map Ei))
theorem Lk.met(h:Lk W P d l k m rs st):Lk W P d l k m rs' (kz st m rs'):=by
 obtain⟨n1,n2,n3⟩:=h.ne;have q:∀j o,st[j]? =some o->j≠m->(kz st m rs')[j]? =some o:=λj o e z=>by unfold kz;rw[bN (bA z)];exact e
 exact⟨⟨q _ _ h.n.d n1,h.n.l.to λk o z w=>q _ _ w λe=>n2 (e ▸ z)⟩,q _ _ h.o n3,cC h.m⟩
theorem pO:bL m st (kz st m rs'):=bL.set
theorem Lk.QP(h:Lk W P d l k m rs st)(hl:rs.length < 1000)(e1:gv ρ st= .ok (.bl true) st)(e2:gd ρ st= .ok (.ref m) st)(e3:gk ρ st= .ok r.w st):mK gv gd gk ρ st= .nx ρ (kz st m (bp rs r)):=by
 have e:putN (.ref m) r.w (.bl true) st=some (kz st m (bp rs r)):=by
  show(match Ad r.w,st[m]? with |some kk,some (.oK kvs)=>if kvs.length < lim then some (st.set m (.oK (lh kvs kk (.bl true))))else none |_,_=>none)=_
  rw[r.key,h.m];dsimp only;rw[if_pos (by rw[bP];unfold lim;omega),QO];rfl
 unfold mK;rw[e1];show(gd ρ st).bK ρ _=_;rw[e2];show(gk ρ st).bK ρ _=_;rw[e3];show(match putN (.ref m) r.w (.bl true) st with |some uA=>Rs.nx ρ uA |none=> .bad)=_
 rw[e]
theorem Lk.tup(h:Lk W P d l k m rs st):uY [.ref m] st= .ok (.tup (rs.map Rd.w)) st:=by unfold uY;simp only[h.m];rw[Cp]
theorem yP(h:Lk W P d l k m rs st)(p:Pt):bD [.ref k,pw p] st= .ok (dt W P p).w st:=by
 have f1:jw "Look" "waiting" (ae 0) [some (.ref k),some (pw p)] st= .ok l st:=D8 rfl h.o rfl;have f2:jw "Look" "worths" (ae 0) [some (.ref k),some (pw p)] st= .ok (.ref d) st:=D8 rfl h.o rfl;have f3:mX (jw "Look" "worths" (ae 0)) (ae 1) [some (.ref k),some (pw p)] st= .ok (wo W p).w st:=h.n.Y3 f2 rfl;have f4:=h.n.inn p;unfold bD bB gm dt;by_cases c:p∈P
 ·simp[f1,f4,c,Sd.w]
 ·simp[f1,f4,f3,c,Sd.w]
theorem cell(h:Lk W P d l k m rs st)(hl:rs.length < 1000)(p:Pt):cD [.ref k,pw p] st= .ok (dt W P p).w (kz st m (bp rs (.mG p))):=by
 have f1:jw "Look" "met" (ae 0) [some (.ref k),some (pw p)] st= .ok (.ref m) st:=D8 rfl h.o rfl;have f2:mK (gC (.bl true)) (jw "Look" "met" (ae 0)) (cT (aa (gC (.str "at")) (aa (ae 1) aj))) [some (.ref k),some (pw p)] st= .nx [some (.ref k),some (pw p)] (kz st m (bp rs (.mG p))):=h.QP hl (r:=.mG p) rfl f1 rfl;have h2:Lk W P d l k m (bp rs (.mG p)) (kz st m (bp rs (.mG p))):=h.met;have f3:mz "Look" "standing" 2 bD (ae 0) (aa (ae 1) aj) [some (.ref k),some (pw p)] (kz st m (bp rs (.mG p)))= .ok (dt W P p).w (kz st m (bp rs (.mG p))):=by exact(D9 (k:=k) (ws:=[pw p]) rfl h2.o rfl rfl rfl).trans (yP h2 p)
 unfold cD bB kq;simp[f2,f3]
end
def upto{α:Type}(f:α->Bool):List α->List α
 |[]=>[]
 |a::r=>if f a=true then[a]else a::upto f r
theorem yQ{α:Type}{f:α->Bool}:∀{ps:List α},ps.any f=true->∃pre x post,ps=pre++x::post/\upto f ps=pre++[x]/\f x=true/\∀y∈pre,f y=false
 |[],h=>by cases h
 |a::r,h=>by
  cases c:f a with
  |true=>exact⟨[],a,r,rfl,by unfold upto;rw[if_pos c];rfl,c,by simp⟩
  |false=>
   rw[f7,c,Bool.false_or]at h;obtain⟨pre,x,post,e1,e2,e3,e4⟩:=yQ h;exact⟨a::pre,x,post,by rw[e1];rfl,by unfold upto;rw[if_neg (by rw[c];exact aH),e2];rfl,e3,by
    intro y hy;rcases List.mem_cons.mp hy with rfl |hy
    ·exact c
    ·exact e4 y hy⟩
theorem Cq{α:Type}{f:α->Bool}:∀{ps:List α},ps.any f=false->upto f ps=ps/\∀y∈ps,f y=false
 |[],h=>⟨rfl,by simp⟩
 |a::r,h=>by
  rw[f7,Ih]at h;obtain⟨e1,e2⟩:=Cq h.2;refine⟨by unfold upto;rw[if_neg (by rw[h.1];exact aH),e1],λy hy=>?_⟩;rcases List.mem_cons.mp hy with rfl |hy
  ·exact h.1
  ·exact e2 y hy
theorem fL{f:Pt->Bool}(h:ps≠[]):∃pre x,upto f ps=pre++[x]/\(∀y∈pre,f y=false)/\(∃post,ps=pre++x::post)/\(f x=false->ps=pre++[x]):=by
 cases c:ps.any f with
 |true=>obtain⟨pre,x,post,e1,e2,e3,e4⟩:=yQ c;exact⟨pre,x,e2,e4,⟨post,e1⟩,λz=>by rw[e3]at z;cases z⟩
 |false=>obtain⟨e1,e2⟩:=Cq c;obtain⟨pre,x,rfl⟩:∃pre x,ps=pre++[x]:=⟨ps.dropLast,ps.getLast h,(List.dropLast_concat_getLast h).symm⟩;exact⟨pre,x,e1,λy hy=>e2 y (by simp[hy]),⟨[],rfl⟩,λ_=>rfl⟩
variable{pre:List Pt}
section
variable {W:Ws}{P:List Pt}{d k m:Nat}{l:Wv}{rs:List Rd}{st:Hs}{key:Wo}{a b c e:Int}
def jC(W:Ws)(P:List Pt)(p:Pt):Wv:=(dt W P p).w
theorem turn(h:Lk W P d l k m rs st)(hr:rs.length < 1000)(hs:st[s]? =some (.lst (pre.map (jC W P))))(hl:l≠.ref s)(hp:pre.length < 400)(p:Pt):
  cJ [some (.ref k),some (tI [a,b,c,e]),some key.w,some (.ref s),some (pw p)] st=
   if stp W P key p=true then .rt (.ref s) (kz (st.set s (.lst ((pre++[p]).map (jC W P)))) m (bp rs (.part a b c e p)))
   else .nx [some (.ref k),some (tI [a,b,c,e]),some key.w,some (.ref s),some (pw p)] (st.set s (.lst ((pre++[p]).map (jC W P)))):=by
 have km:=λga ρ=>mh (mt:=iz) (ga:=ga) (ρ:=ρ) (st:=st) (l:=s) (bF hs);have f1:mz "Look" "standing" 2 bD (ae 0) (aa (ae 4) aj) [some (.ref k),some (tI [a,b,c,e]),some key.w,some (.ref s),some (pw p)] st= .ok (jC W P p) st:=(D9 (k:=k) (ws:=[pw p]) rfl h.o rfl rfl rfl).trans (yP h p);have ap:=sJ (v:=jC W P p) hs (by rw[bP];unfold lim;omega);have eq:pre.map (jC W P)++[jC W P p]=(pre++[p]).map (jC W P):=by simp
 rw[eq]at ap;have h1:Lk W P d l k m rs (st.set s (.lst ((pre++[p]).map (jC W P)))):=h.set hs hl;have s1:(st.set s (.lst ((pre++[p]).map (jC W P))))[s]? =some (.lst ((pre++[p]).map (jC W P))):=cC hs;generalize hst:st.set s (.lst ((pre++[p]).map (jC W P)))=st1 at ap h1 s1 ⊢;have ix:bq (.ref s) (.int (-1)) st1= .ok (jC W P p) st1:=mB (bF s1) (by rw[<-eq];exact n9);have f2:jw "Look" "met" (ae 0) [some (.ref k),some (tI [a,b,c,e]),some key.w,some (.ref s),some (pw p)] st1= .ok (.ref m) st1:=D8 rfl h1.o rfl;have f3:mK (gC (.bl true)) (jw "Look" "met" (ae 0)) (cT (aa (gC (.str "part")) (aa (ae 1) (aa (ae 4) aj)))) [some (.ref k),some (tI [a,b,c,e]),some key.w,some (.ref s),some (pw p)] st1= .nx [some (.ref k),some (tI [a,b,c,e]),some key.w,some (.ref s),some (pw p)] (kz st1 m (bp rs (.part a b c e p))):=h1.QP hr (r:=.part a b c e p) rfl f2 rfl;have hh:=halts (dt W P p) (st:=st1);unfold cJ stp;unfold jC at ix ap f1;cases q:(dt W P p).h with
 |true=>rw[q]at hh;simp[km,f1,ap,ix,hh,f3]
 |false=>
  rw[q]at hh;have e:dt W P p= .wo (wo W p):=by
   unfold dt at q ⊢;split at q
   ·cases q
   ·rename_i z;rw[if_neg z]
  have hf:=fits (wo W p) key (st:=st1);rw[e]at hh ix ap f1;cases q2:ft (wo W p) key<;>rw[q2]at hf<;>simp[Sd.w]at hh ix ap f1<;>simp[km,f1,ap,ix,hh,hf,f3]
theorem yR(hr:rs.length < 1000){s q:Nat}{all:List Wv}(hl:l≠.ref s)(hq:q≠s)(R0:q≠m):∀(post pre:List Pt)(st:Hs)(o4:Option Wv),Lk W P d l k m rs st->st[s]? =some (.lst (pre.map (jC W P)))->aG st q=some all->pre.length+post.length < 400->
  (∀x post',upto (stp W P key) post=post'++[x]->stp W P key x=true->forL 4 cJ q all (post.map pw) [some (.ref k),some (tI [a,b,c,e]),some key.w,some (.ref s),o4] st= .rt (.ref s) (kz (st.set s (.lst ((pre++upto (stp W P key) post).map (jC W P)))) m (bp rs (.part a b c e x))))/\
  (post.any (stp W P key)=false->∃o,forL 4 cJ q all (post.map pw) [some (.ref k),some (tI [a,b,c,e]),some key.w,some (.ref s),o4] st= .nx [some (.ref k),some (tI [a,b,c,e]),some key.w,some (.ref s),o] (st.set s (.lst ((pre++post).map (jC W P)))))
 |[],pre,st,o4,h,hs,hall,hn=>⟨λx post' z=>by simp[upto]at z,λ_=>⟨o4,by
   rw[i6];have:st.set s (.lst (pre.map (jC W P)))=st:=by
    refine Gh λj=>?_;by_cases z:s=j
    ·subst z;rw[cC hs,hs]
    ·rw[bN z]
   rw[this];rfl⟩⟩
 |p::post,pre,st,o4,h,hs,hall,hn=>by
  have t:=turn (a:=a) (b:=b) (c:=c) (e:=e) (key:=key) h hr hs hl (by omega) p;have h1:Lk W P d l k m rs (st.set s (.lst ((pre++[p]).map (jC W P)))):=h.set hs hl;have s1:(st.set s (.lst ((pre++[p]).map (jC W P))))[s]? =some (.lst ((pre++[p]).map (jC W P))):=cC hs;have a1:aG (st.set s (.lst ((pre++[p]).map (jC W P)))) q=some all:=by unfold aG at hall ⊢;rw[bN (bA hq)];exact hall
  obtain⟨i1,i2⟩:=yR hr hl hq R0 post (pre++[p]) _ (some (pw p)) h1 s1 a1 (by simp at hn ⊢;omega);have e1:∀us:List Wv,(st.set s (.lst ((pre++[p]).map (jC W P)))).set s (.lst us)=st.set s (.lst us):=λus=>Cr ..;refine⟨λx post' z zx=>?_,λz=>?_⟩
  ·rw[aK];unfold forL;rw[show([some (Wv.ref k),some (tI [a,b,c,e]),some key.w,some (.ref s),o4]:b7).set 4 (some (pw p))=[some (.ref k),some (tI [a,b,c,e]),some key.w,some (.ref s),some (pw p)] from rfl,t];unfold upto at z ⊢;by_cases cp:stp W P key p=true
   ·rw[if_pos cp]at z ⊢;rw[if_pos cp];have:p=x:=by
     cases post' with
     |nil=>cases z;rfl
     |cons _ r=>cases r<;>cases z
    subst this;rfl
   ·rw[if_neg cp]at z ⊢;rw[if_neg cp];dsimp only;rw[if_pos a1];cases post' with
    |nil=>have:x=p:=(List.cons.inj z).1.symm;subst this;exact absurd zx cp
    |cons y r=>rw[i1 x r (List.cons.inj z).2 zx,e1];simp
  ·rw[f7,Ih]at z;obtain⟨o,e2⟩:=i2 z.2;refine⟨o,?_⟩;rw[aK];unfold forL;rw[show([some (Wv.ref k),some (tI [a,b,c,e]),some key.w,some (.ref s),o4]:b7).set 4 (some (pw p))=[some (.ref k),some (tI [a,b,c,e]),some key.w,some (.ref s),some (pw p)] from rfl,t,if_neg (by rw[z.1];exact aH)];dsimp only;rw[if_pos a1,e2,e1];simp
end
section
variable {W:Ws}{P:List Pt}{d k m:Nat}{l:Wv}{rs:List Rd}{st:Hs}{key:Wo}{a b c e:Int}
theorem places'(h:g_ a b c e):∃more:Hs,bW [tI [a,b,c,e]] st= .ok (.ref st.length) (st++ .lst ((dz a b c e).map pw)::more):=by obtain⟨more,q⟩:=tu (st:=st) h;rw[yO]at q;exact⟨more,q⟩
theorem fD(h:g_ a b c e):(dz a b c e).length<=300/\dz a b c e≠[]:=by
 have q:(a,b)∈dz a b c e:=(L0 h).mpr (by unfold g_ at h;dsimp only;omega);refine⟨?_,λz=>by rw[z]at q;cases q⟩;unfold dz;rw[LZ];unfold g_ at h;have e1:(((c+1 - a).toNat * (e+1 - b).toNat:Nat):Int)=(c - a+1) * (e - b+1):=by rw[Int.natCast_mul,show(((c+1 - a).toNat:Nat):Int)=c - a+1 from by omega,show(((e+1 - b).toNat:Nat):Int)=e - b+1 from by omega]
 omega
theorem L1:∃pre,D6 a b (m+1) (n+1)=pre++[(a+m,b+n)]:=by
 have e1:D6 a b (m+1) (n+1)=D6 a b m (n+1)++(dh (n+1)).map λj:Nat=>((a+m,b+j):Pt):=by unfold D6;rw[show dh (m+1)=dh m++[m] from qS,dH,H_];simp
 rw[e1,qS,dH];exact⟨_,by rw[aK,jJ,kQ]⟩
theorem L3(h:g_ a b c e):∃pre,dz a b c e=pre++[(c,e)]:=by unfold g_ at h;obtain⟨m,hm⟩:∃m:Nat,(c+1 - a).toNat=m+1:=⟨(c - a).toNat,by omega⟩;obtain⟨n,hn⟩:∃n:Nat,(e+1 - b).toNat=n+1:=⟨(e - b).toNat,by omega⟩;obtain⟨pre,q⟩:=L1 (a:=a) (b:=b) (m:=m) (n:=n);refine⟨pre,?_⟩;unfold dz;rw[hm,hn,q,show a+(m:Int)=c from by omega,show b+(n:Int)=e from by omega]
theorem Cs(h:Lk W P d l k m rs st)(hr:rs.length < 1000)(ok:g_ a b c e):∃(pre:List Pt)(x:Pt)(st':Hs),upto (stp W P key) (dz a b c e)=pre++[x]/\
  bI [.ref k,tI [a,b,c,e],key.w] st= .ok (.ref st.length) st'/\st'[st.length]? =some (.lst ((pre++[x]).map (jC W P)))/\Lk W P d l k m (bp rs (.part a b c e x)) st'/\bL m st st':=by
 obtain⟨few,ne⟩:=fD ok;obtain⟨pre,x,u1,u2,⟨post,u3⟩,u4⟩:=fL (f:=stp W P key) ne;obtain⟨more,ep⟩:=places' (st:=st++[Ob.lst []]) ok;have g0:Gr st ((st++[Ob.lst []])++Ob.lst ((dz a b c e).map pw)::more):=Gr.push.trans Gr.app;have h0:=h.gr g0;have s0:((st++[Ob.lst []])++Ob.lst ((dz a b c e).map pw)::more)[st.length]? =some (.lst (([]:List Pt).map (jC W P))):=by simp
 have q0:aG ((st++[Ob.lst []])++Ob.lst ((dz a b c e).map pw)::more) (st++[Ob.lst []]).length=some ((dz a b c e).map pw):=pL;generalize hst:(st++[Ob.lst []])++Ob.lst ((dz a b c e).map pw)::more=s1 at ep g0 h0 s0 q0;have hl:l≠.ref st.length:=h.n.nl;have hm:m < st.length:=cV h.m;have hq:(st++[Ob.lst []]).length≠st.length:=by simp
 have R0:(st++[Ob.lst []]).length≠m:=by simp;omega
 generalize hq1:(st++[Ob.lst []]).length=q1 at ep q0 hq R0;obtain⟨i1,i2⟩:=yR (a:=a) (b:=b) (c:=c) (e:=e) (key:=key) hr hl hq R0 (dz a b c e) [] s1 none h0 s0 q0 (by simp;omega);rw[lX]at i1 i2;have h1:Lk W P d l k m rs (s1.set st.length (.lst ((pre++[x]).map (jC W P)))):=h0.set s0 hl;have k1:bL m st (s1.set st.length (.lst ((pre++[x]).map (jC W P)))):=⟨by rw[nI];exact g0.1,λj hj _=>by rw[bN (by omega)];exact g0.2 j hj⟩;have s2:(s1.set st.length (.lst ((pre++[x]).map (jC W P))))[st.length]? =some (.lst ((pre++[x]).map (jC W P))):=cC s0;refine⟨pre,x,kz (s1.set st.length (.lst ((pre++[x]).map (jC W P)))) m (bp rs (.part a b c e x)),u1,?_,?_,h1.met,k1.trans pO⟩
 ·unfold bI bB gY;cases cx:stp W P key x with
  |true=>have q:=i1 x pre u1 cx;rw[u1]at q;generalize s1.set st.length (Ob.lst ((pre++[x]).map (jC W P)))=s3 at q ⊢;simp[ep,wx q0,q]
  |false=>
   have e1:=u4 cx;have an:(dz a b c e).any (stp W P key)=false:=by rw[e1,List.any_append,f7,List.any_nil,cx];simp;intro y1 y2 hy;exact u2 _ hy
   obtain⟨o,q⟩:=i2 an;have q':=q;rw[show(dz a b c e).map (jC W P)=(pre++[x]).map (jC W P) from by rw[e1]]at q';have ex:x=(c,e):=by obtain⟨pre',e2⟩:=L3 ok;rw[e1]at e2;have:=congrArg List.getLast? e2;simpa using this
   have f2:jw "Look" "met" (ae 0) [some (.ref k),some (tI [a,b,c,e]),some key.w,some (.ref st.length),o] (s1.set st.length (.lst ((pre++[x]).map (jC W P))))= .ok (.ref m) (s1.set st.length (.lst ((pre++[x]).map (jC W P)))):=D8 rfl h1.o rfl;have sl:∀st:Hs,Gd (tI [a,b,c,e]) (some 2) none st= .ok (pw (c,e)) st:=λst=>UY (ws:=[.int a,.int b,.int c,.int e]) (by show ¬nX 4 (some 2) none;decide) rfl;have f3:mK (gC (.bl true)) (jw "Look" "met" (ae 0)) (cT (aa (gC (.str "part")) (aa (ae 1) (aa (iQ (ae 1) (pX (gC (.int 2))) l9) aj)))) [some (.ref k),some (tI [a,b,c,e]),some key.w,some (.ref st.length),o] (s1.set st.length (.lst ((pre++[x]).map (jC W P))))= .nx [some (.ref k),some (tI [a,b,c,e]),some key.w,some (.ref st.length),o] (kz (s1.set st.length (.lst ((pre++[x]).map (jC W P)))) m (bp rs (.part a b c e x))) :=
    h1.QP hr (r:=.part a b c e x) rfl f2 (by rw[ex];simp[sl,Rd.w])
   generalize s1.set st.length (Ob.lst ((pre++[x]).map (jC W P)))=s3 at q' f3 ⊢;simp[ep,wx q0,q',f3]
 ·unfold kz;rw[bN (by omega)];exact s2
end
theorem Ii(wd:mF)(ws:List Wo):∃a:Wo,due wd ws=a.w:=by
 have b:∀i:Int,∃a:Wo,bnd i=a.w:=λi=>by
  unfold bnd;by_cases c:eW < (if i < 0 then -i else i)
  ·exact⟨.kK "great",if_pos c⟩
  ·exact⟨.int i,if_neg c⟩
 unfold due;split
 ·rename_i x _ _;exact⟨.kK x,rfl⟩
 ·cases wd with
  |sum=>exact b _
  |count=>exact⟨.int _,rfl⟩
  |least=>
   dsimp only;split
   ·exact⟨.kK "none",rfl⟩
   ·exact b _
  |lP=>
   dsimp only;split
   ·exact⟨.kK "none",rfl⟩
   ·exact b _
def L4(wd:mF)(ws:List Wo):Wo:=QQ (Ii wd ws)
theorem Ij(wd:mF)(ws:List Wo):(L4 wd ws).w=due wd ws:=(QR (Ii wd ws)).symm
def res:Sd->List Rd->Wv
 |.wt p,rs=> .tup [.str "waits",pw p,.tup (rs.map Rd.w)]
 |.wo a,rs=> .tup [.str "worth",a.w,.tup (rs.map Rd.w)]
def Sd.f:Sd->Bool
 |.wt _=>false
 |.wo a=>a.f
theorem U0(s:Sd):aX [s.w] st= .ok (.bl s.f) st:=by
 cases s with
 |wt p=>rfl
 |wo a=>exact wW a st
theorem QS{c f:S}{st2:Hs}(h1:gv ρ st= .ok v st1)(h2:go ρ st1= .ok (.ref k) st2)(h3:st2[k]? =some (.ins c fs))(h4:fs.length < 900):mJ c f gv go ρ st= .nx ρ (st2.set k (.ins c (GN f v fs))):=by
 have e:gP st2 c (.ref k)=some fs:=by unfold gP;simp[h3]
 unfold mJ;rw[h1];show(go ρ st1).bK ρ _=_;rw[h2];show(match GP c f (.ref k) v st2 with |some st3=>Rs.nx ρ st3 |none=> .bad)=_
 unfold GP;rw[e];dsimp only;rw[if_pos h4]
variable{d:Nat}
theorem init{l:Wv}:bV [.ref st.length,.ref d,l] (st++[.ins "Look" []])= .ok .non (st++[.ins "Look" (lf d l (st.length+1)),.oK []]):=by
 have f1:mJ "Look" "worths" (ae 1) (ae 0) [some (.ref st.length),some (.ref d),some l] (st++[.ins "Look" []])= .nx [some (.ref st.length),some (.ref d),some l] (st++[.ins "Look" [("worths",.ref d)]]):=by rw[QS (k:=st.length) (v:=.ref d) rfl rfl eI (by simp),B'];rfl
 have f2:mJ "Look" "waiting" (ae 2) (ae 0) [some (.ref st.length),some (.ref d),some l] (st++[.ins "Look" [("worths",.ref d)]])= .nx [some (.ref st.length),some (.ref d),some l] (st++[.ins "Look" [("worths",.ref d),("waiting",l)]]):=by rw[QS (k:=st.length) (v:=l) rfl rfl eI (by simp),B'];rfl
 have f3:mJ "Look" "met" BV (ae 0) [some (.ref st.length),some (.ref d),some l] (st++[.ins "Look" [("worths",.ref d),("waiting",l)]])= .nx [some (.ref st.length),some (.ref d),some l] (st++[.ins "Look" (lf d l (st.length+1)),.oK []]):=by rw[QS (k:=st.length) (v:=.ref (st++[Ob.ins "Look" [("worths",.ref d),("waiting",l)]]).length) (st1:=st++[.ins "Look" [("worths",.ref d),("waiting",l)]]++[.oK []]) (fs:=[("worths",.ref d),("waiting",l)]) rfl rfl (by simp) (by simp)];simp;rfl
 unfold bV bB f_;simp[f1,f2,f3]
variable{s:Sd}{f:Wv}{rs:List Rd}
section
variable {W:Ws}{P:List Pt}{d k m:Nat}{l:Wv}{st:Hs}
theorem L5(n:Kn W P d l st)(hg:∀(st:Hs)(k m:Nat),Lk W P d l k m [] st->∃st',ai [f,.ref k] st= .ok s.w st'/\Lk W P d l k m rs st'/\bL m st st'):
  ∃st',dU [f,.ref d,l] st= .ok (res s rs) st'/\Gr st st':=by
 have i:=init (st:=st) (d:=d) (l:=l);have g:Gr st (st++[.ins "Look" (lf d l (st.length+1)),.oK []]):=Gr.app;have hk:Lk W P d l st.length (st.length+1) [] (st++[.ins "Look" (lf d l (st.length+1)),.oK []]):=⟨n.gr g,by simp,by simp⟩;obtain⟨st',e1,h1,k1⟩:=hg _ _ _ hk;have mk:BW "Look" 3 bV (aa (ae 1) (aa (ae 2) aj)) [some f,some (.ref d),some l,none,none,none] st= .ok (.ref st.length) (st++[.ins "Look" (lf d l (st.length+1)),.oK []]):=by show(if([Wv.ref d,l]:List Wv).length+1=3 then V8 "Look" bV [.ref d,l] st else .bad)=_;rw[if_pos (show([Wv.ref d,l]:List Wv).length+1=3 from rfl)];unfold V8;rw[i]
 have fl:jw "Look" "met" (ae 3) [some f,some (.ref d),some l,some (.ref st.length),some s.w,none] st'= .ok (.ref (st.length+1)) st':=D8 rfl h1.o rfl;have tp:=h1.tup;have hh:=halts s (st:=st');have hf:=U0 s (st:=st');refine⟨st',?_,g.pv (by omega) k1⟩;unfold dU bB pI;generalize st++[.ins "Look" (lf d l (st.length+1)),.oK []]=s1 at mk e1;cases s with
 |wt p=>have ix:bq (Sd.wt p).w (.int 1) st'= .ok (pw p) st':=rfl;simp[mk,e1,fl,tp,hh,hf,Sd.h,Sd.f,ix,res]
 |wo a=>cases q:a.f<;>simp[Sd.h,Sd.f,q]at hh hf<;>simp[mk,e1,fl,tp,hh,hf,res]<;>rfl
end
section
variable {W:Ws}{P:List Pt}{d k m:Nat}{l:Wv}{rs:List Rd}{st:Hs}{a b c e:Int}
theorem Cu(p:Pt):stp W P .non p=(dt W P p).h:=by unfold stp ft;simp[Wo.nn]
theorem u9(h:(dt W P p).h=false):dt W P p= .wo (wo W p)/\p∉P/\(wo W p).f=false:=by
 unfold dt at h ⊢;by_cases c:p∈P
 ·rw[if_pos c]at h;cases h
 ·rw[if_neg c]at h ⊢;exact⟨rfl,c,h⟩
theorem QT(h:∀p∈ps,(dt W P p).h=false):ps.map (jC W P)=(ps.map (wo W)).map Wo.w:=by rw[dC];refine oz λp hp=>?_;unfold jC;rw[(u9 (h p hp)).1];rfl
def Cv(W:Ws)(P:List Pt)(wd:mF)(us:List Pt)(x:Pt):Sd:=if(dt W P x).h=true then dt W P x else .wo (L4 wd (us.map (wo W)))
theorem Y6(h:Lk W P d l k m rs st)(hr:rs.length < 1000)(ok:g_ a b c e)(hn:(dz a b c e).length < 1000):∃(pre:List Pt)(x:Pt)(st':Hs),upto (stp W P .non) (dz a b c e)=pre++[x]/\
  bS [.str wd.s,tI [a,b,c,e],.ref k] st= .ok (Cv W P wd (pre++[x]) x).w st'/\Lk W P d l k m (bp rs (.part a b c e x)) st'/\bL m st st':=by
 obtain⟨pre,x,st',e1,e2,e3,e4,e5⟩:=Cs (key:=.non) h hr ok;obtain⟨pre',x',u1,u2,⟨post,u3⟩,_⟩:=fL (f:=stp W P .non) (fD ok).2;have u0:=e1.symm.trans u1;have ex:pre=pre'/\x=x':=by have:=List.append_inj' u0 rfl;exact⟨this.1,by simpa using this.2⟩
 obtain⟨rfl,rfl⟩:=ex;have ix:bq (.ref st.length) (.int (-1)) st'= .ok (dt W P x).w st':=mB (bF e3) (by rw[dH];exact n9);have hh:=halts (dt W P x) (st:=st');have ms:mz "Look" "stretch" 3 bI (ae 2) (aa (ae 1) (aa (gC .non) aj)) [some (.str wd.s),some (tI [a,b,c,e]),some (.ref k),none] st= .ok (.ref st.length) st':=(D9 (k:=k) (ws:=[tI [a,b,c,e],.non]) rfl h.o rfl rfl rfl).trans e2;have hlen:(pre++[x]).length<=(dz a b c e).length:=by rw[u3];simp
 cases q:(dt W P x).h with
 |true=>refine⟨pre,x,st',e1,?_,e4,e5⟩;rw[q]at hh;unfold bS bB dk Cv;rw[if_pos q];simp[ms,ix,hh]
 |false=>
  have al:∀p∈pre++[x],(dt W P p).h=false:=λp hp=>by
   rcases List.mem_append.mp hp with hp |hp
   ·rw[<-Cu];exact u2 p hp
   ·rw[List.mem_singleton.mp hp];exact q
  have lg:aG st' st.length=some (((pre++[x]).map (wo W)).map Wo.w):=by rw[<-QT al];exact bF e3
  obtain⟨s2,g1,g2⟩:=gather (wd:=wd) lg (by rw[bP];omega);refine⟨pre,x,s2,e1,?_,e4.gr g2,e5.trans g2.keep⟩;rw[q]at hh;unfold bS bB dk Cv;rw[if_neg (by rw[q];exact aH),show ∀a:Wo,(Sd.wo a).w=a.w from λ_=>rfl,Ij];generalize (pre++[x]).map (wo W)=us at g1;simp[ms,ix,hh,g1]
end
def bZ(f:Pt->Bool)(ps:List Pt):Pt:=(upto f ps).getLast?.getD (0,0)
theorem gT{f:Pt->Bool}{x:Pt}(h:upto f ps=pre++[x]):bZ f ps=x:=by unfold bZ;rw[h];simp
theorem AF(h:-eW<=i/\i<=eW):i.natAbs.log2 < 1920:=by
 by_cases z:i.natAbs=0
 ·rw[z];decide
 ·rw[Nat.log2_lt z];have h2:i.natAbs<=eW.natAbs:=by
   have:(0:Int)<=eW:=by decide+kernel
   omega
  exact Nat.lt_of_le_of_lt h2 (by decide+kernel)
theorem Cw(h:-eW<=i/\i<=eW):Builtin.Int.intBits i<=2 ^ 20:=by
 refine aV (Cf (k:=2000) ?_) (by decide);have h2:i.natAbs<=eW.natAbs:=by
  have:(0:Int)<=eW:=by decide+kernel
  omega
 exact Nat.lt_of_le_of_lt h2 (by decide+kernel)
def num:Wo->Int
 |.int i=>i
 |_=>0
def Wo.nm:Wo->Bool
 |.non=>true
 |.int _=>true
 |_=>false
variable{a:Wo}
theorem Il(h:a.Ok):-eW<=num a/\num a<=eW:=by
 cases a with
 |int i=>exact h
 |_=>exact⟨(by decide+kernel:-eW<=(0:Int)),(by decide+kernel:(0:Int)<=eW)⟩
variable{x:PySem.Str}
theorem U1:(Wo.txt x).w= .str x:=rfl
theorem u_:(Wo.int i).w= .int i:=rfl
theorem U2(h:a.nm=true):cF [a.w] st= .ok (.int (num a)) st:=by cases a<;>first |rfl |cases h
def text:Wo->PySem.Str
 |.int i=>(toString i:String)
 |.txt x=>x
 |_=>""
theorem HI(h:i.natAbs.log2 < 1920):uG [.int i] st= .ok (.str (toString i:String)) st:=by show(if i.natAbs.log2 < 1920 then Re.ok (Wv.str (toString i:String)) st else .bad)=_;exact if_pos h
theorem M8(h:a.Ok)(hf:a.f=false):fK [a.w] st= .ok (.str (text a)) st:=by
 cases a with
 |int i=>refine B9 (n:=1) (g:=mr) ?_;unfold mr;simp[Wo.w,text,HI (AF h),Ke]
 |kK x=>cases hf
 |_=>rfl
theorem text_len(h:a.Ok):(text a).length<=1921:=by
 cases a with
 |int i=>exact PyProof.Rows.int_text_len_1921 (AF h)
 |txt x=>exact aV h (by decide)
 |_=>exact(by decide+kernel:(("":PySem.Str)).length<=1921)
variable{b:Wo}
theorem yS(ha:a.Ok)(hb:b.Ok):de (.str (text a)) (.str (text b)) st= .ok (.str (text a++text b)) st :=
 UA (by have:=text_len ha;have:=text_len hb;unfold lim;omega)
theorem L6(x y:PySem.Str):(x++y).length=x.length+y.length:=MJ
theorem fX:bQ [.str x] st= .ok (Wo.kK x).w st:=rfl
def jn(a b:Wo):Wo:=if 200 < ((text a++text b).length:Int)then .kK "great" else .txt (text a++text b)
theorem joined(ha:a.Ok)(hb:b.Ok)(fa:a.f=false)(fb:b.f=false):oq [a.w,b.w] st= .ok (jn a b).w st:=by
 have l1:=UB (z:=text a++text b) (st:=st) (by have:=text_len ha;have:=text_len hb;rw[L6];unfold lim;omega);refine B9 (n:=3) (g:=oo) ?_;unfold oo jn;by_cases c:200 < ((text a++text b).length:Int)
 ·simp[M8 ha fa,M8 hb fb,yS ha hb,l1,c,fX]
 ·simp[M8 ha fa,M8 hb fb,yS ha hb,l1,c,U1]
def Wo.t:Wo->Bool
 |.txt _=>true
 |_=>false
theorem Ej(a:Wo)(st:Hs):nR mx jA [a.w,.ty "str"] st= .ok (.bl a.t) st:=by cases a<;>rfl
def ls(a b:Wo):Wo:=if a.t||b.t then(if a.n||b.n then .kK "kind" else .int (if decide ((text a).cps.toList < (text b).cps.toList)then 1 else 0))else .int (if decide (num a < num b)then 1 else 0)
theorem U3{y:PySem.Str}:oLt (.str x) (.str y) st= .ok (.bl (decide (x.cps.toList < y.cps.toList))) st:=rfl
theorem yT(h:a.f=false)(k:a.t=false):a.nm=true:=by cases a<;>first |rfl |(cases h;done) |(cases k;done)
theorem less(ha:a.Ok)(hb:b.Ok)(fa:a.f=false)(fb:b.f=false):wV [a.w,b.w] st= .ok (ls a b).w st:=by
 refine B9 (n:=2) (g:=wU) ?_;unfold wU ls;cases ta:a.t
 ·cases tb:b.t
  ·by_cases c:num a < num b<;>simp[Ej,ta,tb,U2 (yT fa ta),U2 (yT fb tb),c,u_]
  ·cases ia:a.n<;>cases ib:b.n<;>first
    |(simp[Ej,US,ta,tb,ia,ib,fX];done)
    |(by_cases c:(text a).cps.toList < (text b).cps.toList<;>simp[Ej,US,ta,tb,ia,ib,M8 ha fa,M8 hb fb,U3,c,u_])
 ·cases ia:a.n<;>cases ib:b.n<;>first
   |(simp[Ej,US,ta,ia,ib,fX];done)
   |(by_cases c:(text a).cps.toList < (text b).cps.toList<;>simp[Ej,US,ta,ia,ib,M8 ha fa,M8 hb fb,U3,c,u_])
def bO(i:Int):Wo:=if eW < (if i < 0 then -i else i)then .kK "great" else .int i
theorem L7(i:Int):(bO i).w=bnd i:=by
 unfold bO bnd;by_cases c:eW < (if i < 0 then -i else i)
 ·rw[if_pos c,if_pos c];rfl
 ·rw[if_neg c,if_neg c];rfl
theorem oA(i:Int):(bO i).Ok:=by
 unfold bO;by_cases c:eW < (if i < 0 then -i else i)
 ·rw[if_pos c];trivial
 ·rw[if_neg c];show -eW<=i/\i<=eW;by_cases z:i < 0
  ·rw[if_pos z]at c;omega
  ·rw[if_neg z]at c;omega
theorem jB:bX [.int i] st= .ok (bO i).w st:=by rw[L7];exact bounded
def OA:List S:=["+","-","*","/","rest"]
def OB:List S:=["&","<","="]
theorem U4(b:Bool):(Wo.int (if b=true then 1 else 0)).Ok:=by
 have:(1:Int)<=eW:=by decide+kernel
 cases b
 ·show -eW<=0/\0<=eW;omega
 ·show -eW<=1/\1<=eW;omega
variable{op:S}
theorem L8{n o:Int}(ho:op∈OA)(hn:-eW<=n/\n<=eW)(hm:-eW<=o/\o<=eW):∃r:Wo,r.Ok/\∀st:Hs,cK [.str op,.int n,.int o] st= .ok r.w st:=by
 have q1:(("-":S) == "+")=false:=rfl;have q2:(("*":S) == "+")=false:=rfl;have q3:(("*":S) == "-")=false:=rfl;have q4:(("/":S) == "+")=false:=rfl;have q5:(("/":S) == "-")=false:=rfl;have q6:(("/":S) == "*")=false:=rfl;have q7:(("rest":S) == "+")=false:=rfl;have q8:(("rest":S) == "-")=false:=rfl;have q9:(("rest":S) == "*")=false:=rfl;have q0:(("rest":S) == "/")=false:=rfl;have mu:∀st:Hs,dO (.int n) (.int o) st= .ok (.int (n * o)) st:=λst=>yu (QI (Cw hn) (Cw hm));simp only[OA,fq,h8,or_false]at ho;rcases ho with rfl |rfl |rfl |rfl |rfl
 ·exact⟨bO (n+o),oA _,λst=>by unfold cK bB dG;simp[jB]⟩
 ·exact⟨bO (n - o),oA _,λst=>by unfold cK bB dG;simp[jB,q1]⟩
 ·exact⟨bO (n * o),oA _,λst=>by unfold cK bB dG;simp[jB,q2,q3,mu]⟩
 ·by_cases z:o=0
  ·subst z;exact⟨.kK "nought",trivial,λst=>by unfold cK bB dG;simp[fX,q4,q5,q6]⟩
  ·have bz:(o == 0)=false:=beq_false_of_ne z;have dv:∀st:Hs,fH (.int n) (.int o) st= .ok (.int (n.fdiv o)) st:=λst=>lq ⟨z,vK (AF hm) (by decide)⟩;exact⟨bO (n.fdiv o),oA _,λst=>by unfold cK bB dG;simp[jB,q4,q5,q6,bz,dv]⟩
 ·by_cases z:o=0
  ·subst z;exact⟨.kK "nought",trivial,λst=>by unfold cK bB dG;simp[fX,q7,q8,q9]⟩
  ·have bz:(o == 0)=false:=beq_false_of_ne z;have md:∀st:Hs,oMod (.int n) (.int o) st= .ok (.int (n.fmod o)) st:=λst=>kF z;exact⟨bO (n.fmod o),oA _,λst=>by unfold cK bB dG;simp[jB,q7,q8,q9,q0,bz,md]⟩
theorem U5(a b:Wo):(jn a b).Ok:=by
 unfold jn;split
 ·trivial
 ·rename_i c;show(text a++text b).length<=200;omega
theorem U6(a b:Wo):(ls a b).Ok:=by
 unfold ls;split
 ·split
  ·trivial
  ·exact U4 _
 ·exact U4 _
theorem va(ho:op∈OA\/op∈OB)(ha:a.Ok)(hb:b.Ok):∃r:Wo,r.Ok/\∀st:Hs,cL [.str op,a.w,b.w] st= .ok r.w st:=by
 cases fa:a.f with
 |true=>exact⟨a,ha,λst=>by unfold cL bB eE;simp[wW,fa]⟩
 |false=>
  cases fb:b.f with
  |true=>exact⟨b,hb,λst=>by unfold cL bB eE;simp[wW,fa,fb]⟩
  |false=>
   rcases ho with ho |ho
   ·have r1:(op == ("=":S))=false:=by simp only[OA,fq,h8,or_false]at ho;rcases ho with rfl |rfl |rfl |rfl |rfl<;>rfl
    have r2:(op == ("&":S))=false:=by simp only[OA,fq,h8,or_false]at ho;rcases ho with rfl |rfl |rfl |rfl |rfl<;>rfl
    have r3:(op == ("<":S))=false:=by simp only[OA,fq,h8,or_false]at ho;rcases ho with rfl |rfl |rfl |rfl |rfl<;>rfl
    cases ta:a.t with
    |true=>exact⟨.kK "kind",trivial,λst=>by unfold cL bB eE;simp[wW,fa,fb,r1,r2,r3,Ej,ta,fX]⟩
    |false=>
     cases tb:b.t with
     |true=>exact⟨.kK "kind",trivial,λst=>by unfold cL bB eE;simp[wW,fa,fb,r1,r2,r3,Ej,ta,tb,fX]⟩
     |false=>obtain⟨r,h1,h2⟩:=L8 ho (Il ha) (Il hb);exact⟨r,h1,λst=>by unfold cL bB eE;simp[wW,fa,fb,r1,r2,r3,Ej,ta,tb,U2 (yT fa ta),U2 (yT fb tb),h2]⟩
   ·have s1:(("&":S) == "=")=false:=rfl;have s2:(("<":S) == "=")=false:=rfl;have s3:(("<":S) == "&")=false:=rfl;simp only[OB,fq,h8,or_false]at ho;rcases ho with rfl |rfl |rfl
    ·exact⟨jn a b,U5 a b,λst=>by unfold cL bB eE;simp[wW,fa,fb,s1,joined ha hb fa fb]⟩
    ·exact⟨ls a b,U6 a b,λst=>by unfold cL bB eE;simp[wW,fa,fb,s2,s3,less ha hb fa fb]⟩
    ·exact⟨.int (if same a b=true then 1 else 0),U4 _,λst=>by unfold cL bB eE;cases q:same a b<;>simp[wW,fa,fb,sw,q,u_]⟩
def QU(op:S)(a b:Wo):Wo:=open Classical in if h:(op∈OA\/op∈OB)/\a.Ok/\b.Ok then QQ (va h.1 h.2.1 h.2.2)else .non
theorem AG(ho:op∈OA\/op∈OB)(ha:a.Ok)(hb:b.Ok):(QU op a b).Ok/\∀st:Hs,cL [.str op,a.w,b.w] st= .ok (QU op a b).w st:=by unfold QU;rw[dif_pos ⟨ho,ha,hb⟩];exact QR (va ho ha hb)
theorem U7(ho:op∈OA\/op∈OB)(ha:a.Ok)(hb:b.Ok)(fa:a.f=false)(fb:b.f=true):(QU op a b).w=b.w:=by
 have h:=(AG ho ha hb).2 [];have:cL [.str op,a.w,b.w] []= .ok b.w []:=by unfold cL bB eE;simp[wW,fa,fb]
 rw[this]at h;injection h with h;exact h.symm
def L9(word:S)(a:Wo):Wo:=if a.f=true then a else if a.t=true then .kK "kind" else if word="minus" then bO (-num a)else .int (if num a=0 then 1 else 0)
theorem AH{word:S}(hw:word="minus"\/word="not")(ha:a.Ok):(L9 word a).Ok/\∀st:Hs,dq [.str word,a.w] st= .ok (L9 word a).w st:=by
 have w2:(("not":S) == "minus")=false:=rfl;unfold L9;cases fa:a.f with
 |true=>exact⟨ha,λst=>by unfold dq bB iH;simp[wW,fa]⟩
 |false=>
  cases ta:a.t with
  |true=>exact⟨trivial,λst=>by unfold dq bB iH;simp[wW,Ej,fa,ta,fX]⟩
  |false=>
   have n1:=λst=>U2 (a:=a) (st:=st) (yT fa ta);rcases hw with rfl |rfl
   ·exact⟨oA _,λst=>by unfold dq bB iH;simp[wW,Ej,fa,ta,n1,jB]⟩
   ·have wn:¬(("not":S)="minus"):=by decide+kernel
    rw[if_neg aH,if_neg aH,if_neg wn];by_cases z:num a=0
    ·rw[if_pos z];exact⟨U4 true,λst=>by unfold dq bB iH;simp[wW,Ej,fa,ta,n1,w2,z,u_]⟩
    ·rw[if_neg z];have bz:(num a == 0)=false:=beq_false_of_ne z;exact⟨U4 false,λst=>by unfold dq bB iH;simp[wW,Ej,fa,ta,n1,w2,bz,u_]⟩
def fe(rs xs:List Rd):List Rd:=xs.foldl bp rs
theorem oB{s:Rd}:s∈bp rs r↔s∈rs\/s=r:=by
 unfold bp;split
 ·rename_i h;constructor
  ·exact .inl
  ·rintro(z |rfl)
   ·exact z
   ·exact h
 ·simp
theorem oC{s:Rd}:∀{xs rs:List Rd},s∈fe rs xs↔s∈rs\/s∈xs
 |[],rs=>by simp[fe]
 |x::xs,rs=>by
  have:=oC (s:=s) (xs:=xs) (rs:=bp rs x);unfold fe at this ⊢;rw[rJ,this,oB,fq];constructor
  ·rintro((a |a) |a)
   ·exact .inl a
   ·exact .inr (.inl a)
   ·exact .inr (.inr a)
  ·rintro(a |a |a)
   ·exact .inl (.inl a)
   ·exact .inl (.inr a)
   ·exact .inr a
variable{xs:List Rd}
theorem wZ:fe rs (bp xs r)=bp (fe rs xs) r:=by
 by_cases h:r∈xs
 ·have e1:bp xs r=xs:=by unfold bp;rw[if_pos h]
  have e2:bp (fe rs xs) r=fe rs xs:=by unfold bp;rw[if_pos (oC.mpr (.inr h))]
  rw[e1,e2]
 ·have e1:bp xs r=xs++[r]:=by unfold bp;rw[if_neg h]
  rw[e1];unfold fe;rw[Im];rfl
theorem qT:∀ys:List Rd,fe rs (fe xs ys)=fe (fe rs xs) ys:=by
 intro ys
 induction ys generalizing xs with
 |nil=>rfl
 |cons y ys ih=>show fe rs (fe (bp xs y) ys)=fe (bp (fe rs xs) y) ys;rw[ih,wZ]
theorem ir:∀(xs rs:List Rd),(fe rs xs).length<=rs.length+xs.length
 |[],rs=>by simp[fe]
 |x::xs,rs=>by
  have a:=ir xs (bp rs x);have b:(bp rs x).length<=rs.length+1:=by
   unfold bp;split
   ·omega
   ·simp
  show(fe (bp rs x) xs).length<=_;simp;omega
theorem qU(h:rs.Nodup):(bp rs r).Nodup:=by
 unfold bp;split
 ·exact h
 ·rename_i z;rw[w5];refine⟨h,by simp,λa ha b hb=>?_⟩;rw[List.mem_singleton.mp hb];exact λe=>z (e ▸ ha)
theorem w6:∀{xs rs:List Rd},rs.Nodup->(fe rs xs).Nodup
 |[],rs,h=>h
 |x::xs,rs,h=>w6 (xs:=xs) (qU h)
theorem Cy:∀{ys xs:List Rd},ys.Nodup->fe xs ys=xs++ys.filter (λr=>decide (r∉xs))
 |[],xs,_=>by simp[fe]
 |y::ys,xs,h=>by
  obtain⟨h1,h2⟩:=List.nodup_cons.mp h;show fe (bp xs y) ys=_;rw[Cy h2];by_cases c:y∈xs
  ·have e1:bp xs y=xs:=by unfold bp;rw[if_pos c]
   rw[e1,gW,if_neg (by simp[c])]
  ·have e1:bp xs y=xs++[y]:=by unfold bp;rw[if_neg c]
   rw[e1,gW,if_pos (by simp[c]),kQ,List.singleton_append]
   congr 2
   refine List.filter_congr λz hz=>?_;have:z≠y:=λe=>h1 (e ▸ hz);simp[this]
def litS:List Wv->Sd
 |[.int i]=> .wo (.int i)
 |[.str s]=> .wo (.txt s)
 |_=> .wo (.kK "lost")
def AI(x:S):mF:=if x="sum" then .sum else if x="count" then .count else if x="least" then .least else .lP
def QV(W:Ws)(P:List Pt)(x:S):List Int->Sd×List Rd
 |[a,b]=>(dt W P (a,b),[.mG (a,b)])
 |[a,b,c,e]=>(Cv W P (AI x) (upto (stp W P .non) (dz a b c e)) (bZ (stp W P .non) (dz a b c e)),[.part a b c e (bZ (stp W P .non) (dz a b c e))])
 |_=>(.wo .non,[])
def qV(W:Ws)(P:List Pt):Sd->List Rd->List Int->Sd×List Rd
 |.wo kv,r,[a,b,c,e]=>if kv.f=true then(.wo kv,r)else if kv.nn=false then(.wo (.kK "none"),r)else
   if(dt W P (bZ (stp W P kv) (dz a b c b))).h=true then(dt W P (bZ (stp W P kv) (dz a b c b)),bp r (.part a b c b (bZ (stp W P kv) (dz a b c b))))
   else if ft (wo W (bZ (stp W P kv) (dz a b c b))) kv=false then(.wo (.kK "none"),bp r (.part a b c b (bZ (stp W P kv) (dz a b c b))))
   else(dt W P ((bZ (stp W P kv) (dz a b c b)).1,e),bp (bp r (.part a b c b (bZ (stp W P kv) (dz a b c b)))) (.mG ((bZ (stp W P kv) (dz a b c b)).1,e)))
 |s,r,_=>(s,r)
def two(x:S)(s t:Sd)(xs ys:List Rd):Sd×List Rd:=match s with
 |.wo ka=>if ka.f=true then(.wo ka,xs)else(match t with
  |.wo kb=> .wo (QU x ka kb)
  |.wt p=> .wt p,fe xs ys)
 |.wt p=>(.wt p,xs)
def one(x:S):Sd->Sd
 |.wo kv=> .wo (L9 x kv)
 |.wt p=> .wt p
def yU(s t u:Sd)(xs ys zs:List Rd):Sd×List Rd:=match s with
 |.wo ka=>if ka.f=true then(.wo ka,xs)else if ka.t=true then(.wo (.kK "kind"),xs)else if num ka=0 then(u,fe xs zs)else(t,fe xs ys)
 |.wt p=>(.wt p,xs)
def lk(W:Ws)(P:List Pt):Fm->Sd×List Rd
 |.lit _ ws=>(litS ws,[])
 |.pt x l _=>QV W P x l
 |.fd a l _=>qV W P (lk W P a).1 (lk W P a).2 l
 |.o1 x a=>(one x (lk W P a).1,(lk W P a).2)
 |.o2 x a b=>if x="else" then(if(lk W P a).1.f=true then((lk W P b).1,fe (lk W P a).2 (lk W P b).2)else lk W P a)
  else two x (lk W P a).1 (lk W P b).1 (lk W P a).2 (lk W P b).2
 |.o3 a b c=>yU (lk W P a).1 (lk W P b).1 (lk W P c).1 (lk W P a).2 (lk W P b).2 (lk W P c).2
def Sd.ok:Sd->Prop
 |.wt _=>True
 |.wo a=>a.Ok
variable{x:S}{g:Wv}{B C:Nat}{t:Sd}{ys:List Rd}
section
variable {W:Ws}{P:List Pt}{d k m:Nat}{l:Wv}{rs:List Rd}{st:Hs}
def Gn(W:Ws)(P:List Pt)(d:Nat)(l:Wv)(n:Nat)(f:Wv)(s:Sd)(xs:List Rd)(B:Nat):Prop:=∀(st:Hs)(k m:Nat)(rs:List Rd),Lk W P d l k m rs st->rs.length+B<=900->∃st',ax n [f,.ref k] st= .ok s.w st'/\Lk W P d l k m (fe rs xs) st'/\bL m st st'
theorem w8(G:Gn W P d l n f s xs B)(h:Lk W P d l k m rs st)(hb:rs.length+B<=900){q:Nat}(hs:st[q]? =some (.lst us))(hl:l≠.ref q)(hu:us.length < 5)(F:Wv)(G1 G2 G3 G4:List Wv->Hs->Re Wv):
  ∃st',(s.h=true->aO G1 G2 G3 G4 (ax n) [some F,some (.ref k),some (.ref q),some f] st= .rt s.w st')/\(s.h=false->aO G1 G2 G3 G4 (ax n) [some F,some (.ref k),some (.ref q),some f] st= .nx [some F,some (.ref k),some (.ref q),some f] st')/\
   st'[q]? =some (.lst (us++[s.w]))/\Lk W P d l k m (fe rs xs) st'/\st.length<=st'.length/\∀j,j < st.length->j≠m->j≠q->st'[j]? =st[j]?:=by
 obtain⟨s1,e1,h1,k1⟩:=G st k m rs h hb;have R0:q≠m:=λe=>by have:=h.m;rw[<-e,hs]at this;cases this
 have hs1:s1[q]? =some (.lst us):=by rw[k1.2 q (cV hs) R0];exact hs
 have ap:=sJ (v:=s.w) hs1 (by unfold lim;omega);have km:=λga ρ=>mh (mt:=iz) (ga:=ga) (ρ:=ρ) (st:=st) (l:=q) (bF hs);have h2:Lk W P d l k m (fe rs xs) (s1.set q (.lst (us++[s.w]))):=h1.set hs1 hl;have s2:(s1.set q (.lst (us++[s.w])))[q]? =some (.lst (us++[s.w])):=cC hs1;have old:∀j,j < st.length->j≠m->j≠q->(s1.set q (.lst (us++[s.w])))[j]? =st[j]?:=λj a b c=>by rw[bN (bA c)];exact k1.2 j a b
 have ln:st.length<=(s1.set q (.lst (us++[s.w]))).length:=by rw[nI];exact k1.1
 generalize hst:s1.set q (.lst (us++[s.w]))=s3 at ap h2 s2 old ln;have ix:bq (.ref q) (.int (-1)) s3= .ok s.w s3:=mB (bF s2) n9;have hh:=halts s (st:=s3);refine⟨s3,λz=>?_,λz=>?_,s2,h2,ln,old⟩
 ·rw[z]at hh;unfold aO;simp[km,e1,ap,ix,hh]
 ·rw[z]at hh;unfold aO;simp[km,e1,ap,ix,hh]
theorem tD{s1 s2:Hs}(hl:(st++[Ob.lst []]).length<=s2.length)(h:∀j,j < (st++[Ob.lst []]).length->j≠m->j≠st.length->s2[j]? =(st++[Ob.lst []])[j]?):bL m st s2:=by refine⟨by simp at hl;omega,λj a b=>?_⟩;rw[h j (by simp;omega) b (by omega),f6 a]
theorem rk1(hx:x="minus"\/x="not")(G:Gn W P d l n f s xs B)(ok:s.ok)(h:Lk W P d l k m rs st)(hb:rs.length+B<=900)(po:∀st:Hs,cq [.tup [.str x,f]] st= .ok (.tup [f]) st):
  ∃st',ag (n+1) [.tup [.str x,f],.ref k] st= .ok (one x s).w st'/\Lk W P d l k m (fe rs xs) st'/\bL m st st':=by
 have h0:=h.gr (Gr.push (o:=.lst []));obtain⟨s1,t1,t2,l1,h1,ln,old⟩:=w8 G h0 hb (q:=st.length) (us:=[]) eI (h.n.nl) (by simp) (.tup [.str x,f]) (aF n) (ay n) (az n) (ag n);refine⟨s1,?_,h1,tD (s1:=s1) ln old⟩;have i0:∀st:Hs,bq (.tup [.str x,f]) (.int 0) st= .ok (.str x) st:=λst=>rfl;rw[fc];unfold bB cz;have lt1:aG s1 st.length=some [s.w]:=by have:=bF l1;simpa using this
 cases q:s.h with
 |true=>
  have tt:=t1 q;have fo:dg 3 (aO (aF n) (ay n) (az n) (ag n) (ax n)) [f] [some (.tup [.str x,f]),some (.ref k),some (.ref st.length),none] (st++[.lst []])= .rt s.w s1:=by unfold dg;rw[show([some (Wv.tup [.str x,f]),some (.ref k),some (.ref st.length),none]:b7).set 3 (some f)=[some (.tup [.str x,f]),some (.ref k),some (.ref st.length),some f] from rfl,tt]
  have ev:(one x s).w=s.w:=by
   cases s with
   |wt p=>rfl
   |wo kv=>show(L9 x kv).w=kv.w;unfold L9;rw[if_pos (show kv.f=true from q)]
  rw[ev];simp[po,fo]
 |false=>
  have tt:=t2 q;have fo:dg 3 (aO (aF n) (ay n) (az n) (ag n) (ax n)) [f] [some (.tup [.str x,f]),some (.ref k),some (.ref st.length),none] (st++[.lst []])= .nx [some (.tup [.str x,f]),some (.ref k),some (.ref st.length),some f] s1:=by unfold dg;rw[show([some (Wv.tup [.str x,f]),some (.ref k),some (.ref st.length),none]:b7).set 3 (some f)=[some (.tup [.str x,f]),some (.ref k),some (.ref st.length),some f] from rfl,tt];rfl
  cases s with
  |wt p=>cases q
  |wo kv=>have u6:=sI lt1;have ix:bq (.ref st.length) (.int 0) s1= .ok kv.w s1:=mB lt1 rfl;have sg:=(AH hx (a:=kv) ok).2 s1;show _=Re.ok (L9 x kv).w s1;simp[po,fo,u6,i0,ix,sg]
theorem rk2(hx:x∈OA\/x∈OB)(G:Gn W P d l n f s xs B)(G':Gn W P d l n g t ys C)(ok:s.ok)(ok':t.ok)(h:Lk W P d l k m rs st)(hb:rs.length+B+C<=900)(hxs:xs.length<=B)(po:∀st:Hs,cq [.tup [.str x,f,g]] st= .ok (.tup [f,g]) st):
  ∃st',ag (n+1) [.tup [.str x,f,g],.ref k] st= .ok (two x s t xs ys).1.w st'/\Lk W P d l k m (fe rs (two x s t xs ys).2) st'/\bL m st st':=by
 have h0:=h.gr (Gr.push (o:=.lst []));have hlq:l≠.ref st.length:=h.n.nl;obtain⟨s1,t1,t2,l1,h1,ln,old⟩:=w8 G h0 (by omega) (q:=st.length) (us:=[]) eI hlq (by simp) (.tup [.str x,f,g]) (aF n) (ay n) (az n) (ag n);have i0:∀st:Hs,bq (.tup [.str x,f,g]) (.int 0) st= .ok (.str x) st:=λst=>rfl;have r1:([some (Wv.tup [.str x,f,g]),some (.ref k),some (.ref st.length),none]:b7).set 3 (some f)=[some (.tup [.str x,f,g]),some (.ref k),some (.ref st.length),some f]:=rfl;have r2:([some (Wv.tup [.str x,f,g]),some (.ref k),some (.ref st.length),some f]:b7).set 3 (some g)=[some (.tup [.str x,f,g]),some (.ref k),some (.ref st.length),some g]:=rfl;rw[fc];unfold bB cz;cases q:s.h with
 |true=>
  have tt:=t1 q;have fo:dg 3 (aO (aF n) (ay n) (az n) (ag n) (ax n)) [f,g] [some (.tup [.str x,f,g]),some (.ref k),some (.ref st.length),none] (st++[.lst []])= .rt s.w s1:=by unfold dg;rw[r1,tt]
  have ev:(two x s t xs ys)=(s,xs):=by
   unfold two;cases s with
   |wt p=>rfl
   |wo kv=>exact if_pos (show kv.f=true from q)
  rw[ev];refine⟨s1,?_,h1,tD (s1:=s1) ln old⟩;simp[po,fo]
 |false=>
  have tt:=t2 q;obtain⟨s2,t3,t4,l2,h2,ln2,L_⟩:=w8 G' h1 (by have:=ir xs rs;omega) (q:=st.length) (us:=[s.w]) (by simpa using l1) hlq (by simp) (.tup [.str x,f,g]) (aF n) (ay n) (az n) (ag n);have kp:bL m st s2:=tD (s1:=s1) (aV ln ln2) λj a b c=>by rw[L_ j (bT a ln) b c];exact old j a b c
  have T3:aG s2 st.length=some [s.w,t.w]:=by have:=bF l2;simpa using this
  cases s with
  |wt p=>cases q
  |wo ka=>
   have qf:ka.f=false:=q;unfold two;dsimp only;rw[if_neg (by rw[qf];exact aH)];rw[<-qT]at h2;refine⟨s2,?_,h2,kp⟩;cases q2:t.h with
   |true=>
    have Y7:=t3 q2;have fo:dg 3 (aO (aF n) (ay n) (az n) (ag n) (ax n)) [f,g] [some (.tup [.str x,f,g]),some (.ref k),some (.ref st.length),none] (st++[.lst []])= .rt t.w s2:=by unfold dg;rw[r1,tt];dsimp only;unfold dg;rw[r2,Y7]
    have ev:(match t with |.wo kb=>Sd.wo (QU x ka kb) |.wt p=> .wt p).w=t.w:=by
     cases t with
     |wt p=>rfl
     |wo kb=>exact U7 hx ok ok' qf q2
    rw[ev];simp[po,fo]
   |false=>
    have Y7:=t4 q2;have fo:dg 3 (aO (aF n) (ay n) (az n) (ag n) (ax n)) [f,g] [some (.tup [.str x,f,g]),some (.ref k),some (.ref st.length),none] (st++[.lst []])= .nx [some (.tup [.str x,f,g]),some (.ref k),some (.ref st.length),some g] s2:=by unfold dg;rw[r1,tt];dsimp only;unfold dg;rw[r2,Y7];rfl
    cases t with
    |wt p=>cases q2
    |wo kb=>have u6:=sI T3;have ix:bq (.ref st.length) (.int 0) s2= .ok ka.w s2:=mB T3 rfl;have ix':bq (.ref st.length) (.int 1) s2= .ok kb.w s2:=mB T3 rfl;have pr:=(AG hx (a:=ka) (b:=kb) ok ok').2 s2;show _=Re.ok (QU x ka kb).w s2;simp[po,fo,u6,i0,ix,ix',pr]
end
def Nt(x:S):Prop:=(x == ("num":S))=false/\(x == ("text":S))=false/\(x == ("lost":S))=false/\(x == ("at":S))=false/\(x == ("if":S))=false/\(x == ("else":S))=false/\(x == ("find":S))=false
theorem Y8(h:x="minus"\/x="not"):Nt x:=by rcases h with rfl |rfl<;>exact⟨rfl,rfl,rfl,rfl,rfl,rfl,rfl⟩
theorem Y9(h:x∈OA\/x∈OB):Nt x:=by simp only[OA,OB,fq,h8,or_false]at h;rcases h with (rfl |rfl |rfl |rfl |rfl) |rfl |rfl |rfl<;>exact⟨rfl,rfl,rfl,rfl,rfl,rfl,rfl⟩
theorem Y_(wd:mF):Nt wd.s:=by cases wd<;>exact⟨rfl,rfl,rfl,rfl,rfl,rfl,rfl⟩
variable{D:Nat}
section
variable {W:Ws}{P:List Pt}{d k m:Nat}{l:Wv}{rs:List Rd}{st:Hs}{a b c e:Int}
theorem Cz{u:Wv}(nt:Nt x)(po:∀st:Hs,cq [.tup (.str x::ws)] st= .ok (.tup (u::us)) st)(hr:ag n [.tup (.str x::ws),.ref k] st= .ok v st'):ax (n+1) [.tup (.str x::ws),.ref k] st= .ok v st':=by obtain⟨t1,t2,t3,t4,t5,t6,t7⟩:=nt;have i0:∀st:Hs,bq (.tup (.str x::ws)) (.int 0) st= .ok (.str x) st:=λst=>WE;have tr:∀st:Hs,oR (.tup (u::us)) st= .ok true st:=λst=>rfl;rw[a9];unfold bB bo;simp[i0,t1,t2,t3,t4,t5,t6,t7,po,tr,hr]
theorem po1(h:x="minus"\/x="not")(f:Wv)(st:Hs):cq [.tup [.str x,f]] st= .ok (.tup [f]) st:=by rcases h with rfl |rfl<;>exact tw (k:=1) rfl (by show ¬nX 2 (some 1) (some (1+1));decide) rfl st
theorem po2(h:x∈OA\/x∈OB)(f g:Wv)(st:Hs):cq [.tup [.str x,f,g]] st= .ok (.tup [f,g]) st:=by simp only[OA,OB,fq,h8,or_false]at h;rcases h with (rfl |rfl |rfl |rfl |rfl) |rfl |rfl |rfl<;>exact tw (k:=2) rfl (by show ¬nX 3 (some 1) (some (1+2));decide) rfl st
theorem U8(hx:x="minus"\/x="not")(G:Gn W P d l n f s xs B)(ok:s.ok):Gn W P d l (n+2) (.tup [.str x,f]) (one x s) xs B:=λst k m rs h hb=>by obtain⟨st',e1,h1,k1⟩:=rk1 hx G ok h hb (po1 hx f);exact⟨st',Cz (Y8 hx) (po1 hx f) e1,h1,k1⟩
theorem U9(hx:x∈OA\/x∈OB)(G:Gn W P d l n f s xs B)(G':Gn W P d l n g t ys C)(ok:s.ok)(ok':t.ok)(hxs:xs.length<=B):Gn W P d l (n+2) (.tup [.str x,f,g]) (two x s t xs ys).1 (two x s t xs ys).2 (B+C):=λst k m rs h hb=>by obtain⟨st',e1,h1,k1⟩:=rk2 hx G G' ok ok' h (by omega) hxs (po2 hx f g);exact⟨st',Cz (Y9 hx) (po2 hx f g) e1,h1,k1⟩
theorem g_num:Gn W P d l (n+1) (.tup [.str "num",.int i]) (.wo (.int i)) [] 0:=λst k m rs h hb=>by refine⟨st,?_,h,bL.refl⟩;have i0:∀st:Hs,bq (.tup [.str "num",.int i]) (.int 0) st= .ok (.str "num") st:=λst=>rfl;have i1:∀st:Hs,bq (.tup [.str "num",.int i]) (.int 1) st= .ok (.int i) st:=λst=>rfl;rw[a9];unfold bB bo;simp[i0,i1];rfl
theorem U_:Gn W P d l (n+1) (.tup [.str "text",.str x]) (.wo (.txt x)) [] 0:=λst k m rs h hb=>by refine⟨st,?_,h,bL.refl⟩;have i0:∀st:Hs,bq (.tup [.str "text",.str x]) (.int 0) st= .ok (.str "text") st:=λst=>rfl;have i1:∀st:Hs,bq (.tup [.str "text",.str x]) (.int 1) st= .ok (.str x) st:=λst=>rfl;have t1:(("text":S) == "num")=false:=rfl;rw[a9];unfold bB bo;simp[i0,i1,t1];rfl
theorem QW:Gn W P d l (n+1) (.tup [.str "lost"]) (.wo (.kK "lost")) [] 0:=λst k m rs h hb=>by refine⟨st,?_,h,bL.refl⟩;have i0:∀st:Hs,bq (.tup [.str "lost"]) (.int 0) st= .ok (.str "lost") st:=λst=>rfl;have t1:(("lost":S) == "num")=false:=rfl;have t2:(("lost":S) == "text")=false:=rfl;rw[a9];unfold bB bo;simp[i0,t1,t2,fX];rfl
theorem Y':Gn W P d l (n+1) (.tup (.str "at"::pw p::ws)) (dt W P p) [.mG p] 1:=λst k m rs h hb=>by
 refine⟨_,?_,h.met,pO⟩;have i0:∀st:Hs,bq (.tup (.str "at"::pw p::ws)) (.int 0) st= .ok (.str "at") st:=λst=>WE;have i1:∀st:Hs,bq (.tup (.str "at"::pw p::ws)) (.int 1) st= .ok (pw p) st:=λst=>ix1;have t1:(("at":S) == "num")=false:=rfl;have t2:(("at":S) == "text")=false:=rfl;have t3:(("at":S) == "lost")=false:=rfl;have ms:mz "Look" "cell" 2 cD (ae 1) (aa (ao bq (ae 0) (gC (.int 1))) aj) [some (.tup (.str "at"::pw p::ws)),some (.ref k),some (.str "at")] st= .ok (dt W P p).w (kz st m (bp rs (.mG p))) :=
  (D9 (k:=k) (ws:=[pw p]) rfl h.o rfl (by simp[i1]) rfl).trans (cell h (by omega) p)
 rw[a9];unfold bB bo;simp[i0,t1,t2,t3,ms];rfl
theorem QX{p:Wv}(ok:g_ a b c e):Gn W P d l (n+1) (.tup [.str wd.s,tI [a,b,c,e],p]) (Cv W P wd (upto (stp W P .non) (dz a b c e)) (bZ (stp W P .non) (dz a b c e))) [.part a b c e (bZ (stp W P .non) (dz a b c e))] 1:=λst k m rs h hb=>by obtain⟨pre,x,st',u,e1,h1,k1⟩:=Y6 (wd:=wd) h (by omega) ok (by have:=(fD ok).1;omega);rw[gT u,u];refine⟨st',?_,h1,k1⟩;have i0:∀st:Hs,bq (.tup [.str wd.s,tI [a,b,c,e],p]) (.int 0) st= .ok (.str wd.s) st:=λst=>rfl;have i1:∀st:Hs,bq (.tup [.str wd.s,tI [a,b,c,e],p]) (.int 1) st= .ok (tI [a,b,c,e]) st:=λst=>rfl;obtain⟨t1,t2,t3,t4,t5,t6,t7⟩:=Y_ wd;have po:=λst=>tw (x:=wd.s) (k:=0) (ws:=[tI [a,b,c,e],p]) (us:=[]) (by cases wd<;>rfl) (by show ¬nX 3 (some 1) (some (1+0));decide) rfl st;have tr:∀st:Hs,oR (.tup []) st= .ok false st:=λst=>rfl;rw[a9];unfold bB bo;simp[i0,i1,t1,t2,t3,t4,t5,t6,t7,po,tr,e1]
theorem QY(G:Gn W P d l n f s xs B)(G':Gn W P d l n g t ys C)(hxs:xs.length<=B):Gn W P d l (n+2) (.tup [.str "else",f,g]) (if s.f=true then(t,fe xs ys)else(s,xs)).1 (if s.f=true then(t,fe xs ys)else(s,xs)).2 (B+C):=λst k m rs h hb=>by
 obtain⟨s1,e1,h1,k1⟩:=G st k m rs h (by omega);have i0:∀st:Hs,bq (.tup [.str "else",f,g]) (.int 0) st= .ok (.str "else") st:=λst=>rfl;have i1:∀st:Hs,bq (.tup [.str "else",f,g]) (.int 1) st= .ok f st:=λst=>rfl;have i2:∀st:Hs,bq (.tup [.str "else",f,g]) (.int 2) st= .ok g st:=λst=>rfl;have t1:(("else":S) == "num")=false:=rfl;have t2:(("else":S) == "text")=false:=rfl;have t3:(("else":S) == "lost")=false:=rfl;have t4:(("else":S) == "at")=false:=rfl;have t5:(("else":S) == "if")=false:=rfl;have hf:=U0 s (st:=s1);rw[a9];unfold bB bo;cases q:s.f with
 |true=>
  rw[if_pos rfl];rw[q]at hf;obtain⟨s2,e2,h2,k2⟩:=G' s1 k m _ h1 (by have:=ir xs rs;omega);rw[<-qT]at h2;refine⟨s2,?_,h2,k1.trans k2⟩;have el:ay (n+1) [.tup [.str "else",f,g],.ref k] st= .ok t.w s2:=by rw[gS];unfold bB dR;simp[i1,i2,e1,hf,e2]
  simp[i0,t1,t2,t3,t4,t5,el]
 |false=>
  rw[if_neg aH];rw[q]at hf;refine⟨s1,?_,h1,k1⟩;have el:ay (n+1) [.tup [.str "else",f,g],.ref k] st= .ok s.w s1:=by rw[gS];unfold bB dR;simp[i1,i2,e1,hf]
  simp[i0,t1,t2,t3,t4,t5,el]
theorem Za{h':Wv}{u:Sd}{zs:List Rd}(G:Gn W P d l n f s xs B)(G':Gn W P d l n g t ys C)(G'':Gn W P d l n h' u zs D)(ok:s.ok)(hxs:xs.length<=B):Gn W P d l (n+2) (.tup [.str "if",f,g,h']) (yU s t u xs ys zs).1 (yU s t u xs ys zs).2 (B+C+D):=λst k m rs h hb=>by
 obtain⟨s1,e1,h1,k1⟩:=G st k m rs h (by omega);have i0:∀st:Hs,bq (.tup [.str "if",f,g,h']) (.int 0) st= .ok (.str "if") st:=λst=>rfl;have i1:∀st:Hs,bq (.tup [.str "if",f,g,h']) (.int 1) st= .ok f st:=λst=>rfl;have i2:∀st:Hs,bq (.tup [.str "if",f,g,h']) (.int 2) st= .ok g st:=λst=>rfl;have i3:∀st:Hs,bq (.tup [.str "if",f,g,h']) (.int 3) st= .ok h' st:=λst=>rfl;have t1:(("if":S) == "num")=false:=rfl;have t2:(("if":S) == "text")=false:=rfl;have t3:(("if":S) == "lost")=false:=rfl;have t4:(("if":S) == "at")=false:=rfl;have hh:=halts s (st:=s1);have key:∀{v:Wv}{st':Hs},aF (n+1) [.tup [.str "if",f,g,h'],.ref k] st= .ok v st'->ax (n+2) [.tup [.str "if",f,g,h'],.ref k] st= .ok v st':=λel=>by rw[a9];unfold bB bo;simp[i0,t1,t2,t3,t4,el]
 unfold yU;cases s with
 |wt p=>refine⟨s1,key ?_,h1,k1⟩;rw[cM];unfold bB cG;simp[Sd.h]at hh;simp[i1,e1,hh]
 |wo ka=>
  dsimp only;change ax n [f,.ref k] st= .ok ka.w s1 at e1;cases qf:ka.f with
  |true=>
   rw[if_pos rfl];have CA:cg [ka.w] s1= .ok (.bl true) s1:=by rw[<-qf];exact hh
   refine⟨s1,key ?_,h1,k1⟩;rw[cM];unfold bB cG;simp[i1,e1,CA];rfl
  |false=>
   rw[if_neg aH];have CA:cg [ka.w] s1= .ok (.bl false) s1:=by rw[<-qf];exact hh
   have sg:=(AH (word:="not") (.inr rfl) (a:=ka) ok).2 s1;have sv:L9 "not" ka=if ka.t=true then .kK "kind" else .int (if num ka=0 then 1 else 0):=by unfold L9;rw[qf,if_neg aH,if_neg (show ¬(("not":S)="minus") by decide+kernel)]
   rw[sv]at sg;cases qt:ka.t with
   |true=>rw[if_pos rfl];rw[qt,if_pos rfl]at sg;have hf:=wW (.kK "kind") s1;refine⟨s1,key ?_,h1,k1⟩;rw[cM];unfold bB cG;simp[Wo.f]at hf;simp[i1,e1,CA,sg,hf];rfl
   |false=>
    rw[if_neg aH];rw[qt,if_neg aH]at sg;by_cases z:num ka=0
    ·rw[if_pos z];rw[if_pos z]at sg;obtain⟨s2,e2,h2,k2⟩:=G'' s1 k m _ h1 (by have:=ir xs rs;omega);rw[<-qT]at h2;refine⟨s2,key ?_,h2,k1.trans k2⟩;have hf:aX [.int 1] s1= .ok (.bl false) s1:=wW (.int 1) s1;change dq [.str "not",ka.w] s1= .ok (.int 1) s1 at sg;rw[cM];unfold bB cG;simp[i1,i3,e1,CA,sg,hf,e2]
    ·rw[if_neg z];rw[if_neg z]at sg;obtain⟨s2,e2,h2,k2⟩:=G' s1 k m _ h1 (by have:=ir xs rs;omega);rw[<-qT]at h2;refine⟨s2,key ?_,h2,k1.trans k2⟩;have hf:aX [.int 0] s1= .ok (.bl false) s1:=wW (.int 0) s1;change dq [.str "not",ka.w] s1= .ok (.int 0) s1 at sg;rw[cM];unfold bB cG;simp[i1,i2,e1,CA,sg,hf,e2]
end
variable{post:List Pt}
section
variable {W:Ws}{P:List Pt}{d k m:Nat}{l:Wv}{rs:List Rd}{st:Hs}{a b c e:Int}
theorem tE(h:g_ a b c e):g_ a b c b:=by
 unfold g_ at h ⊢;have:(c - a+1) * (b - b+1)=c - a+1:=by rw[Int.sub_self,Int.zero_add,Int.mul_one]
 omega
theorem L'(h:g_ a b c e):dz a b c b=(dh (c+1 - a).toNat).map λk:Nat=>((a+k,b):Pt):=by
 unfold dz D6;rw[show(b+1 - b).toNat=1 from by omega];have e:(λk:Nat=>(dh 1).map λj:Nat=>((a+k,b+j):Pt))=λk:Nat=>[((a+k,b):Pt)]:=by funext k;simp
 rw[e]
 induction (c+1 - a).toNat with
 |zero=>rfl
 |succ n ih=>rw[qS,dH,H_,ih,dH];simp
theorem QZ(h:g_ a b c e){x:Pt}(u:dz a b c b=pre++x::post):x=(a+(pre.length:Nat),b):=by
 rw[L' h]at u;have e1:(pre++x::post)[pre.length]? =some x:=by simp
 rw[<-u,eo]at e1;cases q:(dh (c+1 - a).toNat)[pre.length]? with
 |none=>rw[q]at e1;cases e1
 |some j=>
  rw[q]at e1;have hj:j=pre.length:=by have hl:=(List.getElem?_eq_some_iff.mp q).1;have:=(List.getElem?_eq_some_iff.mp q).2;simpa using this.symm
  subst hj;exact(Option.some.inj e1).symm
theorem lQ(rs:List Rd)(r:Rd):(bp rs r).length<=rs.length+1:=by
 unfold bp;split
 ·omega
 ·simp
theorem Q0{p:Wv}(G:Gn W P d l n f s xs B)(ok:g_ a b c e)(hxs:xs.length<=B):Gn W P d l (n+2) (.tup [.str "find",f,tI [a,b,c,e],p]) (qV W P s xs [a,b,c,e]).1 (qV W P s xs [a,b,c,e]).2 (B+2):=λst k m rs h hb=>by
 obtain⟨s1,g1,h1,k1⟩:=G st k m rs h (by omega);have i0:∀st:Hs,bq (.tup [.str "find",f,tI [a,b,c,e],p]) (.int 0) st= .ok (.str "find") st:=λst=>rfl;have i1:∀st:Hs,bq (.tup [.str "find",f,tI [a,b,c,e],p]) (.int 1) st= .ok f st:=λst=>rfl;have i2:∀st:Hs,bq (.tup [.str "find",f,tI [a,b,c,e],p]) (.int 2) st= .ok (tI [a,b,c,e]) st:=λst=>rfl;have j:∀st:Hs,bq (tI [a,b,c,e]) (.int 0) st= .ok (.int a) st/\bq (tI [a,b,c,e]) (.int 1) st= .ok (.int b) st/\bq (tI [a,b,c,e]) (.int 2) st= .ok (.int c) st/\bq (tI [a,b,c,e]) (.int 3) st= .ok (.int e) st:=λst=>⟨rfl,rfl,rfl,rfl⟩;have hh:=halts s (st:=s1);have fl:∀st:Hs,bQ [.str "none"] st= .ok (.tup [.str "fault",.str "none"]) st:=λst=>rfl;have key:∀{v:Wv}{st':Hs},az (n+1) [.tup [.str "find",f,tI [a,b,c,e],p],.ref k] st= .ok v st'->ax (n+2) [.tup [.str "find",f,tI [a,b,c,e],p],.ref k] st= .ok v st':=λel=>by have t1:(("find":S) == "num")=false:=rfl;have t2:(("find":S) == "text")=false:=rfl;have t3:(("find":S) == "lost")=false:=rfl;have t4:(("find":S) == "at")=false:=rfl;have t5:(("find":S) == "if")=false:=rfl;have t6:(("find":S) == "else")=false:=rfl;rw[a9];unfold bB bo;simp[i0,t1,t2,t3,t4,t5,t6,el]
 have ml:=ir xs rs;unfold qV;cases s with
 |wt q=>dsimp only;refine⟨s1,key ?_,h1,k1⟩;rw[bM];unfold bB bJ;simp[Sd.h]at hh;simp[i1,g1,hh]
 |wo kv=>
  dsimp only;change ax n [f,.ref k] st= .ok kv.w s1 at g1;cases q1:kv.f with
  |true=>
   rw[if_pos rfl];have CA:cg [kv.w] s1= .ok (.bl true) s1:=by rw[<-q1];exact hh
   refine⟨s1,key ?_,h1,k1⟩;rw[bM];unfold bB bJ;simp[i1,g1,CA];rfl
  |false=>
   rw[if_neg aH];have CA:cg [kv.w] s1= .ok (.bl false) s1:=by rw[<-q1];exact hh
   have in1:=isn kv (st:=s1);cases q2:kv.nn with
   |false=>rw[if_pos rfl];rw[q2]at in1;refine⟨s1,key ?_,h1,k1⟩;rw[bM];unfold bB bJ;simp[i1,g1,CA,in1,fl];rfl
   |true=>
    rw[if_neg (by simp)];rw[q2]at in1;obtain⟨pre,x,s2,e1,e2,e3,e4,e5⟩:=Cs (key:=kv) h1 (by omega) (tE ok);rw[gT e1];obtain⟨pre',x',u1,u2,⟨post,u3⟩,_⟩:=fL (f:=stp W P kv) (fD (tE ok)).2;have ex:pre=pre'/\x=x':=by have:=List.append_inj' (e1.symm.trans u1) rfl;exact⟨this.1,by simpa using this.2⟩
    obtain⟨rfl,rfl⟩:=ex;have xc:=QZ ok u3;have ms:mz "Look" "stretch" 3 bI (ae 1) (aa (cT (aa (ao bq (ae 3) (gC (.int 0))) (aa (ao bq (ae 3) (gC (.int 1))) (aa (ao bq (ae 3) (gC (.int 2))) (aa (ao bq (ae 3) (gC (.int 1))) aj))))) (aa (ae 2) aj)) [some (.tup [.str "find",f,tI [a,b,c,e],p]),some (.ref k),some kv.w,some (tI [a,b,c,e]),none] s1= .ok (.ref s1.length) s2 :=
     (D9 (k:=k) (ws:=[tI [a,b,c,b],kv.w]) rfl h1.o rfl (by simp[j];rfl) rfl).trans e2
    have ix:bq (.ref s1.length) (.int (-1)) s2= .ok (dt W P x).w s2:=mB (bF e3) (by rw[dH];exact n9);have hx:=halts (dt W P x) (st:=s2);have hr2:(bp (fe rs xs) (.part a b c b x)).length < 1000:=by have:=lQ (fe rs xs) (.part a b c b x);omega
    have cl:=cell e4 hr2 (x.1,e);have e6:=e4.met (rs':=bp (bp (fe rs xs) (.part a b c b x)) (.mG (x.1,e)));rw[<-wZ]at e4 e6 cl;rw[<-wZ]at e6 cl;cases q3:(dt W P x).h with
    |true=>rw[if_pos rfl];rw[q3]at hx;refine⟨s2,key ?_,e4,k1.trans e5⟩;rw[bM];unfold bB bJ;simp[i1,g1,CA,in1,i2,ms,ix,hx]
    |false=>
     rw[if_neg aH];rw[q3]at hx;have ew:=(u9 q3).1;have WG:=fits (wo W x) kv (st:=s2);rw[ew]at ix hx;change bq (.ref s1.length) (.int (-1)) s2= .ok (wo W x).w s2 at ix;change cg [(wo W x).w] s2=_ at hx;cases q4:ft (wo W x) kv with
     |false=>rw[if_pos rfl];rw[q4]at WG;refine⟨s2,key ?_,e4,k1.trans e5⟩;rw[bM];unfold bB bJ;simp[i1,g1,CA,in1,i2,ms,ix,hx,WG,fl];rfl
     |true=>
      rw[if_neg (by simp)];rw[q4]at WG;have ln:=sI (bF e3);rw[bP,dA]at ln;have x1:a+((pre.length+[x].length:Nat):Int) - 1=x.1:=by rw[xc];simp;omega
      have mc:mz "Look" "cell" 2 cD (ae 1) (aa (cT (aa (ao kY (ao de (ao bq (ae 3) (gC (.int 0))) (ba jO (aa (ae 4) aj))) (gC (.int 1))) (aa (ao bq (ae 3) (gC (.int 3))) aj))) aj) [some (.tup [.str "find",f,tI [a,b,c,e],p]),some (.ref k),some kv.w,some (tI [a,b,c,e]),some (.ref s1.length)] s2= .ok (dt W P (x.1,e)).w (kz s2 m (fe rs (bp (bp xs (.part a b c b x)) (.mG (x.1,e))))) :=
       (D9 (k:=k) (ws:=[pw (x.1,e)]) rfl e4.o rfl (by have ln':=ln;generalize pre.length+[x].length=q at ln' x1;simp[j,ln',x1]) rfl).trans cl
      refine⟨_,key ?_,e6,(k1.trans e5).trans pO⟩;rw[bM];unfold bB bJ;simp[i1,g1,CA,in1,i2,ms,ix,hx,WG,mc]
end
theorem U'(h:a.w=b.w):a=b:=by cases a<;>cases b<;>simp[Wo.w]at h<;>first |rfl |exact congrArg _ h
theorem Q1{ws:List Wo}(h:ws.length < 1000):(L4 wd ws).Ok:=by
 have p1:(1000:Int)<=eW:=by decide+kernel
 have g:∃a:Wo,a.Ok/\due wd ws=a.w:=by
  unfold due;split
  ·rename_i x _ _;exact⟨.kK x,trivial,rfl⟩
  ·cases wd with
   |sum=>exact⟨bO _,oA _,(L7 _).symm⟩
   |count=>refine⟨.int (nums ws).length,?_,rfl⟩;have:=yL ws;show -eW<=_/\_<=eW;omega
   |least=>
    dsimp only;split
    ·exact⟨.kK "none",trivial,rfl⟩
    ·exact⟨bO _,oA _,(L7 _).symm⟩
   |lP=>
    dsimp only;split
    ·exact⟨.kK "none",trivial,rfl⟩
    ·exact⟨bO _,oA _,(L7 _).symm⟩
 obtain⟨a,h1,h2⟩:=g;have:L4 wd ws=a:=U' ((Ij wd ws).trans h2);rw[this];exact h1
theorem Va(h:x∈AW):(AI x).s=x:=by simp only[AW,fq,h8,or_false]at h;rcases h with rfl |rfl |rfl |rfl<;>decide+kernel
theorem Vb(h:x∈W2)(ne:x≠"else"):x∈OA\/x∈OB:=by
 simp only[W2,OA,OB,fq,h8,or_false]at h ⊢;rcases h with rfl |h
 ·exact absurd rfl ne
 ·rcases h with h |h |h |h |h |h |h |h<;>simp[h]
section
variable {W:Ws}{P:List Pt}{d:Nat}{l:Wv}
theorem Io(tF:∀p,(wo W p).Ok)(p:Pt):(dt W P p).ok:=by
 unfold dt;split
 ·trivial
 ·exact tF p
theorem ff(tF:∀p,(wo W p).Ok):∀f:Fm,f.ok->∀n,2 * f.dp<=n->(lk W P f).1.ok/\(lk W P f).2.length<=2 * f.sz/\(lk W P f).2.Nodup/\Gn W P d l n f.w (lk W P f).1 (lk W P f).2 (2 * f.sz)
 |.lit x ws,ok,n,hn=>by
  have hn':2<=n:=hn;obtain⟨n,rfl⟩:∃n',n=n'+1:=⟨n - 1,by omega⟩;have up:∀{s:Sd}{f:Wv},Gn W P d l (n+1) f s [] 0->Gn W P d l (n+1) f s [] (2 * 1):=λg st k m rs h hb=>g st k m rs h (by omega);rcases ok with ⟨rfl,i,rfl,h0,h1⟩ |⟨rfl,s,rfl,hs⟩ |⟨rfl,rfl⟩
  ·refine⟨?_,by simp[lk],by simp[lk],up g_num⟩;show -eW<=i/\i<=eW;omega
  ·refine⟨?_,by simp[lk],by simp[lk],up U_⟩;show s.length<=200;have:=hs.1;omega
  ·exact⟨trivial,by simp[lk],by simp[lk],up QW⟩
 |.pt x l' p,ok,n,hn=>by
  have hn':2<=n:=hn;obtain⟨n,rfl⟩:∃n',n=n'+1:=⟨n - 1,by omega⟩;have up:∀{s:Sd}{f:Wv}{xs:List Rd},Gn W P d l (n+1) f s xs 1->Gn W P d l (n+1) f s xs (2 * 1):=λg st k m rs h hb=>g st k m rs h (by omega);rcases ok with ⟨rfl,a,b,q,r,rfl,rfl,_⟩ |⟨hx,a,b,c,e,q,r,s,t,rfl,rfl,ar,_⟩
  ·exact⟨Io tF (a,b),by simp[lk,QV,Fm.sz],by simp[lk,QV],up (Y' (p:=(a,b)) (ws:=[tI [q,r]]))⟩
  ·have g:=QX (W:=W) (P:=P) (d:=d) (l:=l) (n:=n) (wd:=AI x) (p:=tI [q,r,s,t]) ar;rw[Va hx]at g;refine⟨?_,by simp[lk,QV,Fm.sz],by simp[lk,QV],up g⟩;show(Cv W P (AI x) (upto (stp W P .non) (dz a b c e)) (bZ (stp W P .non) (dz a b c e))).ok;unfold Cv;split
   ·exact Io tF _
   ·refine Q1 ?_;obtain⟨pre,x,u1,_,⟨post,u3⟩,_⟩:=fL (f:=stp W P .non) (fD ar).2;have:=(fD ar).1;rw[u3]at this;rw[u1];simp at this ⊢;omega
 |.fd a l' p,ok,n,hn=>by
  obtain⟨M9,x,b,c,e,q,r,s,t,rfl,rfl,ar,_⟩:=ok;have hd:2 * (a.dp+1)<=n:=hn;obtain⟨n,rfl⟩:∃n',n=n'+2:=⟨n - 2,by omega⟩;obtain⟨h1,h2,h3,h4⟩:=ff tF a M9 n (by omega);have g:=Q0 (p:=tI [q,r,s,t]) h4 ar h2;have sz:(Fm.fd a [x,b,c,e] [q,r,s,t]).sz=a.sz+1:=rfl;refine⟨?_,?_,?_,λst k m rs h hb=>g st k m rs h (by rw[sz]at hb;omega)⟩
  ·show(qV W P (lk W P a).1 (lk W P a).2 [x,b,c,e]).1.ok;unfold qV;cases q:(lk W P a).1 with
   |wt p=>trivial
   |wo kv=>
    rw[q]at h1;dsimp only
    repeat' split
    all_goals first |exact h1 |trivial |exact Io tF _
  ·show(qV W P (lk W P a).1 (lk W P a).2 [x,b,c,e]).2.length<=2 * (a.sz+1);have ad:=λr r'=>lQ (bp (lk W P a).2 r) r';have ad':=λr=>lQ (lk W P a).2 r;unfold qV;cases q:(lk W P a).1 with
   |wt p=>dsimp only;omega
   |wo kv=>
    dsimp only
    repeat' split
    all_goals dsimp only
    all_goals first |omega |(refine aV (lQ _ _) ?_;first |omega |(refine aV (Nat.add_le_add_right (lQ _ _) 1) ?_;omega))
  ·show(qV W P (lk W P a).1 (lk W P a).2 [x,b,c,e]).2.Nodup;unfold qV;cases q:(lk W P a).1 with
   |wt p=>exact h3
   |wo kv=>
    dsimp only
    repeat' split
    all_goals first |exact h3 |exact qU h3 |exact qU (qU h3)
 |.o1 x a,ok,n,hn=>by
  have hx:x="minus"\/x="not":=by have:=ok.1;simpa [W1]using this
  have hd:2 * (a.dp+1)<=n:=hn;obtain⟨n,rfl⟩:∃n',n=n'+2:=⟨n - 2,by omega⟩;obtain⟨h1,h2,h3,h4⟩:=ff tF a ok.2 n (by omega);have sz:(Fm.o1 x a).sz=a.sz+1:=rfl;refine⟨?_,?_,h3,λst k m rs h hb=>U8 hx h4 h1 st k m rs h (by rw[sz]at hb;omega)⟩
  ·show(one x (lk W P a).1).ok;cases q:(lk W P a).1 with
   |wt p=>trivial
   |wo kv=>rw[q]at h1;exact(AH hx h1).1
  ·show(lk W P a).2.length<=2 * (a.sz+1);omega
 |.o2 x a b,ok,n,hn=>by
  have hd:2 * (max a.dp b.dp+1)<=n:=hn;obtain⟨n,rfl⟩:∃n',n=n'+2:=⟨n - 2,by omega⟩;obtain⟨h1,h2,h3,h4⟩:=ff tF a ok.2.1 n (by omega);obtain⟨j1,j2,j3,j4⟩:=ff tF b ok.2.2 n (by omega);have sz:(Fm.o2 x a b).sz=a.sz+b.sz+1:=rfl;have ml:=ir (lk W P b).2 (lk W P a).2;by_cases c:x="else"
  ·have e:lk W P (.o2 x a b)=if(lk W P a).1.f=true then((lk W P b).1,fe (lk W P a).2 (lk W P b).2)else((lk W P a).1,(lk W P a).2):=by show(if x="else" then _ else _)=_;rw[if_pos c]
   rw[e];have g:=QY h4 j4 h2;subst c;refine⟨?_,?_,?_,λst k m rs h hb=>g st k m rs h (by rw[sz]at hb;omega)⟩
   ·split
    ·exact j1
    ·exact h1
   ·rw[sz];split
    ·dsimp only;omega
    ·dsimp only;omega
   ·split
    ·exact w6 h3
    ·exact h3
  ·have hx:=Vb ok.1 c;have e:lk W P (.o2 x a b)=two x (lk W P a).1 (lk W P b).1 (lk W P a).2 (lk W P b).2:=by show(if x="else" then _ else _)=_;rw[if_neg c]
   rw[e];have g:=U9 hx h4 j4 h1 j1 h2;refine⟨?_,?_,?_,λst k m rs h hb=>g st k m rs h (by rw[sz]at hb;omega)⟩
   ·unfold two;cases q:(lk W P a).1 with
    |wt p=>trivial
    |wo ka=>
     rw[q]at h1;dsimp only;split
     ·exact h1
     ·cases q2:(lk W P b).1 with
      |wt p=>trivial
      |wo kb=>rw[q2]at j1;exact(AG hx h1 j1).1
   ·unfold two;rw[sz];cases q:(lk W P a).1 with
    |wt p=>dsimp only;omega
    |wo ka=>
     dsimp only;split
     ·dsimp only;omega
     ·dsimp only;omega
   ·unfold two;cases q:(lk W P a).1 with
    |wt p=>exact h3
    |wo ka=>
     dsimp only;split
     ·exact h3
     ·exact w6 h3
 |.o3 a b c,ok,n,hn=>by
  have hd:2 * (max a.dp (max b.dp c.dp)+1)<=n:=hn;obtain⟨n,rfl⟩:∃n',n=n'+2:=⟨n - 2,by omega⟩;obtain⟨h1,h2,h3,h4⟩:=ff tF a ok.1 n (by omega);obtain⟨j1,j2,j3,j4⟩:=ff tF b ok.2.1 n (by omega);obtain⟨i1,i2,i3,i4⟩:=ff tF c ok.2.2 n (by omega);have sz:(Fm.o3 a b c).sz=a.sz+b.sz+c.sz+1:=rfl;have ml:=ir (lk W P b).2 (lk W P a).2;have ml':=ir (lk W P c).2 (lk W P a).2;have g:=Za h4 j4 i4 h1 h2;have e:lk W P (.o3 a b c)=yU (lk W P a).1 (lk W P b).1 (lk W P c).1 (lk W P a).2 (lk W P b).2 (lk W P c).2:=rfl;rw[e];refine⟨?_,?_,?_,λst k m rs h hb=>g st k m rs h (by rw[sz]at hb;omega)⟩
  ·unfold yU;cases q:(lk W P a).1 with
   |wt p=>trivial
   |wo ka=>
    rw[q]at h1;dsimp only
    repeat' split
    all_goals first |exact h1 |trivial |exact i1 |exact j1
  ·unfold yU;rw[sz];cases q:(lk W P a).1 with
   |wt p=>dsimp only;omega
   |wo ka=>
    dsimp only
    repeat' split
    all_goals dsimp only;omega
  ·unfold yU;cases q:(lk W P a).1 with
   |wt p=>exact h3
   |wo ka=>
    dsimp only
    repeat' split
    all_goals first |exact h3 |exact w6 h3
theorem Ip(h:xs.Nodup):fe [] xs=xs:=by rw[Cy h];simp
theorem look{f:Fm}(tF:∀p,(wo W p).Ok)(n:Kn W P d l st)(ok:f.ok)(hd:f.dp<=5)(hs:f.sz<=400):∃st',dU [f.w,.ref d,l] st= .ok (res (lk W P f).1 (lk W P f).2) st'/\Gr st st':=by obtain⟨_,h2,h3,h4⟩:=ff (d:=d) (l:=l) tF f ok 10 (by omega);refine L5 n λst k m h=>?_;obtain⟨st',e,h',k'⟩:=h4 st k m [] h (by simp;omega);rw[Ip h3]at h';exact⟨st',e,h',k'⟩
end
theorem Ek:¬((true:Bool)=false):=λz=>nomatch z
def Ma(p x:Pt):Bool:=lexLe [p.1,p.2] [x.1,x.2]
variable{x:Pt}
theorem qW:Ma p x=true↔p=x\/Lx p x:=by
 obtain⟨p1,p2⟩:=p;obtain⟨x1,x2⟩:=x;unfold Ma lexLe Lx;dsimp only;by_cases c:p1=x1
 ·rw[if_pos c];unfold lexLe;by_cases c2:p2=x2
  ·rw[if_pos c2];simp[lexLe,c,c2]
  ·rw[if_neg c2];simp only[decide_eq_true_eq,Prod.mk.injEq];omega
 ·rw[if_neg c];simp only[decide_eq_true_eq,Prod.mk.injEq];omega
def rp:Rd->List Pt
 |.mG p=>[p]
 |.part a b c e x=>(dz a b c e).filter λq=>Ma q x
def gE(xs:List Rd):List Pt:=xs.flatMap rp
theorem Mb(h:(pre++x::post).Pairwise Lx):(pre++x::post).filter (λq=>Ma q x)=pre++[x]:=by
 rw[List.pairwise_append]at h;obtain⟨_,h2,h3⟩:=h;rw[List.pairwise_cons]at h2;rw[List.filter_append,gW,if_pos (qW.mpr (.inl rfl)),List.filter_eq_self.mpr,List.filter_eq_nil_iff.mpr]
 ·intro q hq z;have:=h2.1 q hq;rcases qW.mp z with z |z
  ·subst z;unfold Lx at this;omega
  ·unfold Lx at this z;omega
 ·intro q hq;exact qW.mpr (.inr (h3 q hq x bC))
variable{a b:Int}
theorem Mc{e:Int}(h:dz a b c e=pre++x::post):rp (.part a b c e x)=pre++[x]:=by have:=QM (a:=a) (b:=b) (m:=(c+1 - a).toNat) (n:=(e+1 - b).toNat);show(dz a b c e).filter (λq=>Ma q x)=_;rw[h];refine Mb ?_;rw[<-h];exact this
variable{f:Pt->Bool}
theorem oE{e:Int}(ok:g_ a b c e):rp (.part a b c e (bZ f (dz a b c e)))=upto f (dz a b c e):=by obtain⟨pre,x,u1,_,⟨post,u3⟩,_⟩:=fL (f:=f) (fD ok).2;rw[gT u1,u1,Mc u3]
theorem cS{p:Pt}:∀{ys xs:List Rd},p∈gE (fe xs ys)↔p∈gE xs\/p∈gE ys
 |[],xs=>by simp[fe,gE]
 |y::ys,xs=>by
  have h1:p∈gE (bp xs y)↔p∈gE xs\/p∈rp y:=by
   unfold bp gE;by_cases c:y∈xs
   ·rw[if_pos c];refine⟨.inl,λh=>h.elim id λz=>List.mem_flatMap.mpr ⟨y,c,z⟩⟩
   ·rw[if_neg c,List.flatMap_append,w9];simp
  show p∈gE (fe (bp xs y) ys)↔_;rw[cS,h1];have:gE (y::ys)=rp y++gE ys:=by simp[gE]
  rw[this,w9,or_assoc]
theorem lR(xs:List Rd)(y:Rd):bp xs y=fe xs [y]:=rfl
theorem w_{f g:Pt->Bool}:∀{ps:List Pt},(∀q∈upto f ps,g q=f q)->upto g ps=upto f ps
 |[],_=>rfl
 |a::r,h=>by
  unfold upto at h ⊢;by_cases c:f a=true
  ·rw[if_pos c]at h ⊢;rw[if_pos (by rw[h a bC];exact c)]
  ·rw[if_neg c]at h ⊢;rw[if_neg (by rw[h a bC];exact c),w_ λq hq=>h q (bb _ hq)]
theorem last_eq{g:Pt->Bool}(h:∀q∈upto f ps,g q=f q):bZ g ps=bZ f ps:=by unfold bZ;rw[w_ h]
theorem xa{f g:Pt->Bool}{p:Pt}:∀{ps:List Pt},(∀q,q≠p->g q=f q)->g p=true->p∈upto f ps->∃pre post,ps=pre++p::post/\upto g ps=pre++[p]
 |[],_,_,h=>by cases h
 |a::r,hg,hp,h=>by
  by_cases e:a=p
  ·subst e;exact⟨[],r,rfl,by unfold upto;rw[if_pos hp];rfl⟩
  ·unfold upto at h;by_cases c:f a=true
   ·rw[if_pos c]at h;exact absurd (List.mem_singleton.mp h).symm e
   ·rw[if_neg c]at h;rcases List.mem_cons.mp h with z |h
    ·exact absurd z.symm e
    ·obtain⟨pre,post,e1,e2⟩:=xa hg hp h;exact⟨a::pre,post,by rw[e1];rfl,by unfold upto;rw[if_neg (by rw[hg a e];exact c),e2];rfl⟩
section
variable {W V:Ws}{P Q:List Pt}
theorem AJ{key:Wo}(h:dt V Q q=dt W P q):stp V Q key q=stp W P key q:=by
 unfold stp;rw[h];cases c:(dt W P q).h with
 |true=>rfl
 |false=>obtain⟨e1,_⟩:=u9 c;rw[<-h]at c;obtain⟨e2,_⟩:=u9 c;rw[h,e1]at e2;rw[Sd.wo.inj e2]
theorem CB(h:dt V Q q=dt W P q)(c:(dt W P q).h=false):wo V q=wo W q:=by obtain⟨e1,_⟩:=u9 c;rw[<-h]at c;obtain⟨e2,_⟩:=u9 c;rw[h,e1]at e2;exact(Sd.wo.inj e2).symm
theorem Md(h:∀q∈pre++[x],dt V Q q=dt W P q)(hn:∀q∈pre,(dt W P q).h=false):Cv V Q wd (pre++[x]) x=Cv W P wd (pre++[x]) x:=by
 have hx:=h x (by simp);unfold Cv;rw[hx];cases c:(dt W P x).h with
 |true=>rfl
 |false=>
  rw[if_neg aH,if_neg aH]
  congr 2
  refine oz λq hq=>?_;rcases List.mem_append.mp hq with z |z
  ·exact CB (h q hq) (hn q z)
  ·rw[List.mem_singleton.mp z];exact CB hx c
theorem tG:∀(f:Fm),f.ok->(∀q∈gE (lk W P f).2,dt V Q q=dt W P q)->lk V Q f=lk W P f
 |.lit x ws,ok,h=>rfl
 |.pt x l p,ok,h=>by
  rcases ok with ⟨rfl,a,b,q,r,rfl,rfl,_⟩ |⟨hx,a,b,c,e,q,r,s,t,rfl,rfl,ar,_⟩
  ·have:dt V Q (a,b)=dt W P (a,b):=h (a,b) (by simp[lk,QV,gE,rp]);show(dt V Q (a,b),_)=(dt W P (a,b),_);rw[this]
  ·have hq:∀q∈upto (stp W P .non) (dz a b c e),dt V Q q=dt W P q:=λq z=>h q (by show q∈gE [.part a b c e (bZ (stp W P .non) (dz a b c e))];simp only[gE,List.flatMap_cons,List.flatMap_nil,i6];rw[oE ar];exact z);have he:∀q∈upto (stp W P .non) (dz a b c e),stp V Q .non q=stp W P .non q:=λq z=>AJ (hq q z);show(Cv V Q (AI x) (upto (stp V Q .non) (dz a b c e)) (bZ (stp V Q .non) (dz a b c e)),[Rd.part a b c e (bZ (stp V Q .non) (dz a b c e))])=(Cv W P (AI x) (upto (stp W P .non) (dz a b c e)) (bZ (stp W P .non) (dz a b c e)),[Rd.part a b c e (bZ (stp W P .non) (dz a b c e))]);rw[last_eq he,w_ he];obtain⟨pre,x',u1,u2,_,_⟩:=fL (f:=stp W P .non) (fD ar).2;rw[gT u1];rw[u1]at hq ⊢;rw[Md hq λq hq=>by have:=u2 q hq;rw[Cu]at this;exact this]
 |.fd a l p,ok,h=>by
  obtain⟨M9,x,b,c,e,q,r,s,t,rfl,rfl,ar,_⟩:=ok;have ac:=tE ar;have sub:∀z∈gE (lk W P a).2,z∈gE (lk W P (.fd a [x,b,c,e] [q,r,s,t])).2:=λz hz=>by
   show z∈gE (qV W P (lk W P a).1 (lk W P a).2 [x,b,c,e]).2;unfold qV;cases (lk W P a).1 with
   |wt p=>exact hz
   |wo kv=>
    dsimp only
    repeat' split
    all_goals first |exact hz |(simp only[lR,cS];simp[hz])
  have ha:=tG a M9 λz hz=>h z (sub z hz);have hh:∀z∈gE (qV W P (lk W P a).1 (lk W P a).2 [x,b,c,e]).2,dt V Q z=dt W P z:=h;show qV V Q (lk V Q a).1 (lk V Q a).2 [x,b,c,e]=qV W P (lk W P a).1 (lk W P a).2 [x,b,c,e];rw[ha];generalize (lk W P a).2=xs at hh ⊢;generalize (lk W P a).1=s' at hh ⊢;cases s' with
  |wt p=>rfl
  |wo kv=>
   unfold qV at hh ⊢;dsimp only at hh ⊢;cases c1:kv.f with
   |true=>rfl
   |false=>
    rw[c1,if_neg aH]at hh;rw[if_neg aH,if_neg aH];cases c2:kv.nn with
    |false=>rfl
    |true=>
     rw[c2,if_neg Ek]at hh;rw[if_neg Ek,if_neg Ek];have hq:∀q∈upto (stp W P kv) (dz x b c b),dt V Q q=dt W P q:=λz hz=>hh z (by
      rw[<-oE ac]at hz
      repeat' split
      all_goals (simp only[lR,cS];simp[gE,hz]))
     have le:bZ (stp V Q kv) (dz x b c b)=bZ (stp W P kv) (dz x b c b):=last_eq λz hz=>AJ (hq z hz);rw[le];obtain⟨pre,y,u1,u2,_,_⟩:=fL (f:=stp W P kv) (fD ac).2;have ly:=gT u1;rw[ly]at hh ⊢;have hy:=hq y (by rw[u1];simp);rw[hy];cases c3:(dt W P y).h with
     |true=>rfl
     |false=>
      rw[c3,if_neg aH]at hh;rw[if_neg aH,if_neg aH,CB hy c3];cases c4:ft (wo W y) kv with
      |false=>rfl
      |true=>rw[c4,if_neg Ek]at hh;rw[if_neg Ek,if_neg Ek,hh (y.1,e) (by simp only[lR,cS];simp[gE,rp])]
 |.o1 x a,ok,h=>by have ha:=tG a ok.2 h;show(one x (lk V Q a).1,(lk V Q a).2)=(one x (lk W P a).1,(lk W P a).2);rw[ha]
 |.o2 x a b,ok,h=>by
  by_cases c:x="else"
  ·have e:∀(W:Ws)(P:List Pt),lk W P (.o2 x a b)=if(lk W P a).1.f=true then((lk W P b).1,fe (lk W P a).2 (lk W P b).2)else lk W P a:=λW P=>by show(if x="else" then _ else _)=_;rw[if_pos c]
   rw[e]at h;rw[e,e];have ha:=tG a ok.2.1 λq hq=>h q (by
    split
    ·exact cS.mpr (.inl hq)
    ·exact hq)
   rw[ha];cases q:(lk W P a).1.f with
   |false=>rfl
   |true=>rw[q,if_pos rfl]at h;rw[tG b ok.2.2 λq hq=>h q (cS.mpr (.inr hq))]
  ·have e:∀(W:Ws)(P:List Pt),lk W P (.o2 x a b)=two x (lk W P a).1 (lk W P b).1 (lk W P a).2 (lk W P b).2:=λW P=>by show(if x="else" then _ else _)=_;rw[if_neg c]
   rw[e]at h;rw[e,e];have ha:=tG a ok.2.1 λq hq=>h q (by
    unfold two;cases (lk W P a).1 with
    |wt p=>exact hq
    |wo ka=>
     dsimp only;split
     ·exact hq
     ·exact cS.mpr (.inl hq))
   rw[ha];unfold two at h ⊢;generalize (lk W P a).2=xs at h ⊢;generalize (lk W P a).1=s at h ⊢;cases s with
   |wt p=>rfl
   |wo ka=>
    dsimp only at h ⊢;cases c1:ka.f with
    |true=>rfl
    |false=>rw[c1,if_neg aH]at h;rw[tG b ok.2.2 λq hq=>h q (cS.mpr (.inr hq))]
 |.o3 a b c,ok,h=>by
  have e:∀(W:Ws)(P:List Pt),lk W P (.o3 a b c)=yU (lk W P a).1 (lk W P b).1 (lk W P c).1 (lk W P a).2 (lk W P b).2 (lk W P c).2:=λW P=>rfl;rw[e]at h;rw[e,e];have ha:=tG a ok.1 λq hq=>h q (by
   unfold yU;cases (lk W P a).1 with
   |wt p=>exact hq
   |wo ka=>
    dsimp only
    repeat' split
    all_goals first |exact hq |exact cS.mpr (.inl hq))
  rw[ha];unfold yU at h ⊢;generalize (lk W P a).2=xs at h ⊢;generalize (lk W P a).1=s at h ⊢;cases s with
  |wt p=>rfl
  |wo ka=>
   dsimp only at h ⊢;cases c1:ka.f with
   |true=>rfl
   |false=>
    rw[c1,if_neg aH]at h;rw[if_neg aH,if_neg aH];cases c2:ka.t with
    |true=>rfl
    |false=>
     rw[c2,if_neg aH]at h;rw[if_neg aH,if_neg aH];by_cases c3:num ka=0
     ·rw[if_pos c3]at h;rw[if_pos c3,if_pos c3,tG c ok.2.2 λq hq=>h q (cS.mpr (.inr hq))]
     ·rw[if_neg c3]at h;rw[if_neg c3,if_neg c3,tG b ok.2.1 λq hq=>h q (cS.mpr (.inr hq))]
end
def Iq:Rd->Pt->Rd
 |.mG q,_=> .mG q
 |.part a b c e _,p=> .part a b c e p
def cE:List Rd->Pt->List Rd
 |[],_=>[]
 |r::rs,p=>if p∈rp r then[Iq r p]else r::cE rs p
theorem Vc(h:p∈rp r):p∈rp (Iq r p):=by
 cases r with
 |mG q=>exact h
 |part a b c e x=>have:=(List.mem_filter.mp (show p∈(dz a b c e).filter λq=>Ma q x from h)).1;exact List.mem_filter.mpr ⟨this,qW.mpr (.inl rfl)⟩
theorem Ir{p:Pt}{ys:List Rd}:∀{xs:List Rd},p∈gE xs->cE (xs++ys) p=cE xs p
 |[],h=>by cases h
 |x::xs,h=>by
  rw[AK];unfold cE;by_cases c:p∈rp x
  ·rw[if_pos c,if_pos c]
  ·rw[if_neg c,if_neg c,Ir];have:gE (x::xs)=rp x++gE xs:=by simp[gE]
   rw[this]at h;exact(List.mem_append.mp h).resolve_left c
theorem xb{p:Pt}{ys:List Rd}:∀{xs:List Rd},p∉gE xs->cE (xs++ys) p=xs++cE ys p
 |[],h=>rfl
 |x::xs,h=>by
  have e:gE (x::xs)=rp x++gE xs:=by simp[gE]
  rw[e,w9,not_or]at h;rw[AK];unfold cE;rw[if_neg h.1,xb h.2];cases ys<;>rfl
theorem xf:∀(ys xs:List Rd),∃zs,fe xs ys=xs++zs
 |[],xs=>⟨[],by simp[fe]⟩
 |y::ys,xs=>by
  obtain⟨zs,e⟩:=xf ys (bp xs y);show ∃zs,fe (bp xs y) ys=xs++zs;rw[e];unfold bp;split
  ·exact⟨zs,rfl⟩
  ·exact⟨y::zs,by simp⟩
theorem oF(h:p∈gE xs):cE (fe xs ys) p=cE xs p:=by obtain⟨zs,e⟩:=xf ys xs;rw[e,Ir h]
theorem Iu{y:Rd}(h:p∉gE xs)(hy:p∈rp y):y∉xs:=λz=>h (List.mem_flatMap.mpr ⟨y,z,hy⟩)
theorem fY{p:Pt}:∀{ys xs:List Rd},p∉gE xs->cE (fe xs ys) p=fe xs (cE ys p)
 |[],xs,h=>by show cE xs p=xs;have:=xb (ys:=[]) h;simpa [cE]using this
 |y::ys,xs,h=>by
  show cE (fe (bp xs y) ys) p=_;have ec:cE (y::ys) p=if p∈rp y then[Iq y p]else y::cE ys p:=rfl
  by_cases c:p∈rp y
  ·rw[ec,if_pos c];have e1:bp xs y=xs++[y]:=by unfold bp;rw[if_neg (Iu h c)]
   have e2:fe xs [Iq y p]=xs++[Iq y p]:=by show bp xs (Iq y p)=_;unfold bp;rw[if_neg (Iu h (Vc c))]
   obtain⟨zs,ez⟩:=xf ys (bp xs y);rw[ez,e1,e2,kQ,xb h];show xs++(if p∈rp y then[Iq y p]else y::cE ([]++zs) p)=_;rw[if_pos c]
  ·rw[ec,if_neg c];show _=fe (bp xs y) (cE ys p);refine fY λz=>?_;rw[lR]at z;rcases cS.mp z with z |z
   ·exact h z
   ·exact c (by simpa [gE]using z)
section
variable {W V:Ws}{P Q:List Pt}{p:Pt}
theorem halt(h1:∀q,q≠p->dt V Q q=dt W P q)(h2:dt V Q p= .wt p):∀(f:Fm),f.ok->p∈gE (lk W P f).2->lk V Q f=(.wt p,cE (lk W P f).2 p):=by
 have no:∀f:Fm,f.ok->p∉gE (lk W P f).2->lk V Q f=lk W P f:=λf ok h=>tG f ok λq hq=>h1 q λe=>h (e ▸ hq);have sp:∀key:Wo,stp V Q key p=true:=λkey=>by unfold stp;rw[h2];rfl
 have se:∀(key:Wo)(q:Pt),q≠p->stp V Q key q=stp W P key q:=λkey q hq=>AJ (h1 q hq);intro f
 induction f with
 |lit x ws=>intro _ h;cases h
 |pt x l pp=>
  intro ok h;rcases ok with ⟨rfl,a,b,q,r,rfl,rfl,_⟩ |⟨hx,a,b,c,e,q,r,s,t,rfl,rfl,ar,_⟩
  ·have e:p=(a,b):=by simpa [lk,QV,gE,rp]using h
   subst e;show(dt V Q (a,b),[Rd.mG (a,b)])=(.wt (a,b),cE [Rd.mG (a,b)] (a,b));rw[h2];simp[cE,rp,Iq]
  ·have hp:p∈rp (.part a b c e (bZ (stp W P .non) (dz a b c e))):=by have h':p∈gE [Rd.part a b c e (bZ (stp W P .non) (dz a b c e))]:=h;simpa [gE]using h'
   have hu:=hp;rw[oE ar]at hu;obtain⟨pre,post,_,u2⟩:=xa (se .non) (sp .non) hu;show(Cv V Q (AI x) (upto (stp V Q .non) (dz a b c e)) (bZ (stp V Q .non) (dz a b c e)),[Rd.part a b c e (bZ (stp V Q .non) (dz a b c e))])=(.wt p,cE [Rd.part a b c e (bZ (stp W P .non) (dz a b c e))] p);rw[gT u2];unfold Cv cE;rw[h2,if_pos (show(Sd.wt p).h=true from rfl),if_pos hp];rfl
 |fd a l pp ih=>
  intro ok h;obtain⟨M9,x,b,c,e,q,r,s,t,rfl,rfl,ar,_⟩:=ok;have ac:=tE ar;have pre:∃ys,(qV W P (lk W P a).1 (lk W P a).2 [x,b,c,e]).2=fe (lk W P a).2 ys:=by
   unfold qV;cases (lk W P a).1 with
   |wt p=>exact⟨[],rfl⟩
   |wo kv=>
    dsimp only
    repeat' split
    ·exact⟨[],rfl⟩
    ·exact⟨[],rfl⟩
    ·exact⟨[_],rfl⟩
    ·exact⟨[_],rfl⟩
    ·exact⟨[_,_],rfl⟩
  have hh:p∈gE (qV W P (lk W P a).1 (lk W P a).2 [x,b,c,e]).2:=h;show qV V Q (lk V Q a).1 (lk V Q a).2 [x,b,c,e]=(.wt p,cE (qV W P (lk W P a).1 (lk W P a).2 [x,b,c,e]).2 p);by_cases ca:p∈gE (lk W P a).2
  ·obtain⟨ys,ey⟩:=pre;rw[ih M9 ca,ey,oF ca];rfl
  ·rw[no a M9 ca];clear pre ih;generalize (lk W P a).2=xs at hh ca ⊢;generalize (lk W P a).1=s' at hh ⊢;cases s' with
   |wt p=>exact absurd hh ca
   |wo kv=>
    unfold qV at hh ⊢;dsimp only at hh ⊢;cases c1:kv.f with
    |true=>rw[c1,if_pos rfl]at hh;exact absurd hh ca
    |false=>
     rw[c1,if_neg aH]at hh;rw[if_neg aH,if_neg aH];cases c2:kv.nn with
     |false=>rw[c2,if_pos rfl]at hh;exact absurd hh ca
     |true=>
      rw[c2,if_neg Ek]at hh;rw[if_neg Ek,if_neg Ek];by_cases cu:p∈upto (stp W P kv) (dz x b c b)
      ·obtain⟨pre,post,_,u2⟩:=xa (se kv) (sp kv) cu;rw[gT u2,h2,if_pos (show(Sd.wt p).h=true from rfl)];rw[<-oE ac]at cu;refine jI rfl ?_;show bp xs (.part x b c b p)=_;generalize bZ (stp W P kv) (dz x b c b)=y at cu ⊢
       repeat' split
       ·show _=cE (fe xs [_]) p;rw[fY ca];unfold cE;rw[if_pos cu];rfl
       ·show _=cE (fe xs [_]) p;rw[fY ca];unfold cE;rw[if_pos cu];rfl
       ·show _=cE (fe xs [_,_]) p;rw[fY ca];unfold cE;rw[if_pos cu];rfl
      ·have le:bZ (stp V Q kv) (dz x b c b)=bZ (stp W P kv) (dz x b c b):=last_eq λz hz=>se kv z λe=>cu (e ▸ hz);have hy:bZ (stp W P kv) (dz x b c b)∈upto (stp W P kv) (dz x b c b):=by obtain⟨pre,y,u1,_⟩:=fL (f:=stp W P kv) (fD ac).2;rw[gT u1,u1];simp
       have cr:=cu;rw[<-oE ac]at cr;rw[le];generalize bZ (stp W P kv) (dz x b c b)=y at hh hy cr ⊢;have ny:y≠p:=λe=>cu (e ▸ hy);rw[h1 y ny];have pn:p∉gE (bp xs (.part x b c b y)):=λz=>by
        rw[lR]at z;rcases cS.mp z with z |z
        ·exact ca z
        ·exact cr (by simpa [gE]using z)
       cases c3:(dt W P y).h with
       |true=>rw[c3,if_pos rfl]at hh;exact absurd hh pn
       |false=>
        rw[c3,if_neg aH]at hh;rw[if_neg aH,if_neg aH,CB (h1 y ny) c3];cases c4:ft (wo W y) kv with
        |false=>rw[c4,if_pos rfl]at hh;exact absurd hh pn
        |true=>
         rw[c4,if_neg Ek]at hh;rw[if_neg Ek,if_neg Ek];have e1:p=(y.1,e):=by
          have CA:p∈gE (fe (bp xs (.part x b c b y)) [Rd.mG (y.1,e)]):=hh;rcases cS.mp CA with z |z
          ·exact absurd z pn
          ·simpa [gE,rp]using z
         rw[<-e1,h2];refine jI rfl ?_;show _=cE (fe (bp xs (.part x b c b y)) [Rd.mG p]) p;rw[fY pn];unfold cE;rw[if_pos (by simp[rp])];rfl
 |o1 x a ih=>intro ok h;show(one x (lk V Q a).1,(lk V Q a).2)=(.wt p,cE (lk W P a).2 p);rw[ih ok.2 h];rfl
 |o2 x a b WH WI=>
  intro ok h;by_cases c:x="else"
  ·have e:∀(W:Ws)(P:List Pt),lk W P (.o2 x a b)=if(lk W P a).1.f=true then((lk W P b).1,fe (lk W P a).2 (lk W P b).2)else lk W P a:=λW P=>by show(if x="else" then _ else _)=_;rw[if_pos c]
   rw[e]at h;rw[e,e];by_cases ca:p∈gE (lk W P a).2
   ·rw[WH ok.2.1 ca];rw[if_neg (show ¬(Sd.wt p).f=true from aH)];split
    ·rw[oF ca]
    ·rfl
   ·rw[no a ok.2.1 ca];cases q:(lk W P a).1.f with
    |false=>rw[q,if_neg aH]at h;exact absurd h ca
    |true=>rw[q,if_pos rfl]at h;have hb:=(cS.mp h).resolve_left ca;rw[WI ok.2.2 hb,if_pos rfl,if_pos rfl,fY ca]
  ·have e:∀(W:Ws)(P:List Pt),lk W P (.o2 x a b)=two x (lk W P a).1 (lk W P b).1 (lk W P a).2 (lk W P b).2:=λW P=>by show(if x="else" then _ else _)=_;rw[if_neg c]
   rw[e]at h;rw[e,e];by_cases ca:p∈gE (lk W P a).2
   ·rw[WH ok.2.1 ca];have:cE (two x (lk W P a).1 (lk W P b).1 (lk W P a).2 (lk W P b).2).2 p=cE (lk W P a).2 p:=by
     unfold two;cases (lk W P a).1 with
     |wt p=>rfl
     |wo ka=>
      dsimp only;split
      ·rfl
      ·exact oF ca
    rw[this];rfl
   ·rw[no a ok.2.1 ca];unfold two at h ⊢;generalize (lk W P a).2=xs at h ca ⊢;generalize (lk W P a).1=s at h ⊢;cases s with
    |wt p=>exact absurd h ca
    |wo ka=>
     dsimp only at h ⊢;cases c1:ka.f with
     |true=>rw[c1,if_pos rfl]at h;exact absurd h ca
     |false=>rw[c1,if_neg aH]at h;have hb:=(cS.mp h).resolve_left ca;rw[WI ok.2.2 hb,if_neg aH,if_neg aH,fY ca]
 |o3 a b c WH WI ihc=>
  intro ok h;have e:∀(W:Ws)(P:List Pt),lk W P (.o3 a b c)=yU (lk W P a).1 (lk W P b).1 (lk W P c).1 (lk W P a).2 (lk W P b).2 (lk W P c).2:=λW P=>rfl;rw[e]at h;rw[e,e];by_cases ca:p∈gE (lk W P a).2
  ·rw[WH ok.1 ca];have:cE (yU (lk W P a).1 (lk W P b).1 (lk W P c).1 (lk W P a).2 (lk W P b).2 (lk W P c).2).2 p=cE (lk W P a).2 p:=by
    unfold yU;cases (lk W P a).1 with
    |wt p=>rfl
    |wo ka=>
     dsimp only
     repeat' split
     all_goals first |rfl |exact oF ca
   rw[this];rfl
  ·rw[no a ok.1 ca];unfold yU at h ⊢;generalize (lk W P a).2=xs at h ca ⊢;generalize (lk W P a).1=s at h ⊢;cases s with
   |wt p=>exact absurd h ca
   |wo ka=>
    dsimp only at h ⊢;cases c1:ka.f with
    |true=>rw[c1,if_pos rfl]at h;exact absurd h ca
    |false=>
     rw[c1,if_neg aH]at h;rw[if_neg aH,if_neg aH];cases c2:ka.t with
     |true=>rw[c2,if_pos rfl]at h;exact absurd h ca
     |false=>
      rw[c2,if_neg aH]at h;rw[if_neg aH,if_neg aH];by_cases c3:num ka=0
      ·rw[if_pos c3]at h;have hb:=(cS.mp h).resolve_left ca;rw[if_pos c3,if_pos c3,ihc ok.2.2 hb,fY ca]
      ·rw[if_neg c3]at h;have hb:=(cS.mp h).resolve_left ca;rw[if_neg c3,if_neg c3,WI ok.2.1 hb,fY ca]
end
def lS(l:List Pt)(p:Pt):List Pt:=if p∈l then l else l++[p]
def D_(l:List Pt):List Pt:=l.foldl lS []
variable{l:List Pt}
theorem Iv:(lS l p).length<=l.length+1:=by
 unfold lS;split
 ·omega
 ·simp
theorem pP:∀(l acc:List Pt),(l.foldl lS acc).length<=acc.length+l.length
 |[],acc=>by simp
 |p::r,acc=>by rw[rJ];have:=pP r (lS acc p);have:=Iv (l:=acc) (p:=p);simp only[eh];omega
def dQ(l:List Pt):Ob:=.et (l.map λp=>(kO p,Wv.bl true))
theorem Iw:lh (l.map λp=>(kO p,Wv.bl true)) (kO p) (.bl true)=(lS l p).map λp=>(kO p,Wv.bl true):=by
 have ha:((l.map λp=>(kO p,Wv.bl true)).any λkv=>decide (kv.1=kO p))=decide (p∈l):=by
  rw[xl];simp only[AD,List.mem_map,decide_eq_true_eq];constructor
  ·rintro⟨_,⟨q,hq,rfl⟩,e⟩;rw[<-iK.mp e];exact hq
  ·intro h;exact⟨_,⟨p,h,rfl⟩,rfl⟩
 unfold lh lS;rw[ha];by_cases c:p∈l
 ·rw[if_pos (by simpa using c),if_pos c,dC];refine oz λq _=>?_;show(if kO q=kO p then(kO q,Wv.bl true)else(kO q,Wv.bl true))=_;split<;>rfl
 ·rw[if_neg (by simpa using c),if_neg c,dH];rfl
theorem put(h:st[d]? =some (dQ l))(hl:l.length < lim):putD (.ref d) (pw p) (.bl true) st=some (st.set d (dQ (lS l p))):=by unfold putD;unfold dQ at h ⊢;simp only[h];have kt:i9 (pw p)=some (kO p):=rfl;simp only[kt];rw[if_pos (by simpa using hl),Iw]
theorem CC:∀l:List Pt,p_ ((l.map λp=>(kO p,Wv.bl true)).map (·.1))=some (l.map pw)
 |[]=>rfl
 |p::r=>by have:=CC r;simp only[aK,dC]at this ⊢;unfold p_;rw[this];rfl
theorem M_(h:st[d]? =some (dQ l)):mV [.ref d] st= .ok (.ref st.length) (st++[.lst (l.map pw)]):=by unfold mV;unfold dQ at h;simp only[h];have:=CC l;simp only[this]
variable{acc:List Pt}
theorem Iy{gb:GS}{i l:Nat}(hb:∀p ρ' st',(∃o,ρ'=ρ.set i o)->gb (ρ'.set i (some (pw p))) st'=match putD (.ref d) (pw p) (.bl true) st' with |some uA=> .nx (ρ'.set i (some (pw p))) uA |none=> .bad)
  (hd:st[d]? =some (dQ acc))(hl:aG st l=some (ps.map pw))(hn:acc.length+ps.length < lim)(hdl:l≠d)(hi:∃o,ρ=ρ.set i o):
  ∃ρ' st',forL i gb l (ps.map pw) (ps.map pw) ρ st= .nx ρ' st'/\(∃o,ρ'=ρ.set i o)/\st'[d]? =some (dQ (ps.foldl lS acc))/\bL d st st':=by
 obtain⟨ρ',st',e,⟨h1,h2,h3⟩,_⟩:=sN (i:=i) (gb:=gb) (l:=l) (all:=ps.map pw) pw ps (λpre ρ' st'=>(∃o,ρ'=ρ.set i o)/\st'[d]? =some (dQ (pre.foldl lS acc))/\bL d st st')
  (λa pre post ρ1 st1 hf hP h1=>by
   obtain⟨⟨o,ho⟩,q2,q3⟩:=hP;have ln:=pP pre acc;have hf':=congrArg fN hf;rw[dA,eh]at hf';have pt:=put (p:=a) q2 (by omega);refine⟨ρ1.set i (some (pw a)),st1.set d (dQ (lS (pre.foldl lS acc) a)),?_,?_,⟨some (pw a),by rw[ho,Cr]⟩,?_,q3.trans bL.set⟩
   ·rw[hb a ρ1 st1 ⟨o,ho⟩,pt]
   ·exact(bL.set (l:=d)).lst h1 hdl
   ·rw[cC q2,Im];rfl)
  ps [] ρ st rfl ⟨hi,hd,bL.refl⟩ hl
 exact⟨ρ',st',e,h1,h2,h3⟩
def Rd.Ok:Rd->Prop
 |.mG _=>True
 |.part a b c e _=>g_ a b c e
theorem Rd.len(r:Rd)(h:r.Ok):(rp r).length<=300:=by
 cases r with
 |mG p=>show 1<=300;decide
 |part a b c e x=>exact aV (J6 _ _) (fD h).1
def unp:Wv->Pt
 |.tup [.int a,.int b]=>(a,b)
 |_=>(0,0)
theorem Zb:oLe (pw p) (pw q) st= .ok (.bl (Ma p q)) st:=rfl
variable{it:Rd}
theorem yV(h:it.Ok):∃(l:Nat)(st':Hs),dW [it.w] st= .ok (.ref l) st'/\aG st' l=some ((rp it).map pw)/\Gr st st':=by
 cases it with
 |mG p=>refine⟨st.length,st++[.lst [pw p]],?_,cX,Gr.push⟩;have i0:∀st:Hs,bq (.tup [.str "at",pw p]) (.int 0) st= .ok (.str "at") st:=λ_=>WE;have i1:∀st:Hs,bq (.tup [.str "at",pw p]) (.int 1) st= .ok (pw p) st:=λ_=>ix1;unfold dW bB gM Rd.w;simp[i0,i1]
 |part a b c e p=>
  obtain⟨more,e1⟩:=places' (st:=st) h;have i0:∀st:Hs,bq (Rd.part a b c e p).w (.int 0) st= .ok (.str "part") st:=λ_=>rfl;have i1:∀st:Hs,bq (Rd.part a b c e p).w (.int 1) st= .ok (tI [a,b,c,e]) st:=λ_=>rfl;have i2:∀st:Hs,bq (Rd.part a b c e p).w (.int 2) st= .ok (pw p) st:=λ_=>rfl;have t1:(("part":S) == "at")=false:=rfl;have l1:aG (st++ .lst ((dz a b c e).map pw)::more) st.length=some ((dz a b c e).map pw):=pL;have g1:Gr st (st++ .lst ((dz a b c e).map pw)::more):=Gr.app;have lA:=(fD h).1;generalize st++ .lst ((dz a b c e).map pw)::more=s1 at e1 l1 g1;have q:=mj (cs:=[("item",0)]) (gt:=fW) (ge:=iZ) (ρ:=[some (Rd.part a b c e p).w]) (w:=(some st.length,(dz a b c e).map pw)) (st:=s1) (t:=λv=>Ma (unp v) p) (f:=λv=>v) l1
   (λv hv acc=>by obtain⟨z,_,rfl⟩:=List.mem_map.mp hv;unfold fW;simp[kM,i2,Zb];rfl)
   (λv _ _ acc=>rfl) (by show((dz a b c e).map pw).length < lim;rw[bP];unfold lim;omega)
  have ef:((dz a b c e).map pw).filter (λv=>Ma (unp v) p)=(rp (.part a b c e p)).map pw:=by rw[List.filter_map];rfl
  rw[show((some st.length,(dz a b c e).map pw):Wk).2=(dz a b c e).map pw from rfl,ef,show(λv:Wv=>v)=id from rfl,Ce]at q;refine⟨s1.length,s1++[.lst ((rp (.part a b c e p)).map pw)],?_,cX,g1.trans Gr.push⟩;unfold dW bB gM;simp[i0,i1,t1,e1,pq l1,q]
theorem Zc{d i3:Option Wv}{reads:Option Wv}(h:it.Ok)(hD:st[D]? =some (dQ acc))(hn:acc.length<=400000):
  ∃o st',eP [reads,some (.ref D),some it.w,i3] st= .nx [reads,some (.ref D),some it.w,o] st'/\st'[D]? =some (dQ ((rp it).foldl lS acc))/\bL D st st':=by
 obtain⟨l,s1,e1,l1,g1⟩:=yV h (st:=st);have hD1:=g1.get hD;have ne:l≠D:=λc=>by subst c;unfold aG at l1;rw[hD1]at l1;cases l1
 obtain⟨ρ',s2,e2,⟨o,ho⟩,d2,k2⟩:=Iy (gb:=gz) (i:=3) (l:=l) (d:=D) (ps:=rp it) (acc:=acc) (st:=s1) (ρ:=[reads,some (.ref D),some it.w,i3])
  (λp ρ' st' hr=>by obtain⟨o,rfl⟩:=hr;unfold gz ju;simp<;>cases putD (Wv.ref D) (pw p) (Wv.bl true) st'<;>rfl)
  hD1 l1 (by have:=it.len h;unfold lim;omega) ne ⟨i3,rfl⟩
 refine⟨o,s2,?_,d2,g1.keep.trans k2⟩;rw[ho]at e2;unfold eP;simp[e1,wx l1,e2]
theorem AL:∀{its:List Rd},(∀it∈its,it.Ok)->(its.flatMap rp).length<=300 * its.length
 |[],_=>by simp
 |it::r,h=>by have h1:=it.len (h it bC);have h2:=AL (its:=r) λx hx=>h x (bb _ hx);rw[List.flatMap_cons,dA,eh];omega
theorem CD:(D_ l).length<=l.length:=by have:=pP l [];unfold D_;simpa using this
variable{pre its:List Rd}
theorem Q2{post:List Rd}(h:∀it∈its,it.Ok)(hl:its.length<=1000)(e:its=pre++post):(D_ (pre.flatMap rp)).length<=400000:=by have q1:=CD (l:=pre.flatMap rp);have q2:=AL (its:=pre) λx hx=>h x (by rw[e];exact A_ _ hx);have q3:=congrArg fN e;rw[dA]at q3;omega
theorem Iz:D_ ((pre++[it]).flatMap rp)=(rp it).foldl lS (D_ (pre.flatMap rp)):=by unfold D_;rw[List.flatMap_append,Im];simp
theorem yW{q:Pt}:∀(l acc:List Pt),q∈l.foldl lS acc↔q∈acc\/q∈l
 |[],acc=>by simp
 |p::r,acc=>by
  rw[rJ,yW r];unfold lS;split
  ·rename_i h;constructor
   ·rintro(a |a)
    ·exact .inl a
    ·exact .inr (bb _ a)
   ·rintro(a |a)
    ·exact .inl a
    ·rcases List.mem_cons.mp a with rfl |a
     ·exact .inl h
     ·exact .inr a
  ·rw[w9,List.mem_singleton,fq,or_assoc]
theorem qh(h:∀it∈its,it.Ok)(hl:its.length<=1000):∃(l:Nat)(st':Hs),cH [.tup (its.map Rd.w)] st= .ok (.ref l) st'/\st'[l]? =some (.lst ((D_ (its.flatMap rp)).map pw))/\st.length<=l/\Gr st st':=by
 obtain⟨ρ',s1,e1,o2,o3,rfl,d1,g1⟩:=yx (i:=2) (gb:=eP) Rd.w its (λpre ρ st'=>∃o2 o3,ρ=[some (.tup (its.map Rd.w)),some (.ref st.length),o2,o3]/\st'[st.length]? =some (dQ (D_ (pre.flatMap rp)))/\Gr st st')
  (λa pre post ρ st' hf hP=>by obtain⟨o2,o3,rfl,d1,g1⟩:=hP;obtain⟨o,s2,e,d2,k⟩:=Zc (it:=a) (i3:=o3) (reads:=some (.tup (its.map Rd.w))) (h a (by rw[hf];simp)) d1 (Q2 h hl hf) (d:=none);refine⟨_,s2,e,_,_,rfl,?_,g1.pv (aE _) k⟩;rw[d2,Iz])
  its [] [some (.tup (its.map Rd.w)),some (.ref st.length),none,none] (st++[.et []]) rfl ⟨none,none,rfl,eI,Gr.push⟩
 refine⟨s1.length,s1++[.lst ((D_ (its.flatMap rp)).map pw)],?_,eI,g1.1,g1.trans Gr.push⟩;have ld:=M_ d1;have nt:∀(ρ:b7)(st:Hs),kE ρ st= .ok (.ref st.length) (st++[.et []]):=λ_ _=>rfl;unfold cH bB je;simp[nt,e1,ld]
theorem Q3(r:Rd):a_ st (n+2) r.w=some r.d:=by cases r<;>cases n<;>rfl
def oG(W:Ws)(p:Pt)(a:Wo):Ws:=if(W.any λq=>decide (q.1=p))=true then W.map (λq=>if q.1=p then(q.1,a)else q)else W++[(p,a)]
theorem Me(W:Ws)(p:Pt)(a:Wo):lh (iu W) (kO p) a.w=iu (oG W p a):=by
 unfold lh oG;have e:((iu W).any λkv=>decide (kv.1=kO p))=W.any λq=>decide (q.1=p):=by
  unfold iu;rw[List.any_map]
  congr 1
  funext q;show decide (kO q.1=kO p)=decide (q.1=p);rw[decide_eq_decide];exact iK
 rw[e];split
 ·unfold iu;rw[dC,dC];refine oz λq _=>?_;show(if kO q.1=kO p then(kO q.1,a.w)else(kO q.1,q.2.w))=(kO (if q.1=p then(q.1,a)else q).1,(if q.1=p then(q.1,a)else q).2.w);by_cases z:q.1=p
  ·rw[if_pos (iK.mpr z),if_pos z]
  ·rw[if_neg (λy=>z (iK.mp y)),if_neg z]
 ·unfold iu;rw[dH];rfl
theorem oH(W:Ws)(p:Pt)(a:Wo):(oG W p a).length<=W.length+1:=by
 unfold oG;split
 ·rw[bP];omega
 ·simp
structure nu(W:Ws)(P:List Pt)(d l:Nat)(st:Hs):Prop where
 d:st[d]? =some (.et (iu W))
 l:st[l]? =some (.lst (P.map pw))
variable{l:Nat}{W:Ws}
theorem nu.gr(h:nu W P d l st)(g:Gr st st'):nu W P d l st':=⟨g.get h.d,g.get h.l⟩
variable{r:Nat}
theorem nu.at'(h:nu W P d l st)(g:bL r st st')(h1:d≠r)(h2:l≠r):nu W P d l st':=⟨by rw[g.2 d (cV h.d) h1];exact h.d,by rw[g.2 l (cV h.l) h2];exact h.l⟩
theorem nu.kn(h:nu W P d l st):Kn W P d (.ref l) st:=⟨h.d,.inr ⟨l,rfl,.inl h.l⟩⟩
variable{q0:Wv}
section
variable {W:Ws}{P:List Pt}{d l:Nat}{st:Hs}
theorem nu.put(n:nu W P d l st){a:Wo}(hl:W.length < 100)(e1:gv ρ st= .ok a.w st)(e2:gd ρ st= .ok (.ref d) st)(e3:gk ρ st= .ok (pw p) st):∃st',ju gv gd gk ρ st= .nx ρ st'/\nu (oG W p a) P d l st'/\bL d st st':=by
 refine⟨st.set d (.et (iu (oG W p a))),?_,⟨cC n.d,?_⟩,bL.set⟩
 ·have e:putD (.ref d) (pw p) a.w st=some (st.set d (.et (iu (oG W p a)))):=by
   show(match st[d]? with
    |some (.dct kvs)=>(match keyOf (pw p)with |some kk=>if kvs.length < lim then some (st.set d (.dct (lh kvs kk a.w)))else none |none=>none)
    |some (.et kvs)=>(match i9 (pw p)with |some kk=>if kvs.length < lim then some (st.set d (.et (lh kvs kk a.w)))else none |none=>none)
    |_=>none)=_
   rw[n.d];dsimp only;rw[AE];dsimp only;rw[if_pos (by unfold iu;rw[bP];unfold lim;omega),Me]
  unfold ju;rw[e1];show(gd ρ st).bK ρ _=_;rw[e2];show(gk ρ st).bK ρ _=_;rw[e3];show(match putD (.ref d) (pw p) a.w st with |some uA=>Rs.nx ρ uA |none=> .bad)=_
  rw[e]
 ·have:l≠d:=λz=>by have:=n.l;rw[z,n.d]at this;cases this
  rw[bN (bA this)];exact n.l
theorem nu.dl(n:nu W P d l st):d≠l:=λz=>by have:=n.d;rw[z,n.l]at this;cases this
def Q4(W:Ws):Prop:=∀q∈W,q.2.Ok
theorem Q4.at:∀{W:Ws},Q4 W->∀p,(wo W p).Ok
 |[],_,_=>trivial
 |q::r,h,p=>by
  unfold wo;split
  ·exact h q bC
  ·exact Q4.at (W:=r) (λx hx=>h x (bb _ hx)) p
def Vd(W:Ws)(P:List Pt)(p:Pt)(W':Ws)(P':List Pt):Prop:=(W'=W/\P'=P++[p])\/(∃a:Wo,a.Ok/\W'=oG W p a/\P'=P)\/(W'=W/\P'=P)
def gp(a b:Int)(k:Nat):Pt:=(a+(0+(k:Int)).fdiv 4,b+(0+(k:Int)).fmod 4)
theorem AM{i:Nat}(h:gp a b i=gp a b j):i=j:=by unfold gp at h;rw[IA _ (by decide),IB _ (by decide),IA _ (by decide),IB _ (by decide)]at h;injection h with h1 h2;omega
theorem tH{a:Wo}(h:∀q∈W,q.1≠p):oG W p a=W++[(p,a)]:=by unfold oG;rw[if_neg];intro z;obtain⟨q,hq,e⟩:=List.any_eq_true.mp z;exact h q hq (of_decide_eq_true e)
theorem CF:∀{W:Ws}{x:Pt},(∀q∈W,q.1≠x)->wo W x= .non
 |[],_,_=>rfl
 |q::r,x,h=>by unfold wo;rw[if_neg (h q bC)];exact CF λz hz=>h z (bb _ hz)
theorem AN:∀{W:Ws}{p x:Pt}{a:Wo},(∀q∈W,q.1≠p)->wo (W++[(p,a)]) x=if x=p then a else wo W x
 |[],p,x,a,_=>by
  show(if p=x then a else .non)=_;by_cases c:x=p
  ·rw[if_pos c,if_pos c.symm]
  ·rw[if_neg c,if_neg (bA c)];rfl
 |q::r,p,x,a,h=>by
  rw[AK];show(if q.1=x then q.2 else wo (r++[(p,a)]) x)=if x=p then a else if q.1=x then q.2 else wo r x
  rw[AN λz hz=>h z (bb _ hz)];have hq:=h q bC;by_cases c:q.1=x
  ·rw[if_pos c,if_pos c,if_neg (λz=>hq (c.trans z))]
  ·rw[if_neg c,if_neg c]
structure GI(a b:Int)(k:Nat)(W:Ws)(P:List Pt):Prop where
 ok:Q4 W
 w:∀q∈W,∃j,j < k/\q.1=gp a b j
 p:∀q∈P,∃j,j < k/\q=gp a b j
 wn:(W.map (·.1)).Nodup
 pn:P.Nodup
 pl:P.length<=k
theorem GI.nil:GI a b 0 [] []:=⟨(by intro q h;cases h),by simp,by simp,by simp,by simp,aE _⟩
theorem GI.new(h:GI a b k W P):∀q∈W,q.1≠gp a b k:=λq hq e=>by obtain⟨j,h1,h2⟩:=h.w q hq;have:=AM (h2.symm.trans e);omega
theorem GI.Ve(h:GI a b k W P):gp a b k∉P:=λz=>by obtain⟨j,h1,h2⟩:=h.p _ z;have:=AM h2;omega
theorem GI.step{W':Ws}{P':List Pt}(h:GI a b k W P)(s:Vd W P (gp a b k) W' P'):GI a b (k+1) W' P':=by
 have up:∀{x:Pt},(∃j,j < k/\x=gp a b j)->∃j,j < k+1/\x=gp a b j:=λ⟨j,h1,h2⟩=>⟨j,by omega,h2⟩;rcases s with ⟨rfl,rfl⟩ |⟨v,hv,rfl,rfl⟩ |⟨rfl,rfl⟩
 ·refine⟨h.ok,λq hq=>up (h.w q hq),λq hq=>?_,h.wn,?_,by rw[dA];exact qD h.pl⟩
  ·rcases List.mem_append.mp hq with hq |hq
   ·exact up (h.p q hq)
   ·exact⟨k,by omega,List.mem_singleton.mp hq⟩
  ·rw[w5];exact⟨h.pn,by simp,λx hx y hy e=>h.Ve (by rw[<-List.mem_singleton.mp hy,<-e];exact hx)⟩
 ·rw[tH h.new];refine⟨λq hq=>?_,λq hq=>?_,λq hq=>up (h.p q hq),?_,h.pn,Nat.le_succ_of_le h.pl⟩
  ·rcases List.mem_append.mp hq with hq |hq
   ·exact h.ok q hq
   ·rw[List.mem_singleton.mp hq];exact hv
  ·rcases List.mem_append.mp hq with hq |hq
   ·exact up (h.w q hq)
   ·rw[List.mem_singleton.mp hq];exact⟨k,by omega,rfl⟩
  ·rw[dH,w5];refine⟨h.wn,by simp,λx hx y hy e=>?_⟩;obtain⟨q,hq,rfl⟩:=List.mem_map.mp hx;have:y=gp a b k:=List.mem_singleton.mp hy;exact h.new q hq (e.trans this)
 ·exact⟨h.ok,λq hq=>up (h.w q hq),λq hq=>up (h.p q hq),h.wn,h.pn,Nat.le_succ_of_le h.pl⟩
theorem AO{j:Int}{o6 o7:Option Wv}(n:nu W P d l st)(ro:Ro r st)(h1:r < d)(h2:r < l)(hW:W.length < 50)(hP:P.length < 50)(j0:0<=j)(j1:j < 12):
  ∃(Zd Ze:Option Wv)(W':Ws)(P':List Pt)(st':Hs),cm [some q0,some (tI [a,b]),some (.ref r),some (.ref d),some (.ref l),some (.int j),o6,o7] st= .nx [some q0,some (tI [a,b]),some (.ref r),some (.ref d),some (.ref l),some (.int j),Zd,Ze] st'/\
   Vd W P (a+j.fdiv 4,b+j.fmod 4) W' P'/\nu W' P' d l st'/\Ro r st'/\W'.length<=W.length+1/\P'.length<=P.length+1/\st.length<=st'.length/\∀i,i < r->st'[i]? =st[i]?:=by
 obtain⟨v,hv⟩:=ro;obtain⟨aw,s1,n1,e1,Je,hv1,ha⟩:=worth hv;obtain⟨d6,s2,e2,d60,d61,Q5,LW⟩:=dig (r:=r) (m:=6) ⟨_,hv1⟩ (by decide) (by decide);have k2:=(n.at' Je (by omega) (by omega)).at' Q5 (by omega) (by omega);have j4:∀st:Hs,fH (.int j) (.int 4) st= .ok (.int (j.fdiv 4)) st:=λst=>lq (by decide);have j5:∀st:Hs,oMod (.int j) (.int 4) st= .ok (.int (j.fmod 4)) st:=λst=>kF (by decide);have t0:∀st:Hs,bq (tI [a,b]) (.int 0) st= .ok (.int a) st:=λst=>rfl;have t1:∀st:Hs,bq (tI [a,b]) (.int 1) st= .ok (.int b) st:=λst=>rfl
 let p:Pt:=(a+j.fdiv 4,b+j.fmod 4)
 have old:∀i,i < r->s2[i]? =st[i]?:=λi hi=>by have hlt:r < st.length:=cV hv;rw[Q5.2 i (bT (by omega) Je.1) (by omega),Je.2 i (by omega) (by omega)]
 have oX:st.length<=s2.length:=aV Je.1 Q5.1;have Vf:=Y4 aw (st:=s2);by_cases c1:d6=0
 ·subst c1;have ap:=sJ (v:=pw p) k2.l (by rw[bP];unfold lim;omega);have km:=λga ρ=>mh (mt:=iz) (ga:=ga) (ρ:=ρ) (st:=s2) (l:=l) (bF k2.l);refine⟨some (pw p),some aw.w,W,P++[p],s2.set l (.lst (P.map pw++[pw p])),?_,.inl ⟨rfl,rfl⟩,⟨?_,?_⟩,?_,by omega,by simp,by rw[nI];exact oX,λi hi=>by rw[bN (by omega)];exact old i hi⟩
  ·unfold cm;simp[t0,t1,j4,j5,e1,e2,km];exact congrArg (λx=>x) (by have ap':iz (.ref l) (.tup [.int (a+j.fdiv 4),.int (b+j.fmod 4)]) s2=_:=ap;simp[ap',p])
  ·rw[bN (bA n.dl)];exact k2.d
  ·rw[cC k2.l,dH];rfl
  ·obtain⟨u,hu⟩:=LW;exact⟨u,by rw[bN (by omega)];exact hu⟩
 ·have b1:(d6 == 0)=false:=beq_false_of_ne c1;cases c2:aw.nn with
  |true=>
   rw[c2]at Vf;obtain⟨s3,e3,k3,y9⟩:=k2.put (p:=p) (a:=aw) (by omega) (ρ:=[some q0,some (tI [a,b]),some (.ref r),some (.ref d),some (.ref l),some (.int j),some (pw p),some aw.w]) (gv:=ae 7) (gd:=ae 3) (gk:=ae 6) rfl rfl rfl;refine⟨some (pw p),some aw.w,oG W p aw,P,s3,?_,.inr (.inl ⟨aw,ha,rfl,rfl⟩),k3,?_,oH _ _ _,by omega,aV oX y9.1,λi hi=>by rw[y9.2 i (by have:=cV n.d;omega) (by omega)];exact old i hi⟩
   ·unfold cm;have e3':ju (ae 7) (ae 3) (ae 6) [some q0,some (tI [a,b]),some (.ref r),some (.ref d),some (.ref l),some (.int j),some (.tup [.int (a+j.fdiv 4),.int (b+j.fmod 4)]),some aw.w] s2=_:=e3;simp[t0,t1,j4,j5,e1,e2,b1,Vf,e3',p]
   ·obtain⟨u,hu⟩:=LW;exact⟨u,by rw[y9.2 r (cV hu) (by omega)];exact hu⟩
  |false=>
   rw[c2]at Vf;obtain⟨d2,s3,e3,WJ,WK,y9,O6⟩:=dig (r:=r) (m:=2) LW (by decide) (by decide);have k3:=k2.at' y9 (by omega) (by omega);have Ea:∀i,i < r->s3[i]? =st[i]?:=λi hi=>by have hlt:r < st.length:=cV hv;rw[y9.2 i (by omega) (by omega)];exact old i hi
   by_cases c3:d2=0
   ·subst c3;obtain⟨s4,e4,k4,Zf⟩:=k3.put (p:=p) (a:=aw) (by omega) (ρ:=[some q0,some (tI [a,b]),some (.ref r),some (.ref d),some (.ref l),some (.int j),some (pw p),some aw.w]) (gv:=ae 7) (gd:=ae 3) (gk:=ae 6) rfl rfl rfl;refine⟨some (pw p),some aw.w,oG W p aw,P,s4,?_,.inr (.inl ⟨aw,ha,rfl,rfl⟩),k4,?_,oH _ _ _,by omega,aV (aV oX y9.1) Zf.1,λi hi=>by rw[Zf.2 i (by have:=cV k3.d;omega) (by omega)];exact Ea i hi⟩
    ·unfold cm;have e4':ju (ae 7) (ae 3) (ae 6) [some q0,some (tI [a,b]),some (.ref r),some (.ref d),some (.ref l),some (.int j),some (.tup [.int (a+j.fdiv 4),.int (b+j.fmod 4)]),some aw.w] s3=_:=e4;simp[t0,t1,j4,j5,e1,e2,b1,Vf,e3,e4',p]
    ·obtain⟨u,hu⟩:=O6;exact⟨u,by rw[Zf.2 r (cV hu) (by omega)];exact hu⟩
   ·have b2:(d2 == 0)=false:=beq_false_of_ne c3;refine⟨some (pw p),some aw.w,W,P,s3,?_,.inr (.inr ⟨rfl,rfl⟩),k3,O6,by omega,by omega,aV oX y9.1,Ea⟩;unfold cm;simp[t0,t1,j4,j5,e1,e2,b1,Vf,e3,b2,p]
end
theorem known{q:Nat}(h:aG st q=some (ns.map Wv.int))(hn:ns.length<=63):∃(W:Ws)(P:List Pt)(d l:Nat)(st':Hs),dE [.ref q,tI [a,b]] st= .ok (.tup [.ref d,.ref l]) st'/\nu W P d l st'/\GI a b 12 W P/\Gr st st':=by
 obtain⟨n,e1⟩:=stream h hn (k:=40) (by decide) (by decide);have h1:aG (st++[.lst [.int n]]) q=some (ns.map Wv.int):=Gr.push.lst h;obtain⟨v,e2⟩:=wX h1 (k:=2) (by decide);have i0:bq (.ref st.length) (.int 0) (st++[.lst [.int n]])= .ok (.int n) (st++[.lst [.int n]]):=mB cX rfl;have md:oMod (.int v) (.int eW) (st++[.lst [.int n]])= .ok (.int (v.fmod eW)) (st++[.lst [.int n]]):=kF (by decide+kernel);obtain⟨s1,hs1⟩:∃s,s=st++[.lst [.int n]]:=⟨_,rfl⟩;rw[<-hs1]at e1 e2 i0 md;have gg:Gr st s1:=by rw[hs1];exact Gr.push
 have ls1:s1.length=st.length+1:=by rw[hs1];simp
 obtain⟨s2,hs2⟩:∃s,s=s1++[Ob.lst [.int (n+v.fmod eW)],.et [],.lst []]:=⟨_,rfl⟩;have ro:Ro s1.length s2:=⟨n+v.fmod eW,by rw[hs2];simp⟩;have k2:nu [] [] (s1.length+1) (s1.length+2) s2:=⟨by rw[hs2];simp[iu],by rw[hs2];simp⟩;have l2:s1.length < s2.length:=by rw[hs2];simp
 have o2:∀i,i < s1.length->s2[i]? =s1[i]?:=λi hi=>by rw[hs2,f6 hi]
 obtain⟨ρ,s3,e3,⟨o5,o6,o7,W,P,rfl,h3,k3,O6,w3,p3,Jd,Ea⟩⟩:=mi (i:=5) (gb:=cm) (λk ρ st'=>∃(o5 o6 o7:Option Wv)(W:Ws)(P:List Pt),ρ=[some (.ref q),some (tI [a,b]),some (.ref s1.length),some (.ref (s1.length+1)),some (.ref (s1.length+2)),o5,o6,o7]/\GI a b k W P/\nu W P (s1.length+1) (s1.length+2) st'/\Ro s1.length st'/\W.length<=k/\P.length<=k/\s1.length < st'.length/\∀i,i < s1.length->st'[i]? =s1[i]?)
  (cU 0 12) 0 [some (.ref q),some (tI [a,b]),some (.ref s1.length),some (.ref (s1.length+1)),some (.ref (s1.length+2)),none,none,none] s2 ⟨none,none,none,[],[],rfl,GI.nil,k2,ro,aE _,aE _,l2,o2⟩ (λj w hw ρ st' hP=>by
   obtain⟨o5,o6,o7,W,P,rfl,hh,kk,rr,hW,hPl,hlen,hold⟩:=hP;have hj:j < 12:=by have q:=(List.getElem?_eq_some_iff.mp hw).1;rw[c7]at q;exact q
   rw[jm hj]at hw;cases hw;obtain⟨Zd,Ze,W',P',s',e,h',k',r',w',p',ln',old'⟩:=AO (q0:=.ref q) (a:=a) (b:=b) (j:=0+(j:Int)) (o6:=o6) (o7:=o7) kk rr (by omega) (by omega) (by omega) (by omega) (by omega) (by omega);exact⟨_,s',e,some (.int (0+(j:Int))),Zd,Ze,W',P',rfl,(by rw[mw]at hh ⊢;exact hh.step h'),k',r',by omega,by omega,by omega,λi hi=>by rw[old' i hi];exact hold i hi⟩)
 refine⟨W,P,s1.length+1,s1.length+2,s3,?_,k3,(by rw[c7,mw]at h3;exact h3),⟨by omega,λi hi=>by rw[Ea i (by omega)];exact gg.2 i hi⟩⟩;have c12:dM 12:=HJ (by decide) (by decide);have a1:s1++[Ob.lst [.int (n+v.fmod eW)]]++[.et []]++[.lst []]=s2:=by rw[hs2];simp
 have nt:∀ρ:b7,kE ρ (s1++[Ob.lst [.int (n+v.fmod eW)]])= .ok (.ref (s1.length+1)) (s1++[Ob.lst [.int (n+v.fmod eW)]]++[.et []]):=λρ=>by unfold kE;simp
 have nl:(s1++[Ob.lst [.int (n+v.fmod eW)]]++[Ob.et []]).length=s1.length+2:=by simp
 unfold dE bB j6;simp only[yp,yq,HF,Al,HE,B8,Am,yt,e_c,aU,aK,jJ];simp[e1,i0,e2,Wz,md,nt,c12,-kQ];rw[a1];simp[e3]
theorem yX:∀rs:List Rd,eF (rs.map Rd.d) (rs.map Rd.d)=true
 |[]=>by simp[eF]
 |r::rs=>by
  rw[aK];show(aT r.d r.d&&eF (rs.map Rd.d) (rs.map Rd.d))=true;have:aT r.k.1 r.k.1=true:=by rw[NK.KD.eqv];simp
  rw[yX rs,show aT r.d r.d=true from this];rfl
theorem yY(s:Sd)(rs:List Rd):xC (res s rs) (res s rs) st= .ok (.bl false) st:=by
 have m18:fP (a_ st 18) (rs.map Rd.w)=some (rs.map Rd.d):=by
  induction rs with
  |nil=>rfl
  |cons r rs ih=>rw[aK];unfold fP;rw[ih,Q3 (n:=16) r];rfl
 have key:∀(x:S)(v:Wv)(dv:PyData),a_ st 19 v=some dv->aT dv dv=true->xC (.tup [.str x,v,.tup (rs.map Rd.w)]) (.tup [.str x,v,.tup (rs.map Rd.w)]) st= .ok (.bl false) st:=λx v dv h1 h2=>by
  have d:a_ st 20 (.tup [.str x,v,.tup (rs.map Rd.w)])=some (.tuple [.str x,dv,.tuple (rs.map Rd.d)]):=by
   show(fP (a_ st 19) [.str x,v,.tup (rs.map Rd.w)]).map l5=_;have d3:a_ st 19 (.tup (rs.map Rd.w))=some (.tuple (rs.map Rd.d)):=by show(fP (a_ st 18) (rs.map Rd.w)).map l5=_;rw[m18];rfl
   have d1:a_ st 19 (.str x)=some (.str x):=rfl;simp only[fP,d1,h1,d3];rfl
  refine HL d d ?_;simp[aT,eF,h2,yX]
 cases s with
 |wt p=>exact key _ (pw p) (dP p) rfl (by rw[pN];simp)
 |wo a=>
  cases a with
  |non=>exact key _ _ .none rfl (by simp[aT])
  |int i=>exact key _ _ (.int i) rfl MZ
  |txt x=>exact key _ _ (.str x) rfl M0
  |kK x=>exact key _ _ (.tuple [.str "fault",.str x]) rfl HK
theorem xg:∀(W:Ws)(p:Pt),(d_ (iu W) (kO p)).isSome=decide (p∈W.map (·.1))
 |[],p=>rfl
 |q::r,p=>by
  have ih:=xg r p;unfold iu at ih ⊢;rw[aK];unfold d_;dsimp only;by_cases e:q.1=p
  ·rw[if_pos (iK.mpr e)];simp[e]
  ·rw[if_neg (λz=>e (iK.mp z)),ih];simp[bA e]
theorem M'(h:st[d]? =some (.et (iu W)))(p:Pt):qq false (pw p) (.ref d) st= .ok (.bl (decide (p∈W.map (·.1)))) st:=by
 have e:fQ st[d]? =some (iu W):=by rw[h];rfl
 show(match fQ st[d]?,i9 (pw p)with |some kvs,some k=>Re.ok (Wv.bl ((d_ kvs k).isSome != false)) st |_,_=>kN false (pw p) (.ref d) st)=_
 rw[e,AE];dsimp only;rw[xg];cases decide (p∈W.map (·.1))<;>rfl
theorem Vg(h:st[d]? =some (.et (iu W)))(hp:p∈W.map (·.1)):V6 (.ref d) (pw p) st= .ok (wo W p).w st:=by
 have v1:=xg W p;rw[decide_eq_true hp]at v1;obtain⟨w,hw⟩:=Option.isSome_iff_exists.mp v1;have v2:=wY W p;rw[hw]at v2;have e:fQ st[d]? =some (iu W):=by rw[h];rfl
 have g:getD (.ref d) (pw p) st=some (wo W p).w:=by unfold getD;dsimp only;rw[h];dsimp only;rw[AE];dsimp only;rw[hw,<-v2];rfl
 unfold V6;rw[g]
variable{V':Ws}{Q' R rd:List Pt}
section
variable {W V:Ws}{P Q:List Pt}
theorem Q6(s:Vd V Q p V' Q')(hn:∀x∈V,x.1≠p)(hq:q≠p):dt V' Q' q=dt V Q q:=by
 rcases s with ⟨rfl,rfl⟩ |⟨v,_,rfl,rfl⟩ |⟨rfl,rfl⟩
 ·unfold dt;have:q∈Q++[p]↔q∈Q:=by simp[hq]
  by_cases c:q∈Q
  ·rw[if_pos c,if_pos (this.mpr c)]
  ·rw[if_neg c,if_neg (λz=>c (this.mp z))]
 ·unfold dt;rw[tH hn,AN hn,if_neg hq]
 ·rfl
structure OI(a b:Int)(k:Nat)(R:List Pt)(W:Ws)(P:List Pt)(V:Ws)(Q:List Pt):Prop where
 g:GI a b k V Q
 s:∀j,j < k->gp a b j∈R->dt V Q (gp a b j)=dt W P (gp a b j)
theorem OI.step(h:OI a b k R W P V Q)(s:Vd V Q (gp a b k) V' Q')(e:gp a b k∈R->dt V' Q' (gp a b k)=dt W P (gp a b k)):OI a b (k+1) R W P V' Q':=by
 refine⟨h.g.step s,λj hj hr=>?_⟩;by_cases c:j=k
 ·subst c;exact e hr
 ·rw[Q6 s h.g.new (λz=>c (AM z))];exact h.s j (by omega) hr
theorem IC(h:GI a b k W P)(hq:∀j,j < k->q≠gp a b j):dt W P q= .wo .non:=by unfold dt;rw[if_neg λz=>by obtain⟨j,h1,h2⟩:=h.p q z;exact hq j h1 h2];rw[CF λx hx e=>by obtain⟨j,h1,h2⟩:=h.w x hx;exact hq j h1 (e.symm.trans h2)]
theorem OI.all(h:OI a b 12 R W P V Q)(g:GI a b 12 W P)(hq:q∈R):dt V Q q=dt W P q:=by
 by_cases c:∃j,j < 12/\q=gp a b j
 ·obtain⟨j,h1,rfl⟩:=c;exact h.s j h1 hq
 ·have no:∀j,j < 12->q≠gp a b j:=λj h1 h2=>c ⟨j,h1,h2⟩;rw[IC h.g no,IC g no]
theorem AQ{R o e:Nat}{j:Int}{o9 Q7:Option Wv}(n:nu W P d l st)(hR:st[R]? =some (.lst (rd.map pw)))(m:nu V Q o e st)(ro:Ro r st)(h1:r < o)(h2:r < e)(h3:R < r)(h4:d < r)(h5:l < r)(hV:V.length < 50)(hQ:Q.length < 50)(tF:Q4 W)(nV:∀x∈V,x.1≠(a+j.fdiv 4,b+j.fmod 4))(nQ:((a+j.fdiv 4,b+j.fmod 4):Pt)∉Q):
  ∃(Zg Q8:Option Wv)(V':Ws)(Q':List Pt)(st':Hs),br [some q0,some (tI [a,b]),some (.ref R),some (.ref d),some (.ref l),some (.ref r),some (.ref o),some (.ref e),some (.int j),o9,Q7] st= .nx [some q0,some (tI [a,b]),some (.ref R),some (.ref d),some (.ref l),some (.ref r),some (.ref o),some (.ref e),some (.int j),Zg,Q8] st'/\
   Vd V Q (a+j.fdiv 4,b+j.fmod 4) V' Q'/\(((a+j.fdiv 4,b+j.fmod 4):Pt)∈rd->dt V' Q' (a+j.fdiv 4,b+j.fmod 4)=dt W P (a+j.fdiv 4,b+j.fmod 4))/\nu V' Q' o e st'/\Ro r st'/\V'.length<=V.length+1/\Q'.length<=Q.length+1/\st.length<=st'.length/\∀i,i < r->st'[i]? =st[i]?:=by
 obtain⟨v,hv⟩:=ro;have hlt:r < st.length:=cV hv;obtain⟨aw,s1,n1,e1,Je,hv1,ha⟩:=worth hv;have m1:=m.at' Je (by omega) (by omega);have k1:=n.at' Je (by omega) (by omega);have hR1:s1[R]? =some (.lst (rd.map pw)):=by rw[Je.2 R (by omega) (by omega)];exact hR
 have j4:∀st:Hs,fH (.int j) (.int 4) st= .ok (.int (j.fdiv 4)) st:=λst=>lq (by decide);have j5:∀st:Hs,oMod (.int j) (.int 4) st= .ok (.int (j.fmod 4)) st:=λst=>kF (by decide);have t0:∀st:Hs,bq (tI [a,b]) (.int 0) st= .ok (.int a) st:=λst=>rfl;have t1:∀st:Hs,bq (tI [a,b]) (.int 1) st= .ok (.int b) st:=λst=>rfl;obtain⟨p,hp⟩:∃p:Pt,p=(a+j.fdiv 4,b+j.fmod 4):=⟨_,rfl⟩;rw[<-hp]at nV nQ ⊢;have Vh:Wv.tup [.int (a+j.fdiv 4),.int (b+j.fmod 4)]=pw p:=by rw[hp]
 have inR:=Cm (bF hR1) p;have Vi:=Cm (bF k1.l) p;have WL:=M' k1.d p;have old:∀i,i < r->s1[i]? =st[i]?:=λi hi=>Je.2 i (by omega) (by omega);have Mf:st.length<=s1.length:=Je.1;have ap:∀{s:Hs},nu V Q o e s->iz (.ref e) (pw p) s= .ok .non (s.set e (.lst (Q.map pw++[pw p]))):=λh=>sJ h.l (by rw[bP];unfold lim;omega);have apk:∀{s:Hs},nu V Q o e s->nu V (Q++[p]) o e (s.set e (.lst (Q.map pw++[pw p]))):=λh=>⟨by rw[bN (bA h.dl)];exact h.d,by rw[cC h.l,dH];rfl⟩;have km:∀{s:Hs},nu V Q o e s->∀ga ρ,B_ iz ga ρ (.ref e) s=(ga ρ s).bind λv st2=>(iz (.ref e) v st2).pW:=λh ga ρ=>mh (bF h.l);by_cases cR:p∈rd
 ·rw[decide_eq_true cR]at inR;by_cases cP:p∈P
  ·rw[decide_eq_true cP]at Vi;refine⟨some (pw p),some aw.w,V,Q++[p],_,?_,.inl ⟨rfl,rfl⟩,λ_=>?_,apk m1,⟨n1,by rw[bN (by omega)];exact hv1⟩,by omega,by simp,by rw[nI];exact Mf,λi hi=>by rw[bN (by omega)];exact old i hi⟩
   ·unfold br;simp[t0,t1,j4,j5,e1,Vh,inR,Vi,km m1,ap m1]
   ·unfold dt;rw[if_pos cP,if_pos (by simp)]
  ·rw[decide_eq_false cP]at Vi;have nP:dt W P p= .wo (wo W p):=by unfold dt;rw[if_neg cP]
   by_cases cW:p∈W.map (·.1)
   ·rw[decide_eq_true cW]at WL;have gx:=Vg k1.d cW;obtain⟨s3,e3,k3,y9⟩:=m1.put (p:=p) (a:=wo W p) (by omega) (ρ:=[some q0,some (tI [a,b]),some (.ref R),some (.ref d),some (.ref l),some (.ref r),some (.ref o),some (.ref e),some (.int j),some (pw p),some aw.w]) (gv:=BO (ae 3) (ae 9)) (gd:=ae 6) (gk:=ae 9) gx rfl rfl;refine⟨some (pw p),some aw.w,oG V p (wo W p),Q,s3,?_,.inr (.inl ⟨_,tF.at p,rfl,rfl⟩),λ_=>?_,k3,⟨n1,by rw[y9.2 r (cV hv1) (by omega)];exact hv1⟩,oH _ _ _,by omega,aV Mf y9.1,λi hi=>by rw[y9.2 i (by omega) (by omega)];exact old i hi⟩
    ·unfold br;simp[t0,t1,j4,j5,e1,Vh,inR,Vi,WL,e3]
    ·rw[nP];unfold dt;rw[if_neg nQ,tH nV,AN nV,if_pos rfl]
   ·rw[decide_eq_false cW]at WL;refine⟨some (pw p),some aw.w,V,Q,s1,?_,.inr (.inr ⟨rfl,rfl⟩),λ_=>?_,m1,⟨n1,hv1⟩,by omega,by omega,Mf,old⟩
    ·unfold br;simp[t0,t1,j4,j5,e1,Vh,inR,Vi,WL]
    ·rw[nP];unfold dt;rw[if_neg nQ,CF nV,CF λq hq z=>cW (List.mem_map.mpr ⟨q,hq,z⟩)]
 ·rw[decide_eq_false cR]at inR;obtain⟨d3,s2,e2,WM,WN,Q5,LW⟩:=dig (r:=r) (m:=3) ⟨_,hv1⟩ (by decide) (by decide);have m2:=m1.at' Q5 (by omega) (by omega);have L_:∀i,i < r->s2[i]? =st[i]?:=λi hi=>by rw[Q5.2 i (by omega) (by omega)];exact old i hi
  have oX:st.length<=s2.length:=aV Mf Q5.1;obtain⟨u,hu⟩:=LW;by_cases c3:d3=0
  ·subst c3;refine⟨some (pw p),some aw.w,V,Q++[p],_,?_,.inl ⟨rfl,rfl⟩,λz=>absurd z cR,apk m2,⟨u,by rw[bN (by omega)];exact hu⟩,by omega,by simp,by rw[nI];exact oX,λi hi=>by rw[bN (by omega)];exact L_ i hi⟩;unfold br;simp[t0,t1,j4,j5,e1,Vh,inR,e2,km m2,ap m2]
  ·have b1:(d3 == 0)=false:=beq_false_of_ne c3;obtain⟨s3,e3,k3,y9⟩:=m2.put (p:=p) (a:=aw) (by omega) (ρ:=[some q0,some (tI [a,b]),some (.ref R),some (.ref d),some (.ref l),some (.ref r),some (.ref o),some (.ref e),some (.int j),some (pw p),some aw.w]) (gv:=ae 10) (gd:=ae 6) (gk:=ae 9) rfl rfl rfl;refine⟨some (pw p),some aw.w,oG V p aw,Q,s3,?_,.inr (.inl ⟨_,ha,rfl,rfl⟩),λz=>absurd z cR,k3,⟨u,by rw[y9.2 r (cV hu) (by omega)];exact hu⟩,oH _ _ _,by omega,aV oX y9.1,λi hi=>by rw[y9.2 i (by omega) (by omega)];exact L_ i hi⟩;unfold br;simp[t0,t1,j4,j5,e1,Vh,inR,e2,b1,e3]
theorem otherwise{q R:Nat}(h:aG st q=some (ns.map Wv.int))(hn:ns.length<=63)(n:nu W P d l st)(hR:st[R]? =some (.lst (rd.map pw)))(g:GI a b 12 W P):
  ∃(V:Ws)(Q:List Pt)(o e:Nat)(st':Hs),bY [.ref q,tI [a,b],.ref R,.ref d,.ref l] st= .ok (.tup [.ref o,.ref e]) st'/\nu V Q o e st'/\OI a b 12 rd W P V Q/\Gr st st':=by
 obtain⟨v,e1⟩:=stream h hn (k:=5) (by decide) (by decide);obtain⟨s2,hs2⟩:∃s,s=st++[Ob.lst [.int v],.et [],.lst []]:=⟨_,rfl⟩;have ro:Ro st.length s2:=⟨v,by rw[hs2];simp⟩;have k2:nu [] [] (st.length+1) (st.length+2) s2:=⟨by rw[hs2];simp[iu],by rw[hs2];simp⟩;have l2:st.length < s2.length:=by rw[hs2];simp
 have o2:∀i,i < st.length->s2[i]? =st[i]?:=λi hi=>by rw[hs2,f6 hi]
 have hRl:=cV hR;have hdl:=cV n.d;have hll:=cV n.l;obtain⟨ρ,s3,e3,⟨o8,o9,Q7,V,Q,rfl,h3,k3,O6,w3,p3,Jd,Ea⟩⟩:=mi (i:=8) (gb:=br) (λk ρ st'=>∃(o8 o9 Q7:Option Wv)(V:Ws)(Q:List Pt),ρ=[some (.ref q),some (tI [a,b]),some (.ref R),some (.ref d),some (.ref l),some (.ref st.length),some (.ref (st.length+1)),some (.ref (st.length+2)),o8,o9,Q7]/\OI a b k rd W P V Q/\nu V Q (st.length+1) (st.length+2) st'/\Ro st.length st'/\V.length<=k/\Q.length<=k/\st.length < st'.length/\∀i,i < st.length->st'[i]? =st[i]?)
  (cU 0 12) 0 [some (.ref q),some (tI [a,b]),some (.ref R),some (.ref d),some (.ref l),some (.ref st.length),some (.ref (st.length+1)),some (.ref (st.length+2)),none,none,none] s2 ⟨none,none,none,[],[],rfl,⟨GI.nil,λj hj=>absurd hj (Nat.not_lt_zero _)⟩,k2,ro,aE _,aE _,l2,o2⟩ (λj w hw ρ st' hP=>by
   obtain⟨o8,o9,Q7,V,Q,rfl,hh,kk,rr,hV,hQ,hlen,hold⟩:=hP;have hj:j < 12:=by have q:=(List.getElem?_eq_some_iff.mp hw).1;rw[c7]at q;exact q
   rw[jm hj]at hw;cases hw;rw[mw]at hh;obtain⟨Zg,Q8,V',Q',s',e,h',x',k',r',w',p',ln',old'⟩:=AQ (W:=W) (P:=P) (d:=d) (l:=l) (R:=R) (rd:=rd) (q0:=.ref q) (a:=a) (b:=b) (j:=0+(j:Int)) (o9:=o9) (Q7:=Q7) ⟨by rw[hold d hdl];exact n.d,by rw[hold l hll];exact n.l⟩ (by rw[hold R hRl];exact hR) kk rr (by omega) (by omega) hRl hdl hll (by omega) (by omega) g.ok hh.g.new hh.g.Ve;exact⟨_,s',e,some (.int (0+(j:Int))),Zg,Q8,V',Q',rfl,(by rw[mw];exact hh.step h' x'),k',r',by omega,by omega,by omega,λi hi=>by rw[old' i hi];exact hold i hi⟩)
 refine⟨V,Q,st.length+1,st.length+2,s3,?_,k3,(by rw[c7,mw]at h3;exact h3),⟨by omega,Ea⟩⟩;have c12:dM 12:=HJ (by decide) (by decide);have a1:st++[Ob.lst [.int v]]++[.et []]++[.lst []]=s2:=by rw[hs2];simp
 have nt:∀ρ:b7,kE ρ (st++[Ob.lst [.int v]])= .ok (.ref (st.length+1)) (st++[Ob.lst [.int v]]++[.et []]):=λρ=>by unfold kE;simp
 have nl:(st++[Ob.lst [.int v]]++[Ob.et []]).length=st.length+2:=by simp
 unfold bY bB gB;simp only[yp,yq,HF,Al,HE,B8,Am,yt,e_c,aU,aK,jJ];simp[e1,nt,c12,-kQ];rw[a1];simp[e3]
end
def Vj:List Pt:=(dh 2574).map λk=>(((k / 26:Nat):Int),((k % 26:Nat):Int))
def uq{α:Type}(f:α->Nat):List α->Nat->Bool
 |[],_=>true
 |x::r,acc=> !(acc.testBit (f x))&&uq f r (acc||| 2 ^ f x)
theorem Na{α:Type}{f:α->Nat}:∀{l:List α}{acc:Nat},uq f l acc=true->(∀x∈l,∀y∈l,f x=f y->x=y)/\∀x∈l,acc.testBit (f x)=false
 |[],_,_=>⟨λx hx=>(by cases hx),λx hx=>by cases hx⟩
 |x::r,acc,h=>by
  unfold uq at h;rw[dI]at h;obtain⟨h1,h2⟩:=Na h.2;have no:∀y∈r,acc.testBit (f y)=false/\f x≠f y:=λy hy=>by have q:=h2 y hy;rw[Nat.testBit_or,Nat.testBit_two_pow,Ih]at q;exact⟨q.1,of_decide_eq_false q.2⟩
  refine⟨λa ha b hb e=>?_,λy hy=>?_⟩
  ·rcases List.mem_cons.mp ha with ea |ha'
   ·rcases List.mem_cons.mp hb with eb |hb'
    ·rw[ea,eb]
    ·rw[ea]at e;exact absurd e (no b hb').2
   ·rcases List.mem_cons.mp hb with eb |hb'
    ·rw[eb]at e;exact absurd e.symm (no a ha').2
    ·exact h1 a ha' b hb' e
  ·rcases List.mem_cons.mp hy with rfl |hy
   ·simpa using h.1
   ·exact(no y hy).1
def hs(p:Pt):Int:=BR [p.1,p.2]
def hm(p:Pt):Nat:=(hs p % 19291).toNat
theorem Q9:uq hm Vj 0=true:=by decide+kernel
theorem yZ(h:qz p.1 p.2):p∈Vj:=by
 obtain⟨a,b⟩:=p;obtain⟨h1,h2,h3,h4⟩:=h;dsimp only at h1 h2 h3 h4;refine List.mem_map.mpr ⟨a.toNat * 26+b.toNat,List.mem_range.mpr (by omega),?_⟩;refine jI ?_ ?_
 ·show(((a.toNat * 26+b.toNat) / 26:Nat):Int)=a;omega
 ·show(((a.toNat * 26+b.toNat) % 26:Nat):Int)=b;omega
theorem Q_(hp:qz p.1 p.2)(hq:qz q.1 q.2)(h:hs p=hs q):p=q :=
 (Na Q9).1 p (yZ hp) q (yZ hq) (by unfold hm;rw[h])
theorem CG:∀l:List Pt,qb (l.map kO)=some (l.map λp=>[p.1,p.2])
 |[]=>rfl
 |p::r=>by rw[aK,aK];unfold qb;rw[CG r];rfl
theorem y3:∀{l:List Pt},l.Nodup->(∀p∈l,qz p.1 p.2)->(l.map hs).Nodup
 |[],_,_=>Bo
 |p::r,h,k=>by rw[List.nodup_cons]at h;rw[aK,List.nodup_cons];refine⟨λz=>?_,y3 h.2 λq hq=>k q (bb _ hq)⟩;obtain⟨q,hq,e⟩:=List.mem_map.mp z;exact h.1 (Q_ (k q (bb _ hq)) (k p bC) e ▸ hq)
variable{kvs:List (List L2.Key×Wv)}
theorem Ra(h:kvs.map (·.1)=ps.map kO)(hn:ps.Nodup)(hp:∀p∈ps,qz p.1 p.2):mW (kvs.map (·.1))=true:=by unfold mW;rw[h,CG];refine decide_eq_true ?_;rw[dC];exact y3 hn hp
theorem vb{k:List L2.Key}:∀{kvs:List (List L2.Key×Wv)},k∈kvs.map (·.1)->∃v,d_ kvs k=some v
 |[],h=>by cases h
 |p::r,h=>by
  unfold d_;by_cases e:p.1=k
  ·exact⟨p.2,if_pos e⟩
  ·rw[if_neg e];rw[aK,fq]at h;exact vb (h.resolve_left λz=>e z.symm)
theorem same_self(h:∀kv∈kvs,∃d:PyData,(∀st:Hs,a_ st 20 kv.2=some d)/\aT d d=true):oZ st kvs=true/\qc st kvs kvs=true:=by
 refine⟨?_,?_⟩
 ·unfold oZ;rw[Ai];intro kv hk;obtain⟨d,h1,_⟩:=h kv hk;rw[h1];rfl
 ·unfold qc;rw[decide_eq_true rfl,Gz,Ai];intro k hk;obtain⟨v,e⟩:=vb hk;obtain⟨d,h1,h2⟩:=h _ (su e);unfold MO;rw[e];dsimp only;rw[h1];simpa using h2
theorem eq_self(h1:fQ st[l]? =some kvs)(h2:fQ st[k]? =some kvs)(h:∀kv∈kvs,∃d:PyData,(∀st:Hs,a_ st 20 kv.2=some d)/\aT d d=true):GD (.ref l) (.ref k) st= .ok (.bl true) st/\Ac (.ref l) (.ref k) st= .ok (.bl false) st:=by obtain⟨a,b⟩:=same_self (st:=st) h;have d1:sy st (.ref l)=some kvs:=h1;have d2:sy st (.ref k)=some kvs:=h2;unfold GD Ac;rw[d1,d2];dsimp only;rw[if_pos ⟨a,a⟩,if_pos ⟨a,a⟩,b];exact⟨rfl,rfl⟩
theorem Mg(hd:fQ st[d]? =some kvs)(hk:mW (kvs.map (·.1))=true):n6 [.ref d] st= .ok (.ref st.length) (st++[.et kvs]):=by unfold n6;dsimp only;rw[hd];dsimp only;rw[if_pos hk]
theorem kJ{W:Ws}{P:List Pt}:∀(f:Fm),f.ok->∀r∈(lk W P f).2,r.Ok
 |.lit x ws,_,r,h=>by cases h
 |.pt x l p,ok,r,h=>by
  rcases ok with ⟨rfl,a,b,q,s,rfl,rfl,_⟩ |⟨hx,a,b,c,e,q,s,t,u,rfl,rfl,ar,_⟩
  ·rw[List.mem_singleton.mp (show r∈[Rd.mG (a,b)] from h)];trivial
  ·rw[List.mem_singleton.mp (show r∈[Rd.part a b c e _] from h)];exact ar
 |.fd a l p,ok,r,h=>by
  obtain⟨M9,x,b,c,e,q,s,t,u,rfl,rfl,ar,_⟩:=ok;have ih:=kJ (W:=W) (P:=P) a M9;have ac:=tE ar;have hh:r∈(qV W P (lk W P a).1 (lk W P a).2 [x,b,c,e]).2:=h;have key:∀y z,r∈(bp (bp (lk W P a).2 (.part x b c b y)) (.mG z))->r.Ok:=λy z h=>by
   rcases oB.mp h with h |h
   ·rcases oB.mp h with h |h
    ·exact ih r h
    ·rw[h];exact ac
   ·rw[h];trivial
  have Vk:∀y,r∈bp (lk W P a).2 (.part x b c b y)->r.Ok:=λy h=>key y y (oB.mpr (.inl h));unfold qV at hh;cases hs:(lk W P a).1 with
  |wt p=>rw[hs]at hh;exact ih r hh
  |wo kv=>
   rw[hs]at hh;dsimp only at hh
   repeat' split at hh
   ·exact ih r hh
   ·exact ih r hh
   ·exact Vk _ hh
   ·exact Vk _ hh
   ·exact key _ _ hh
 |.o1 x a,ok,r,h=>kJ a ok.2 r h
 |.o2 x a b,ok,r,h=>by
  have ih:r∈fe (lk W P a).2 (lk W P b).2->r.Ok:=λz=>(oC.mp z).elim (kJ a ok.2.1 r) (kJ b ok.2.2 r);have i1:=kJ (W:=W) (P:=P) a ok.2.1 r;have hh:r∈(if x="else" then(if(lk W P a).1.f=true then((lk W P b).1,fe (lk W P a).2 (lk W P b).2)else lk W P a)else two x (lk W P a).1 (lk W P b).1 (lk W P a).2 (lk W P b).2).2:=h;split at hh
  ·split at hh
   ·exact ih hh
   ·exact i1 hh
  ·unfold two at hh;cases hs:(lk W P a).1 with
   |wt p=>rw[hs]at hh;exact i1 hh
   |wo ka=>
    rw[hs]at hh;dsimp only at hh;split at hh
    ·exact i1 hh
    ·exact ih hh
 |.o3 a b c,ok,r,h=>by
  have ib:r∈fe (lk W P a).2 (lk W P b).2->r.Ok:=λz=>(oC.mp z).elim (kJ a ok.1 r) (kJ b ok.2.1 r);have ic:r∈fe (lk W P a).2 (lk W P c).2->r.Ok:=λz=>(oC.mp z).elim (kJ a ok.1 r) (kJ c ok.2.2 r);have i1:=kJ (W:=W) (P:=P) a ok.1 r;have hh:r∈(yU (lk W P a).1 (lk W P b).1 (lk W P c).1 (lk W P a).2 (lk W P b).2 (lk W P c).2).2:=h;unfold yU at hh;cases hs:(lk W P a).1 with
  |wt p=>rw[hs]at hh;exact i1 hh
  |wo ka=>
   rw[hs]at hh;dsimp only at hh
   repeat' split at hh
   ·exact i1 hh
   ·exact i1 hh
   ·exact ic hh
   ·exact ib hh
theorem xh{l:List Pt}:q∈D_ l↔q∈l:=by unfold D_;rw[yW];simp
theorem y6{A:Option Wv}{p:Pt}{L:Nat}:∀(xs pre:List Rd)(o3 o4:Option Wv)(st:Hs),(∀x∈xs,x.Ok)->pre.length+xs.length<=1000->st[L]? =some (.lst (pre.map Rd.w))->p∈gE xs->
  ∃st',dg 3 dX (xs.map Rd.w) [A,some (pw p),some (.ref L),o3,o4] st= .rt (.tup ((pre++cE xs p).map Rd.w)) st'/\bL L st st'
 |[],pre,o3,o4,st,_,_,_,h=>by cases h
 |x::xs,pre,o3,o4,st,ok,hl,hL,h=>by
  obtain⟨l,s1,e1,l1,_,g1⟩:=qh (its:=[x]) (st:=st) (λit hit=>ok it (by rw[List.mem_singleton.mp hit];simp)) (by simp);have e1:cH [.tup [x.w]] st= .ok (.ref l) s1:=e1;have i1:=Cm (bF l1) p;have um:p∈D_ ([x].flatMap rp)↔p∈rp x:=by rw[xh];simp
  have WO:=g1.get hL;rw[aK];unfold dg;rw[eh]at hl;by_cases c:p∈rp x
  ·rw[decide_eq_true (um.mpr c)]at i1;have ec:cE (x::xs) p=[Iq x p]:=by unfold cE;rw[if_pos c]
   have kl:∀w:Wv,sH [w] s1= .ok (.ref s1.length) (s1++[.lst [w]]):=λw=>jT (by simp[lim]);have ad:∀w:Wv,de (.ref L) (.ref s1.length) (s1++[.lst [w]])= .ok (.ref (s1.length+1)) (s1++[.lst [w]]++[.lst (pre.map Rd.w++[w])]):=λw=>by have:=add_l (st:=s1++[.lst [w]]) (l:=L) (k:=s1.length) (xs:=pre.map Rd.w) (ys:=[w]) (Gr.push.lst (bF WO)) cX (by rw[bP];simp[lim];omega);rw[this];simp
   have tp:∀w:Wv,jq [.ref (s1.length+1)] (s1++[.lst [w]]++[.lst (pre.map Rd.w++[w])])= .ok (.tup (pre.map Rd.w++[w])) (s1++[.lst [w]]++[.lst (pre.map Rd.w++[w])]):=λw=>by
    have:aG (s1++[.lst [w]]++[.lst (pre.map Rd.w++[w])]) (s1.length+1)=some (pre.map Rd.w++[w]):=by have:=cX (st:=s1++[.lst [w]]) (ws:=pre.map Rd.w++[w]);rw[show(s1++[Ob.lst [w]]).length=s1.length+1 from by simp]at this;exact this
    unfold jq;dsimp only;rw[this]
   have tr:∀st:Hs,oR (.bl true) st= .ok true st:=λ_=>rfl;cases x with
   |mG q=>refine⟨s1++[.lst [(Rd.mG q).w]]++[.lst (pre.map Rd.w++[(Rd.mG q).w])],?_,(g1.trans (Gr.push.trans Gr.push)).keep⟩;have i0:∀st:Hs,bq (Rd.mG q).w (.int 0) st= .ok (.str "at") st:=λ_=>rfl;unfold dX;simp[e1,i1,tr,i0,kl,ad,tp,ec,Iq,-kQ]
   |part a b c' e y=>refine⟨s1++[.lst [(Rd.part a b c' e p).w]]++[.lst (pre.map Rd.w++[(Rd.part a b c' e p).w])],?_,(g1.trans (Gr.push.trans Gr.push)).keep⟩;have i0:∀st:Hs,bq (Rd.part a b c' e y).w (.int 0) st= .ok (.str "part") st:=λ_=>rfl;have i2:∀st:Hs,bq (Rd.part a b c' e y).w (.int 1) st= .ok (tI [a,b,c',e]) st:=λ_=>rfl;have t1:(("part":S) == "at")=false:=rfl;have w1:Wv.tup [.str "part",tI [a,b,c',e],pw p]=(Rd.part a b c' e p).w:=rfl;unfold dX;simp[e1,i1,tr,i0,i2,t1,w1,kl,ad,tp,ec,Iq,-kQ]
  ·rw[decide_eq_false (λz=>c (um.mp z))]at i1;have ec:cE (x::xs) p=x::cE xs p:=by rw[cE,if_neg c]
   have hp:p∈gE xs:=by
    have e:gE (x::xs)=rp x++gE xs:=by simp[gE]
    rw[e]at h;exact(List.mem_append.mp h).resolve_left c
   have ap:=sJ (v:=x.w) WO (by rw[bP];unfold lim;omega);have km:∀ga ρ,B_ iz ga ρ (.ref L) s1=(ga ρ s1).bind λv st2=>(iz (.ref L) v st2).pW:=λga ρ=>mh (bF WO);have tr:∀st:Hs,oR (.bl false) st= .ok false st:=λ_=>rfl;obtain⟨s2,e2,k2⟩:=y6 (A:=A) (p:=p) (L:=L) xs (pre++[x]) (some x.w) (some (.bl false)) (s1.set L (.lst (pre.map Rd.w++[x.w]))) (λy hy=>ok y (bb _ hy)) (by rw[dA,J1];omega) (by rw[cC WO,dH];rfl) hp;refine⟨s2,?_,g1.keep.trans (bL.set.trans k2)⟩;have b1:dX ([A,some (pw p),some (.ref L),o3,o4].set 3 (some x.w)) st= .nx [A,some (pw p),some (.ref L),some x.w,some (.bl false)] (s1.set L (.lst (pre.map Rd.w++[x.w]))):=by unfold dX;simp[e1,i1,tr,km,ap]
   rw[b1];dsimp only;rw[e2,ec,kQ];rfl
theorem Mh(ok:∀x∈xs,x.Ok)(hl:xs.length<=1000)(h:p∈gE xs):∃st',iI [.tup (xs.map Rd.w),pw p] st= .ok (.tup ((cE xs p).map Rd.w)) st'/\Gr st st':=by obtain⟨s1,e1,k1⟩:=y6 (A:=some (.tup (xs.map Rd.w))) (p:=p) (L:=st.length) xs [] none none (st++[.lst []]) ok (by simpa using hl) eI h;refine⟨s1,?_,Gr.push.pv (aE _) k1⟩;rw[lX]at e1;unfold iI bB nk;simp[e1]
theorem Nb(s:Sd)(xs:List Rd)(st:Hs):bq (res s xs) (.int 2) st= .ok (.tup (xs.map Rd.w)) st:=by cases s<;>rfl
theorem Mi(h:aG st l=some (ps.map pw))(h':aG st k=some (ps.map pw)):xC (.ref l) (.ref k) st= .ok (.bl false) st :=
 HL (AB h) (AB h') (by simp only[aT];exact Ie _)
def El(W:Ws)(p:Pt):Ws:=W.filter λq=>decide (q.1≠p)
theorem Mj(W:Ws)(p:Pt):sr (iu W) (kO p)=iu (El W p):=by
 unfold sr iu El;rw[List.filter_map]
 congr 1
 refine List.filter_congr λq _=>?_;show decide (kO q.1≠kO p)=decide (q.1≠p);rw[decide_eq_decide];exact not_congr iK
theorem Vl(h:p∉W.map (·.1)):El W p=W:=by unfold El;refine List.filter_eq_self.mpr λq hq=>decide_eq_true λe=>h (List.mem_map.mpr ⟨q,hq,e⟩)
theorem Nc{p q:Pt}(hq:q≠p):∀W:Ws,wo (El W p) q=wo W q
 |[]=>rfl
 |x::r=>by
  have ih:=Nc hq r;unfold El at ih ⊢;rw[gW];by_cases c:x.1=p
  ·rw[if_neg (by simp[c]),ih];show _=if x.1=q then x.2 else wo r q
   rw[if_neg (λz=>hq (z.symm.trans c))]
  ·rw[if_pos (by simp[c])];show(if x.1=q then x.2 else wo _ q)=if x.1=q then x.2 else wo r q
   rw[ih]
theorem Vm(h:Q4 W):Q4 (El W p):=λq hq=>h q (List.mem_filter.mp hq).1
theorem Vn(h:tq a b)(hk:k < 12):qz (gp a b k).1 (gp a b k).2:=by obtain⟨h1,h2,h3,h4⟩:=h;show qz (a+(0+(k:Int)).fdiv 4) (b+(0+(k:Int)).fmod 4);rw[IA _ (by decide),IB _ (by decide)];unfold qz;omega
theorem GI.hash(h:GI a b 12 W P)(k:tq a b):mW ((iu W).map (·.1))=true:=by refine Ra (ps:=W.map (·.1)) (by unfold iu;rw[dC,dC];rfl) h.wn λp hp=>?_;obtain⟨q,hq,rfl⟩:=List.mem_map.mp hp;obtain⟨j,h1,h2⟩:=h.w q hq;rw[h2];exact Vn k h1
theorem Rb(a:Wo):∃d:PyData,(∀st:Hs,a_ st 20 a.w=some d)/\aT d d=true:=by
 cases a with
 |non=>exact⟨.none,λ_=>rfl,by simp[aT]⟩
 |int i=>exact⟨.int i,λ_=>rfl,MZ⟩
 |txt x=>exact⟨.str x,λ_=>rfl,M0⟩
 |kK x=>exact⟨.tuple [.str "fault",.str x],λ_=>rfl,HK⟩
theorem CH(hd:st[d]? =some (.et (iu W)))(h:GI a b 12 W P)(k:tq a b):n6 [.ref d] st= .ok (.ref st.length) (st++[.et (iu W)]):=Mg (by rw[hd];rfl) (h.hash k)
theorem Rc(h:st[d]? =some (.et (iu W)))(hp:p∈W.map (·.1))(e1:gd ρ st= .ok (.ref d) st)(e2:gk ρ st= .ok (pw p) st):uU gd gk ρ st= .ok (wo W p).w (st.set d (.et (iu (El W p)))):=by
 have v1:=xg W p;rw[decide_eq_true hp]at v1;obtain⟨w,hw⟩:=Option.isSome_iff_exists.mp v1;have v2:=wY W p;rw[hw]at v2;have e:Lh st (.ref d)=true:=by show(fQ st[d]?).isSome=true;rw[h];rfl
 unfold uU;rw[e1];show(if Lh st (.ref d)=true then _ else _)=_;rw[if_pos e,e2];show(match i9 (pw p),st[d]? with
  |some kk,some (.et kvs)=>(match d_ kvs kk with |some w=>Re.ok w (st.set d (.et (sr kvs kk))) |none=> .bad)
  |_,_=> .bad)=_
 rw[AE,h];dsimp only;rw[hw];dsimp only;rw[Mj,<-v2];rfl
section
variable {W:Ws}{P:List Pt}{d l R:Nat}{st:Hs}
theorem Eb{f:Fm}{A B:Int}(n:nu W P d l st)(g:GI A B 12 W P)(sp:tq A B)(ok:f.ok)(hd:f.dp<=5)(hs:f.sz<=400)(hR:st[R]? =some (.lst (rd.map pw)))(hk:rd[k]? =some p)(hp:p∈gE (lk W P f).2)(p0 p1 p6 p7 p8 Rf Rg p13 R1:Option Wv):
  ∃R4 R6 st',oy [p0,p1,some (.ref d),some (.ref l),some f.w,some (res (lk W P f).1 (lk W P f).2),p6,p7,p8,some (.ref R),Rf,Rg,some (.int k),p13,R1] st= .nx [p0,p1,some (.ref d),some (.ref l),some f.w,some (res (lk W P f).1 (lk W P f).2),p6,p7,p8,some (.ref R),Rf,Rg,some (.int k),R4,R6] st'/\Gr st st':=by
 have hP:P.length<=12:=g.pl;have tF:=Vm (p:=p) g.ok;have e1:=CH n.d g sp;have g1:Gr st (st++[.et (iu W)]):=Gr.push;have d1:(st++[Ob.et (iu W)])[st.length]? =some (.et (iu W)):=eI;have QL:∀s:Hs,Gr st s->bq (.ref R) (.int k) s= .ok (pw p) s:=λs gs=>mB (gs.lst (bF hR)) (by refine L2.lW ?_;rw[eo,hk];rfl);have i1:=M' d1 p;have s1:∃s2:Hs,Gr st s2/\s2[st.length]? =some (.et (iu (El W p)))/\(dS (bu (ao (qq false) (ao bq (ae 9) (ae 12)) (ae 13))) (kD (uU (ae 13) (ao bq (ae 9) (ae 12)))) aQ) [p0,p1,some (.ref d),some (.ref l),some f.w,some (res (lk W P f).1 (lk W P f).2),p6,p7,p8,some (.ref R),Rf,Rg,some (.int k),some (.ref st.length),R1] (st++[.et (iu W)])= .nx [p0,p1,some (.ref d),some (.ref l),some f.w,some (res (lk W P f).1 (lk W P f).2),p6,p7,p8,some (.ref R),Rf,Rg,some (.int k),some (.ref st.length),R1] s2:=by
  by_cases c:p∈W.map (·.1)
  ·rw[decide_eq_true c]at i1;refine⟨(st++[Ob.et (iu W)]).set st.length (.et (iu (El W p))),g1.pv (aE _) bL.set,cC d1,?_⟩;have pp:=Rc d1 c (gd:=ae 13) (gk:=ao bq (ae 9) (ae 12)) (ρ:=[p0,p1,some (.ref d),some (.ref l),some f.w,some (res (lk W P f).1 (lk W P f).2),p6,p7,p8,some (.ref R),Rf,Rg,some (.int k),some (.ref st.length),R1]) rfl (by simp[QL _ g1]);simp[QL _ g1,i1,pp]
  ·rw[decide_eq_false c]at i1;refine⟨st++[.et (iu W)],g1,by rw[Vl c];exact d1,?_⟩;simp[QL _ g1,i1]
 obtain⟨s2,g2,d2,e2⟩:=s1;have kl:sH [pw p] s2= .ok (.ref s2.length) (s2++[.lst [pw p]]):=jT (by simp[lim]);have g3:Gr s2 (s2++[Ob.lst [pw p]]):=Gr.push;have ad:=add_l (st:=s2++[.lst [pw p]]) (l:=l) (k:=s2.length) (xs:=P.map pw) (ys:=[pw p]) ((g2.trans g3).lst (bF n.l)) cX (by rw[bP];simp[lim];omega);have g4:Gr s2 (s2++[Ob.lst [pw p]]++[.lst (P.map pw++[pw p])]):=g3.trans Gr.push;have l4:(s2++[Ob.lst [pw p]]++[.lst (P.map pw++[pw p])])[(s2++[Ob.lst [pw p]]).length]? =some (.lst ((P++[p]).map pw)):=by rw[eI,dH];rfl
 generalize s2++[Ob.lst [pw p]]++[.lst (P.map pw++[pw p])]=s4 at ad g4 l4;obtain⟨s5,e5,g5⟩:=look (W:=El W p) (P:=P++[p]) (d:=st.length) (l:=.ref (s2++[Ob.lst [pw p]]).length) (f:=f) (st:=s4) tF.at ⟨g4.get d2,.inr ⟨_,rfl,.inl l4⟩⟩ ok hd hs;have hw:lk (El W p) (P++[p]) f=(.wt p,cE (lk W P f).2 p):=by
  refine halt (λq hq=>?_) ?_ f ok hp
  ·unfold dt;have:q∈P++[p]↔q∈P:=by simp[hq]
   rw[Nc hq];by_cases c:q∈P
   ·rw[if_pos c,if_pos (this.mpr c)]
   ·rw[if_neg c,if_neg (λz=>c (this.mp z))]
  ·unfold dt;rw[if_pos (by simp)]
 rw[hw]at e5;have lnx:(lk W P f).2.length<=1000:=by have:=(ff (d:=d) (l:=.ref l) (W:=W) (P:=P) g.ok.at f ok 10 (by omega)).2.1;omega
 obtain⟨s6,e6,g6⟩:=Mh (st:=s5) (xs:=(lk W P f).2) (p:=p) (kJ f ok) lnx hp;have g06:Gr st s5:=(g2.trans g4).trans g5;have r2:=Nb (lk W P f).1 (lk W P f).2;have ne:=yY (.wt p) (cE (lk W P f).2 p) (st:=s6);refine⟨some (.ref st.length),some (res (.wt p) (cE (lk W P f).2 p)),s6,?_,g06.trans g6⟩;generalize (lk W P f).1=sx at e2 r2 ⊢;generalize (lk W P f).2=xs at e2 e5 e6 r2 ne ⊢;have rs:res (.wt p) (cE xs p)= .tup [.str "waits",pw p,.tup ((cE xs p).map Rd.w)]:=rfl;rw[rs]at ne e5 ⊢;unfold oy;rw[yp,yq];have c1:ba n6 (aa (ae 2) aj) [p0,p1,some (.ref d),some (.ref l),some f.w,some (res sx xs),p6,p7,p8,some (.ref R),Rf,Rg,some (.int k),p13,R1] st= .ok (.ref st.length) (st++[.et (iu W)]):=by simp[e1]
 rw[c1];show(aI _ _ [p0,p1,some (.ref d),some (.ref l),some f.w,some (res sx xs),p6,p7,p8,some (.ref R),Rf,Rg,some (.int k),some (.ref st.length),R1] (st++[.et (iu W)]))=_;rw[yp,e2];simp[QL _ g2,kl,ad,e5,QL _ g06,r2,e6,ne,-dA]
end
section
variable {W:Ws}{P:List Pt}{d l:Nat}{st:Hs}
theorem Ec{L:Nat}(hl:st[l]? =some (.lst (P.map pw)))(hn:P.Nodup)(hP:P.length<=12)(hL:st[L]? =some (.et []))(h6:ρ[6]? =some (some (.ref L)))(h7:7 < ρ.length):
  ∃o st',forL 7 lO l (P.map pw) (P.map pw) ρ st= .nx (ρ.set 7 o) st'/\st'[L]? =some (.et (Ig P))/\bL L st st':=by
 have ne:l≠L:=λz=>by rw[z,hL]at hl;cases hl
 obtain⟨ρ',s1,e1,⟨⟨o,ho⟩,h1,k1⟩,_⟩:=sN pw (i:=7) (gb:=lO) (l:=l) (all:=P.map pw) P (λpre ρ' s=>(∃o,ρ'=ρ.set 7 o)/\s[L]? =some (.et (Ig pre))/\bL L st s)
  (by
   rintro a pre post _ s hf ⟨⟨o,rfl⟩,h1,k1⟩ ls;have nd:a∉pre:=by rw[hf,w5]at hn;exact λz=>hn.2.2 a z a bC rfl
   have ln:pre.length < 20:=by have:=congrArg fN hf;rw[dA]at this;omega
   have pk:lh (Ig pre) (kO a) (.bl true)=Ig (pre++[a]):=by have:=Iw (l:=pre) (p:=a);unfold lS at this;rw[if_neg nd]at this;exact this
   have e:putD (.ref L) (pw a) (.bl true) s=some (s.set L (.et (Ig (pre++[a])))):=by
    show(match s[L]? with
     |some (.dct kvs)=>(match keyOf (pw a)with |some kk=>if kvs.length < lim then some (s.set L (.dct (lh kvs kk (.bl true))))else none |none=>none)
     |some (.et kvs)=>(match i9 (pw a)with |some kk=>if kvs.length < lim then some (s.set L (.et (lh kvs kk (.bl true))))else none |none=>none)
     |_=>none)=_
    rw[h1];dsimp only;rw[AE];dsimp only;rw[if_pos (by unfold Ig;rw[bP];unfold lim;omega),pk]
   rw[Cr];have r6:(ρ.set 7 (some (pw a)))[6]? =some (some (.ref L)):=by rw[bN (by decide)];exact h6
   have r7:(ρ.set 7 (some (pw a)))[7]? =some (some (pw a)):=by rw[lT h7]
   refine⟨ρ.set 7 (some (pw a)),s.set L (.et (Ig (pre++[a]))),?_,(bL.set (l:=L)).lst ls ne,⟨_,rfl⟩,cC h1,k1.trans bL.set⟩;have v6:ae 6 (ρ.set 7 (some (pw a))) s= .ok (.ref L) s:=by unfold ae;rw[r6]
   have v7:ae 7 (ρ.set 7 (some (pw a))) s= .ok (pw a) s:=by unfold ae;rw[r7]
   unfold lO ju;rw[show gC (.bl true) (ρ.set 7 (some (pw a))) s= .ok (.bl true) s from rfl];show(ae 6 (ρ.set 7 (some (pw a))) s).bK _ _=_;rw[v6];show(ae 7 (ρ.set 7 (some (pw a))) s).bK _ _=_;rw[v7];show(match putD (.ref L) (pw a) (.bl true) s with |some uA=>Rs.nx _ uA |none=> .bad)=_
   rw[e])
  P [] ρ st rfl ⟨⟨ρ[7],by simp⟩,hL,bL.refl⟩ (bF hl)
 exact⟨o,s1,by rw[<-ho];exact e1,h1,k1⟩
end
theorem law_true(ns:List Int)(hn:ns.length<=63):∃st,F_law [.ref 0] [.rO ns]= .ok (.bl true) st:=by
 have h0:aG [.rO ns] 0=some (ns.map Wv.int):=rfl;obtain⟨A,B,s1,e1,sp,more,rfl⟩:=spot (st:=[.rO ns]) h0;have g1:Gr [.rO ns] ([.rO ns]++more):=Gr.app;generalize [Ob.rO ns]++more=s1 at e1 g1;obtain⟨W,P,d,l,s2,e2,k2,gi,g2⟩:=known (a:=A) (b:=B) (g1.lst h0) hn;have tF:=gi.ok.at;have h2:=(g1.trans g2).lst h0;obtain⟨n0,e3⟩:=stream h2 hn (k:=0) (by decide) (by decide);obtain⟨f,s4,e4,Nd,fsz,fdp,dw4⟩:=qR (r:=s2.length) (st:=s2++[.lst [.int n0]]) sp 5 (k:=3) ⟨n0,eI⟩ (by decide);have g4:Gr s2 s4:=Gr.push.pv (aE _) dw4.1;have k4:=k2.gr g4;have sz:f.sz<=40:=fsz;have lok:=kJ (W:=W) (P:=P) f Nd;have lnx:(lk W P f).2.length<=80:=by have:=(ff (d:=d) (l:=.ref l) (W:=W) (P:=P) tF f Nd 10 (by omega)).2.1;omega
 obtain⟨s5,e5,g5⟩:=look tF k4.kn Nd (by omega) (by omega);have k5:=k4.gr g5;have g6:Gr s5 (s5++[Ob.et []]):=Gr.push;obtain⟨o7,s7,e7,l7,kp7⟩:=Ec (ρ:=[some (.ref 0),some (tI [A,B]),some (.ref d),some (.ref l),some f.w,some (res (lk W P f).1 (lk W P f).2),some (.ref s5.length),none,none,none,none,none,none,none,none]) (L:=s5.length) (k5.gr g6).l gi.pn gi.pl eI rfl (by simp);have g7:Gr s5 s7:=g6.pv (aE _) kp7;have k7:=k5.gr g7;have e8:=CH k7.d gi sp;have g8:Gr s7 (s7++[Ob.et (iu W)]):=Gr.push;have d8:(s7++[Ob.et (iu W)])[s7.length]? =some (.et (iu W)):=eI;generalize s7++[Ob.et (iu W)]=s8 at e8 g8 d8;have k8:=k7.gr g8;have l8:=g8.get l7;have tp:jq [.ref l] s8= .ok (.tup (P.map pw)) s8:=by unfold jq;dsimp only;rw[bF k8.l]
 obtain⟨s9,e9,g9⟩:=look (W:=W) (P:=P) (d:=s7.length) (l:=.tup (P.map pw)) (f:=f) (st:=s8) tF ⟨d8,.inl rfl⟩ Nd (by omega) (by omega);obtain⟨Jb,XX,VY⟩:=look (W:=W) (P:=P) (d:=s7.length) (l:=.ref s5.length) (f:=f) (st:=s9) tF ⟨g9.get d8,.inr ⟨_,rfl,.inr (g9.get l8)⟩⟩ Nd (by omega) (by omega);have Ml:=g9.trans VY;have Zh:=k8.gr Ml;have ne1:Ac (.ref s7.length) (.ref d) Jb= .ok (.bl false) Jb:=(eq_self (kvs:=iu W) (by rw[Ml.get d8];rfl) (by rw[Zh.d];rfl) λkv hkv=>by unfold iu at hkv;obtain⟨q,_,rfl⟩:=List.mem_map.mp hkv;exact Rb q.2).2;have ld:=M_ (l:=P) (d:=s5.length) (st:=Jb) (Ml.get l8);have WQ:Gr Jb (Jb++[.lst (P.map pw)]):=Gr.push;have ne2:=Mi (l:=Jb.length) (k:=l) (ps:=P) (st:=Jb++[.lst (P.map pw)]) cX (WQ.lst (bF Zh.l));generalize Jb++[.lst (P.map pw)]=s11 at ld WQ ne2;have k11:=Zh.gr WQ;obtain⟨R,s12,P9,WR,_,g12⟩:=qh (its:=(lk W P f).2) (st:=s11) lok (by omega);have k12:=k11.gr g12;have gA:Gr [.rO ns] s12:=((((((g1.trans g2).trans g4).trans g5).trans g7).trans g8).trans Ml).trans (WQ.trans g12);obtain⟨V,Q,o,e,s13,xi,k13,oi,g13⟩:=otherwise (a:=A) (b:=B) (gA.lst h0) hn k12 WR gi;obtain⟨Rh,e14,g14⟩:=look oi.g.ok.at k13.kn Nd (by omega) (by omega);have same:lk V Q f=lk W P f:=tG f Nd λq hq=>oi.all gi (xh.mpr hq);rw[same]at e14;have Nf:=g13.trans g14;obtain⟨rd,hrd⟩:∃rd,rd=D_ ((lk W P f).2.flatMap rp):=⟨_,rfl⟩;rw[<-hrd]at WR;have rm:∀p∈rd,p∈gE (lk W P f).2:=λp hp=>xh.mp (by rw[hrd]at hp;exact hp);have rl:rd.length<=24000:=by have q1:=CD (l:=(lk W P f).2.flatMap rp);have q2:=AL lok;rw[hrd];omega
 obtain⟨ρ,s15,ML,Zi,R4,R6,rfl,g15⟩:=mi (i:=12) (gb:=oy) (λk ρ s=>∃Zi R4 R6,ρ=[some (.ref 0),some (tI [A,B]),some (.ref d),some (.ref l),some f.w,some (res (lk W P f).1 (lk W P f).2),some (.ref s5.length),o7,some (.ref s7.length),some (.ref R),some (.ref o),some (.ref e),Zi,R4,R6]/\Gr s12 s)
  (cU 0 rd.length) 0 [some (.ref 0),some (tI [A,B]),some (.ref d),some (.ref l),some f.w,some (res (lk W P f).1 (lk W P f).2),some (.ref s5.length),o7,some (.ref s7.length),some (.ref R),some (.ref o),some (.ref e),none,none,none] Rh ⟨none,none,none,rfl,Nf⟩ (by
   rintro j w hw _ s ⟨Zi,R4,R6,rfl,gs⟩;have hj:j < rd.length:=by have q:=(List.getElem?_eq_some_iff.mp hw).1;rw[c7]at q;exact q
   rw[jm hj]at hw;cases hw;have hk:rd[j]? =some rd[j]:=cA hj;obtain⟨r13,r14,s',e',g'⟩:=Eb (R:=R) (rd:=rd) (k:=j) (k12.gr gs) gi sp Nd (by omega) (by omega) (gs.get WR) hk (rm _ (vX hj)) (some (.ref 0)) (some (tI [A,B])) (some (.ref s5.length)) o7 (some (.ref s7.length)) (some (.ref o)) (some (.ref e)) R4 R6;exact⟨_,s',by rw[show(0+(j:Int))=j from Int.zero_add _];exact e',some (.int j),r13,r14,rfl,gs.trans g'⟩)
 refine⟨s15,?_⟩;have sT:mI [2,3] (aA 2 dE (aa (ae 0) (aa (ae 1) aj))) [some (.ref 0),some (tI [A,B]),none,none,none,none,none,none,none,none,none,none,none,none,none] s1= .nx [some (.ref 0),some (tI [A,B]),some (.ref d),some (.ref l),none,none,none,none,none,none,none,none,none,none,none] s2:=by have c2:aA 2 dE (aa (ae 0) (aa (ae 1) aj)) [some (.ref 0),some (tI [A,B]),none,none,none,none,none,none,none,none,none,none,none,none,none] s1= .ok (.tup [.ref d,.ref l]) s2:=e2;unfold mI;rw[c2];rfl
 change aW [.ref s2.length,tI [A,B],.int 3] (s2++[.lst [.int n0]])=_ at e4;have r2:=Nb (lk W P f).1 (lk W P f).2;have sU:mI [10,11] (aA 5 bY (aa (ae 0) (aa (ae 1) (aa (ae 9) (aa (ae 2) (aa (ae 3) aj)))))) [some (.ref 0),some (tI [A,B]),some (.ref d),some (.ref l),some f.w,some (res (lk W P f).1 (lk W P f).2),some (.ref s5.length),o7,some (.ref s7.length),some (.ref R),none,none,none,none,none] s12= .nx [some (.ref 0),some (tI [A,B]),some (.ref d),some (.ref l),some f.w,some (res (lk W P f).1 (lk W P f).2),some (.ref s5.length),o7,some (.ref s7.length),some (.ref R),some (.ref o),some (.ref e),none,none,none] s13:=by have c2:aA 5 bY (aa (ae 0) (aa (ae 1) (aa (ae 9) (aa (ae 2) (aa (ae 3) aj))))) [some (.ref 0),some (tI [A,B]),some (.ref d),some (.ref l),some f.w,some (res (lk W P f).1 (lk W P f).2),some (.ref s5.length),o7,some (.ref s7.length),some (.ref R),none,none,none,none,none] s12= .ok (.tup [.ref o,.ref e]) s13:=xi;unfold mI;rw[c2];rfl
 have nt:∀(ρ:b7)(st:Hs),kE ρ st= .ok (.ref st.length) (st++[.et []]):=λ_ _=>rfl;have rs:=λs=>yY (lk W P f).1 (lk W P f).2 (st:=s);have ln:uR [.ref R] Rh= .ok (.int rd.length) Rh:=by
  have w:=Nf.get WR;have e:fQ Rh[R]? =none:=by rw[w];rfl
  show(match fQ Rh[R]? with |some kvs=>Re.ok (Wv.int kvs.length) Rh |none=>jO [.ref R] Rh)=_
  rw[e];dsimp only;rw[sI (bF w),bP]
 have cr:dM (rd.length:Int):=HJ (by omega) (by omega);have fl:=wx (i:=7) (gb:=lO) (ρ:=[some (.ref 0),some (tI [A,B]),some (.ref d),some (.ref l),some f.w,some (res (lk W P f).1 (lk W P f).2),some (.ref s5.length),none,none,none,none,none,none,none,none]) (bF (k5.gr g6).l);rw[e7]at fl;clear e7 same;generalize (lk W P f).1=sx at *;generalize (lk W P f).2=xs at *;unfold F_law bB HS;simp only[yp,yq,Yo,B8,HF,yt,e_c,Am,Al,HE,aU,aK,jJ,AK,lX,HZ,HY,Ci,Cg,HC,wq];simp[e1,sT,e3,e4,e5,nt,fl,e8,tp,e9,rs,XX,ne1,ld,ne2,r2,P9,sU,e14,ln,cr,ML]
end K20
namespace PySem.W.Fast
def tw16616933857432924886:=()
def tw2999600229514019939:=()
def tw8417334179128578784:=()
def tw1960249654576269389:=()
def tw6283004905810698294:=()
def tw8676241862200881332:=()
def tw4073044435091601953:=()
def tw6998535873638887049:=()
def tw3031315265088383275:=()
def tw6102220684216299632:=()
def tw15096553667154629235:=()
def tw7287056297881125030:=()
def tw18287777573940077180:=()
def tw7430400859192340109:=()
def tw1836513600976352366:=()
def tw8751235667900904744:=()
def tw7981969208650546171:=()
def tw14297379101322902737:=()
def tw10649184450798300310:=()
def tw119428053231021248:=()
def tw1219955907795021759:=()
def tw15170144357782621689:=()
def tw7033278739523464417:=()
def tw16138431500383290757:=()
def tw17843579944653875823:=()
def tw13285564487193732590:=()
def tw5795064751613007938:=()
def tw5074832812632224007:=()
def tw1370795341984860596:=()
def tw17166862090287912393:=()
def tw18259368297639649200:=()
def tw5343252172469814886:=()
def tw14198473342650539228:=()
def tw11181938278073044903:=()
def tw1883334860264320422:=()
def tw16703024506404952442:=()
def tw11218705683333607770:=()
def tw7191830489785347405:=()
def tw11829300674448612835:=()
def tw364310449133972457:=()
def tw6746204972025359939:=()
def tw13734385528926180232:=()
def tw1782629207615047729:=()
def tw1702489654654323510:=()
def tw2859318580128127813:=()
def tw6339082691302873176:=()
def tw13508190472045924654:=()
def tw11880524890020843020:=()
def tw12401656054887860403:=()
def tw15956849529358473123:=()
def tw8884749331898822671:=()
def tw4932123320639659422:=()
def tw17133310322547933289:=()
def tw3783641210913524958:=()
def tw12736239405710310545:=()
def tw14694746424762678863:=()
def tw10288062223655383023:=()
def tw2241916793473580384:=()
def tw10453547104487659798:=()
def tw18284484725984254850:=()
def tw6329681878033565666:=()
def tw8058863582573931417:=()
def tw17950258729585987774:=()
def tw4900853383247653794:=()
def tw16489307993390861156:=()
def tw3034544740098437161:=()
def tw1333302888537000276:=()
def tw1455414078688283379:=()
def tw1395454437368164917:=()
def tw14221200569576109251:=()
def tw7652929170878243437:=()
def tw11596784922739677983:=()
def tw16239497185599724887:=()
def tw17409525813384222180:=()
def tw2159323115541991099:=()
def tw675960087441345142:=()
def tw6711701360921595970:=()
def tw13200698052638457343:=()
def tw14774953156771561247:=()
def tw4025143810886124348:=()
def tw7885240473231481773:=()
def tw6700788829420165241:=()
def tw10738149369527018856:=()
def tw5539112785099023879:=()
def tw14878734451544344834:=()
def tw8951879685511204835:=()
def tw10798007588577832184:=()
def tw2316387685717031030:=()
def tw6601864995849356990:=()
def tw3783767739437906364:=()
def tw3777993166849529928:=()
def tw15672010908907903151:=()
def tw11553019216256565685:=()
def tw14335068018654255405:=()
def tw18277018323318908061:=()
def tw935801345325501816:=()
def tw3284915400726865794:=()
def tw8455779227729616717:=()
def tw18230092357304801097:=()
def tw17764851279670805483:=()
def tw5758389456913628744:=()
def tw17058207754028325942:=()
def tw10714773602982350744:=()
def tw8476247329758650251:=()
def tw13878302790079256823:=()
def tw1148333456593216103:=()
def tw13090059471108743176:=()
def tw12288191554177590816:=()
def tw7326693012058812969:=()
def tw6114113697694541182:=()
def tw14816643418076862271:=()
def tw15297320606193228040:=()
def tw657813511281363912:=()
def tw12454886043034625866:=()
def tw14568645046688865294:=()
def tw15580100419018972830:=()
def tw12720797755665098144:=()
def tw9569061766052939632:=()
def tw18150035261670182469:=()
def tw15658356364763330074:=()
def tw3144816565477399685:=()
def tw11133735924083237273:=()
def tw4256645189382266405:=()
def tw10279230091442589886:=()
def tw4788664514082737801:=()
def tw4634855565537728105:=()
def tw7791150056900315416:=()
def tw1565764891304578168:=()
def tw4798076869315045230:=()
def tw13271392203652437574:=()
def tw5191314338425287691:=()
def tw12526926230951877093:=()
def tw10399426191014808975:=()
def tw10137554292735205051:=()
def tw7218214134068319074:=()
def tw9653047924717447734:=()
def tw9016480654121186391:=()
def tw15905573758088039237:=()
def tw6888195667412820220:=()
def tw8447185473560387068:=()
def tw3714436424248949485:=()
def tw15682264955992888427:=()
def tw13164941747974458462:=()
def tw14139166460528289799:=()
def tw14538465724610173204:=()
def tw13475877071918177389:=()
def tw5549844124772406132:=()
def tw1166722355467060628:=()
def tw12615692881855734676:=()
def tw15953847353392188751:=()
def tw7888848563004002651:=()
def tw17742372466530921919:=()
def tw10103696836335983059:=()
def tw866815538473351443:=()
def tw1316091057531845585:=()
def tw5490937970640286856:=()
def tw14588356192916619311:=()
def tw5904025361776860360:=()
def tw14553294081790279486:=()
def tw13245569612137361812:=()
def tw14375364224147835664:=()
def tw9211027092129940465:=()
end PySem.W.Fast
namespace K20
open PySem PySem.W PyProof.Rows
set_option maxHeartbeats 0 in
open_top head for PySem.Challenge.rw_onelook_k20_whole_a_look_hangs_on_its_re
open PySem J
open PySem.W (nsIn mg_of mg_none_of)
open L2 (defScope defBody defArgs FnScope CX0 FnOk XK Hp)
set_option autoImplicit true in
theorem all_mk {l:PySem.W.OpenLaw} {w:World} {K:PySem.W.Frag} {h:Heap} {mg:Str → Option Value} {fa:Addr} (X:K.In h) (G:h.Ns mainGlobals mg) (hfa:mg "law" = some (.ref fa))
        {tk0:Tok}{Zj:aed}{de0:Nat}{Ng Nh Ni Nj Nk Nl Nm Nn Np Nq ID IE IF IG IH II IJ IK IL IM IP:Int}{Vo Vp Vq Vr Vs Vt Vu Vv Vw Vx Ri Rj Rk Rl Rm Rp Rq Rr Rt Ru Rv Vy Vz VA VB VC VD VE VF VG VH Rw Rx Ry Rz RA RB RC RD RE RF RG:Tok}
    (d1:J.bw K "_law_cell_at" fR)
    (d2:J.bw K "_law_spot" iT)
    (d3:J.bw K "_law_digit" h_)
    (d4:J.bw K "_law_worth" ie)
    (d5:J.bw K "_law_mixed" ig)
    (d6:J.bw K "_law_stream" gI)
    (d7:J.bw K "_law_known" ij)
    (d8:J.bw K "_law_area" iU)
    (d9:J.bw K "_law_pins" iV)
    (Zk:J.bw K "_law_number" gJ)
    (Zl:J.bw K "_law_place" il)
    (Zm:J.bw K "_law_leaf" iW)
    (WS:J.bw K "_law_formula" fT)
    (Zn:J.Hz K "Look" "Look.__init__" eK)
    (Zo:J.bw K "part_many" iX)
    (Zp:J.bw K "parts_of" j_)
    (Zq:J.bw K "places_between" eL)
    (Zr:J.yo K "Look" "standing" "Look.standing" eN)
    (Zs:J.bw K "halts" qP)
    (WJ:J.bw K "is_fault" ke)
    (WK:J.bw K "same_worth" ip)
    (Zt:J.bw K "fits" wM)
    (Zu:J.yo K "Look" "stretch" "Look.stretch" fv)
    (Zv:J.bw K "is_great" kg)
    (Zw:J.bw K "fault" qQ)
    (Zx:J.bw K "bounded" mn)
    (Zy:J.bw K "gathered" kj)
    (Zz:J.bw K "gathered_standing" dj)
    (ZA:J.yo K "Look" "cell" "Look.cell" iq)
    (WM:J.bw K "number_of" iY)
    (WN:J.bw K "single" oj)
    (ZC:J.bw K "reckoned" ku)
    (ZD:J.bw K "text_of" mq)
    (ZE:J.bw K "joined" om)
    (ZF:J.bw K "less" wR)
    (ZG:J.bw K "paired" ou)
    (WT:J.bw K "if_standing" gK)
    (WU:J.bw K "else_standing" fA)
    (WV:J.bw K "find_standing" fB)
    (WW:J.bw K "reckoned_standing" dm)
    (WX:J.bw K "gone_through" fV)
    (ZH:J.bw K "look_at" mv)
    (ZI:J.bw K "item_places" gL)
    (ZJ:J.bw K "places_read" gN)
    (ZK:J.bw K "_law_otherwise" eQ)
    (ZL:J.bw K "_law_cut" kx)
    (ZM:J.bw K "law" Cc)
    (WY:J.Own K "Look" "worths")
    (WZ:J.Own K "Look" "waiting")
    (R7:J.Own K "Look" "met")
    (z0:nsIn K aet "len"=some none)
    (z1:nsIn K aet "range"=some none)
    (z2:nsIn K aet "sum"=some none)
    (z3:nsIn K aet "tuple"=some none)
    (z4:nsIn K aet "isinstance"=some none)
    (z5:nsIn K aet "abs"=some none)
    (z6:nsIn K aet "int"=some none)
    (z7:nsIn K aet "min"=some none)
    (z8:nsIn K aet "max"=some none)
    (z9:nsIn K aet "str"=some none)
    (ZN:nsIn K aet "list"=some none)
    (ZO:nsIn K aet "dict"=some none)
    (v0:nsIn K aet "MOST_JOINED"=some (some (.int 200 tk0)))
    (ZP:nsIn K aet "PART_COUNTS"=some (some (.ref Zj))) (ZQ:K.lookup Zj=some ⟨.type "dict",none,.dict #[⟨Ng,.str "num" Vo,.int 0 Vy⟩,⟨Nh,.str "text" Vp,.int 0 Vz⟩,⟨Ni,.str "lost" Vq,.int 0 VA⟩,⟨Nj,.str "at" Vr,.int 0 VB⟩,⟨Nk,.str "minus" Vs,.int 1 VC⟩,⟨Nl,.str "not" Vt,.int 1 VD⟩,⟨Nm,.str "+" Vu,.int 2 VE⟩,⟨Nn,.str "-" Vv,.int 2 VF⟩,⟨Np,.str "*" Vw,.int 2 VG⟩,⟨Nq,.str "/" Vx,.int 2 VH⟩,⟨ID,.str "&" Ri,.int 2 Rw⟩,⟨IE,.str "<" Rj,.int 2 Rx⟩,⟨IF,.str "=" Rk,.int 2 Ry⟩,⟨IG,.str "rest" Rl,.int 2 Rz⟩,⟨IH,.str "if" Rm,.int 3 RA⟩,⟨II,.str "else" Rp,.int 2 RB⟩,⟨IJ,.str "sum" Rq,.int 0 RC⟩,⟨IK,.str "count" Rr,.int 0 RD⟩,⟨IL,.str "least" Rt,.int 0 RE⟩,⟨IM,.str "greatest" Ru,.int 0 RF⟩,⟨IP,.str "find" Rv,.int 1 RG⟩] de0,#[]⟩) (ZR:(Zj == sysModules)=false) (IQ:Ng=hashStr w "num") (IS:Nh=hashStr w "text") (IT:Ni=hashStr w "lost") (IU:Nj=hashStr w "at") (IV:Nk=hashStr w "minus") (IW:Nl=hashStr w "not") (IX:Nm=hashStr w "+") (IY:Nn=hashStr w "-") (IZ:Np=hashStr w "*") (I0:Nq=hashStr w "/") (AR:ID=hashStr w "&") (AS:IE=hashStr w "<") (AU:IF=hashStr w "=") (AV:IG=hashStr w "rest") (AX:IH=hashStr w "if") (AY:II=hashStr w "else") (AZ:IJ=hashStr w "sum") (A0:IK=hashStr w "count") (A1:IL=hashStr w "least") (A2:IM=hashStr w "greatest") (A3:IP=hashStr w "find")
     :
    ∃fd:aef,(∀(s:aei)(u:aej),BindsTo s fd ⟨[u],[]⟩ [("script",u)])/\∀base:Heap,K.In base->base.Ns aet mg->FnOk l.prog w K mg base (CXJ l.prog w) 17 fa fd ["script"] (spW K 1 F_law):=by
  refine J.LL X G hfa ZM (λ_ _ _ _ _ _ s u=> .of_eq rfl) (λf fd Fu base kb nb=>?_);have Z0:=mg_none_of kb nb z0;have Z1:=mg_none_of kb nb z1;have Z2:=mg_none_of kb nb z2;have Z3:=mg_none_of kb nb z3;have Z4:=mg_none_of kb nb z4;have Z5:=mg_none_of kb nb z5;have Z6:=mg_none_of kb nb z6;have Z7:=mg_none_of kb nb z7;have Z8:=mg_none_of kb nb z8;have Z9:=mg_none_of kb nb z9;have Z10:=mg_none_of kb nb ZN;have Z11:=mg_none_of kb nb ZO;have V0:=mg_of kb nb v0;have TB:TabOk K mx jA yy:=J.Qw trivial trivial trivial;have H1:J.eV l.prog w K mg base 1 "_law_cell_at" 2 bR:=J.aP (ps:=["script","k"]) kb nb d1 (J.aJ (c:=iD) (k:=0) trivial ⟨Z0,trivial⟩ trivial TB trivial trivial trivial) qr rfl sO (λ_ _ _ _ _ _ us hl=>J.ln2 us hl λ_ _=>rfl);have H2:J.eV l.prog w K mg base 2 "_law_spot" 1 gQ:=J.aP (ps:=["script"]) kb nb d2 (J.aJ (c:=lu) (k:=1) trivial trivial ⟨H1.mono (by decide),trivial⟩ TB trivial trivial trivial) wy rfl yz (λ_ _ _ _ _ _ us hl=>J.u6 us hl λ_=>rfl);have H3:J.eV l.prog w K mg base 1 "_law_digit" 2 aB:=J.aP (ps:=["row","many"]) kb nb d3 (J.aJ (c:=jV) (k:=0) trivial trivial trivial TB trivial trivial trivial) tW rfl wz (λ_ _ _ _ _ _ us hl=>J.ln2 us hl λ_ _=>rfl);have H4:J.eV l.prog w K mg base 2 "_law_worth" 1 dD:=J.aP (ps:=["row"]) kb nb d4 (J.aJ (c:=jX) (k:=1) trivial trivial ⟨H3.mono (by decide),trivial⟩ TB trivial trivial trivial) tX rfl wA (λ_ _ _ _ _ _ us hl=>J.u6 us hl λ_=>rfl);have H5:J.eV l.prog w K mg base 1 "_law_mixed" 2 fS:=J.aP (ps:=["cell","k"]) kb nb d5 (J.aJ (c:=jZ) (k:=0) trivial trivial trivial TB trivial trivial trivial) tY rfl wB (λ_ _ _ _ _ _ us hl=>J.ln2 us hl λ_ _=>rfl);have H6:J.eV l.prog w K mg base 2 "_law_stream" 2 b8:=J.aP (ps:=["script","k"]) kb nb d6 (J.aJ (c:=ja) (k:=1) trivial ⟨Z1,Z0,Z2,trivial⟩ ⟨H5.mono (by decide),H1.mono (by decide),trivial⟩ TB trivial trivial trivial) sP rfl tZ (λ_ _ _ _ _ _ us hl=>J.ln2 us hl λ_ _=>rfl);have H7:J.eV l.prog w K mg base 3 "_law_known" 2 dE:=J.aP (ps:=["script","spot"]) kb nb d7 (J.aJ (c:=j7) (k:=2) trivial ⟨Z1,trivial⟩ ⟨H4.mono (by decide),H3.mono (by decide),H6.mono (by decide),H1.mono (by decide),trivial⟩ TB trivial trivial trivial) t8 rfl wC (λ_ _ _ _ _ _ us hl=>J.ln2 us hl λ_ _=>rfl);have H8:J.eV l.prog w K mg base 2 "_law_area" 2 dy:=J.aP (ps:=["row","spot"]) kb nb d8 (J.aJ (c:=lz) (k:=1) trivial trivial ⟨H3.mono (by decide),trivial⟩ TB trivial trivial trivial) wF rfl yA (λ_ _ _ _ _ _ us hl=>J.ln2 us hl λ_ _=>rfl);have H9:J.eV l.prog w K mg base 2 "_law_pins" 2 b9:=J.aP (ps:=["row","many"]) kb nb d9 (J.aJ (c:=lC) (k:=1) trivial ⟨Z3,Z1,trivial⟩ ⟨H3.mono (by decide),trivial⟩ TB trivial trivial trivial) wG rfl yB (λ_ _ _ _ _ _ us hl=>J.ln2 us hl λ_ _=>rfl);have RW:J.eV l.prog w K mg base 2 "_law_number" 1 e_:=J.aP (ps:=["row"]) kb nb Zk (J.aJ (c:=jc) (k:=1) trivial trivial ⟨H3.mono (by decide),trivial⟩ TB trivial trivial trivial) sQ rfl t9 (λ_ _ _ _ _ _ us hl=>J.u6 us hl λ_=>rfl);have H11:J.eV l.prog w K mg base 2 "_law_place" 2 dF:=J.aP (ps:=["row","spot"]) kb nb Zl (J.aJ (c:=j9) (k:=1) trivial trivial ⟨H3.mono (by decide),trivial⟩ TB trivial trivial trivial) t_ rfl wH (λ_ _ _ _ _ _ us hl=>J.ln2 us hl λ_ _=>rfl);have H12:J.eV l.prog w K mg base 3 "_law_leaf" 2 fJ:=J.aP (ps:=["row","spot"]) kb nb Zm (J.aJ (c:=lE) (k:=2) trivial trivial ⟨H3.mono (by decide),H8.mono (by decide),H9.mono (by decide),RW.mono (by decide),H11.mono (by decide),trivial⟩ TB trivial trivial trivial) wI rfl yC (λ_ _ _ _ _ _ us hl=>J.ln2 us hl λ_ _=>rfl);have G13:∀n:Nat,J.eV l.prog w K mg base (3+n) "_law_formula" 3 (b_ n):=λn=>by
    induction n with
    |zero=>exact J.ma (ps:=["row","spot","deep"]) kb nb WS (λ_ _ _ _ _ _ us hl=>J.Jd us hl λ_ _ _=>rfl)
    |succ n ih=>exact J.hdf kb nb WS (J.tk (c:=(lF (b_ n))) (k:=(3+n)) TB ⟨H3.mo,ih,H12.mo,H8.mo,H9.mo,trivial⟩) (qu (b_ n)) (sR (b_ n))
  have H13:J.eV l.prog w K mg base 9 "_law_formula" 3 aW:=(G13 6);have H14:J.yc l.prog w K mg base 2 "Look" 3 bV:=J.LM (ps:=["self","worths","waiting"]) kb nb Zn (J.aJ (c:=f') (k:=0) trivial trivial trivial TB trivial trivial trivial (hx:=J.mY.no rfl rfl rfl rfl rfl rfl (J.lp trivial trivial ⟨WY,WZ,R7,trivial⟩))) n_ rfl pz (λ_ _ _ _ _ _ us hl=>J.Jd us hl λ_ _ _=>rfl);have H15:J.eV l.prog w K mg base 1 "part_many" 1 gR:=J.aP (ps:=["word"]) kb nb Zo (J.aJ (c:=lH) (k:=0) trivial trivial trivial TB trivial trivial ⟨⟨_,_,_,mg_of kb nb ZP,ZQ,ZR,⟨⟨IQ,⟨_,rfl⟩,⟨_,rfl⟩⟩,⟨IS,⟨_,rfl⟩,⟨_,rfl⟩⟩,⟨IT,⟨_,rfl⟩,⟨_,rfl⟩⟩,⟨IU,⟨_,rfl⟩,⟨_,rfl⟩⟩,⟨IV,⟨_,rfl⟩,⟨_,rfl⟩⟩,⟨IW,⟨_,rfl⟩,⟨_,rfl⟩⟩,⟨IX,⟨_,rfl⟩,⟨_,rfl⟩⟩,⟨IY,⟨_,rfl⟩,⟨_,rfl⟩⟩,⟨IZ,⟨_,rfl⟩,⟨_,rfl⟩⟩,⟨I0,⟨_,rfl⟩,⟨_,rfl⟩⟩,⟨AR,⟨_,rfl⟩,⟨_,rfl⟩⟩,⟨AS,⟨_,rfl⟩,⟨_,rfl⟩⟩,⟨AU,⟨_,rfl⟩,⟨_,rfl⟩⟩,⟨AV,⟨_,rfl⟩,⟨_,rfl⟩⟩,⟨AX,⟨_,rfl⟩,⟨_,rfl⟩⟩,⟨AY,⟨_,rfl⟩,⟨_,rfl⟩⟩,⟨AZ,⟨_,rfl⟩,⟨_,rfl⟩⟩,⟨A0,⟨_,rfl⟩,⟨_,rfl⟩⟩,⟨A1,⟨_,rfl⟩,⟨_,rfl⟩⟩,⟨A2,⟨_,rfl⟩,⟨_,rfl⟩⟩,⟨A3,⟨_,rfl⟩,⟨_,rfl⟩⟩,trivial⟩,by decide+kernel⟩,trivial⟩) wJ rfl yD (λ_ _ _ _ _ _ us hl=>J.u6 us hl λ_=>rfl);have H16:J.eV l.prog w K mg base 2 "parts_of" 1 cq:=J.aP (ps:=["formula"]) kb nb Zp (J.aJ (c:=m7) (k:=1) trivial trivial ⟨H15.mono (by decide),trivial⟩ TB trivial trivial trivial) yE rfl An (λ_ _ _ _ _ _ us hl=>J.u6 us hl λ_=>rfl);have H17:J.eV l.prog w K mg base 1 "places_between" 1 bW:=J.aP (ps:=["area"]) kb nb Zq (J.aJ (c:=gj) (k:=0) trivial ⟨Z1,trivial⟩ trivial TB trivial trivial trivial) oe rfl pA (λ_ _ _ _ _ _ us hl=>J.u6 us hl λ_=>rfl);have H18:J.tU l.prog w K mg base 1 "Look" "standing" 2 bD:=J.wk (ps:=["self","place"]) Zr (J.aJ (c:=gw) (k:=0) trivial trivial trivial TB trivial trivial trivial (hx:=J.mY.no rfl rfl rfl rfl rfl rfl (J.lp trivial trivial ⟨WY,WZ,trivial⟩))) og rfl pB (λ_ _ _ _ _ _ us hl=>J.ln2 us hl λ_ _=>rfl);have R9:J.eV l.prog w K mg base 1 "halts" 1 cg:=J.aP (ps:=["standing"]) kb nb Zs (J.aJ (c:=wK) (k:=0) trivial ⟨Z4,Z3,trivial⟩ trivial TB trivial trivial trivial) HM rfl LR (λ_ _ _ _ _ _ us hl=>J.u6 us hl λ_=>rfl);have RH:J.eV l.prog w K mg base 1 "is_fault" 1 aX:=J.aP (ps:=["worth"]) kb nb WJ (J.aJ (c:=m8) (k:=0) trivial ⟨Z4,Z3,trivial⟩ trivial TB trivial trivial trivial) yF rfl Ao (λ_ _ _ _ _ _ us hl=>J.u6 us hl λ_=>rfl);have H21:J.eV l.prog w K mg base 2 "same_worth" 2 eO:=J.aP (ps:=["one","other"]) kb nb WK (J.aJ (c:=kf) (k:=1) trivial trivial ⟨RH.mono (by decide),trivial⟩ TB trivial trivial trivial) ua rfl wL (λ_ _ _ _ _ _ us hl=>J.ln2 us hl λ_ _=>rfl);have H22:J.eV l.prog w K mg base 3 "fits" 2 m_:=J.aP (ps:=["standing","key"]) kb nb Zt (J.aJ (c:=Aq) (k:=2) trivial trivial ⟨H21.mono (by decide),trivial⟩ TB trivial trivial trivial) LS rfl QD (λ_ _ _ _ _ _ us hl=>J.ln2 us hl λ_ _=>rfl);have H23:J.tU l.prog w K mg base 4 "Look" "stretch" 3 bI:=J.wk (ps:=["self","area","key"]) Zu (J.aJ (c:=gZ) (k:=3) trivial trivial ⟨H17.mono (by decide),R9.mono (by decide),H22.mono (by decide),trivial⟩ TB trivial trivial trivial (hx:=J.mY.no rfl rfl rfl rfl rfl rfl (J.lp ⟨H18.mono (by decide),trivial⟩ trivial ⟨R7,trivial⟩))) pC rfl qv (λ_ _ _ _ _ _ us hl=>J.Jd us hl λ_ _ _=>rfl);have H24:J.eV l.prog w K mg base 1 "is_great" 1 iE:=J.aP (ps:=["number"]) kb nb Zv (J.aJ (c:=nh) (k:=0) trivial ⟨Z5,trivial⟩ trivial TB trivial trivial trivial) yG rfl Ar (λ_ _ _ _ _ _ us hl=>J.u6 us hl λ_=>rfl);have Mm:J.eV l.prog w K mg base 1 "fault" 1 bQ:=J.aP (ps:=["word"]) kb nb Zw (J.aJ (c:=wN) (k:=0) trivial trivial trivial TB trivial trivial trivial) HN rfl LU (λ_ _ _ _ _ _ us hl=>J.u6 us hl λ_=>rfl);have ZS:J.eV l.prog w K mg base 2 "bounded" 1 bX:=J.aP (ps:=["number"]) kb nb Zx (J.aJ (c:=pE) (k:=1) trivial trivial ⟨H24.mono (by decide),Mm.mono (by decide),trivial⟩ TB trivial trivial trivial) As rfl DX (λ_ _ _ _ _ _ us hl=>J.u6 us hl λ_=>rfl);have H27:J.eV l.prog w K mg base 3 "gathered" 2 gy:=J.aP (ps:=["word","worths"]) kb nb Zy (J.aJ (c:=ni) (k:=2) trivial ⟨Z0,Z4,Z6,Z2,Z7,Z8,trivial⟩ ⟨ZS.mono (by decide),Mm.mono (by decide),RH.mono (by decide),trivial⟩ TB trivial trivial trivial) yH rfl Au (λ_ _ _ _ _ _ us hl=>J.ln2 us hl λ_ _=>rfl);have H28:J.eV l.prog w K mg base 5 "gathered_standing" 3 bS:=J.aP (ps:=["word","area","look"]) kb nb Zz (J.aJ (c:=eT) (k:=4) trivial trivial ⟨R9.mono (by decide),H27.mono (by decide),trivial⟩ TB trivial trivial trivial (hx:=J.mY.no rfl rfl rfl rfl rfl rfl (J.lp ⟨H23.mono (by decide),trivial⟩ trivial trivial))) lK rfl mD (λ_ _ _ _ _ _ us hl=>J.Jd us hl λ_ _ _=>rfl);have H29:J.tU l.prog w K mg base 2 "Look" "cell" 2 cD:=J.wk (ps:=["self","place"]) ZA (J.aJ (c:=kr) (k:=1) trivial trivial trivial TB trivial trivial trivial (hx:=J.mY.no rfl rfl rfl rfl rfl rfl (J.lp ⟨H18.mono (by decide),trivial⟩ trivial ⟨R7,trivial⟩))) ub rfl wO (λ_ _ _ _ _ _ us hl=>J.ln2 us hl λ_ _=>rfl);have ZT:J.eV l.prog w K mg base 1 "number_of" 1 cF:=J.aP (ps:=["worth"]) kb nb WM (J.aJ (c:=lL) (k:=0) trivial trivial trivial TB trivial trivial trivial) wQ rfl yI (λ_ _ _ _ _ _ us hl=>J.u6 us hl λ_=>rfl);have H31:J.eV l.prog w K mg base 3 "single" 2 dq:=J.aP (ps:=["word","one"]) kb nb WN (J.aJ (c:=sV) (k:=2) trivial ⟨Z4,Z9,trivial⟩ ⟨RH.mono (by decide),ZT.mono (by decide),Mm.mono (by decide),ZS.mono (by decide),trivial⟩ TB trivial trivial trivial) DY rfl HP (λ_ _ _ _ _ _ us hl=>J.ln2 us hl λ_ _=>rfl);have H32:J.eV l.prog w K mg base 3 "reckoned" 3 cK:=J.aP (ps:=["op","number","other"]) kb nb ZC (J.aJ (c:=nj) (k:=2) trivial trivial ⟨ZS.mono (by decide),Mm.mono (by decide),trivial⟩ TB trivial trivial trivial) yJ rfl Av (λ_ _ _ _ _ _ us hl=>J.Jd us hl λ_ _ _=>rfl);have H33:J.eV l.prog w K mg base 1 "text_of" 1 fK:=J.aP (ps:=["worth"]) kb nb ZD (J.aJ (c:=pF) (k:=0) trivial ⟨Z9,trivial⟩ trivial TB trivial trivial trivial) Aw rfl DZ (λ_ _ _ _ _ _ us hl=>J.u6 us hl λ_=>rfl);have H34:J.eV l.prog w K mg base 2 "joined" 2 oq:=J.aP (ps:=["one","other"]) kb nb ZE (J.aJ (c:=sW) (k:=1) ⟨⟨_,V0⟩,trivial⟩ ⟨Z0,trivial⟩ ⟨H33.mono (by decide),Mm.mono (by decide),trivial⟩ TB trivial trivial trivial) D0 rfl HQ (λ_ _ _ _ _ _ us hl=>J.ln2 us hl λ_ _=>rfl);have H35:J.eV l.prog w K mg base 2 "less" 2 wV:=J.aP (ps:=["one","other"]) kb nb ZF (J.aJ (c:=Ax) (k:=1) trivial ⟨Z4,Z9,Z6,trivial⟩ ⟨Mm.mono (by decide),ZT.mono (by decide),H33.mono (by decide),trivial⟩ TB trivial trivial trivial) LV rfl QE (λ_ _ _ _ _ _ us hl=>J.ln2 us hl λ_ _=>rfl);have H36:J.eV l.prog w K mg base 4 "paired" 3 cL:=J.aP (ps:=["op","one","other"]) kb nb ZG (J.aJ (c:=sX) (k:=3) trivial ⟨Z4,Z9,trivial⟩ ⟨RH.mono (by decide),H32.mono (by decide),H34.mono (by decide),H35.mono (by decide),Mm.mono (by decide),ZT.mono (by decide),H21.mono (by decide),trivial⟩ TB trivial trivial trivial) D3 rfl HR (λ_ _ _ _ _ _ us hl=>J.Jd us hl λ_ _ _=>rfl);have VI:∀n:Nat,J.eV l.prog w K mg base (5+n) "if_standing" 2 (aF n)/\J.eV l.prog w K mg base (5+n) "else_standing" 2 (ay n)/\J.eV l.prog w K mg base (5+n) "find_standing" 2 (az n)/\J.eV l.prog w K mg base (5+n) "reckoned_standing" 2 (ag n)/\J.eV l.prog w K mg base (5+n) "gone_through" 2 (ax n):=λn=>by
    induction n with
    |zero=>exact⟨J.ma (ps:=["formula","look"]) kb nb WT (λ_ _ _ _ _ _ us hl=>J.ln2 us hl λ_ _=>rfl),J.ma (ps:=["formula","look"]) kb nb WU (λ_ _ _ _ _ _ us hl=>J.ln2 us hl λ_ _=>rfl),J.ma (ps:=["formula","look"]) kb nb WV (λ_ _ _ _ _ _ us hl=>J.ln2 us hl λ_ _=>rfl),J.ma (ps:=["formula","look"]) kb nb WW (λ_ _ _ _ _ _ us hl=>J.ln2 us hl λ_ _=>rfl),J.ma (ps:=["formula","look"]) kb nb WX (λ_ _ _ _ _ _ us hl=>J.ln2 us hl λ_ _=>rfl)⟩
    |succ n ih=>exact⟨J.aP (ps:=["formula","look"]) kb nb WT (J.aJ (c:=(mM (aF n) (ay n) (az n) (ag n) (ax n))) (k:=(5+n)) trivial trivial ⟨ih.2.2.2.2,R9.mono (by omega),H31.mono (by omega),RH.mono (by omega),trivial⟩ TB trivial trivial trivial) (sY (aF n) (ay n) (az n) (ag n) (ax n)) rfl (uc (aF n) (ay n) (az n) (ag n) (ax n)) (λ_ _ _ _ _ _ us hl=>J.ln2 us hl λ_ _=>rfl),J.aP (ps:=["formula","look"]) kb nb WU (J.aJ (c:=(kH (aF n) (ay n) (az n) (ag n) (ax n))) (k:=(5+n)) trivial trivial ⟨ih.2.2.2.2,RH.mono (by omega),trivial⟩ TB trivial trivial trivial) (pG (aF n) (ay n) (az n) (ag n) (ax n)) rfl (qw (aF n) (ay n) (az n) (ag n) (ax n)) (λ_ _ _ _ _ _ us hl=>J.ln2 us hl λ_ _=>rfl),J.aP (ps:=["formula","look"]) kb nb WV (J.aJ (c:=(kI (aF n) (ay n) (az n) (ag n) (ax n))) (k:=(5+n)) trivial ⟨Z0,trivial⟩ ⟨ih.2.2.2.2,R9.mono (by omega),Mm.mono (by omega),H22.mono (by omega),trivial⟩ TB trivial trivial trivial (hx:=J.mY.no rfl rfl rfl rfl rfl rfl (J.lp ⟨H23.mono (by omega),H29.mono (by omega),trivial⟩ trivial trivial))) (pH (aF n) (ay n) (az n) (ag n) (ax n)) rfl (qx (aF n) (ay n) (az n) (ag n) (ax n)) (λ_ _ _ _ _ _ us hl=>J.ln2 us hl λ_ _=>rfl),J.aP (ps:=["formula","look"]) kb nb WW (J.aJ (c:=(hI (aF n) (ay n) (az n) (ag n) (ax n))) (k:=(5+n)) trivial ⟨Z0,trivial⟩ ⟨H16.mono (by omega),H36.mono (by omega),R9.mono (by omega),H31.mono (by omega),ih.2.2.2.2,trivial⟩ TB trivial trivial trivial) (lM (aF n) (ay n) (az n) (ag n) (ax n)) rfl (mE (aF n) (ay n) (az n) (ag n) (ax n)) (λ_ _ _ _ _ _ us hl=>J.ln2 us hl λ_ _=>rfl),J.aP (ps:=["formula","look"]) kb nb WX (J.aJ (c:=(lN (aF n) (ay n) (az n) (ag n) (ax n))) (k:=(5+n)) trivial trivial ⟨H16.mono (by omega),H28.mono (by omega),Mm.mono (by omega),ih.1,ih.2.1,ih.2.2.1,ih.2.2.2.1,trivial⟩ TB trivial trivial trivial (hx:=J.mY.no rfl rfl rfl rfl rfl rfl (J.lp ⟨H29.mono (by omega),trivial⟩ trivial trivial))) (qy (aF n) (ay n) (az n) (ag n) (ax n)) rfl (sZ (aF n) (ay n) (az n) (ag n) (ax n)) (λ_ _ _ _ _ _ us hl=>J.ln2 us hl λ_ _=>rfl)⟩
  have H37:J.eV l.prog w K mg base 15 "if_standing" 2 aC:=(VI 10).1;have H38:J.eV l.prog w K mg base 15 "else_standing" 2 au:=(VI 10).2.1;have H39:J.eV l.prog w K mg base 15 "find_standing" 2 av:=(VI 10).2.2.1;have H40:J.eV l.prog w K mg base 15 "reckoned_standing" 2 af:=(VI 10).2.2.2.1;have H41:J.eV l.prog w K mg base 15 "gone_through" 2 ai:=(VI 10).2.2.2.2;have H42:J.eV l.prog w K mg base 16 "look_at" 3 dU:=J.aP (ps:=["formula","worths","waiting"]) kb nb ZH (J.aJ (c:=pJ) (k:=15) trivial ⟨Z3,trivial⟩ ⟨H41.mono (by decide),R9.mono (by decide),RH.mono (by decide),trivial⟩ TB trivial trivial trivial (hx:=J.mY.no rfl rfl rfl rfl rfl rfl (J.lp trivial ⟨H14.mono (by decide),trivial⟩ ⟨R7,trivial⟩))) Ay rfl D4 (λ_ _ _ _ _ _ us hl=>J.Jd us hl λ_ _ _=>rfl);have H43:J.eV l.prog w K mg base 2 "item_places" 1 dW:=J.aP (ps:=["item"]) kb nb ZI (J.aJ (c:=jd) (k:=1) trivial trivial ⟨H17.mono (by decide),trivial⟩ TB trivial trivial trivial) s_ rfl ud (λ_ _ _ _ _ _ us hl=>J.u6 us hl λ_=>rfl);have H44:J.eV l.prog w K mg base 3 "places_read" 1 cH:=J.aP (ps:=["reads"]) kb nb ZJ (J.aJ (c:=jf) (k:=2) trivial ⟨Z10,trivial⟩ ⟨H43.mono (by decide),trivial⟩ TB trivial trivial trivial) tm rfl ue (λ_ _ _ _ _ _ us hl=>J.u6 us hl λ_=>rfl);have H45:J.eV l.prog w K mg base 3 "_law_otherwise" 5 bY:=J.aP (ps:=["script","spot","read","worths","waiting"]) kb nb ZK (J.aJ (c:=gD) (k:=2) trivial ⟨Z1,trivial⟩ ⟨H6.mono (by decide),H4.mono (by decide),H3.mono (by decide),trivial⟩ TB trivial trivial trivial) ow rfl pK (λ_ _ _ _ _ _ us hl=>J.ln5 us hl λ_ _ _ _ _=>rfl);have H46:J.eV l.prog w K mg base 4 "_law_cut" 2 iI:=J.aP (ps:=["items","place"]) kb nb ZL (J.aJ (c:=nr) (k:=3) trivial ⟨Z3,trivial⟩ ⟨H44.mono (by decide),trivial⟩ TB trivial trivial trivial) yK rfl Az (λ_ _ _ _ _ _ us hl=>J.ln2 us hl λ_ _=>rfl);exact J.Qt Fu (J.aJ (c:=HU) (k:=16) trivial ⟨Z11,Z1,Z0,Z10,Z3,trivial⟩ ⟨H2.mono (by decide),H7.mono (by decide),H13.mono (by decide),H42.mono (by decide),H44.mono (by decide),H45.mono (by decide),H6.mono (by decide),H46.mono (by decide),trivial⟩ TB trivial trivial trivial) QF rfl UG
end K20
open PySem PySem.W PyProof.Rows
set_option maxRecDepth 100000 in
set_option maxHeartbeats 0 in
theorem PySem.Challenge.cw_onelook_k20_whole_a_look_hangs_on_its_re_holds : PySem.Challenge.rw_onelook_k20_whole_a_look_hangs_on_its_re.Holds := by
  refine K20.head ?_
  k_fill
  refine L2.walk_of (l:=PySem.Challenge.rw_onelook_k20_whole_a_look_hangs_on_its_re) (n:=63) (k:=17) (x:="script") (CX:=fun w => J.CXJ PySem.Challenge.rw_onelook_k20_whole_a_look_hangs_on_its_re.prog w) (sp:=fun w => J.spW _ 1 K20.F_law) rfl (by decide) rfl ⟨rfl,by decide,by decide⟩ (fun w h Y => PySem.W.kIn_of Y) ?F (fun w H a ns hl hO hS => J.law_sp K20.law_true H a ns hl (J.OnlyT.of hO) hS (J.tb_none ?Ta ?Tb ?Tc ?Td ?Te)) (fun _ _ _ _ _ z => z.elim fun _ y => y.elim fun _ x => x.2)
  case F=>
    intro w mg fa h KX G hmg;refine' K20.all_mk KX G hmg ?d1 ?d2 ?d3 ?d4 ?d5 ?d6 ?d7 ?d8 ?d9 ?Zk ?Zl ?Zm ?WS ?Zn ?Zo ?Zp ?Zq ?Zr ?Zs ?WJ ?WK ?Zt ?Zu ?Zv ?Zw ?Zx ?Zy ?Zz ?ZA ?WM ?WN ?ZC ?ZD ?ZE ?ZF ?ZG ?WT ?WU ?WV ?WW ?WX ?ZH ?ZI ?ZJ ?ZK ?ZL ?ZM ?WY ?WZ ?R7 ?z0 ?z1 ?z2 ?z3 ?z4 ?z5 ?z6 ?z7 ?z8 ?z9 ?ZN ?ZO ?v0 ?ZP ?ZQ ?ZR ?IQ ?IS ?IT ?IU ?IV ?IW ?IX ?IY ?IZ ?I0 ?AR ?AS ?AU ?AV ?AX ?AY ?AZ ?A0 ?A1 ?A2 ?A3
    case d1 |d2 |d3 |d4 |d5 |d6 |d7 |d8 |d9 |Zk |Zl |Zm |WS=>refine' J.rX ?a ?l ?c ?k;(case a=>k_is);(case l=>k_is);(case c=>k_is);(case k=>k_is)
    case Zn=>refine' J.Qu ?a ?b ?e ?i ?l ?c ?k ?n;(case a=>k_is);(case b=>k_is);(case e=>k_is);(case i=>k_is);(case l=>k_is);(case c=>k_is);(case k=>k_is);(case n=>k_is)
    case Zo |Zp |Zq=>refine' J.rX ?a ?l ?c ?k;(case a=>k_is);(case l=>k_is);(case c=>k_is);(case k=>k_is)
    case Zr=>refine' J.Ak ?a ⟨?p,?h,?o,?s⟩ ?i ?l ?c ?k ?n;(case a=>k_is);(case p=>k_is);(case h=>k_is);(case o=>k_is);(case s=>k_is);(case i=>k_is);(case l=>k_is);(case c=>k_is);(case k=>k_is);(case n=>k_is)
    case Zs |WJ |WK |Zt=>refine' J.rX ?a ?l ?c ?k;(case a=>k_is);(case l=>k_is);(case c=>k_is);(case k=>k_is)
    case Zu=>refine' J.Ak ?a ⟨?p,?h,?o,?s⟩ ?i ?l ?c ?k ?n;(case a=>k_is);(case p=>k_is);(case h=>k_is);(case o=>k_is);(case s=>k_is);(case i=>k_is);(case l=>k_is);(case c=>k_is);(case k=>k_is);(case n=>k_is)
    case Zv |Zw |Zx |Zy |Zz=>refine' J.rX ?a ?l ?c ?k;(case a=>k_is);(case l=>k_is);(case c=>k_is);(case k=>k_is)
    case ZA=>refine' J.Ak ?a ⟨?p,?h,?o,?s⟩ ?i ?l ?c ?k ?n;(case a=>k_is);(case p=>k_is);(case h=>k_is);(case o=>k_is);(case s=>k_is);(case i=>k_is);(case l=>k_is);(case c=>k_is);(case k=>k_is);(case n=>k_is)
    case WM |WN |ZC |ZD |ZE |ZF |ZG |WT |WU |WV |WW |WX |ZH |ZI |ZJ |ZK |ZL |ZM=>refine' J.rX ?a ?l ?c ?k;(case a=>k_is);(case l=>k_is);(case c=>k_is);(case k=>k_is)
    case WY |WZ |R7=>refine' J.Qv ?a ⟨?p,?h,?o,?s⟩ ?n;(case a=>k_is);(case p=>k_is);(case h=>k_is);(case o=>k_is);(case s=>k_is);(case n=>k_is)
    case z0 |z1 |z2 |z3 |z4 |z5 |z6 |z7 |z8 |z9 |ZN |ZO |v0 |ZP |ZQ=>k_is
    case ZR |IQ |IS |IT |IU |IV |IW |IX |IY |IZ |I0 |AR |AS |AU |AV |AX |AY |AZ |A0 |A1 |A2 |A3=>rfl
  (case Ta=>k_is)
  (case Tb=>k_is)
  (case Tc=>k_is)
  (case Td=>k_is)
  (case Te=>k_is)
