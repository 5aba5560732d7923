import PyProof.Rows.All
import Wide.All
import OpenK.AllK
import Wide.FinOn
import Lean
import PyProof.EqAt
import PyProof.EqKinds
import PyProof.TupleCall
import PySem.Challenge.RW_onelook_k07_whole_areas_by_names
open PySem.Around renaming under_plainId→L5
open Array renaming Perm→Be,all_eq_true_iff_forall_mem→FP,forIn_toList→Fz,getD_eq_getD_getElem?→F1,getElem?_eq_getElem→jm,getElem?_toList→fc,length_toList→gq,mem_of_getElem?→L3,size_setIfInBounds→Iz,toList_append→bH,toList_eraseIdxIfInBounds→IA,toList_extract→gN,toList_push→f_,toList_reverse→kC,toList_setIfInBounds→rn
open Array.Perm renaming trans→Bd
open PySem.AutoSeq1 renaming sub_tuple_tuple→IY
open Bool renaming and_eq_true→bf,and_false→zR,eq_iff_iff→nC,false_eq_true→i9,false_ne_true→bG,or_eq_true→Ao
open PySem.Builtin.List renaming listTooLong→nN
open PySem.Builtin.Slice renaming sliceAdjust→zK,sliceApplied→GU,slicePlaces→uZ
open PySem.Builtin.Str renaming occurrences→gK,partsBetween→Bk,strKind→IL,strSub→IM
open PySem.Builtin.Tuple renaming tupleExact→u0,tupleHashOf→uM,tupleIsExact→IH,tupleItemsOf→zu
open PySem.Calls renaming Name_function_global→Gn,call_function_entry→IU,evalArgs_plain→G5,spliced_nil→zH
open Classical renaming byContradiction→BB,propDecidable→AH
open PySem.EntryCells renaming newEntry→Hh
open PyProof.Rows.F renaming entry_set_update_loop→Je,plain_set_update_loop→BF
open PySem.F renaming typeOf_object_class→AL
open False renaming elim→aa
open ForInStep renaming yield→i7
open PySem.Heap renaming MadeExcOf→Aa,SameBut→lS,get?_push_of_some→aU,get?_push_size→cO,get?_update_other→nI,get?_update_self→qG,lt_size→aE,size_push→AW,size_update→vE
open PySem.Heap.SameBut renaming update→BD
open Int renaming fmod_add_fdiv_mul→JV,fmod_lt_of_pos→v7,fmod_nonneg_of_pos→v5,le_of_lt→dI,le_refl→cw,le_trans→cP,mul_le_mul_of_nonneg_right→JX,toNat_natCast→wb
open List.Pairwise renaming imp_of_mem→BL
open List renaming all_cons→bT,all_eq_true→vI,any_cons→qJ,append_assoc→bp,append_nil→dE,cons_append→CG,contains_cons→AM,countP_cons→vA,drop_append→kA,drop_append_of_le_length→vt,drop_eq_getElem_cons→ji,drop_length→AF,drop_of_length_le→eJ,drop_sublist→eI,drop_take→vq,drop_zero→cK,eq_nil_of_length_eq_zero→Ai,eraseIdx_append_of_length_le→IB,extract_eq_take_drop→gO,filterMap_cons→i_,filterMap_map→zM,filter_cons_of_neg→AV,filter_cons_of_pos→AU,findIdx?_eq_some_iff_getElem→IP,flatMap_cons→pd,flatMap_nil→wd,flatten_cons→nK,foldl_cons→nL,getD_eq_getElem?_getD→A7,getElem?_append_left→fg,getElem?_append_right→jb,getElem?_drop→eK,getElem?_eq_getElem→cm,getElem?_eq_none→rC,getElem?_map→cU,getElem?_of_mem→cu,getElem?_replicate→DI,getElem?_set_ne→kP,getElem?_set_self→kO,getElem?_take_of_lt→cL,getElem?_toArray→Eu,getElem_of_mem→xf,getElem_set_self→Ey,getElem_toArray→rH,length→fB,length_append→aP,length_cons→cM,length_drop→bL,length_map→bV,length_set→wC,length_singleton→wD,length_take→aD,lookup_cons→dU,map_append→nu,map_cons→aI,map_map→cz,map_nil→qM,mem_append_left→fz,mem_append_right→cg,mem_cons→xh,mem_cons_of_mem→aN,mem_cons_self→aX,mem_of_getElem?→jN,nil_append→ir,nodup_cons→xJ,not_mem_nil→xi,of_mem_zip→wt,pairwise_append→bu,pairwise_cons→rL,pairwise_iff_getElem→EB,pairwise_map→rP,perm_append_comm→gA,range→av,range_succ→xg,range_succ_eq_map→wZ,replicate→aY,replicate_succ→gv,reverse_append→fK,reverse_reverse→rj,size_toArray→aH,take_append_drop→br,take_append_of_le_length→rp,take_of_length_le→bO,take_sublist→dm,take_succ_eq_append_getElem→rf,toArray→eC
open PySem.NameKind renaming cell→dw,free→dv
open Nat renaming add_assoc→eS,add_comm→wF,add_sub_cancel→fM,add_sub_cancel_left→fI,add_zero→lD,le_add_left→dW,le_add_right→aQ,le_antisymm→iA,le_of_eq→qN,le_of_lt→bq,le_of_lt_succ→cn,le_of_not_lt→wG,le_refl→ai,le_succ→fD,le_trans→bt,lt_irrefl→gn,lt_of_le_of_lt→lq,lt_of_le_of_ne→bP,lt_of_lt_of_le→aL,lt_succ_of_lt→jS,lt_trans→du,min_eq_left→iE,min_le_right→wu,ne_of_gt→qA,ne_of_lt→a6,pos_of_ne_zero→fL,sub_eq_zero_of_le→Ex,sub_le→iC,sub_self→kU,succ_le_succ→ij,zero_add→bw,zero_le→aA
open Ne renaming symm→cT
open PySem.Obj renaming data_mapFields→wI,isFreed_of_fields→DY,mapFields→kT,mapSeq→bM,putSet→nr
open Option renaming map_some→k_,toList_some→EW
open Or renaming inr→jO
open PySem.PassesOwn renaming leaving→Fg
open Prod renaming ext→qD
open PySem.PyData renaming canLayAll0→mX,depthAll→ig,eqv→aZ,eqvAll→dO,int→sF,list→wN,strOk→aC,tuple→wM
open PyProof.Rows renaming callWith_builtin1→DJ,callWith_type1→qB,slot_tuple_getitem→qE,Keyed→Vd,SortSt→Ve,oneType'→Vf,wpS_bind→Vg,wpS_forRange→Vh,wpS_mono→Vi,wpS_pure→Vj
open PySem.SeqAt.EqAt renaming int_none→Dk,int_str→Dj,none_int→Dn,none_str→Dp,same→Dq,str_int→Dl,str_none→Dm
open PyProof.Rows.SortSt renaming mk'→ao
open PySem.Str renaming ofString→wz
open PySem.StrLaws renaming subAt_one→Fp
open Subtype renaming ext→wj
open PySem.Txt renaming slice→fN,split→bW
open PySem.Value renaming bool→mY,builtin→m7,int→kM,isStrOf→qt,none→dk,ref→bg,str→mW,type→jL
open PySem renaming Addr→UN,Around→UO,FuncData→UP,NameKind→UQ,Program→UR,Shared→US,Value→UT,World→UU,behindInMarks→UW,binaryOp→UX,bootBuiltins→UY,codeAny→UZ,compPost→U0,compareOp→U1,foldedSetIterable→U2,isSubtype_type→U3,mainGlobals→U4,sizeLine→U5,starEach→U6,wpAny→U7,wpAny_bind→U8,wpAny_holding→U9,wpAny_mono→U_,wpAny_newList→U',wpAny_newObj_type→Va,wpAny_pure→Vb,wpAny_truthy_bool→Vc
noncomputable section
set_option Elab.async false
set_option linter.all false
set_option maxRecDepth 100000
namespace L2
open PySem PySem.Spec PyProof.Rows
inductive Key where
 | inl (i:Int) | inr (x:Str) | bS
 deriving DecidableEq
def nz:Key->UT->Bool
 | .inl k,v=>Value.isInt k v
 | .inr x,v=>qt x v
 | .bS,v=>(match v with | .none=>true | _=>false)
def Di(w:UU):Key->Int
 | .inl k=>hashInt k
 | .inr x=>hashStr w x
 | .bS=>reduceHash 4238894112
theorem b9:∀{k:Key}{v:UT},nz k v=true->(∃i t,k=Key.inl i/\v=kM i t)\/(∃x t,k=Key.inr x/\v=mW x t)\/(k=Key.bS/\v=dk)
 | .inl i,v,h=>by
  obtain⟨t,e⟩:=Value.isInt_shape (k:=i) (v:=v) h
  exact .inl ⟨i,t,rfl,e⟩
 | .inr x,v,h=>by
  obtain⟨t,e⟩:=Value.isStrOf_shape (x:=x) (v:=v) h
  exact .inr (.inl ⟨x,t,rfl,e⟩)
 | .bS,v,h=>by
  cases v<;>first | exact .inr (.inr ⟨rfl,rfl⟩) | (unfold nz at h;cases h)
theorem xQ(i:Int)(t:Tok):nz (.inl i) (.int i t)=true:=by simp[nz,Value.isInt]
theorem xR(x:Str)(t:Tok):nz (.inr x) (.str x t)=true:=by simp[nz,qt]
theorem Gb(a b:Int):decide ((Key.inl a:Key)=Key.inl b)=(a == b):=by
 by_cases e:a=b
 ·subst e;simp
 ·have h:¬(Key.inl a:Key)=Key.inl b:=λq=>e (Key.inl.inj q)
  rw[decide_eq_false h]
  exact(beq_eq_false_iff_ne.mpr e).symm
theorem Gd(a b:Str):decide ((Key.inr a:Key)=Key.inr b)=decide (a=b):=by
 by_cases e:a=b
 ·subst e;simp
 ·have h:¬(Key.inr a:Key)=Key.inr b:=λq=>e (Key.inr.inj q)
  rw[decide_eq_false h,decide_eq_false e]
theorem nB{prog:UR}{w:UU}{A:UO}{E:UT->US->Prop}{s:US}{Q:Int->US->Prop}(h:Q (reduceHash 4238894112) { s with toks:=s.toks+1 }):U7 (model prog w) A (PySem.pyHash .none) Q E s :=
 PySem.W.pyHash_slot (T:="NoneType") rfl F.slot_NoneType_hash F.entry_NoneType_hash (F.args_NoneType_hash_1 _) (beq_builtin_none _) (.inl rfl) (U8 (Vb (U8 (wpAny_mkInt (Vb ⟨_,_,rfl,h⟩)))))
def aW(prog:UR)(w:UU):PySem.KeyKind prog w Key where
 is:=nz
 hash:=Di w
 inj:=λv a b ha hb=>by
  rcases b9 ha with ⟨i,t,rfl,rfl⟩ | ⟨x,t,rfl,rfl⟩ | ⟨rfl,rfl⟩<;>rcases b9 hb with ⟨j,u,rfl,e⟩ | ⟨y,u,rfl,e⟩ | ⟨rfl,e⟩<;>cases e<;>rfl
 byValue:=λk v h=>by
  rcases b9 h with ⟨i,t,rfl,rfl⟩ | ⟨x,t,rfl,rfl⟩ | ⟨rfl,rfl⟩<;>rfl
 pyHash:=λhv h=>by
  rcases b9 hv with ⟨i,t,rfl,rfl⟩ | ⟨x,t,rfl,rfl⟩ | ⟨rfl,rfl⟩
  ·exact wpAny_pyHash_int h
  ·exact wpAny_pyHash_str h
  ·exact nB h
 eqBool:=λ{A E s a b u v Q} hu hv h=>by
  have no:a≠b->Q false s:=λn=>by rw[decide_eq_false n] at h;exact h
  rcases b9 hu with ⟨i,t,rfl,rfl⟩ | ⟨x,t,rfl,rfl⟩ | ⟨rfl,rfl⟩<;>rcases b9 hv with ⟨j,u,rfl,rfl⟩ | ⟨y,u,rfl,rfl⟩ | ⟨rfl,rfl⟩
  ·rw[Gb] at h;exact wpAny_eqBool_int h
  ·exact Dj i t y u _ _ _ _ (no nofun)
  ·exact Dk i t _ _ _ _ (no nofun)
  ·exact Dl x t j u _ _ _ _ (no nofun)
  ·rw[Gd] at h;exact wpAny_eqBool_str h
  ·exact Dm x t _ _ _ _ (no nofun)
  ·exact Dn j u _ _ _ _ (no nofun)
  ·exact Dp y u _ _ _ _ (no nofun)
  ·exact Dq .none _ _ _ _ (by simpa using h)
 «strs»:=λk x t v h=>by
  rcases b9 h with ⟨i,u,rfl,e⟩ | ⟨y,u,rfl,e⟩ | ⟨rfl,e⟩<;>cases e
  cases v<;>rfl
theorem sH(prog:UR)(w:UU)(i:Int)(t:Tok):(aW prog w).is (.inl i) (.int i t)=true:=xQ i t
theorem sI(prog:UR)(w:UU)(x:Str)(t:Tok):(aW prog w).is (.inr x) (.str x t)=true:=xR x t
end L2
namespace NK
open PySem L2
def kd:Nat->PyData->Bool
 | _,.none=>true
 | _,.int _=>true
 | _,.str x=>aC x
 | n+1,.tuple xs=>xs.all (kd n)
 | _,_=>false
def kh(w:UU):Nat->PyData->Int
 | _,.none=>Di w .bS
 | _,.int i=>Di w (.inl i)
 | _,.str x=>Di w (.inr x)
 | n+1,.tuple xs=>reduceHash (uM (xs.map (kh w n)))
 | _,_=>0
def Kk:Nat->PyData->Nat
 | n+1,.tuple xs=>(xs.map (Kk n)).sum+1
 | _,_=>1
def Rd(h:Heap)(v:UT)(d:PyData):Prop:=∃as,Reads h v d as
inductive xS(h:Heap):List UT->List PyData->Prop
 | nil:xS h [] []
 | cons {v:UT} {d:PyData} {vs:List UT} {ds:List PyData}:Rd h v d->xS h vs ds->xS h (v::vs) (d::ds)
theorem xS.of{h:Heap}:∀{vs:List UT}{ds:List PyData}{as:List UN},ReadsAll h vs ds as->xS h vs ds
 | _,_,_,.nil=> .nil
 | _,_,_,.cons r rs=> .cons ⟨_,r⟩ (xS.of rs)
theorem xS.all{h:Heap}{vs:List UT}{ds:List PyData}(r:xS h vs ds):∃as,ReadsAll h vs ds as:=by
 induction r with
 | nil=>exact⟨_,.nil⟩
 | cons a _ ih=>
  obtain⟨as,ra⟩:=a
  obtain⟨bs,rb⟩:=ih
  exact⟨_,.cons ra rb⟩
theorem Rd.tup{h:Heap}{v:UT}{xs:List PyData}(r:Rd h v (.tuple xs)):∃a o vs n,v= .ref a/\h.get? a=some o/\o.cls= .type "tuple"/\o.data= .seq vs n/\xS h vs.toList xs:=by
 obtain⟨as,r⟩:=r
 cases r with
 | tuple h1 h2 h3 h4=>exact⟨_,_,_,_,rfl,h1,h2,h3,.of h4⟩
section
variable {prog:UR} {w:UU} {E:UT->US->Prop}
theorem pN{n:Nat}(ih:∀(d:PyData)(v:UT)(A:UO)(s:US)(Q:Int->US->Prop),kd n d=true->Rd s.heap v d->A.units+n < cLine->Q (kh w n d) { s with toks:=s.toks+Kk n d }->U7 (model prog w) A (pyHash v) Q E s) :
  ∀(xs:List PyData)(vs:List UT)(A:UO)(s:US)(b:Array Int)(Q:Array Int->US->Prop),xs.all (kd n)=true->xS s.heap vs xs->A.units+n < cLine->
  (∀b':Array Int,b'.toList=b.toList++xs.map (kh w n)->Q b' { s with toks:=s.toks+(xs.map (Kk n)).sum })->
  U7 (model prog w) A (forIn vs b λx r=>do let h <-pyHash x;pure PUnit.unit;pure (i7 (r.push h))) Q E s
 | [],_,A,s,b,Q,_,x,_,h=>by cases x;exact Vb (h b (by simp))
 | k::xs,_,A,s,b,Q,hk,x,hu,h=>by
  cases x with
  | cons x1 x2=>
   rw[bT,bf] at hk
   rw[List.forIn_cons]
   refine U8 (U8 (ih k _ A s _ hk.1 x1 hu ?_))
   refine U8 (Vb (Vb ?_))
   exact pN ih xs _ A _ _ Q hk.2 x2 hu λb' hb=>by
    have:=h b' (by rw[hb];simp)
    rw[aI,List.sum_cons,<-eS] at this
    exact this
theorem Ge:∀(n:Nat)(d:PyData)(v:UT)(A:UO)(s:US)(Q:Int->US->Prop),kd n d=true->Rd s.heap v d->A.units+n < cLine->Q (kh w n d) { s with toks:=s.toks+Kk n d }->U7 (model prog w) A (pyHash v) Q E s:=by
 intro n
 induction n with
 | zero=>
  intro d v A s Q hk r hu h
  obtain⟨as,r⟩:=r
  cases r with
  | none=>exact nB h
  | int i t=>exact wpAny_pyHash_int h
  | str x t=>exact wpAny_pyHash_str h
  | _=>simp[kd] at hk
 | succ n ih=>
  intro d v A s Q hk r hu h
  cases d with
  | tuple xs=>
   obtain⟨a,o,vs,m,rfl,h1,h2,h3,h4⟩:=r.tup
   refine PySem.W.pyHash_slot (T:="tuple") ⟨o,h1,h2⟩ F.slot_tuple_hash F.entry_tuple_hash (F.args_tuple_hash_1 _) (beq_builtin_none _) (.inr (by omega)) ?_
   show U7 _ _ (zu (.ref a) >>= _) _ _ s
   refine U8 (wpAny_tupleItemsOf h1 h3 ?_)
   refine U8 ?_
   rw[<-Fz]
   refine pN ih xs vs.toList A.in1 s #[] _ hk h4 (by simp only[Around.in1_units];omega) λb hb=>?_
   show U7 _ _ (retInt (uM b.toList)) _ _ _
   rw[hb]
   exact U8 (wpAny_mkInt (Vb ⟨_,_,rfl,h⟩))
  | none=>obtain⟨as,r⟩:=r;cases r;exact nB h
  | int i=>obtain⟨as,r⟩:=r;cases r;exact wpAny_pyHash_int h
  | str x=>obtain⟨as,r⟩:=r;cases r;exact wpAny_pyHash_str h
  | _=>simp[kd] at hk
end
theorem uN:∀(n:Nat)(d:PyData),kd n d=true->d.canLay0=true/\d.depth<=n:=by
 intro n
 induction n with
 | zero=>
  intro d h
  cases d with
  | none=>exact⟨rfl,ai _⟩
  | int i=>exact⟨rfl,ai _⟩
  | str x=>exact⟨h,ai _⟩
  | _=>simp[kd] at h
 | succ n ih=>
  intro d h
  cases d with
  | none=>exact⟨rfl,aA _⟩
  | int i=>exact⟨rfl,aA _⟩
  | str x=>exact⟨h,aA _⟩
  | tuple xs=>
   have hx:xs.all (kd n)=true:=h
   have key:∀xs:List PyData,xs.all (kd n)=true->mX xs=true/\ig xs<=n:=by
    intro xs
    induction xs with
    | nil=>intro _;exact⟨rfl,aA _⟩
    | cons x r ihr=>
     intro h
     rw[bT,bf] at h
     obtain⟨a,b⟩:=ih x h.1
     obtain⟨c,e⟩:=ihr h.2
     refine⟨?_,?_⟩
     ·show(PyData.canLay0 x&&mX r)=true
      rw[a,c];rfl
     ·show max x.depth (ig r)<=n
      omega
   obtain⟨a,b⟩:=key xs hx
   exact⟨a,ij b⟩
  | _=>simp[kd] at h
theorem wg:∀(n:Nat)(d e:PyData),kd n d=true->kd n e=true->(aZ d e=true↔d=e):=by
 intro n
 induction n with
 | zero=>
  intro d e h k
  cases d<;>cases e<;>first | (simp[kd] at h;done) | (simp[kd] at k;done) | simp[aZ]
 | succ n ih=>
  intro d e h k
  cases d with
  | tuple xs=>
   cases e with
   | tuple ys=>
    have key:∀xs ys:List PyData,xs.all (kd n)=true->ys.all (kd n)=true->(dO xs ys=true↔xs=ys):=by
     intro xs
     induction xs with
     | nil=>intro ys _ _;cases ys<;>simp[dO]
     | cons x r ihr=>
      intro ys h k
      cases ys with
      | nil=>simp[dO]
      | cons y t=>
       rw[bT,bf] at h k
       show(aZ x y&&dO r t)=true↔_
       rw[bf,ih x y h.1 k.1,ihr t h.2 k.2,List.cons.injEq]
    show dO xs ys=true↔_
    rw[key xs ys h k,PyData.tuple.injEq]
   | _=>first | (simp[kd] at k;done) | simp[aZ]
  | _=>cases e<;>first | (simp[kd] at h;done) | (simp[kd] at k;done) | simp[aZ]
def RF:PyData->Bool
 | .tuple _=>true
 | _=>false
def KD:Type:={ d:PyData // kd 8 d=true/\RF d=true }
instance:DecidableEq KD:=λx y=>decidable_of_iff (aZ x.1 y.1=true) ((wg 8 x.1 y.1 x.2.1 y.2.1).trans ⟨wj,λh=>by rw[h]⟩)
theorem KD.eqv{x y:KD}:aZ x.1 y.1=decide (x=y):=by
 rw[nC,wg 8 x.1 y.1 x.2.1 y.2.1,decide_eq_true_eq]
 exact⟨wj,λh=>by rw[h]⟩
theorem Dr{h h':Heap}{d0:UN}{o:Obj}{es ep}(ho:h.get? d0=some o)(hd:o.data= .dict es ep)(hs:lS d0 h h'):∀(n:Nat)(d:PyData)(v:UT),kd n d=true->Rd h v d->Rd h' v d:=by
 intro n
 induction n with
 | zero=>
  intro d v hk r
  obtain⟨as,r⟩:=r
  cases r with
  | none=>exact⟨_,.none⟩
  | int i t=>exact⟨_,.int i t⟩
  | str x t=>exact⟨_,.str x t⟩
  | _=>simp[kd] at hk
 | succ n ih=>
  intro d v hk r
  cases d with
  | tuple xs=>
   obtain⟨a,o',vs,m,rfl,h1,h2,h3,h4⟩:=r.tup
   have ne:a≠d0:=λz=>by
    subst z
    rw[h1] at ho
    cases ho
    rw[h3] at hd
    cases hd
   have key:∀(vs:List UT)(xs:List PyData),xs.all (kd n)=true->xS h vs xs->xS h' vs xs:=by
    intro vs xs hx r
    induction r with
    | nil=>exact .nil
    | cons a _ ihr=>
     rw[bT,bf] at hx
     exact .cons (ih _ _ hx.1 a) (ihr hx.2)
   obtain⟨as,ra⟩:=(key _ _ hk h4).all
   exact⟨_,.tuple ((hs.2 a ne).trans h1) h2 h3 ra⟩
  | none=>obtain⟨as,r⟩:=r;cases r;exact⟨_,.none⟩
  | int i=>obtain⟨as,r⟩:=r;cases r;exact⟨_,.int _ _⟩
  | str x=>obtain⟨as,r⟩:=r;cases r;exact⟨_,.str _ _⟩
  | _=>simp[kd] at hk
section
variable {prog:UR} {w:UU} {A:UO} {E:UT->US->Prop} {s:US}
theorem Ds:∀(n:Nat)(d:PyData)(v:UT)(Q:Bool->US->Prop),kd n d=true->Rd s.heap v d->Q true s->U7 (model prog w) A (eqIsQuiet n v) Q E s:=by
 intro n
 induction n with
 | zero=>
  intro d v Q hk r h
  obtain⟨as,r⟩:=r
  cases r with
  | none=>rw[eqIsQuiet_byValue 0 rfl];exact Vb h
  | int i t=>rw[eqIsQuiet_byValue 0 rfl];exact Vb h
  | str x t=>rw[eqIsQuiet_byValue 0 rfl];exact Vb h
  | _=>simp[kd] at hk
 | succ n ih=>
  intro d v Q hk r h
  cases d with
  | tuple xs=>
   obtain⟨a,o,vs,m,rfl,h1,h2,h3,h4⟩:=r.tup
   have hT:s.TypeIs (.ref a) "tuple":=⟨o,h1,h2⟩
   unfold eqIsQuiet
   refine U8 (wpAny_specialOf hT F.slot_tuple_eq.lookup ?_)
   show U7 _ _ (isInstance (.ref a) (.type "tuple") >>= _) _ _ s
   refine U8 (wpAny_isInstance hT isSubtype_tuple_tuple ?_)
   simp only[Bool.not_true,i9,if_false]
   refine U8 (wpAny_seqItems h1 h3 ?_)
   refine U8 ?_
   show U7 _ _ (forIn vs _ _) _ _ s
   rw[<-Fz]
   refine wpAny_forIn_list _ (λrest r s'=>r.1=none/\s'=s/\∃ds,ds.all (kd n)=true/\xS s.heap rest ds) _ ?_ ?_ _ _ ⟨rfl,rfl,xs,hk,h4⟩
   ·rintro v rest r s' ⟨hr,rfl,ds,hds,hall⟩
    cases hall with
    | cons ra rr=>
     rw[bT,bf] at hds
     refine U8 (ih _ _ _ hds.1 ra ?_)
     simp only[Bool.not_true,i9,if_false]
     exact Vb ⟨rfl,rfl,_,hds.2,rr⟩
   ·rintro⟨r1,r2⟩ s' ⟨hr,rfl,_⟩
    simp only at hr
    subst hr
    exact Vb h
  | none=>obtain⟨as,r⟩:=r;cases r;rw[eqIsQuiet_byValue _ rfl];exact Vb h
  | int i=>obtain⟨as,r⟩:=r;cases r;rw[eqIsQuiet_byValue _ rfl];exact Vb h
  | str x=>obtain⟨as,r⟩:=r;cases r;rw[eqIsQuiet_byValue _ rfl];exact Vb h
  | _=>simp[kd] at hk
end
def zv(prog:UR)(w:UU):HeapKind prog w KD where
 is:=λh k a=>Rd h (.ref a) k.1
 hash:=λk=>kh w 8 k.1
 draws:=λk=>Kk 8 k.1
 room:=λA=>A.units+8 < cLine
 inj:=λ{h a x y} hx hy=>by
  obtain⟨as,hx⟩:=hx
  obtain⟨bs,hy⟩:=hy
  exact wj (SeqAt.Reads.unique _ _ _ _ _ (uN 8 _ x.2.1).1 hx hy)
 keeps:=λ{h h' k a d o es ep} x ho hd hs=>Dr ho hd hs 8 _ _ k.2.1 x
 pyHash:=λ{A E s k a Q} hu hk h=>Ge 8 _ _ A s Q k.2.1 hk hu h
 eqBool:=λ{A E s x y a b Q} hu hx hy h=>by
  obtain⟨as,hx⟩:=hx
  obtain⟨bs,hy⟩:=hy
  obtain⟨l1,d1⟩:=uN 8 _ x.2.1
  obtain⟨l2,d2⟩:=uN 8 _ y.2.1
  refine SeqAt.eqBoolOverData prog w A E s _ _ _ _ as bs Q hx hy l1 l2 ?_ ?_
  ·have:min x.1.depth y.1.depth<=8:=by omega
   have Ug:A.units+8 < cLine:=hu
   omega
  ·rw[KD.eqv];exact h
 quiet:=λ{A E s k a Q} hk h=>Ds 8 _ _ Q k.2.1 hk h
end NK
namespace L2
open PySem PySem.Spec PyProof.Rows
inductive V where
 | bS | bl (b:Bool) | int (i:Int) | str (x:Str) | J2 (b:Array UInt8) | MG (b:UInt64) | ref (a:UN) | ty (n:String)
 deriving DecidableEq
def RelV:V->UT->Prop
 | .bS,u=>u=dk
 | .bl b,u=>u=mY b
 | .int i,u=>∃t,u=kM i t
 | .str x,u=>∃t,u=mW x t
 | .J2 b,u=>∃t,u=Value.bytes b t
 | .MG b,u=>∃t,u=Value.float b t
 | .ref a,u=>u=bg a
 | .ty n,u=>u=jL n
abbrev Vals:List V->List UT->Prop:=Paired RelV
theorem Vals.length{xs:List V}{us:List UT}(r:Vals xs us):xs.length=us.length:=Paired.length r
theorem Vals.get:∀{xs:List V}{us:List UT}{i:Nat}{x:V},Vals xs us->xs[i]? =some x->∃u,us[i]? =some u/\RelV x u
 | _,_,_,_,.nil,e=>by simp at e
 | _,_,0,_,.cons r _,e=>by simp at e;subst e;exact⟨_,rfl,r⟩
 | _,_,i+1,x,.cons _ t,e=>by
  obtain⟨u,h1,h2⟩:=Vals.get (i:=i) (x:=x) t (by simpa using e)
  exact⟨u,by simpa using h1,h2⟩
theorem Vals.set{x:V}{u:UT}(r:RelV x u):∀{xs:List V}{us:List UT}(i:Nat),Vals xs us->Vals (xs.set i x) (us.set i u)
 | _,_,_,.nil=> .nil
 | _,_,0,.cons _ t=> .cons r t
 | _,_,i+1,.cons q t=> .cons q (Vals.set r i t)
theorem Vals.append:∀{xs ys:List V}{us ws:List UT},Vals xs us->Vals ys ws->Vals (xs++ys) (us++ws)
 | _,_,_,_,.nil,s=>s
 | _,_,_,_,.cons r t,s=> .cons r (Vals.append t s)
theorem Vals.take:∀{xs:List V}{us:List UT}(n:Nat),Vals xs us->Vals (xs.take n) (us.take n)
 | _,_,0,_=> .nil
 | _,_,_+1,.nil=> .nil
 | _,_,n+1,.cons r t=> .cons r (Vals.take n t)
theorem Vals.drop:∀{xs:List V}{us:List UT}(n:Nat),Vals xs us->Vals (xs.drop n) (us.drop n)
 | _,_,0,r=>r
 | _,_,_+1,.nil=> .nil
 | _,_,n+1,.cons _ t=>Vals.drop n t
def Kl:Option V->Option UT->Prop
 | some v,some u=>RelV v u
 | none,none=>True
 | _,_=>False
def KV{κ:Type}:List (κ×V)->List (κ×UT)->Prop:=Paired λ(p:κ×V)(q:κ×UT)=>p.1=q.1/\RelV p.2 q.2
def kV:Key->V
 | .inl i=> .int i
 | .inr x=> .str x
 | .bS=> .bS
inductive HO where
 | dN (kvs:List (NK.KD×V))
  | lst (xs:List V)
  | tup (xs:List V)
  | dK (kvs:List (Key×V)) | dT (kvs:List (List Key×V))
  | set (S:Int->Bool) (n:Nat)
  | ins (C dx:UN) (fs:List (Str×V))
  | own (x:UN)
  | xd (fs:List (Str×V))
  | met (f x:UN)
  | MH (lo hi:Int)
  | mC (o:Obj) (u:HO)
  | sG (ps:Array UT)
  | ext (φ:Heap->Prop)
abbrev Hp:=UN->Option HO
def upd(H:Hp)(a:UN)(o:HO):Hp:=λb=>if b=a then some o else H b
theorem e8{H:Hp}{a:UN}{o:HO}:upd H a o a=some o:=by unfold upd;rw[if_pos rfl]
theorem bj{H:Hp}{a b:UN}{o:HO}(h:b≠a):upd H a o b=H b:=by unfold upd;rw[if_neg h]
theorem dD{H:Hp}{a b:UN}{o:HO}(h:H a=some o)(h':H b=none):a≠b:=by
 intro e;subst e;rw[h] at h';cases h'
def xT(h:Heap)(a:UN):Prop:=∀o,h.get? a=some o->o.dict=none
theorem xT.new(h:Heap)(us:Array UT):xT (h.push { cls:=.type "tuple",data:=.seq us }) h.objs.size:=λo q=>by
 rw[cO _ rfl] at q
 cases q
 rfl
def KA(H:Hp):Nat->V->PyData->Prop
 | _,.bS,.none=>True
 | _,.int i,.int j=>i=j
 | _,.str x,.str y=>x=y
 | n+1,.ref a,.tuple ds=>∃vs,H a=some (.tup vs)/\Paired (KA H n) vs ds
 | _,_,_=>False
section
variable (P:UR) (w:UU)
def e_(H:Hp)(h:Heap)(a:UN):HO->Prop
 | .lst xs=>xs.length<=U5/\∃(its:List UT)(n:Nat),Vals xs its/\h.get? a=some { cls:=.type "list",data:=.seq its.toArray n }
 | .tup xs=>xs.length<=U5/\∃its:List UT,Vals xs its/\IsTup h a its.toArray/\xT h a
 | .dN kvs=>kvs.length<=U5/\(a == sysModules)=false/\∃xs:List (NK.KD×UN×UT),
   Paired (λ(p:NK.KD×V)(q:NK.KD×UN×UT)=>p.1=q.1/\KA H 8 (.ref q.2.1) p.1.1/\RelV p.2 q.2.2) kvs xs/\
   ∃o es ep,h.get? a=some o/\o.ExactDict/\o.data= .dict es ep/\es.toList=xs.map (entryOfKey (NK.zv P w))/\(xs.map (·.1)).Nodup
 | .dK kvs=>kvs.length<=U5/\(a == sysModules)=false/\∃vs,KV kvs vs/\h.DictOf (aW P w) a vs
 | .dT kvs=>kvs.length<=U5/\(a == sysModules)=false/\∃xs:List (List Key×UN×UT),
   Paired (λ(p:List Key×V)(q:List Key×UN×UT)=>p.1=q.1/\H q.2.1=some (.tup (p.1.map kV))/\RelV p.2 q.2.2) kvs xs/\
   ∃o es ep,h.get? a=some o/\o.ExactDict/\o.data= .dict es ep/\es.toList=xs.map (entryOfKey (tupleKind (aW P w)))/\(xs.map (·.1)).Nodup
 | .set S n=>h.SetOf (intKind P w) a S n
 | .ins C dx fs=>H dx=some (.own a)/\fs.length<=1000/\dx≠a/\h.get? a=some (PySem.W.instObj C dx)/\
   ∃mA,h.Ns1 dx mA/\(∀f,Kl (fs.lookup f) (mA f))/\PySem.Within mA (fs.map (·.1))
 | .own _=>∃o,h.get? a=some o
 | .xd fs=>∃mA,h.Ns1 a mA/\∀f,Kl (fs.lookup f) (mA f)
 | .MH lo hi=>∃t u v,h.get? a=some { cls:=.type "range",data:=.fields #[.int lo t,.int hi u,.int 1 v] }
 | .mC o u=>h.get? a=some o/\e_ H h a u
 | .sG ps=>h.get? a=some { cls:=.none,data:=.fields ps }
 | .met f x=>h.get? a=some (PySem.W.methodObj (.ref f) (.ref x))
 | .ext φ=>φ h/\(∃o,h.get? a=some o)/\∀h1 h2:Heap,φ h1->(∀o,h1.get? a=some o->h2.get? a=some o)->φ h2
def kN(H:Hp)(h:Heap):Prop:=∀a o,H a=some o->e_ P w H h a o
end
section
variable {P:UR} {w:UU} {H H':Hp} {h h':Heap} {a:UN} {o:HO}
theorem e_.lt(x:e_ P w H h a o):a < h.objs.size:=by
 cases o with
 | lst xs=>obtain⟨_,_,_,_,e⟩:=x;exact aE e
 | tup xs=>obtain⟨_,_,_,p,_⟩:=x;exact p.lt
 | dK kvs=>obtain⟨_,_,_,_,o,_,_,e,_⟩:=x;exact aE e
 | dT kvs=>obtain⟨_,_,_,_,o,_,_,e,_⟩:=x;exact aE e
 | dN kvs=>obtain⟨_,_,_,_,o,_,_,e,_⟩:=x;exact aE e
 | set S n=>obtain⟨o,_,_,_,e,_⟩:=x;exact aE e
 | ins C dx fs=>obtain⟨_,_,_,e,_⟩:=x;exact aE e
 | own y=>obtain⟨_,e⟩:=x;exact aE e
 | xd fs=>obtain⟨_,⟨_,_,_,e,_⟩,_⟩:=x;exact aE e
 | MH lo hi=>obtain⟨_,_,_,e⟩:=x;exact aE e
 | mC ob u=>obtain⟨e,_⟩:=x;exact aE e
 | sG ps=>exact aE (show h.get? a=some _ from x)
 | met f y=>exact aE (show h.get? a=some _ from x)
 | ext φ=>obtain⟨_,⟨_,e⟩,_⟩:=x;exact aE e
theorem Paired.Dt{α β:Type}{F G:α->β->Prop}:∀{l₁:List α}{l₂:List β},Paired F l₁ l₂->(∀a b,F a b->G a b)->Paired G l₁ l₂
 | _,_,.nil,_=> .nil
 | _,_,.cons r t,f=> .cons (f _ _ r) (Paired.Dt t f)
theorem KA.stay(ht:∀b xs,H b=some (.tup xs)->H' b=some (.tup xs)):∀(n:Nat)(v:V)(d:PyData),KA H n v d->KA H' n v d:=by
 intro n
 induction n with
 | zero=>intro v d x;cases v<;>cases d<;>first | exact x | exact aa x
 | succ n ih=>
  intro v d x
  cases v with
  | ref a=>
   cases d with
   | tuple ds=>
    obtain⟨vs,e,p⟩:=x
    exact⟨vs,ht _ _ e,Paired.Dt p λv d=>ih v d⟩
   | _=>exact aa x
  | _=>cases d<;>first | exact x | exact aa x
theorem e_.stay(x:e_ P w H h a o)(k:∀b u,(b=a\/H b=some (.own a))->h.get? b=some u->h'.get? b=some u)
  (ho:∀b,H b=some (.own a)->H' b=some (.own a))(ht:∀b xs,H b=some (.tup xs)->H' b=some (.tup xs)):e_ P w H' h' a o:=by
 induction o with
 | lst xs=>obtain⟨z,its,n,r,e⟩:=x;exact⟨z,its,n,r,k _ _ (.inl rfl) e⟩
 | tup xs=>obtain⟨z,us,r,⟨ob,e,c⟩,nd⟩:=x;exact⟨z,us,r,⟨ob,k _ _ (.inl rfl) e,c⟩,λo q=>by rw[k _ _ (.inl rfl) e] at q;cases q;exact nd _ e⟩
 | dK kvs=>obtain⟨z,y,vs,r,ob,es,ep,e,c⟩:=x;exact⟨z,y,vs,r,ob,es,ep,k _ _ (.inl rfl) e,c⟩
 | dT kvs=>
  obtain⟨z,y,xs,r,ob,es,ep,e,c⟩:=x
  exact⟨z,y,xs,Paired.Dt r λp q z=>⟨z.1,ht _ _ z.2.1,z.2.2⟩,ob,es,ep,k _ _ (.inl rfl) e,c⟩
 | dN kvs=>
  obtain⟨z,y,xs,r,ob,es,ep,e,c⟩:=x
  exact⟨z,y,xs,Paired.Dt r λp q z=>⟨z.1,KA.stay ht _ _ _ z.2.1,z.2.2⟩,ob,es,ep,k _ _ (.inl rfl) e,c⟩
 | set S n=>obtain⟨ob,es,ep,t,e,c⟩:=x;exact⟨ob,es,ep,t,k _ _ (.inl rfl) e,c⟩
 | ins C dx fs=>
  obtain⟨d,z,ne,e,mA,⟨od,es,ep,e2,c⟩,r⟩:=x
  exact⟨ho _ d,z,ne,k _ _ (.inl rfl) e,mA,⟨od,es,ep,k _ _ (.inr d) e2,c⟩,r⟩
 | own y=>obtain⟨ob,e⟩:=x;exact⟨ob,k _ _ (.inl rfl) e⟩
 | xd fs=>obtain⟨mA,⟨od,es,ep,e,c⟩,r⟩:=x;exact⟨mA,⟨od,es,ep,k _ _ (.inl rfl) e,c⟩,r⟩
 | MH lo hi=>obtain⟨t,u,v,e⟩:=x;exact⟨t,u,v,k _ _ (.inl rfl) e⟩
 | mC ob u ih=>obtain⟨e,q⟩:=x;exact⟨k _ _ (.inl rfl) e,ih q⟩
 | sG ps=>
  have e:h.get? a=some { cls:=.none,data:=.fields ps }:=x
  show h'.get? a=some { cls:=.none,data:=.fields ps }
  exact k a _ (.inl rfl) e
 | met f y=>
  have e:h.get? a=some (PySem.W.methodObj (.ref f) (.ref y)):=x
  show h'.get? a=some (PySem.W.methodObj (.ref f) (.ref y))
  exact k a _ (.inl rfl) e
 | ext φ=>obtain⟨p,⟨o,e⟩,st⟩:=x;exact⟨st _ _ p λo q=>k _ _ (.inl rfl) q,⟨o,k _ _ (.inl rfl) e⟩,st⟩
theorem kN.lt(x:kN P w H h)(e:H a=some o):a < h.objs.size:=(x a o e).lt
theorem kN.fresh(x:kN P w H h)(e:h.objs.size<=a):H a=none:=by
 cases q:H a with
 | none=>rfl
 | some u=>exact absurd (aL (x.lt q) e) (gn _)
theorem kN.kept(x:kN P w H h)(k:∀b u,h.get? b=some u->h'.get? b=some u):kN P w H h':=λa o e=>
 (x a o e).stay (λb u _ q=>k b u q) (λ_ q=>q) λ_ _ q=>q
theorem kN.laid(x:kN P w H h)(k:∀b u,h.get? b=some u->h'.get? b=some u)(hp:h.objs.size<=a)(new:e_ P w (upd H a o) h' a o):kN P w (upd H a o) h':=λb u e=>by
 have hn:=x.fresh hp
 by_cases hb:b=a
 ·subst hb;rw[e8] at e;cases e;exact new
 ·rw[bj hb] at e
  exact(x b u e).stay (λc v _ q=>k c v q) (λc q=>by rw[bj (dD q hn)];exact q) λc xs q=>by rw[bj (dD q hn)];exact q
end
def Rd(H:Hp)(a:UN)(u:HO):Prop:=H a=some u\/∃o,H a=some (.mC o u)
theorem Rd.ok{P:UR}{w:UU}{H:Hp}{h:Heap}{a:UN}{u:HO}(r:Rd H a u)(x:kN P w H h):e_ P w H h a u:=by
 rcases r with r | ⟨o,r⟩
 ·exact x a u r
 ·obtain⟨_,q⟩:=x a _ r
  exact q
def MI:Option HO->Prop
 | some (.lst _)=>True
 | some (.dK _)=>True
 | some (.dT _)=>True
 | some (.dN _)=>True
 | some (.set _ _)=>True
 | some (.ins _ _ _)=>True
 | some (.ext _)=>True
 | _=>False
section
variable {P:UR} {w:UU} {H:Hp} {h h':Heap} {x e:UN} {o':HO}
theorem kN.write(ok:kN P w H h)(mu:MI (H x))(he:e=x\/H e=some (.own x))(k:∀b u,b≠e->h.get? b=some u->h'.get? b=some u)(J3:∃u,h'.get? e=some u)
  (new:e_ P w (upd H x o') h' x o'):kN P w (upd H x o') h':=λb u q=>by
 have Km:∀c y,H c=some (.own y)->c≠x:=λc y r z=>by subst z;rw[r] at mu;exact mu
 have Nv:∀c xs,H c=some (.tup xs)->c≠x:=λc xs r z=>by subst z;rw[r] at mu;exact mu
 by_cases hb:b=x
 ·subst hb;rw[e8] at q;cases q;exact new
 ·rw[bj hb] at q
  by_cases Gf:b=e
  ·have q':H b=some (.own x):=by
    rcases he with z | z
    ·exact absurd (Gf.trans z) hb
    ·rw[Gf];exact z
   rw[q] at q';cases q'
   obtain⟨v,hv⟩:=J3
   exact⟨v,by rw[Gf];exact hv⟩
  ·refine(ok b u q).stay (λc v hc r=>k c v ?_ r) (λc r=>by rw[bj (Km c b r)];exact r) λc xs r=>by rw[bj (Nv c xs r)];exact r
   rcases hc with rfl | hc
   ·exact Gf
   ·rintro rfl
    rcases he with z | z
    ·exact Km c b hc z
    ·rw[hc] at z;cases z;exact hb rfl
end
structure Un(fs ex:List UN)(H H':Hp)(h h':Heap):Prop where
 keep:∀b o,h.get? b=some o->H b=none->b∉fs->b∉ex->h'.get? b=some o
 slot:∀b o,h.get? b=some o->H b=none->b∈fs->b∉ex->∃sl,h'.get? b=some { o with slots:=sl }
 free:∀b o,h.get? b=some o->H b=none->b∉ex->H' b=none
 there:∀b o,h.get? b=some o->b∉ex->∃o',h'.get? b=some o'
 tups:∀b xs,H b=some (.tup xs)->H' b=some (.tup xs)
 mQ:∀b o u,H b=some (.mC o u)->H' b=some (.mC o u)
 pf:∀b ps,H b=some (.sG ps)->∃more,H' b=some (.sG (ps++more))
section
variable {fs fs' ex ex':List UN} {H H1 H2:Hp} {h h1 h2 h':Heap} {a x e:UN} {o:HO}
theorem Un.any(u:Un fs ex H H1 h h1){b:UN}{ob:Obj}(q:h.get? b=some ob)(n:H b=none)(hx:b∉ex):∃sl,h1.get? b=some { ob with slots:=sl }:=by
 by_cases hb:b∈fs
 ·exact u.slot b ob q n hb hx
 ·exact⟨ob.slots,u.keep b ob q n hb hx⟩
theorem Un.kept(k:∀b u,h.get? b=some u->h'.get? b=some u):Un fs ex H H h h' :=
 ⟨λb ob q _ _ _=>k b ob q,λb ob q _ _ _=>⟨ob.slots,k b ob q⟩,λ_ _ _ n _=>n,λb ob q _=>⟨ob,k b ob q⟩,λ_ _ q=>q,λ_ _ _ q=>q,λ_ ps q=>⟨#[],by rw[q];simp⟩⟩
theorem Un.refl:Un fs ex H H h h:=Un.kept λ_ _ q=>q
theorem Un.laid(k:∀b u,h.get? b=some u->h'.get? b=some u)(hp:h.objs.size<=a)(hn:H a=none):Un fs ex H (upd H a o) h h' where
 keep:=λb u q _ _ _=>k b u q
 slot:=λb u q _ _ _=>⟨u.slots,k b u q⟩
 free:=λb u q n _=>by rw[bj (a6 (aL (aE q) hp))];exact n
 there:=λb u q _=>⟨u,k b u q⟩
 tups:=λb xs q=>by rw[bj (dD q hn)];exact q
 mQ:=λb u xs q=>by rw[bj (dD q hn)];exact q
 pf:=λb ps q=>⟨#[],by rw[bj (dD q hn),q];simp⟩
theorem Un.write(mu:MI (H x))(he:e=x\/H e=some (.own x))(k:∀b u,b≠e->h.get? b=some u->h'.get? b=some u)(J3:∃u,h'.get? e=some u):Un fs ex H (upd H x o) h h':=by
 have hx:∀b,H b=none->b≠x:=λb n z=>by subst z;rw[n] at mu;exact mu
 have hb:∀b,H b=none->b≠e:=λb n z=>by
  subst z
  rcases he with r | r
  ·exact hx b n r
  ·rw[n] at r;cases r
 have hm:∀b u,H b=some u->¬MI (some u)->b≠x:=λb u q nm z=>by subst z;rw[q] at mu;exact nm mu
 refine⟨λb u q n _ _=>k b u (hb b n) q,λb u q n _ _=>⟨u.slots,k b u (hb b n) q⟩,λb u q n _=>by rw[bj (hx b n)];exact n,λb u q _=>?_,
  λb xs q=>by rw[bj (hm b _ q λz=>z)];exact q,λb u xs q=>by rw[bj (hm b _ q λz=>z)];exact q,λb ps q=>⟨#[],by rw[bj (hm b _ q λz=>z),q];simp⟩⟩
 by_cases Gf:b=e
 ·subst Gf;exact J3
 ·exact⟨u,k b u Gf q⟩
end
def MJ(h:Heap)(H:Hp):List UN:=(av h.objs.size).filter λa=>(H a).isSome
def qu(h:Heap)(H:Hp):Heap:=PySem.W.hideAll h (MJ h H)
theorem xU(h:Heap)(H:Hp):(qu h H).objs.size=h.objs.size:=PySem.W.hideAll_size _ _
theorem zw{h:Heap}{H:Hp}{b:UN}{o:Obj}(e:h.get? b=some o)(n:H b=none):(qu h H).get? b=some o :=
 PySem.W.hideAll_get _ e λhm=>by
  have q:(H b).isSome=true:=(List.mem_filter.mp hm).2
  rw[n] at q;simp at q
theorem Du{h:Heap}{H:Hp}{b:UN}{o:Obj}(e:(qu h H).get? b=some o):h.get? b=some o/\H b=none:=by
 have e':h.get? b=some o:=PySem.W.of_hideAll (MJ h H) e
 refine⟨e',?_⟩
 cases q:H b with
 | none=>rfl
 | some x=>
  have hm:b∈MJ h H:=List.mem_filter.mpr ⟨List.mem_range.mpr (aE e'),by simp[q]⟩
  have z:(qu h H).get? b=none:=PySem.W.hideAll_none (MJ h H) hm
  rw[z] at e;cases e
structure Mod(K:PySem.W.Frag)(mg:Str->Option UT)(base:Heap):Prop where
 Kn:K.In base
 glob:base.Ns U4 mg
 blt:∃mb,base.Ns builtinsNs mb/\∀x:Str,x≠"__name__"->mb x=UY x
 nolimit:base.NoLimit
structure Cx where
 prog:UR
 w:UU
 K:PySem.W.Frag
 mg:Str->Option UT
 base:Heap
 A:UO
 N:List Str
 s₀:US
 H₀:Hp
 env:Env
 outer:List Env
 stack:List Env
 ex:List UN
 fn:Str->Bool
 calm:Bool
 pn:List (UN×Obj)
 xe:UT->US->Prop
def frs(l:List Env):List UN:=l.filterMap (·.frame)
abbrev Cx.fs(X:Cx):List UN:=frs X.outer
def Nw(sc:Scope)(x:Str):Prop:=sc.names.lookup x=some .local\/sc.names.lookup x=some .cell\/sc.names.lookup x=some .free
def Loc(sc:Scope)(x:Str):Prop:=sc.names.lookup x=some .local\/sc.names.lookup x=some .cell
def Look(env:Env)(h:Heap)(m:Str->Option UT)(x:Str)(u:UT):Prop :=
 (env.kindOf x=some .local/\m x=some u)\/((env.kindOf x=some .cell\/env.kindOf x=some .free)/\∃c,env.cells.lookup x=some c/\h.IsCell c (some u))
structure Cx.Ok(X:Cx):Prop where
 mod:Mod X.K X.mg X.base
 kind:X.env.scope.kind= .function
 glob:X.env.globals=U4
 blt:X.env.builtins=builtinsNs
 above:X.s₀.heap.objs.size<=X.env.locals
 inj:∀x y c,X.env.cells.lookup x=some c->X.env.cells.lookup y=some c->x=y
 has:∀x,(X.env.kindOf x=some .cell\/X.env.kindOf x=some .free)->∃c,X.env.cells.lookup x=some c
 Nx:∀x c,X.fn x=true->X.env.cells.lookup x=some c->X.s₀.heap.objs.size<=c
 hd:X.calm=true->X.A.handled=none
 frames:X.A.frames=some X.stack
 stk:X.stack=X.outer\/(X.stack=X.env::X.outer/\X.env.frame=some X.env.locals)
 Uh:∀b∈X.ex,b≠X.env.locals/\∀x c,X.env.cells.lookup x=some c->c≠b
 bs:∀b o,X.base.get? b=some o->X.s₀.heap.get? b=some o/\X.H₀ b=none
 J4:X.base.objs.size<=X.s₀.heap.objs.size
 Gg:∀b o,X.base.get? b=some o->b∉X.ex
 Ko:∀b∈X.ex,b∉X.fs
 pg:X.s₀.heap.FunFrames X.base X.outer
 Kp:∀b∈X.fs,X.H₀ b=none
structure Inv(X:Cx)(pins:List (UN×Obj))(σ:List (Option V))(H:Hp)(s:US):Prop where
 ok:X.Ok
 os:s.os=X.s₀.os
 bare:AllBare s.gens
 base:Un X.fs X.ex X.H₀ H X.s₀.heap s.heap
 loc:∃m,s.heap.Ns X.env.locals m/\∀(i:Nat)(x:Str)(v:V),X.N[i]? =some x->σ[i]? =some (some v)->Nw X.env.scope x->∃u,RelV v u/\Look X.env s.heap m x u
 cell:∀x c,X.env.cells.lookup x=some c->∃v,s.heap.IsCell c v
 free:H X.env.locals=none
 mE:∀x c,X.env.cells.lookup x=some c->H c=none
 pin:∀p∈X.pn++pins,s.heap.get? p.1=some p.2/\H p.1=none/\p.1≠X.env.locals/\p.1∉X.fs/\∀v,p.2.data≠.cell v
 hok:kN X.prog X.w H s.heap
 len:σ.length=X.N.length
section
variable {X:Cx} {pins:List (UN×Obj)} {σ:List (Option V)} {H H':Hp} {s:US} {h':Heap}
theorem Cx.Ok.Ny(ok:X.Ok){b:UN}{o:Obj}(e:X.base.get? b=some o):b∉X.fs:=λhb=>by
 have:=(ok.pg.mem hb).1
 rw[e] at this;cases this
theorem Inv.bs(I:Inv X pins σ H s):∀b o,X.base.get? b=some o->s.heap.get? b=some o/\H b=none:=λb o e=>
 ⟨I.base.keep b o (I.ok.bs b o e).1 (I.ok.bs b o e).2 (I.ok.Ny e) (I.ok.Gg b o e),I.base.free b o (I.ok.bs b o e).1 (I.ok.bs b o e).2 (I.ok.Gg b o e)⟩
theorem Inv.bk(I:Inv X pins σ H s):∀b o,X.base.get? b=some o->s.heap.get? b=some o:=λb o e=>(I.bs b o e).1
theorem Inv.mod(I:Inv X pins σ H s):Mod X.K X.mg X.base:=I.ok.mod
theorem Inv.Dv(I:Inv X pins σ H s):X.K.In s.heap:=I.ok.mod.Kn.keeps I.bk
theorem Inv.lt(I:Inv X pins σ H s):X.env.locals < s.heap.objs.size:=let ⟨_,hn,_⟩:=I.loc;hn.lt
theorem Inv.sz(I:Inv X pins σ H s):X.s₀.heap.objs.size<=s.heap.objs.size:=bt I.ok.above (bq I.lt)
theorem Inv.Nz(I:Inv X pins σ H s){a:UN}(h:s.heap.objs.size<=a):a∉X.fs:=λhb=>by
 obtain⟨_,o,ho,_⟩:=I.ok.pg.mem hb
 exact absurd (aL (aE ho) (bt I.sz h)) (gn _)
theorem Inv.Gh(I:Inv X pins σ H s):∀x c,X.env.cells.lookup x=some c->c≠X.env.locals:=λx c e z=>by
 obtain⟨v,o,ho,hd⟩:=I.cell x c e
 obtain⟨m,⟨o',es,ep,ho',hd',_⟩,_⟩:=I.loc
 rw[z,ho'] at ho;cases ho;rw[hd'] at hd;cases hd
theorem Inv.pg(I:Inv X pins σ H s):s.heap.FunFrames X.base X.outer:=by
 have all:∀(l:List Env),(∀b∈frs l,b∈X.fs)->X.s₀.heap.FunFrames X.base l->s.heap.FunFrames X.base l:=by
  intro l
  induction l with
  | nil=>intro _ _;trivial
  | cons env r ih=>
   intro hs hl
   obtain⟨hk,⟨L,o,hf,hn,ho,hd⟩,hr⟩:=hl
   have hL:L∈X.fs:=hs L (by unfold frs;rw[i_,hf];exact aX)
   obtain⟨sl,e⟩:=I.base.slot L o ho (I.ok.Kp L hL) hL λz=>I.ok.Ko L z hL
   exact⟨hk,⟨L,_,hf,hn,e,hd⟩,ih (λb hb=>hs b (by unfold frs;rw[i_,hf];exact aN _ hb)) hr⟩
 exact all X.outer (λ_ hb=>hb) I.ok.pg
theorem Inv.stack(I:Inv X pins σ H s):s.heap.FunFrames X.base X.stack:=by
 rcases I.ok.stk with e | ⟨e,hf⟩
 ·rw[e];exact I.pg
 ·rw[e]
  obtain⟨m,hn,_⟩:=I.loc
  refine .cons (by rw[I.ok.kind];decide) hf hn ?_ I.pg
  exact Heap.get?_none_of_le (bt I.ok.J4 I.ok.above)
theorem Inv.qv(I:Inv X pins σ H s):∀b∈frs X.stack,b∈X.env.locals::X.fs:=λb hb=>by
 rcases I.ok.stk with e | ⟨e,hf⟩
 ·rw[e] at hb;exact aN _ hb
 ·rw[e] at hb
  unfold frs at hb
  rw[i_,hf] at hb
  exact hb
theorem Inv.qw(I:Inv X pins σ H s):∀b∈frs X.stack,H b=none:=λb hb=>by
 rcases List.mem_cons.mp (I.qv b hb) with e | hb
 ·rw[e];exact I.free
 ·obtain⟨_,o,ho,_⟩:=I.ok.pg.mem hb
  exact I.base.free b o ho (I.ok.Kp b hb) λz=>I.ok.Ko b z hb
theorem Inv.step{g':Array GenState}{t':Nat}{d':Drawn}{ch:List UN}(I:Inv X pins σ H s)
  (hch:∀b∈ch,(b∈X.ex\/X.s₀.heap.objs.size<=b)/\b≠X.env.locals/\(∀x c,X.env.cells.lookup x=some c->c≠b)/\∀p∈X.pn++pins,p.1≠b)
  (keep:∀b o,b≠X.env.locals->b∉X.fs->b∉ch->s.heap.get? b=some o->H b=none->h'.get? b=some o)
  (slot:∀b o,b≠X.env.locals->b∈X.fs->b∉ch->s.heap.get? b=some o->H b=none->∃sl,h'.get? b=some { o with slots:=sl })(free:∀b o,b∉ch->s.heap.get? b=some o->H b=none->H' b=none)
  (there:∀b o,b∉ch->s.heap.get? b=some o->∃o',h'.get? b=some o')
  (tups:∀b xs,H b=some (.tup xs)->H' b=some (.tup xs))(mQ:∀b o u,H b=some (.mC o u)->H' b=some (.mC o u))(pf:∀b ps,H b=some (.sG ps)->∃more,H' b=some (.sG (ps++more)))
  (ns:∀m,s.heap.Ns X.env.locals m->h'.Ns X.env.locals m)(hok:kN X.prog X.w H' h')(hg:AllBare g') :
  Inv X pins σ H' { s with heap:=h',gens:=g',drawn:=d',toks:=t' }:=by
 have Qk:∀b o,X.s₀.heap.get? b=some o->b≠X.env.locals:=λb o e=>a6 (aL (aE e) I.ok.above)
 have MK:∀b o,X.s₀.heap.get? b=some o->b∉X.ex->b∉ch:=λb o e hx hb=>by
  rcases(hch b hb).1 with z | z
  ·exact hx z
  ·exact absurd (aL (aE e) z) (gn _)
 have cellK:∀x c,X.env.cells.lookup x=some c->∀v,s.heap.IsCell c v->h'.IsCell c v:=λx c e v ⟨o,ho,hd⟩=>by
  have Kq:c∉ch:=λz=>(hch c z).2.2.1 x c e rfl
  by_cases hc:c∈X.fs
  ·obtain⟨sl,q⟩:=slot c o (I.Gh x c e) hc Kq ho (I.mE x c e)
   exact⟨_,q,hd⟩
  ·exact⟨o,keep c o (I.Gh x c e) hc Kq ho (I.mE x c e),hd⟩
 refine⟨I.ok,I.os,hg,⟨λb o e n hb hx=>?_,λb o e n hb hx=>?_,λb o e n hx=>?_,λb o e hx=>?_,λb xs e=>tups b xs (I.base.tups b xs e),λb o xs e=>mQ b o xs (I.base.mQ b o xs e),λb ps e=>?_⟩,?_,λx c e=>?_,?_,λx c e=>?_,λp hp=>?_,hok,I.len⟩
 ·exact keep b o (Qk b o e) hb (MK b o e hx) (I.base.keep b o e n hb hx) (I.base.free b o e n hx)
 ·obtain⟨sl,e1⟩:=I.base.slot b o e n hb hx
  obtain⟨RG,e2⟩:=slot b _ (Qk b o e) hb (MK b o e hx) e1 (I.base.free b o e n hx)
  exact⟨RG,e2⟩
 ·obtain⟨o',e1⟩:=I.base.there b o e hx
  exact free b o' (MK b o e hx) e1 (I.base.free b o e n hx)
 ·obtain⟨o',e1⟩:=I.base.there b o e hx
  exact there b o' (MK b o e hx) e1
 ·obtain⟨m1,e1⟩:=I.base.pf b ps e
  obtain⟨m2,e2⟩:=pf b _ e1
  exact⟨m1++m2,by rw[e2,Array.append_assoc]⟩
 ·obtain⟨m,hn,hl⟩:=I.loc
  refine⟨m,ns m hn,λi x v e1 e2 e3=>?_⟩
  obtain⟨u,r,l⟩:=hl i x v e1 e2 e3
  refine⟨u,r,?_⟩
  rcases l with l | ⟨k,c,e,z⟩
  ·exact .inl l
  ·exact .inr ⟨k,c,e,cellK x c e _ z⟩
 ·obtain⟨v,z⟩:=I.cell x c e
  exact⟨v,cellK x c e v z⟩
 ·obtain⟨m,⟨o,_,_,ho,_⟩,_⟩:=I.loc
  exact free _ o (λz=>(hch _ z).2.1 rfl) ho I.free
 ·obtain⟨v,o,ho,hd⟩:=I.cell x c e
  exact free c o (λz=>(hch c z).2.2.1 x c e rfl) ho (I.mE x c e)
 ·obtain⟨e,n,ne,nf,d⟩:=I.pin p hp
  have Kq:p.1∉ch:=λz=>(hch p.1 z).2.2.2 p hp rfl
  exact⟨keep p.1 p.2 ne nf Kq e n,free p.1 p.2 Kq e n,ne,nf,d⟩
theorem Inv.un{t':Nat}(I:Inv X pins σ H s)(u:Un X.fs [] H H' s.heap h')(hok:kN X.prog X.w H' h'):Inv X pins σ H' { s with heap:=h',toks:=t' }:=by
 obtain⟨m,⟨o,es,ep,ho,r⟩,_⟩:=id I.loc
 obtain⟨sl,hL⟩:=u.any ho I.free (by simp)
 exact I.step (g':=s.gens) (d':=s.drawn) (ch:=[]) (λ_ z=>nomatch z) (λb o _ hb _ e n=>u.keep b o e n hb (by simp)) (λb o _ hb _ e n=>u.slot b o e n hb (by simp)) (λb o _ e n=>u.free b o e n (by simp)) (λb o _ e=>u.there b o e (by simp)) u.tups u.mQ u.pf (λm' hm=>by
  obtain⟨o',es',qx,ho',r'⟩:=hm
  rw[ho] at ho';cases ho'
  exact⟨_,es',qx,hL,r'⟩) hok I.bare
theorem Inv.call{g':Array GenState}{t':Nat}{d':Drawn}{ch:List UN}(I:Inv X pins σ H s)(u:Un (frs X.stack) ch H H' s.heap h')(hok:kN X.prog X.w H' h')(hg:AllBare g')
  (hch:∀b∈ch,(b∈X.ex\/X.s₀.heap.objs.size<=b)/\b≠X.env.locals/\(∀x c,X.env.cells.lookup x=some c->c≠b)/\∀p∈X.pn++pins,p.1≠b) :
  Inv X pins σ H' { s with heap:=h',gens:=g',drawn:=d',toks:=t' }:=by
 obtain⟨m,⟨o,es,ep,ho,r⟩,_⟩:=id I.loc
 obtain⟨sl,hL⟩:=u.any ho I.free λz=>(hch _ z).2.1 rfl
 exact I.step (ch:=ch) hch (λb o hL hb hc e n=>u.keep b o e n (λz=>(List.mem_cons.mp (I.qv b z)).elim hL hb) hc) (λb o _ _ hc e n=>u.any e n hc) (λb o hc e n=>u.free b o e n hc) (λb o hc e=>u.there b o e hc) u.tups u.mQ u.pf (λm' hm=>by
  obtain⟨o',es',qx,ho',r'⟩:=hm
  rw[ho] at ho';cases ho'
  exact⟨_,es',qx,hL,r'⟩) hok hg
theorem Inv.turned{t':Nat}{it:UN}(I:Inv X pins σ H s)(k:∀b o,b≠it->s.heap.get? b=some o->h'.get? b=some o)(hn:H it=none)(hL:it≠X.env.locals)
  (h1:it∈X.ex\/X.s₀.heap.objs.size<=it)(h2:∀x c,X.env.cells.lookup x=some c->c≠it)(h3:∀p∈X.pn++pins,p.1≠it):Inv X pins σ H { s with heap:=h',toks:=t' }:=by
 have Ql:∀b u,H b=some u->b≠it:=λb u e z=>by rw[z,hn] at e;cases e
 refine I.step (g':=s.gens) (d':=s.drawn) (ch:=[it]) (λb hb=>?_) (λb o _ _ hc e _=>k b o (λz=>hc (by simp[z])) e) (λb o _ _ hc e _=>⟨o.slots,k b o (λz=>hc (by simp[z])) e⟩) (λ_ _ _ _ n=>n)
  (λb o hc e=>⟨o,k b o (λz=>hc (by simp[z])) e⟩) (λ_ _ e=>e) (λ_ _ _ e=>e) (λb ps e=>⟨#[],by rw[e];simp⟩) (λm hm=>?_) (λb u e=>?_) I.bare
 ·have e:b=it:=by simpa using hb
  subst e
  exact⟨h1,hL,h2,h3⟩
 ·obtain⟨o,es,ep,ho,r⟩:=hm
  exact⟨o,es,ep,k _ o (cT hL) ho,r⟩
 ·refine(I.hok b u e).stay (λc v hc q=>k c v ?_ q) (λ_ q=>q) λ_ _ q=>q
  rcases hc with z | z
  ·rw[z];exact Ql b u e
  ·exact Ql c _ z
theorem Inv.tok(I:Inv X pins σ H s)(t:Nat):Inv X pins σ H { s with toks:=t }:=I.un (h':=s.heap) (t':=t) Un.refl I.hok
theorem Inv.kept{t':Nat}(I:Inv X pins σ H s)(k:∀b u,s.heap.get? b=some u->h'.get? b=some u):Inv X pins σ H { s with heap:=h',toks:=t' }:=I.un (Un.kept k) (I.hok.kept k)
theorem Inv.laid{a:UN}{o:HO}{t':Nat}(I:Inv X pins σ H s)(k:∀b u,s.heap.get? b=some u->h'.get? b=some u)(hp:s.heap.objs.size<=a)(new:e_ X.prog X.w (upd H a o) h' a o) :
  Inv X pins σ (upd H a o) { s with heap:=h',toks:=t' }:=I.un (Un.laid k hp (I.hok.fresh hp)) (I.hok.laid k hp new)
theorem Inv.write{x e:UN}{o:HO}{t':Nat}(I:Inv X pins σ H s)(mu:MI (H x))(he:e=x\/H e=some (.own x))(k:∀b u,b≠e->s.heap.get? b=some u->h'.get? b=some u)(J3:∃u,h'.get? e=some u)
  (new:e_ X.prog X.w (upd H x o) h' x o):Inv X pins σ (upd H x o) { s with heap:=h',toks:=t' }:=I.un (Un.write mu he k J3) (I.hok.write mu he k J3 new)
theorem Inv.wk{wo:List (UN×Obj)}(I:Inv X pins σ H s)(h:∀p∈wo,s.heap.get? p.1=some p.2/\H p.1=none/\p.1≠X.env.locals/\p.1∉X.fs/\∀v,p.2.data≠.cell v):Inv X wo σ H s :=
 ⟨I.ok,I.os,I.bare,I.base,I.loc,I.cell,I.free,I.mE,λp hp=>(List.mem_append.mp hp).elim (λz=>I.pin p (fz _ z)) (h p),I.hok,I.len⟩
theorem sJ{N:List Str}(hN:N.Nodup){i j:Nat}{x:Str}(a:N[i]? =some x)(b:N[j]? =some x):i=j:=by
 obtain⟨h1,e1⟩:=List.getElem?_eq_some_iff.mp a
 obtain⟨h2,e2⟩:=List.getElem?_eq_some_iff.mp b
 exact(List.getElem_inj hN).mp (e1.trans e2.symm)
theorem pO{M:Model}{A:UO}{E:UT->US->Prop}{i:Nat}{x:Str}{v:V}{u:UT}{Q:Unit->US->Prop}(I:Inv X pins σ H s)(hN:X.N.Nodup)(hi:X.N[i]? =some x)(hx:Loc X.env.scope x)(r:RelV v u)
  (h:∀s',Inv X pins (σ.set i (some v)) H s'->(∃a,lS a s.heap s'.heap/\(a=X.env.locals\/X.env.cells.lookup x=some a))->Q () s')(hf:X.fn x=true\/X.env.scope.names.lookup x=some .local:=by first | exact .inl rfl | exact .inr rfl | assumption):U7 M A (storeName X.env x u) Q E s:=by
 obtain⟨m,hn,hl⟩:=id I.loc
 have hcls:(X.env.scope.kind == .class||(X.env.scope.kind == .module&&X.env.locals != X.env.globals))=false:=by rw[I.ok.kind];rfl
 have Kr:i < σ.length:=by rw[I.len];exact(List.getElem?_eq_some_iff.mp hi).1
 have Gh:=I.Gh
 have tracked:∀{a:UN}{h':Heap},(∃o,s.heap.get? a=some o/\H a=none)->lS a s.heap h'->kN X.prog X.w H h':=λ{a h'} ha hs b ob e=>by
  obtain⟨_,_,hfree⟩:=ha
  refine(I.hok b ob e).stay (λc w' hc q=>(hs.2 c ?_).trans q) (λ_ q=>q) λ_ _ q=>q
  rintro rfl
  rcases hc with rfl | hc
  ·rw[hfree] at e;cases e
  ·rw[hfree] at hc;cases hc
 rcases hx with hk | hk
 ·refine wpAny_storeName_local hk hn (λh' hn' hs=>?_) hcls
  obtain⟨oL,_,_,RH,_⟩:=id hn
  refine h _ ⟨I.ok,I.os,I.bare,⟨λb o e n hb hx=>?_,λb o e n hb hx=>?_,I.base.free,λb o e hx=>?_,I.base.tups,I.base.mQ,I.base.pf⟩,⟨_,hn',λj y v' e1 e2 e3=>?_⟩,λy c e=>?_,I.free,I.mE,λp hp=>?_,tracked ⟨oL,RH,I.free⟩ hs,by simpa using I.len⟩ ⟨_,hs,.inl rfl⟩
  ·exact(hs.2 b (a6 (aL (aE e) I.ok.above))).trans (I.base.keep b o e n hb hx)
  ·obtain⟨sl,e1⟩:=I.base.slot b o e n hb hx
   exact⟨sl,(hs.2 b (a6 (aL (aE e) I.ok.above))).trans e1⟩
  ·obtain⟨o',e1⟩:=I.base.there b o e hx
   exact⟨o',(hs.2 b (a6 (aL (aE e) I.ok.above))).trans e1⟩
  ·by_cases hj:j=i
   ·subst hj
    rw[hi] at e1;cases e1
    rw[kO Kr] at e2
    cases e2
    exact⟨u,r,.inl ⟨hk,by simp⟩⟩
   ·rw[kP (cT hj)] at e2
    obtain⟨u',r',q⟩:=hl j y v' e1 e2 e3
    refine⟨u',r',?_⟩
    rcases q with ⟨k,e⟩ | ⟨k,c,e,z⟩
    ·refine .inl ⟨k,?_⟩
     have:y≠x:=λe=>hj (sJ hN e1 (e ▸ hi))
     simp[this,e]
    ·exact .inr ⟨k,c,e,z.sameBut hs (Gh y c e)⟩
  ·obtain⟨w',z⟩:=I.cell y c e
   exact⟨w',z.sameBut hs (Gh y c e)⟩
  ·obtain⟨e,n,ne,nf,d⟩:=I.pin p hp
   exact⟨(hs.2 p.1 ne).trans e,n,ne,nf,d⟩
 ·have hfn:X.fn x=true:=by
   rcases hf with z | z
   ·exact z
   ·rw[z] at hk;cases hk
  obtain⟨c,hc⟩:=I.ok.has x (.inl hk)
  obtain⟨w',z⟩:=I.cell x c hc
  refine wpAny_storeName_cell I.ok.kind hk hc z (λh' hc' hs=>?_)
  obtain⟨oc,hoc,NA⟩:=id z
  refine h { s with heap:=h' } ⟨I.ok,I.os,I.bare,⟨λb o e n hb hx=>?_,λb o e n hb hx=>?_,I.base.free,λb o e hx=>?_,I.base.tups,I.base.mQ,I.base.pf⟩,⟨m,hn.sameBut hs (cT (Gh x c hc)),λj y v' e1 e2 e3=>?_⟩,λy c' e=>?_,I.free,I.mE,λp hp=>?_,tracked ⟨oc,hoc,I.mE x c hc⟩ hs,by simpa using I.len⟩ ⟨c,hs,.inr hc⟩
  ·exact(hs.2 b (a6 (aL (aE e) (I.ok.Nx x c hfn hc)))).trans (I.base.keep b o e n hb hx)
  ·obtain⟨sl,e1⟩:=I.base.slot b o e n hb hx
   exact⟨sl,(hs.2 b (a6 (aL (aE e) (I.ok.Nx x c hfn hc)))).trans e1⟩
  ·obtain⟨o',e1⟩:=I.base.there b o e hx
   exact⟨o',(hs.2 b (a6 (aL (aE e) (I.ok.Nx x c hfn hc)))).trans e1⟩
  ·by_cases hj:j=i
   ·subst hj
    rw[hi] at e1;cases e1
    rw[kO Kr] at e2
    cases e2
    exact⟨u,r,.inr ⟨.inl hk,c,hc,hc'⟩⟩
   ·rw[kP (cT hj)] at e2
    obtain⟨u',r',q⟩:=hl j y v' e1 e2 e3
    refine⟨u',r',?_⟩
    rcases q with q | ⟨k,c',e,z'⟩
    ·exact .inl q
    ·refine .inr ⟨k,c',e,z'.sameBut hs ?_⟩
     rintro rfl
     exact hj (sJ hN e1 (I.ok.inj _ _ _ e hc ▸ hi))
  ·by_cases hcc:c'=c
   ·subst hcc;exact⟨_,hc'⟩
   ·obtain⟨w2,z2⟩:=I.cell y c' e
    exact⟨w2,z2.sameBut hs hcc⟩
  ·obtain⟨e,n,ne,nf,d⟩:=I.pin p hp
   refine⟨(hs.2 p.1 ?_).trans e,n,ne,nf,d⟩
   intro q
   rw[q,hoc] at e
   have q':oc=p.2:=Option.some.inj e
   exact d w' (by rw[<-q'];exact NA)
theorem nD{M:Model}{A:UO}{E:UT->US->Prop}{i:Nat}{x:Str}{v:V}{u:UT}{Q:Unit->US->Prop}(I:Inv X pins σ H s)(hN:X.N.Nodup)(hi:X.N[i]? =some x)(hx:Loc X.env.scope x)(r:RelV v u)
  (h:∀s',Inv X pins (σ.set i (some v)) H s'->Q () s')(hf:X.fn x=true\/X.env.scope.names.lookup x=some .local:=by first | exact .inl rfl | exact .inr rfl | assumption):U7 M A (storeName X.env x u) Q E s :=
 pO I hN hi hx r (λs' I' _=>h s' I') hf
theorem Inv.Ks{s':US}{ch:List UN}(I:Inv X pins σ H s)(ho:s'.os=s.os)(u:Un (frs X.stack) ch H H' s.heap s'.heap)(hok:kN X.prog X.w H' s'.heap)(hg:AllBare s'.gens)
  (hch:∀b∈ch,(b∈X.ex\/X.s₀.heap.objs.size<=b)/\b≠X.env.locals/\(∀x c,X.env.cells.lookup x=some c->c≠b)/\∀p∈X.pn++pins,p.1≠b):Inv X pins σ H' s':=by
 obtain⟨h',g',d',t',o'⟩:=s'
 have e:o'=s.os:=ho
 subst e
 exact I.call (g':=g') (t':=t') (d':=d') u hok hg hch
end
abbrev XK:=UT->Option UN->Hp->Prop
abbrev St:=List (Option V)
abbrev VK:=V->Hp->Prop
abbrev TE:=St->Hp->VK->Prop
abbrev TT:=St->Hp->(Bool->Hp->Prop)->Prop
abbrev TA:=St->Hp->(List V->Hp->Prop)->Prop
structure Ends where
 nx:St->Hp->Prop
 rt:VK
 bk:St->Hp->Prop:=λ_ _=>False
 ct:St->Hp->Prop:=λ_ _=>False
abbrev TS:=Ends->St->Hp->Prop
def EP(X:Cx)(pins:List (UN×Obj))(σ:St)(Q:VK)(u:UT)(s':US):Prop:=∃v H',Inv X pins σ H' s'/\RelV v u/\Q v H'
def TP(X:Cx)(pins:List (UN×Obj))(σ:St)(Q:Bool->Hp->Prop)(b:Bool)(s':US):Prop:=∃H',Inv X pins σ H' s'/\Q b H'
def AP(X:Cx)(pins:List (UN×Obj))(σ:St)(Q:List V->Hp->Prop)(us:List UT)(s':US):Prop:=∃vs H',Inv X pins σ H' s'/\Vals vs us/\Q vs H'
def SP(X:Cx)(pins:List (UN×Obj))(D:Ends)(f:Flow)(s':US):Prop :=
 match f with
 | .next=>∃σ' H',Inv X pins σ' H' s'/\D.nx σ' H'
 | .brk=>∃σ' H',Inv X pins σ' H' s'/\D.bk σ' H'
 | .cont=>∃σ' H',Inv X pins σ' H' s'/\D.ct σ' H'
 | .ret u=>∃v σ' H',Inv X pins σ' H' s'/\RelV v u/\D.rt v H'
def PE(X:Cx)(e:Expr)(t:TE):Prop :=
 ∀(pins:List (UN×Obj))(s:US)(σ:St)(H:Hp)(Q:VK),Inv X pins σ H s->t σ H Q->U7 (model X.prog X.w) X.A (eval e X.env) (EP X pins σ Q) X.xe s
def PT(X:Cx)(e:Expr)(t:TT):Prop :=
 ∀(pins:List (UN×Obj))(s:US)(σ:St)(H:Hp)(Q:Bool->Hp->Prop),Inv X pins σ H s->t σ H Q->U7 (model X.prog X.w) X.A (isTrue e X.env (eval e X.env)) (TP X pins σ Q) X.xe s
def PW(X:Cx)(e:Expr)(t:TT):Prop :=
 ∀(whole:Sem UT)(pins:List (UN×Obj))(s:US)(σ:St)(H:Hp)(Q:Bool->Hp->Prop),Inv X pins σ H s->t σ H Q->U7 (model X.prog X.w) X.A (isTrue e X.env whole) (TP X pins σ Q) X.xe s
def PA(X:Cx)(es:List Expr)(t:TA):Prop :=
 ∀(pos:Pos)(pins:List (UN×Obj))(s:US)(σ:St)(H:Hp)(Q:List V->Hp->Prop),Inv X pins σ H s->t σ H Q->U7 (model X.prog X.w) X.A (spliced (backTo pos (U6 es X.env))) (AP X pins σ Q) X.xe s
def PS(X:Cx)(st:Stmt)(t:TS):Prop :=
 ∀(pins:List (UN×Obj))(s:US)(σ:St)(H:Hp)(D:Ends),Inv X pins σ H s->t D σ H->U7 (model X.prog X.w) X.A (exec st X.env) (SP X pins D) X.xe s
def zx(X:Cx)(st:List Stmt)(t:TS):Prop :=
 ∀(pins:List (UN×Obj))(s:US)(σ:St)(H:Hp)(D:Ends),Inv X pins σ H s->t D σ H->U7 (model X.prog X.w) X.A (execs st X.env) (SP X pins D) X.xe s
theorem bI{α:Type}{t:Sem α}{Q Q':α->US->Prop}{M:Model}{A:UO}{E:UT->US->Prop}{s:US}(h:U7 M A t Q E s)(hQ:∀a s,Q a s->Q' a s):U7 M A t Q' E s:=U_ h hQ λ_ _ x=>x
section
variable {X:Cx}
def NB(i:Nat):TE:=λσ H Q=>∃v,σ[i]? =some (some v)/\Q v H
def tC(v:V):TE:=λ_ H Q=>Q v H
theorem Gi{i:Nat}{x:Str}{pos:Pos}(hN:X.N[i]? =some x)(hv:Nw X.env.scope x)(hd:(x == ("__debug__":Str))=false:=by decide)(hcd:(x == ("__classdict__":Str))=false:=by decide):PE X (.Name x pos) (NB i):=by
 intro pins s σ H Q I h
 obtain⟨v,e,h⟩:=h
 obtain⟨m,hn,hl⟩:=I.loc
 obtain⟨u,r,l⟩:=hl i x v hN e hv
 have fin:EP X pins σ Q u s:=⟨v,H,I,r,h⟩
 rcases l with ⟨hk,hm⟩ | ⟨hk,c,hc,hcell⟩
 ·exact wpAny_Name (wpAny_loadName_local I.ok.kind hk hn hm fin) hd
 ·rcases hk with hk | hk
  ·exact wpAny_Name (wpAny_loadName_cell I.ok.kind hk hc hcell fin) hd
  ·exact wpAny_Name (wpAny_loadName_free I.ok.kind hk hc hcell fin hcd) hd
theorem Gj{i j pos}:PE X (.Constant (.int i) j pos) (tC (.int i)):=λ_ _ _ H _ I h=>wpAny_Constant_int ⟨.int i,H,I.tok _,⟨_,rfl⟩,h⟩
theorem Kt{b j pos}:PE X (.Constant (.bool b) j pos) (tC (.bl b)):=λ_ _ _ H _ I h=>Constant_bool ⟨.bl b,H,I,rfl,h⟩
theorem Gk{j pos}:PE X (.Constant .none j pos) (tC .bS):=λ_ _ _ H _ I h=>Constant_none ⟨.bS,H,I,rfl,h⟩
theorem Gm{x j pos}:PE X (.Constant (.str x) j pos) (tC (.str x)):=λ_ _ _ H _ I h=>Calls.Constant_str ⟨.str x,H,I.tok _,⟨_,rfl⟩,h⟩
def Gl(X:Cx)(x:Str):Prop:=X.env.kindOf x=some .globalImplicit
theorem qy{E:UT->US->Prop}{pins:List (UN×Obj)}{s:US}{σ:St}{H:Hp}{x:Str}{u:UT}{pos:Pos}{Q:UT->US->Prop}(I:Inv X pins σ H s)(hg:Gl X x)(hm:X.mg x=some u)(h:Q u s)
  (hd:(x == ("__debug__":Str))=false:=by decide):U7 (model X.prog X.w) X.A (eval (.Name x pos) X.env) Q E s :=
 Gn I.ok.kind hg (Calls.loadGlobal_global (by rw[I.ok.glob];exact I.mod.glob.keeps I.bk) hm h) hd
theorem kl{E:UT->US->Prop}{pins:List (UN×Obj)}{s:US}{σ:St}{H:Hp}{x:Str}{u:UT}{pos:Pos}{Q:UT->US->Prop}(I:Inv X pins σ H s)(hg:Gl X x)(hm:X.mg x=none)(hv:UY x=some u)(h:Q u s)
  (hn:x≠"__name__":=by decide)(hd:(x == ("__debug__":Str))=false:=by decide):U7 (model X.prog X.w) X.A (eval (.Name x pos) X.env) Q E s:=by
 obtain⟨mb,h1,h2⟩:=I.mod.blt
 exact Gn I.ok.kind hg (Calls.loadGlobal_builtin (by rw[I.ok.glob];exact I.mod.glob.keeps I.bk) hm (by rw[I.ok.blt];exact h1.keeps I.bk) ((h2 x hn).trans hv) h) hd
theorem jM{x:Str}{v:V}{u:UT}{pos:Pos}(hg:Gl X x)(hm:X.mg x=some u)(r:RelV v u)(hd:(x == ("__debug__":Str))=false:=by decide):PE X (.Name x pos) (tC v) :=
 λ_ _ _ H _ I h=>qy I hg hm ⟨v,H,I,r,h⟩ hd
theorem Dw{x:Str}{v:V}{u:UT}{pos:Pos}(hg:Gl X x)(hm:X.mg x=none)(hv:UY x=some u)(r:RelV v u)(hn:x≠"__name__":=by decide)(hd:(x == ("__debug__":Str))=false:=by decide):PE X (.Name x pos) (tC v) :=
 λ_ _ _ H _ I h=>kl I hg hm hv ⟨v,H,I,r,h⟩ hn hd
variable {a b:Expr} {ta tb:TE} {pos:Pos}
variable {tA ML:TT} {rest:List Expr}
def NC(t u:TT):TT:=λσ H Q=>t σ H λc H1=>if c=true then u σ H1 Q else Q false H1
def RI(t u:TT):TT:=λσ H Q=>t σ H λc H1=>if c=true then Q true H1 else u σ H1 Q
def ND(t:TT):TT:=λσ H Q=>t σ H λc H1=>Q (!c) H1
theorem Dx(ha:PT X a tA):PW X (.BoolOp .And [a] pos) tA:=by
 intro wh pins s σ H Q I h
 refine isTrue_and (bI (ha pins s σ H Q I h) λc s1 e=>?_)
 cases c with
 | true=>exact isTrue_and_nil e
 | false=>exact e
theorem Gp(ha:PT X a tA):PW X (.BoolOp .Or [a] pos) tA:=by
 intro wh pins s σ H Q I h
 refine isTrue_or (bI (ha pins s σ H Q I h) λc s1 e=>?_)
 cases c with
 | false=>exact isTrue_or_nil e
 | true=>exact e
theorem Gq(ha:PT X a tA)(hb:PW X (.BoolOp .And (b::rest) pos) ML):PW X (.BoolOp .And (a::b::rest) pos) (NC tA ML):=by
 intro wh pins s σ H Q I h
 refine isTrue_and (bI (ha pins s σ H _ I h) λc s1 ⟨H1,I1,q1⟩=>?_)
 cases c with
 | true=>exact hb wh pins s1 σ H1 Q I1 q1
 | false=>exact⟨H1,I1,q1⟩
theorem Ku(ha:PT X a tA)(hb:PW X (.BoolOp .Or (b::rest) pos) ML):PW X (.BoolOp .Or (a::b::rest) pos) (RI tA ML):=by
 intro wh pins s σ H Q I h
 refine isTrue_or (bI (ha pins s σ H _ I h) λc s1 ⟨H1,I1,q1⟩=>?_)
 cases c with
 | true=>exact⟨H1,I1,q1⟩
 | false=>exact hb wh pins s1 σ H1 Q I1 q1
theorem Gs(ha:PT X a tA):PT X (.UnaryOp .Not a pos) (ND tA):=by
 intro pins s σ H Q I h
 exact isTrue_not (ha pins s σ H (λc H1=>Q (!c) H1) I h)
def Kv(ta tb:TE):TE:=λσ H Q=>ta σ H λx H1=>∃c,x= .bl c/\if c=true then tb σ H1 Q else Q (.bl false) H1
theorem Gu{op}{t:TE}(h:PE X a t):PE X (.BoolOp op [a] pos) t:=λpins s σ H Q I hw=>BoolOp_one (h pins s σ H Q I hw)
theorem Gv(ha:PE X a ta)(hb:PE X (.BoolOp .And (b::rest) pos) tb):PE X (.BoolOp .And (a::b::rest) pos) (Kv ta tb):=by
 intro pins s σ H Q I h
 refine BoolOp_and (bI (ha pins s σ H _ I h) λv s1 ⟨x,H1,I1,r1,q1⟩=>?_)
 obtain⟨c,rfl,q1⟩:=q1
 cases r1
 refine Vc ?_
 cases c with
 | true=>exact hb pins s1 σ H1 Q I1 q1
 | false=>exact⟨.bl false,H1,I1,rfl,q1⟩
def RJ(t:TT)(ta tb:TE):TE:=λσ H Q=>t σ H λc H1=>if c=true then ta σ H1 Q else tb σ H1 Q
theorem zy{c:Expr}(hc:PT X c tA)(ha:PE X a ta)(hb:PE X b tb):PE X (.IfExp c a b pos) (RJ tA ta tb):=by
 intro pins s σ H Q I h
 refine wpAny_IfExp (bI (hc pins s σ H _ I h) λd s1 ⟨H1,I1,q1⟩=>?_)
 cases d with
 | true=>exact ha pins s1 σ H1 Q I1 q1
 | false=>exact hb pins s1 σ H1 Q I1 q1
end
def j9(K:PySem.W.Frag)(H:Hp)(a:UN)(xs:List V):Prop :=
 Rd H a (.lst xs)\/
  ∃(o:Obj)(its:Array UT)(n:Nat),K.lookup a=some o/\o.cls= .type "list"/\o.dict=none/\o.data= .seq its n/\its.size<=U5/\Vals xs its.toList
def fY(K:PySem.W.Frag)(H:Hp)(a:UN)(xs:List V):Prop :=
 Rd H a (.tup xs)\/
  ∃(o:Obj)(its:Array UT)(n:Nat),K.lookup a=some o/\o.cls= .type "tuple"/\o.data= .seq its n/\its.size<=U5/\Vals xs its.toList
def NF:UT->Option V
 | .none=>some .bS
 | .bool b=>some (.bl b)
 | .int i _=>some (.int i)
 | .str x _=>some (.str x)
 | .bytes b _=>some (.J2 b)
 | .float b _=>some (.MG b)
 | .ref a=>some (.ref a)
 | .type n=>some (.ty n)
 | _=>none
theorem RelV.abs{x:V}{u:UT}(r:RelV x u):NF u=some x:=by
 cases x with
 | bS=>cases r;rfl
 | bl _=>cases r;rfl
 | int _=>obtain⟨t,rfl⟩:=r;rfl
 | str _=>obtain⟨t,rfl⟩:=r;rfl
 | J2 _=>obtain⟨t,rfl⟩:=r;rfl
 | MG _=>obtain⟨t,rfl⟩:=r;rfl
 | ref _=>cases r;rfl
 | ty _=>cases r;rfl
theorem RelV.inj{x y:V}{u:UT}(r:RelV x u)(q:RelV y u):x=y:=Option.some.inj (r.abs.symm.trans q.abs)
theorem Vals.inj:∀{xs ys:List V}{us:List UT},Vals xs us->Vals ys us->xs=ys
 | _,_,_,.nil,.nil=>rfl
 | _,_,_,.cons r t,.cons r' t'=>by rw[r.inj r',Vals.inj t t']
section
variable {X:Cx} {pins:List (UN×Obj)} {σ:St} {H:Hp} {s:US} {a:UN} {xs ys:List V}
theorem j9.of{K:PySem.W.Frag}(h:H a=some (.lst xs)):j9 K H a xs:=.inl (.inl h)
theorem fY.of{K:PySem.W.Frag}(h:H a=some (.tup xs)):fY K H a xs:=.inl (.inl h)
theorem Inv.list(I:Inv X pins σ H s)(h:j9 X.K H a xs):∃its:List UT,Vals xs its/\PlainL s.heap a its.toArray/\xs.length<=U5:=by
 rcases h with h | ⟨o,its,n,hk,hc,hd,hs,hz,r⟩
 ·obtain⟨z,its,n,r,e⟩:=h.ok I.hok
  exact⟨its,r,⟨_,n,e,rfl,rfl,rfl⟩,z⟩
 ·refine⟨its.toList,r,⟨o,n,I.Dv a o hk,hc,hd,by simpa using hs⟩,?_⟩
  have e:=r.length
  simp only[gq] at e
  omega
theorem Inv.tuple(I:Inv X pins σ H s)(h:fY X.K H a xs):∃its:List UT,Vals xs its/\IsTup s.heap a its.toArray/\xs.length<=U5:=by
 rcases h with h | ⟨o,its,n,hk,hc,hs,hz,r⟩
 ·obtain⟨z,its,r,p,_⟩:=h.ok I.hok
  exact⟨its,r,p,z⟩
 ·refine⟨its.toList,r,⟨o,I.Dv a o hk,hc,n,by simpa using hs⟩,?_⟩
  have e:=r.length
  simp only[gq] at e
  omega
theorem Inv.zA(I:Inv X pins σ H s)(h:j9 X.K H a xs)(h':j9 X.K H a ys):xs=ys:=by
 obtain⟨its,r,⟨o,n,e,_,_,d⟩,_⟩:=I.list h
 obtain⟨its',r',⟨o',n',e',_,_,d'⟩,_⟩:=I.list h'
 rw[e] at e';cases e'
 rw[d] at d'
 injection d' with d1 _
 have:its=its':=by simpa using congrArg Array.toList d1
 subst this
 exact r.inj r'
theorem Inv.xV(I:Inv X pins σ H s)(h:fY X.K H a xs)(h':fY X.K H a ys):xs=ys:=by
 obtain⟨its,r,⟨o,e,_,n,d⟩,_⟩:=I.tuple h
 obtain⟨its',r',⟨o',e',_,n',d'⟩,_⟩:=I.tuple h'
 rw[e] at e';cases e'
 rw[d] at d'
 injection d' with d1 _
 have:its=its':=by simpa using congrArg Array.toList d1
 subst this
 exact r.inj r'
end
section
variable {X:Cx} {pins:List (UN×Obj)} {σ:St} {H:Hp} {s:US} {E:UT->US->Prop}
end
section
variable {X:Cx} {st:Stmt} {rest:List Stmt} {t u:TS} {e:Expr} {te:TE} {pos:Pos}
def FA:TS:=λD σ H=>D.nx σ H
def NG(t u:TS):TS:=λD σ H=>t { D with nx:=u D } σ H
theorem Dy:zx X [] FA:=λ_ _ σ H _ I h=>wpAny_execs_nil ⟨σ,H,I,h⟩
theorem zB(h1:PS X st t)(h2:zx X rest u):zx X (st::rest) (NG t u):=by
 intro pins s σ H D I h
 refine wpAny_execs_cons (bI (h1 pins s σ H { D with nx:=u D } I h) λf s1 q=>?_)
 cases f with
 | next=>
  obtain⟨σ',H',I',q⟩:=q
  exact h2 pins s1 σ' H' D I' q
 | ret v=>exact q
 | brk=>exact q
 | cont=>exact q
theorem Dz(h1:PS X st t):zx X [st] t:=by
 intro pins s σ H D I h
 refine wpAny_execs_cons (bI (h1 pins s σ H D I h) λf s1 q=>?_)
 cases f with
 | next=>exact wpAny_execs_nil q
 | ret v=>exact q
 | brk=>exact q
 | cont=>exact q
theorem DA:PS X (.Pass pos) FA:=λ_ _ σ H _ I h=>wpAny_Pass ⟨σ,H,I,h⟩
theorem Inv.quiet{pins:List (UN×Obj)}{σ:St}{H:Hp}{s:US}(I:Inv X pins σ H s):interactive X.env=false:=by simp[interactive,I.ok.kind]
def Kx(te:TE):TS:=λD σ H=>te σ H λ_ H1=>D.nx σ H1
theorem DB(he:PE X e te)(hs:swapsWith e none pos.line X.env=pure false:=by rfl):PS X (.Expr e pos) (Kx te):=by
 intro pins s σ H D I h
 exact wpAny_Expr_any (bI (he pins s σ H _ I h) λv s1 ⟨x,H1,I1,r1,q1⟩=>⟨σ,H1,I1,q1⟩) I.quiet hs
def NH(te:TE):TS:=λD σ H=>te σ H D.rt
theorem Gw(he:PE X e te):PS X (.Return (some e) pos) (NH te):=by
 intro pins s σ H D I h
 exact wpAny_Return_some (bI (he pins s σ H _ I h) λv s1 ⟨x,H1,I1,r1,q1⟩=>⟨x,σ,H1,I1,r1,q1⟩)
def Ky:TS:=λD _ H=>D.rt .bS H
theorem DC:PS X (.Return none pos) Ky:=λ_ _ σ H _ I h=>wpAny_Return_none ⟨.bS,σ,H,I,rfl,h⟩
def NI(c:TT)(t u:TS):TS:=λD σ H=>c σ H λb H1=>if b=true then t D σ H1 else u D σ H1
theorem Kz{c:Expr}{a b:List Stmt}{tc:TT}(hc:PT X c tc)(ha:zx X a t)(hb:zx X b u):PS X (.If c a b pos) (NI tc t u):=by
 intro pins s σ H D I h
 refine wpAny_If (bI (hc pins s σ H _ I h) λd s1 ⟨H1,I1,q1⟩=>?_)
 cases d with
 | true=>exact ha pins s1 σ H1 D I1 q1
 | false=>exact hb pins s1 σ H1 D I1 q1
def zC:TS:=λ_ _ _=>False
theorem zD:PS X st zC:=λ_ _ _ _ _ _ h=>h.elim
theorem xW{sts:List Stmt}:zx X sts zC:=λ_ _ _ _ _ _ h=>h.elim
end
abbrev TG:=V->St->Hp->(St->Hp->Prop)->Prop
def PG(X:Cx)(target:Expr)(t:TG):Prop :=
 ∀(pins:List (UN×Obj))(s:US)(σ:St)(H:Hp)(v:V)(u:UT)(Q:St->Hp->Prop),Inv X pins σ H s->RelV v u->t v σ H Q->
  U7 (model X.prog X.w) X.A (assign target X.env u) (λ_ s'=>∃σ' H',Inv X pins σ' H' s'/\Q σ' H') X.xe s
abbrev mR:=V->V->V->Hp->(Hp->Prop)->Prop
def KC(X:Cx)(t:mR):Prop :=
 ∀(pins:List (UN×Obj))(s:US)(σ:St)(H:Hp)(o i v:V)(ov iv u:UT)(Q:Hp->Prop),Inv X pins σ H s->RelV o ov->RelV i iv->RelV v u->t o i v H Q->
  U7 (model X.prog X.w) X.A (setItem ov iv u) (λ_ s'=>∃H',Inv X pins σ H' s'/\Q H') X.xe s
section
variable {X:Cx} {pos:Pos}
def wq(i:Nat):TG:=λv σ H Q=>Q (σ.set i (some v)) H
theorem qz{i:Nat}{x:Str}(hN:X.N.Nodup)(hi:X.N[i]? =some x)(hx:Loc X.env.scope x)(hf:X.fn x=true\/X.env.scope.names.lookup x=some .local:=by first | exact .inl rfl | exact .inr rfl | assumption):PG X (.Name x pos) (wq i):=by
 intro pins s σ H v u Q I r h
 exact wpAny_assign_Name (nD I hN hi hx r (λs' I'=>⟨_,H,I',h⟩) hf)
def NJ(to ti:TE)(t:mR):TG:=λv σ H Q=>to σ H λo H1=>ti σ H1 λi H2=>t o i v H2 λH3=>Q σ H3
theorem Gx{o i:Expr}{to ti:TE}{t:mR}(ho:PE X o to)(hi:PE X i ti)(hs:KC X t)
  (ha:∀v,assign (.Subscript o i pos) X.env v=(do
   let ov <-holding [v] (eval o X.env)
   let iv <-holding [v,ov] (eval i X.env)
   standAt pos
   holding [v,ov,iv] (setItem ov iv v)
   release [v,ov,iv] []):=by intro _;rfl):PG X (.Subscript o i pos) (NJ to ti t):=by
 intro pins s σ H v u Q I r h
 rw[ha]
 refine U8 (U9 (bI (ho pins s σ H _ I h) λov s1 ⟨x,H1,I1,r1,q1⟩=>?_))
 refine U8 (U9 (bI (hi pins s1 σ H1 _ I1 q1) λiv s2 ⟨y,H2,I2,r2,q2⟩=>?_))
 refine U8 (wpAny_standAt (U8 (U9 (bI (hs pins s2 σ H2 x y v ov iv u _ I2 r1 r2 r q2) λ_ s3 ⟨H3,I3,q3⟩=>?_))))
 exact wpAny_release ⟨σ,H3,I3,q3⟩
def KG(te:TE)(g:TG):TS:=λD σ H=>te σ H λx H1=>g x σ H1 D.nx
theorem Gy{tg e:Expr}{te:TE}{g:TG}(he:PE X e te)(hg:PG X tg g)(hs:swapsWithSole [tg] e pos.line X.env=pure false:=by rfl)(hw:swappedStores [tg] e X.env=pure none:=by rfl)
  (h1:(assignEach [tg] X.env).map (·.2)=[assign tg X.env]:=by rfl):PS X (.Assign [tg] e pos) (KG te g):=by
 intro pins s σ H D I h
 refine wpAny_Assign_stores (bI (he pins s σ H _ I h) λv s1 ⟨x,H1,I1,r1,q1⟩=>?_) hs hw
 rw[h1]
 exact bI (hg pins s1 σ H1 x v _ I1 r1 q1) λ_ s2 q=>q
theorem Gz{i:Nat}{x:Str}{e:Expr}{te:TE}{pos':Pos}(hN:X.N.Nodup)(hi:X.N[i]? =some x)(hx:Loc X.env.scope x)(he:PE X e te)(hs:swapsWith e (some (.Name x pos')) pos.line X.env=pure false:=by rfl)(hf:X.fn x=true\/X.env.scope.names.lookup x=some .local:=by first | exact .inl rfl | exact .inr rfl | assumption) :
  PS X (.Assign [.Name x pos'] e pos) (KG te (wq i)):=by
 intro pins s σ H D I h
 refine wpAny_Assign_Name (bI (he pins s σ H _ I h) λv s1 ⟨y,H1,I1,r1,q1⟩=>?_) hs
 exact nD I1 hN hi hx r1 (λs2 I2=>⟨_,H1,I2,q1⟩) hf
end
section
variable {X:Cx} {pos:Pos}
end
structure It where
 go:Nat->Hp->Prop
 zi:Nat->Hp->V->Hp->Prop
 stop:Nat->Hp->Prop
def gj(X:Cx)(pins:List (UN×Obj))(H:Hp)(b:UN):Prop :=
 H b=none/\b≠X.env.locals/\b∉X.fs/\(b∈X.ex\/X.s₀.heap.objs.size<=b)/\(∀x c,X.env.cells.lookup x=some c->c≠b)/\∀p∈X.pn++pins,p.1≠b
theorem Inv.DD{X:Cx}{pins:List (UN×Obj)}{σ:St}{H H':Hp}{s:US}{b:UN}(I:Inv X pins σ H s)(hb:s.heap.objs.size<=b)(hn:H' b=none):gj X pins H' b:=by
 refine⟨hn,qA (aL I.lt hb),I.Nz hb,.inr (bt I.sz hb),λx c e z=>?_,λp hp z=>?_⟩
 ·obtain⟨v,q⟩:=I.cell x c e
  exact absurd (aL q.lt (by rw[z];exact hb)) (gn _)
 ·exact absurd (aL (aE (I.pin p hp).1) (by rw[z];exact hb)) (gn _)
structure Turn(P:UR)(w:UU)(K:PySem.W.Frag)(tg:Expr)(J:It)(fp:List UN)(it:UN)(tn:Nat->Heap->Prop):Prop where
 mem:it∈fp
 obj:∀i h,tn i h->∀b∈fp,∃o,h.get? b=some o/\∀v,o.data≠.cell v
 keep:∀i h h',tn i h->(∀b∈fp,∀o,h.get? b=some o->h'.get? b=some o)->tn i h'
 item:∀(X:Cx),X.prog=P->X.w=w->X.K=K->X.calm=true->∀(i:Nat)(pins:List (UN×Obj))(s:US)(σ:St)(H:Hp)(E:UT->US->Prop),Inv X pins σ H s->(∀b∈fp,gj X pins H b)->tn i s.heap->J.go i H->
  U7 (model P w) X.A (pyNext (.ref it)) (λr s1=>∃u,r=some u/\
   U7 (model P w) X.A (letOwnedTupleGo tg (.ref it) u) (λ_ s2=>∃x H',Inv X pins σ H' s2/\RelV x u/\J.zi i H x H'/\tn (i+1) s2.heap/\∀b∈fp,H' b=none) E s1) E s
 done:∀(X:Cx),X.prog=P->X.w=w->X.K=K->X.calm=true->∀(i:Nat)(pins:List (UN×Obj))(s:US)(σ:St)(H:Hp)(E:UT->US->Prop),Inv X pins σ H s->(∀b∈fp,gj X pins H b)->tn i s.heap->J.stop i H->
  U7 (model P w) X.A (pyNext (.ref it)) (λr s1=>r=none/\Inv X pins σ H s1) E s
 self:∀(A:UO)(i:Nat)(s:US)(Q:UT->US->Prop)(E:UT->US->Prop),tn i s.heap->Q (.ref it) s->U7 (model P w) A (pyIter (.ref it)) Q E s
abbrev TI:=St->Hp->(It->Hp->Prop)->Prop
def Qm(X:Cx)(pins:List (UN×Obj))(σ:St)(tg:Expr)(R:It->Hp->Prop)(itv:UT)(s2:US):Prop :=
 ∃(it:UN)(fp:List UN)(tn:Nat->Heap->Prop)(J:It)(H':Hp),itv= .ref it/\Inv X pins σ H' s2/\Turn X.prog X.w X.K tg J fp it tn/\tn 0 s2.heap/\(∀b∈fp,gj X pins H' b)/\R J H'
def PI(X:Cx)(tg iter:Expr)(wi:TI):Prop :=
 ∀(pins:List (UN×Obj))(s:US)(σ:St)(H:Hp)(R:It->Hp->Prop),Inv X pins σ H s->wi σ H R->
  U7 (model X.prog X.w) X.A (eval iter X.env) (λv s1=>U7 (model X.prog X.w) X.A (pyIter v) (Qm X pins σ tg R) X.xe s1) X.xe s
theorem sL{M:Model}{A:UO}{E:UT->US->Prop}{s:US}{tg:Expr}{it:UN}{u:UT}{o:Obj}{n:String}{vs:Array UT}{Q:Unit->US->Prop}(ho:s.heap.get? it=some o)(hc:o.cls= .type n)(hd:o.data= .fields vs)
    (hn:["enumerate","zip","dict_itemiterator","dict_reverseitemiterator","odict_iterator","itertools.zip_longest","itertools.pairwise"].contains n=false)(hQ:Q () s):U7 M A (letOwnedTupleGo tg (.ref it) u) Q E s:=by
  unfold letOwnedTupleGo
  cases tg<;>first
    | exact Vb hQ
    | (cases u<;>first
        | exact Vb hQ
        | (refine U8 (wpAny_load ho ?_)
           rw[hc,hd]
           show U7 M A (if(["enumerate","zip","dict_itemiterator","dict_reverseitemiterator","odict_iterator","itertools.zip_longest","itertools.pairwise"].contains n&&vs[0]? == some (rawInt _))=true then _ else _) Q E s
           rw[if_neg (by intro h;rw[hn,Bool.false_and] at h;cases h)]
           exact Vb hQ))
def Qn(K:PySem.W.Frag)(a:UN):It :=
 ⟨λi H=>∃xs x,j9 K H a xs/\xs[i]? =some x,λi H x H'=>H'=H/\∀xs,j9 K H a xs->xs[i]? =some x,λi H=>∃xs,j9 K H a xs/\xs.length<=i⟩
def Qo(K:PySem.W.Frag)(a:UN):It :=
 ⟨λi H=>∃xs x,fY K H a xs/\xs[i]? =some x,λi H x H'=>H'=H/\∀xs,fY K H a xs->xs[i]? =some x,λi H=>∃xs,fY K H a xs/\xs.length<=i⟩
def FC(lo:Int)(n:Nat):It:=⟨λi _=>i < n,λi H x H'=>H'=H/\x= .int (lo+i),λi _=>n<=i⟩
theorem xX{P:UR}{w:UU}{K:PySem.W.Frag}{tg:Expr}(a it:UN):Turn P w K tg (Qn K a) [it] it (λi h=>h.IsListIter it a i) where
 mem:=by simp
 obj:=λi h st b hb=>by
  have e:b=it:=by simpa using hb
  subst e
  obtain⟨o,e,c,d⟩:=st
  exact⟨o,e,λv z=>by rw[d] at z;cases z⟩
 keep:=λi h h' st k=>st.at λo e=>k it (by simp) o e
 item:=by
  intro X hP hw hK hc i pins s σ H E I hf st hg
  subst hP hw hK
  obtain⟨xs,x,hq,hx⟩:=hg
  obtain⟨its,rv,p,hz⟩:=I.list hq
  obtain⟨u,hu,ru⟩:=rv.get hx
  obtain⟨f0,f1,f2,f3,f4,f5⟩:=hf it (by simp)
  refine wpAny_pyNext_list_item st p.isList (x:=u) (by simpa using hu) λh' st' sb=>?_
  have I1:Inv X pins σ H { s with heap:=h' }:=I.turned (t':=s.toks) (λb o hb e=>(sb.2 b hb).trans e) f0 f1 f3 f4 f5
  obtain⟨o,e,c,d⟩:=id st'
  exact⟨u,rfl,sL (s:={ s with heap:=h' }) e c d (by decide) ⟨x,H,I1,ru,⟨rfl,λys hy=>by rw[I.zA hy hq];exact hx⟩,st',λb hb=>(hf b hb).1⟩⟩
 done:=by
  intro X hP hw hK hc i pins s σ H E I hf st hg
  subst hP hw hK
  obtain⟨xs,hq,hx⟩:=hg
  obtain⟨its,rv,p,hz⟩:=I.list hq
  obtain⟨f0,f1,f2,f3,f4,f5⟩:=hf it (by simp)
  have hl:=rv.length
  exact wpAny_pyNext_list_end (I.ok.hd hc) st p.isList (by simp;omega) λh' eb=>⟨rfl,I.turned (t':=s.toks) (λb o hb e=>eb b o hb e) f0 f1 f3 f4 f5⟩
 self:=λ_ _ _ _ _ st h=>wpAny_pyIter_listiter st h
theorem uO{P:UR}{w:UU}{K:PySem.W.Frag}{tg:Expr}(a it:UN):Turn P w K tg (Qo K a) [it] it (λi h=>h.IsTupleIter it a i) where
 mem:=by simp
 obj:=λi h st b hb=>by
  have e:b=it:=by simpa using hb
  subst e
  obtain⟨o,e,c,d⟩:=st
  exact⟨o,e,λv z=>by rw[d] at z;cases z⟩
 keep:=λi h h' st k=>st.at λo e=>k it (by simp) o e
 item:=by
  intro X hP hw hK hc i pins s σ H E I hf st hg
  subst hP hw hK
  obtain⟨xs,x,hq,hx⟩:=hg
  obtain⟨its,rv,p,hz⟩:=I.tuple hq
  obtain⟨u,hu,ru⟩:=rv.get hx
  obtain⟨f0,f1,f2,f3,f4,f5⟩:=hf it (by simp)
  refine wpAny_pyNext_tuple_item st (show s.heap.IsTuple a its.toArray from p) (x:=u) (by simpa using hu) λh' st' sb=>?_
  have I1:Inv X pins σ H { s with heap:=h' }:=I.turned (t':=s.toks) (λb o hb e=>(sb.2 b hb).trans e) f0 f1 f3 f4 f5
  obtain⟨o,e,c,d⟩:=id st'
  exact⟨u,rfl,sL (s:={ s with heap:=h' }) e c d (by decide) ⟨x,H,I1,ru,⟨rfl,λys hy=>by rw[I.xV hy hq];exact hx⟩,st',λb hb=>(hf b hb).1⟩⟩
 done:=by
  intro X hP hw hK hc i pins s σ H E I hf st hg
  subst hP hw hK
  obtain⟨xs,hq,hx⟩:=hg
  obtain⟨its,rv,p,hz⟩:=I.tuple hq
  obtain⟨f0,f1,f2,f3,f4,f5⟩:=hf it (by simp)
  have hl:=rv.length
  exact wpAny_pyNext_tuple_end (I.ok.hd hc) st (show s.heap.IsTuple a its.toArray from p) (by simp;omega) λh' eb=>⟨rfl,I.turned (t':=s.toks) (λb o hb e=>eb b o hb e) f0 f1 f3 f4 f5⟩
 self:=λ_ _ _ _ _ st h=>wpAny_pyIter_tupleiter st h
theorem uP{P:UR}{w:UU}{K:PySem.W.Frag}{tg:Expr}(it:UN)(lo:Int)(n:Nat):Turn P w K tg (FC lo n) [it] it (λi h=>IsRangeIter h it (lo+(i:Nat) * 1) ((n:Int) - (i:Nat)) 1) where
 mem:=by simp
 obj:=λi h st b hb=>by
  have e:b=it:=by simpa using hb
  subst e
  exact⟨_,st,λv z=>by
   have z':Data.fields _=Data.cell v:=z
   cases z'⟩
 keep:=λi h h' st k=>k it (by simp) _ st
 item:=by
  intro X hP hw hK hc i pins s σ H E I hf st hg
  subst hP hw hK
  obtain⟨f0,f1,f2,f3,f4,f5⟩:=hf it (by simp)
  have W:=Walks.range (prog:=X.prog) (w:=X.w) (I.ok.hd hc) it lo 1 n
  refine W.item i s _ _ hg st λv h' tk hv st' kk=>?_
  obtain⟨t,rfl⟩:=hv
  have I1:Inv X pins σ H { s with heap:=h',toks:=tk }:=I.turned (λb o hb e=>kk b o (by simpa using hb) e) f0 f1 f3 f4 f5
  refine⟨_,rfl,sL (s:={ s with heap:=h',toks:=tk }) (n:="range_iterator") st' rfl rfl (by decide) ⟨.int (lo+i),H,I1,⟨t,?_⟩,⟨rfl,rfl⟩,st',λb hb=>(hf b hb).1⟩⟩
  rw[Int.mul_one]
 done:=by
  intro X hP hw hK hc i pins s σ H E I hf st hg
  subst hP hw hK
  obtain⟨f0,f1,f2,f3,f4,f5⟩:=hf it (by simp)
  exact wpAny_pyNext_range_end (I.ok.hd hc) st (by have:n<=i:=hg;omega) λh' eb=>⟨rfl,I.turned (t':=s.toks) (λb o hb e=>eb b o hb e) f0 f1 f3 f4 f5⟩
 self:=λ_ _ _ _ _ st h=>wpAny_pyIter_rangeiter st h
section
variable {X:Cx} {tg:Expr}
theorem sM{pins:List (UN×Obj)}{σ:St}{H:Hp}{s:US}{R:It->Hp->Prop}{E:UT->US->Prop}{lo hi:Int}{t u v:Tok}{tk:Nat}(I:Inv X pins σ H s)(h1:-(2 ^ 62)<=lo)(h2:lo < 2 ^ 62)(h3:-(2 ^ 62)<=hi)(h4:hi < 2 ^ 62)
  (q:R (FC lo (hi - lo).toNat) H):U7 (model X.prog X.w) X.A (pyIter (.ref s.heap.objs.size)) (Qm X pins σ tg R) E { s with heap:=s.heap.push { cls:=.type "range",data:=.fields #[.int lo t,.int hi u,.int 1 v] },toks:=tk }:=by
 refine wpAny_pyIter_range (IsRange.new ..) (small_one h1 h2 h3 h4) ?_
 have I1:Inv X pins σ H { s with heap:=s.heap.push { cls:=.type "range",data:=.fields #[.int lo t,.int hi u,.int 1 v] },toks:=tk }:=I.kept λb o e=>aU _ e
 refine⟨(s.heap.push { cls:=.type "range",data:=.fields #[.int lo t,.int hi u,.int 1 v] }).objs.size,[(s.heap.push { cls:=.type "range",data:=.fields #[.int lo t,.int hi u,.int 1 v] }).objs.size],_,_,H,rfl,
  I1.kept (t':=tk) λb o e=>aU _ e,uP _ lo (hi - lo).toNat,?_,λb hb=>?_,q⟩
 ·have e1:lo+((0:Nat):Int) * 1=lo:=by simp
  have e2:(((hi - lo).toNat:Nat):Int) - ((0:Nat):Int)=Builtin.Range.rangeSize lo hi 1:=by rw[rangeSize_one];split<;>omega
  show IsRangeIter _ _ (lo+((0:Nat):Int) * 1) ((((hi - lo).toNat:Nat):Int) - ((0:Nat):Int)) 1
  rw[e1,e2]
  exact cO _ rfl
 ·have e:b=(s.heap.push { cls:=.type "range",data:=.fields #[.int lo t,.int hi u,.int 1 v] }).objs.size:=by simpa using hb
  subst e
  exact I1.DD (ai _) (I1.hok.fresh (ai _))
def KH(ta:TA):TI:=λσ H R=>ta σ H λvs H1=>∃j:Int,vs=[.int j]/\-(2 ^ 62)<=j/\j < 2 ^ 62/\R (FC 0 j.toNat) H1
def KI(ta:TA):TI:=λσ H R=>ta σ H λvs H1=>∃i j:Int,vs=[.int i,.int j]/\(-(2 ^ 62)<=i/\i < 2 ^ 62/\-(2 ^ 62)<=j/\j < 2 ^ 62)/\R (FC i (j - i).toNat) H1
theorem pP{a:Expr}{ta:TA}{p pos:Pos}(hg:Gl X "range")(hm:X.mg "range"=none)(ha:PA X [a] ta)(hs:U6 [a] X.env=[(false,eval a X.env)]:=by rfl):PI X tg (.Call (.Name "range" p) [a] [] pos) (KH ta):=by
 intro pins s σ H R I h
 refine Call_ (kl I hg hm boot_range (qB (bI (ha pos pins s σ H _ I h) λus s1 ⟨vs,H1,I1,r1,q1⟩=>?_) hs rfl))
 obtain⟨j,e,q1,q2,q⟩:=q1
 subst e
 cases r1 with
 | cons r rr=>
  cases rr
  obtain⟨t,rfl⟩:=r
  exact call_range_1 (sM I1 (by omega) (by omega) q1 q2 (by simpa using q))
theorem pQ{a b:Expr}{ta:TA}{p pos:Pos}(hg:Gl X "range")(hm:X.mg "range"=none)(ha:PA X [a,b] ta)(hs:U6 [a,b] X.env=[(false,eval a X.env),(false,eval b X.env)]:=by rfl)(hs2:U6 [b] X.env=[(false,eval b X.env)]:=by rfl) :
  PI X tg (.Call (.Name "range" p) [a,b] [] pos) (KI ta):=by
 intro pins s σ H R I h
 refine Call_ (kl I hg hm boot_range (qB (bI (ha pos pins s σ H _ I h) λus s1 ⟨vs,H1,I1,r1,q1⟩=>?_) (by rw[hs,hs2]) (by rw[hs2];rfl)))
 obtain⟨i,j,e,⟨q1,q2,q3,q4⟩,q⟩:=q1
 subst e
 cases r1 with
 | cons r rr=>
  cases rr with
  | cons r' rr=>
   cases rr
   obtain⟨t,rfl⟩:=r
   obtain⟨t',rfl⟩:=r'
   exact call_range_2 (sM I1 q1 q2 q3 q4 q)
def NM(wi:TI)(g:TG)(tb:TS):TS:=λD σ H=>wi σ H λJ H1=>∃W:Nat->Nat->St->Hp->Prop,(∃m,W 0 m σ H1)/\∀i m σ H,W i m σ H->
 (J.stop i H/\D.nx σ H)\/(J.go i H/\∃N:St->Hp->Prop,(∀σ' H',N σ' H'->∃m',m' < m/\W (i+1) m' σ' H')/\∀x H',J.zi i H x H'->g x σ H' λσ2 H2=>tb { D with nx:=N,ct:=N,bk:=D.nx } σ2 H2)
def fZ(fp:List UN)(h:Heap):List (UN×Obj):=fp.filterMap λb=>(h.get? b).map λo=>(b,o)
theorem iq{fp:List UN}{h:Heap}{b:UN}{o:Obj}(hb:b∈fp)(e:h.get? b=some o):(b,o)∈fZ fp h:=List.mem_filterMap.mpr ⟨b,hb,by rw[e];rfl⟩
theorem xY{fp:List UN}{h:Heap}{p:UN×Obj}(hp:p∈fZ fp h):p.1∈fp/\h.get? p.1=some p.2:=by
 obtain⟨b,hb,e⟩:=List.mem_filterMap.mp hp
 cases q:h.get? b with
 | none=>rw[q] at e;cases e
 | some o=>
  rw[q] at e
  have e':(b,o)=p:=Option.some.inj e
  subst e'
  exact⟨hb,q⟩
theorem Inv.pinned{pins:List (UN×Obj)}{σ:St}{H:Hp}{s:US}{fp:List UN}(I:Inv X pins σ H s)(hf:∀b∈fp,gj X pins H b)(ho:∀b∈fp,∃o,s.heap.get? b=some o/\∀v,o.data≠.cell v):Inv X (pins++fZ fp s.heap) σ H s :=
 I.wk λp hp=>(List.mem_append.mp hp).elim (λz=>I.pin p (cg _ z)) λz=>by
  obtain⟨hb,e⟩:=xY z
  obtain⟨f0,f1,f2,_⟩:=hf p.1 hb
  obtain⟨o,e',d⟩:=ho p.1 hb
  rw[e] at e';cases e'
  exact⟨e,f0,f1,f2,d⟩
theorem Inv.kQ{pins pl:List (UN×Obj)}{σ:St}{H:Hp}{s:US}(I:Inv X (pins++pl) σ H s):Inv X pins σ H s:=I.wk λp hp=>I.pin p (cg _ (fz _ hp))
theorem uQ{iter:Expr}{body:List Stmt}{wi:TI}{g:TG}{tb:TS}{pos:Pos}(hp:PassesOwn (model X.prog X.w) X.A X.env X.xe)(hc:X.calm=true)(hi:PI X tg iter wi)(hg:PG X tg g)(hb:zx X body tb)
  (hs:∀x,U2 iter X.env x=pure x:=by intro _;rfl):PS X (.For tg iter body [] pos) (NM wi g tb):=by
 intro pins s σ H D I h
 refine wpAny_For (bI (hi pins s σ H _ I h) λv s1 h1=>bI h1 λitv s2 h2=>?_) hs
 obtain⟨it,fp,tn,J,H2,e,I2,T,st2,f2,W,⟨m0,w0⟩,turn⟩:=h2
 subst e
 -- what stays true of the GB objects through the loop
 have GC:∀{H':Hp},(∀b∈fp,H' b=none)->∀b∈fp,gj X pins H' b:=λhn b hb=>⟨hn b hb,(f2 b hb).2⟩
 refine codeAny_forLoop_any (λn s'=>∃i σ' H',Inv X pins σ' H' s'/\tn i s'.heap/\(∀b∈fp,H' b=none)/\W i n σ' H') ?_ m0 ⟨0,σ,H2,I2,st2,λb hb=>(f2 b hb).1,w0⟩
 rintro n s3 ⟨i,σ3,H3,I3,st3,Qp,w3⟩
 rcases turn i n σ3 H3 w3 with ⟨stop,qn⟩ | ⟨go,N,hN,step⟩
 ·refine wpAny_passesOwn hp (bI (T.done X rfl rfl rfl hc i pins s3 σ3 H3 X.xe I3 (GC Qp) st3 stop) λr s4 ⟨hr,I4⟩=>?_)
  subst hr
  exact wpAny_execs_nil ⟨σ3,H3,I4,qn⟩
 ·refine wpAny_passesOwn hp (bI (T.item X rfl rfl rfl hc i pins s3 σ3 H3 X.xe I3 (GC Qp) st3 go) λr s4 ⟨u,hr,h4⟩=>?_)
  subst hr
  refine wpAny_passesOwn hp (bI h4 λ_ s5 ⟨x,H5,I5,r5,y5,sN,MM⟩=>?_)
  have RK:=I5.pinned (GC MM) (T.obj _ _ sN)
  refine wpAny_passesOwn hp (bI (hg _ s5 σ3 H5 x u _ RK r5 (step x H5 y5)) λ_ s6 ⟨σ6,H6,I6,q6⟩=>?_)
  refine wpAny_passesOwn hp (bI (hb _ s6 σ6 H6 _ I6 q6) λf s7 q7=>?_)
  have again:∀{σ7:St}{H7:Hp},Inv X (pins++fZ fp s5.heap) σ7 H7 s7->N σ7 H7->∃m,m < n/\∃i σ' H',Inv X pins σ' H' s7/\tn i s7.heap/\(∀b∈fp,H' b=none)/\W i m σ' H':=λ{σ7 H7} I7 n7=>by
   obtain⟨m',hm,w7⟩:=hN σ7 H7 n7
   refine⟨m',hm,i+1,σ7,H7,I7.kQ,T.keep _ _ _ sN λb hb o e=>(I7.pin (b,o) (cg _ (cg _ (iq hb e)))).1,λb hb=>?_,w7⟩
   obtain⟨o,e,d⟩:=T.obj _ _ sN b hb
   exact(I7.pin (b,o) (cg _ (cg _ (iq hb e)))).2.1
  cases f with
  | next=>obtain⟨σ7,H7,I7,n7⟩:=q7;exact again I7 n7
  | cont=>obtain⟨σ7,H7,I7,n7⟩:=q7;exact again I7 n7
  | brk=>obtain⟨σ7,H7,I7,q7⟩:=q7;exact⟨σ7,H7,I7.kQ,q7⟩
  | ret v=>obtain⟨x7,σ7,H7,I7,r7,q7⟩:=q7;exact⟨x7,σ7,H7,I7.kQ,r7,q7⟩
end
abbrev R2:=V->V->Hp->VK->Prop
def fA(X:Cx)(f:UT->UT->Sem UT)(r:R2):Prop :=
 ∀(pins:List (UN×Obj))(s:US)(σ:St)(H:Hp)(x y:V)(v u:UT)(Q:VK),Inv X pins σ H s->RelV x v->RelV y u->r x y H Q->
  U7 (model X.prog X.w) X.A (f v u) (EP X pins σ Q) X.xe s
def NN(X:Cx)(f:UT->Sem UT)(r:V->Hp->VK->Prop):Prop :=
 ∀(pins:List (UN×Obj))(s:US)(σ:St)(H:Hp)(x:V)(v:UT)(Q:VK),Inv X pins σ H s->RelV x v->r x H Q->
  U7 (model X.prog X.w) X.A (f v) (EP X pins σ Q) X.xe s
def dg(X:Cx)(f:UT)(r:List V->Hp->VK->Prop):Prop :=
 ∀(pins:List (UN×Obj))(s:US)(σ:St)(H:Hp)(xs:List V)(us:List UT)(Q:VK),Inv X pins σ H s->Vals xs us->r xs H Q->
  U7 (model X.prog X.w) X.A (call f us) (EP X pins σ Q) X.xe s
def NO(X:Cx)(r:V->Hp->(Bool->Hp->Prop)->Prop):Prop :=
 ∀(pins:List (UN×Obj))(s:US)(σ:St)(H:Hp)(x:V)(v:UT)(Q:Bool->Hp->Prop),Inv X pins σ H s->RelV x v->r x H Q->
  U7 (model X.prog X.w) X.A (truthy v) (TP X pins σ Q) X.xe s
def KJ(r:R2)(ta tb:TE):TE:=λσ H Q=>ta σ H λx H1=>tb σ H1 λy H2=>r x y H2 Q
def RL(r:V->Hp->VK->Prop)(ta:TE):TE:=λσ H Q=>ta σ H λx H1=>r x H1 Q
def rI(C:Int->Int->Prop)(g:Int->Int->V):R2:=λx y H Q=>∃i j,x= .int i/\y= .int j/\C i j/\Q (g i j) H
def J5(g:Int->Int->V):R2:=λx y H Q=>∃i j,x= .int i/\y= .int j/\Q (g i j) H
def rU(g:Int->V):V->Hp->VK->Prop:=λx H Q=>∃i,x= .int i/\Q (g i) H
section
variable {X:Cx} {a b c:Expr} {ta tb tc:TE} {pos:Pos}
theorem GD(ha:PE X a ta)(hb:PE X b tb){pins:List (UN×Obj)}{s:US}{σ:St}{H:Hp}{R:V->V->Hp->Prop}(I:Inv X pins σ H s)
  (h:ta σ H λx H1=>tb σ H1 λy H2=>R x y H2){Q:UT->US->Prop}{f:UT->UT->Sem UT}
  (hf:∀v u s2 x y H2,Inv X pins σ H2 s2->RelV x v->RelV y u->R x y H2->U7 (model X.prog X.w) X.A (f v u) Q X.xe s2) :
  U7 (model X.prog X.w) X.A (eval a X.env) (λv s₁=>U7 (model X.prog X.w) X.A (eval b X.env) (λu s₂=>U7 (model X.prog X.w) X.A (f v u) Q X.xe s₂) X.xe s₁) X.xe s:=by
 refine bI (ha pins s σ H _ I h) λv s1 ⟨x,H1,I1,r1,q1⟩=>?_
 refine bI (hb pins s1 σ H1 _ I1 q1) λu s2 ⟨y,H2,I2,r2,q2⟩=>?_
 exact hf v u s2 x y H2 I2 r1 r2 q2
theorem KL{op:Operator}{r:R2}(ho:fA X (UX op) r)(ha:PE X a ta)(hb:PE X b tb):PE X (.BinOp a op b pos) (KJ r ta tb):=by
 intro pins s σ H Q I h
 exact wpAny_BinOp (GD ha hb I h λv u s2 x y H2 I2 rx ry q=>ho pins s2 σ H2 x y v u Q I2 rx ry q)
theorem KN{op:UnaryOp}{r:V->Hp->VK->Prop}(ho:NN X (unaryOp op) r)(ha:PE X a ta):PE X (.UnaryOp op a pos) (RL r ta):=by
 intro pins s σ H Q I h
 exact UnaryOp_ (bI (ha pins s σ H _ I h) λv s1 ⟨x,H1,I1,r1,q1⟩=>ho pins s1 σ H1 x v Q I1 r1 q1)
theorem MN{f:UT->UT->Sem UT}{C:Int->Int->Prop}{g:Int->Int->Int}
  (rule:∀(i j:Int)(t u:Tok)(s:US)(Q:UT->US->Prop)(E:UT->US->Prop),C i j->Q (.int (g i j) s.toks) { s with toks:=s.toks+1 }->U7 (model X.prog X.w) X.A (f (.int i t) (.int j u)) Q E s) :
  fA X f (rI C λi j=> .int (g i j)):=by
 intro pins s σ H x y v u Q I rx ry h
 obtain⟨i,j,rfl,rfl,hc,q⟩:=h
 obtain⟨t,rfl⟩:=rx
 obtain⟨t',rfl⟩:=ry
 exact rule i j t t' s _ _ hc ⟨.int (g i j),H,I.tok _,⟨_,rfl⟩,q⟩
theorem KO{f:UT->UT->Sem UT}{g:Int->Int->Int}
  (rule:∀(i j:Int)(t u:Tok)(s:US)(Q:UT->US->Prop)(E:UT->US->Prop),Q (.int (g i j) s.toks) { s with toks:=s.toks+1 }->U7 (model X.prog X.w) X.A (f (.int i t) (.int j u)) Q E s) :
  fA X f (J5 λi j=> .int (g i j)):=by
 intro pins s σ H x y v u Q I rx ry h
 obtain⟨i,j,rfl,rfl,q⟩:=h
 obtain⟨t,rfl⟩:=rx
 obtain⟨t',rfl⟩:=ry
 exact rule i j t t' s _ _ ⟨.int (g i j),H,I.tok _,⟨_,rfl⟩,q⟩
theorem KP{f:UT->UT->Sem UT}{g:Int->Int->Bool}
  (rule:∀(i j:Int)(t u:Tok)(s:US)(Q:UT->US->Prop)(E:UT->US->Prop),Q (.bool (g i j)) s->U7 (model X.prog X.w) X.A (f (.int i t) (.int j u)) Q E s) :
  fA X f (J5 λi j=> .bl (g i j)):=by
 intro pins s σ H x y v u Q I rx ry h
 obtain⟨i,j,rfl,rfl,q⟩:=h
 obtain⟨t,rfl⟩:=rx
 obtain⟨t',rfl⟩:=ry
 exact rule i j t t' s _ _ ⟨.bl (g i j),H,I,rfl,q⟩
def NP(i j:Int):Prop:=0<=j/\j<=1000000/\i.natAbs < 2 ^ 64
theorem GF:fA X (UX .Add) (J5 λi j=> .int (i+j)):=KO λ_ _ _ _ _ _ _ q=>add_int q
theorem GG:fA X (UX .Sub) (J5 λi j=> .int (i - j)):=KO λ_ _ _ _ _ _ _ q=>sub_int q
theorem GH:fA X (UX .Pow) (rI NP λi j=> .int (i ^ j.toNat)):=MN λ_ _ _ _ _ _ _ hc q=>pow_int_small hc.1 hc.2.1 hc.2.2 q
theorem RM{f:UT->Sem UT}{g:Int->Int}
  (rule:∀(i:Int)(t:Tok)(s:US)(Q:UT->US->Prop)(E:UT->US->Prop),Q (.int (g i) s.toks) { s with toks:=s.toks+1 }->U7 (model X.prog X.w) X.A (f (.int i t)) Q E s) :
  NN X f (rU λi=> .int (g i)):=by
 intro pins s σ H x v Q I rx h
 obtain⟨i,rfl,q⟩:=h
 obtain⟨t,rfl⟩:=rx
 exact rule i t s _ _ ⟨.int (g i),H,I.tok _,⟨_,rfl⟩,q⟩
theorem GJ:NN X (unaryOp .USub) (rU λi=> .int (-i)):=RM λ_ _ _ _ _ q=>neg_int q
end
section
variable {X:Cx} {a b c:Expr} {ta tb tc:TE} {pos:Pos}
theorem uR{pins:List (UN×Obj)}{σ:St}{H:Hp}{s:US}{Q:VK}{k k':Bool}(I:Inv X pins σ H s)(q:Q (.bl k) H)(e:k=k'):EP X pins σ Q (.bool k') s:=by
 subst e
 exact⟨.bl k,H,I,rfl,q⟩
theorem KQ:fA X (U1 .Lt) (J5 λi j=> .bl (decide (i < j))):=KP λ_ _ _ _ _ _ _ q=>lt_int q
theorem KR:fA X (U1 .LtE) (J5 λi j=> .bl (decide (i<=j))):=KP λ_ _ _ _ _ _ _ q=>le_int q
theorem xZ:fA X (U1 .Lt) (λx y H Q=>∃i j,x= .str i/\y= .str j/\Q (.bl (decide (i.cps.toList < j.cps.toList))) H):=by
 intro pins s σ H x y v u Q I rx ry h
 obtain⟨i,j,rfl,rfl,q⟩:=h
 obtain⟨t,rfl⟩:=rx
 obtain⟨t',rfl⟩:=ry
 exact lt_str (uR I q rfl)
theorem x8:fA X (U1 .In) (λx y H Q=>∃i j,x= .str i/\y= .str j/\Q (.bl (!(gK j i 0 j.length 1).isEmpty)) H):=by
 intro pins s σ H x y v u Q I rx ry h
 obtain⟨i,j,rfl,rfl,q⟩:=h
 obtain⟨t,rfl⟩:=rx
 obtain⟨t',rfl⟩:=ry
 exact in_str (uR I q rfl)
theorem DE:fA X (U1 .IsNot) (λx y H Q=>y= .bS/\Q (.bl (!decide (x= .bS))) H):=by
 intro pins s σ H x y v u Q I rx ry h
 obtain⟨rfl,q⟩:=h
 cases ry
 refine isnot_none_gen (uR I q ?_)
 cases x<;>first
  | (cases rx;rfl)
  | (obtain⟨t,rfl⟩:=rx;rfl)
theorem DF{op:CmpOp}{r:R2}(ho:fA X (U1 op) r)(ha:PE X a ta)(hb:PE X b tb)(hm:UW op b=false):PE X (.Compare a [op] [b] pos) (KJ r ta tb):=by
 intro pins s σ H Q I h
 exact wpAny_Compare1 (GD ha hb I h λv u s2 x y H2 I2 rx ry q=>ho pins s2 σ H2 x y v u Q I2 rx ry q) hm
def FD(t:TE):TT:=λσ H Q=>t σ H λx H'=>∃k,x= .bl k/\Q k H'
theorem DG{op:CmpOp}{r:R2}(ho:fA X (U1 op) r)(ha:PE X a ta)(hb:PE X b tb)(hm:UW op b=false):PT X (.Compare a [op] [b] pos) (FD (KJ r ta tb)):=by
 intro pins s σ H Q I h
 refine wpAny_isTrue_Compare1 (bI (ha pins s σ H _ I h) λv s1 ⟨x,H1,I1,r1,q1⟩=>bI (hb pins s1 σ H1 _ I1 q1) λu s2 ⟨y,H2,I2,r2,q2⟩=>
  bI (ho pins s2 σ H2 x y v u _ I2 r1 r2 q2) λc s3 ⟨z,H3,I3,r3,k,e,q3⟩=>?_) hm
 subst e
 cases r3
 exact Vc ⟨H3,I3,q3⟩
def uS(r r':R2)(ta tb tc:TE):TE:=λσ H Q=>ta σ H λx H1=>tb σ H1 λy H2=>r x y H2 λz H3=>∃k,z= .bl k/\
 (if k=true then tc σ H3 λw' H4=>r' y w' H4 Q else Q (.bl false) H3)
theorem zE{op op':CmpOp}{r r':R2}(ho:fA X (U1 op) r)(ho':fA X (U1 op') r')(ha:PE X a ta)(hb:PE X b tb)(hc:PE X c tc)
  (hm:lastMarks [op,op'] [b,c]=false:=by with_unfolding_all rfl):PE X (.Compare a [op,op'] [b,c] pos) (uS r r' ta tb tc):=by
 intro pins s σ H Q I h
 refine Compare_chain (bI (ha pins s σ H _ I h) λv s1 ⟨x,H1,I1,r1,q1⟩=>chain_link (bI (hb pins s1 σ H1 _ I1 q1) λu s2 ⟨y,H2,I2,r2,q2⟩=>
  bI (ho pins s2 σ H2 x y v u _ I2 r1 r2 q2) λd s3 ⟨z,H3,I3,r3,k,e,q3⟩=>?_)) hm
 subst e
 cases r3
 refine Vc ?_
 cases k with
 | false=>exact ite_ff ⟨.bl false,H3,I3,rfl,q3⟩
 | true=>exact ite_tt (chain_last (bI (hc pins s3 σ H3 _ I3 q3) λw' s4 ⟨z',H4,I4,r4,q4⟩=>ho' pins s4 σ H4 y z' u w' Q I4 r2 r4 q4))
theorem zF{op op':CmpOp}{r r':R2}(ho:fA X (U1 op) r)(ho':fA X (U1 op') r')(ha:PE X a ta)(hb:PE X b tb)(hc:PE X c tc)
  (hm:lastMarks [op,op'] [b,c]=false:=by with_unfolding_all rfl):PT X (.Compare a [op,op'] [b,c] pos) (FD (uS r r' ta tb tc)):=by
 intro pins s σ H Q I h
 refine isTrue_chain (bI (ha pins s σ H _ I h) λv s1 ⟨x,H1,I1,r1,q1⟩=>test_link (bI (hb pins s1 σ H1 _ I1 q1) λu s2 ⟨y,H2,I2,r2,q2⟩=>
  bI (ho pins s2 σ H2 x y v u _ I2 r1 r2 q2) λd s3 ⟨z,H3,I3,r3,k,e,q3⟩=>?_)) hm
 subst e
 cases r3
 refine Vc ?_
 cases k with
 | false=>
  obtain⟨k',e',q'⟩:=q3
  cases e'
  exact ite_ff ⟨H3,I3,q'⟩
 | true=>
  refine ite_tt (test_last (bI (hc pins s3 σ H3 _ I3 q3) λw' s4 ⟨z',H4,I4,r4,q4⟩=>bI (ho' pins s4 σ H4 y z' u w' _ I4 r2 r4 q4) λd' s5 ⟨z2,H5,I5,r5,k2,e2,q5⟩=>?_))
  subst e2
  cases r5
  exact Vc ⟨H5,I5,q5⟩
def KS(K:PySem.W.Frag)(x:V)(H:Hp)(k:Bool):Prop :=
 match x with
 | .bS=>k=false
 | .bl b=>k=b
 | .int i=>k=(i != 0)
 | .str y=>y.length<=U5/\k=((y.length:Int) != 0)
 | .J2 y=>y.size<=U5/\k=((y.size:Int) != 0)
 | .ref p=>(∃xs,j9 K H p xs/\k= !xs.isEmpty)\/(∃xs,fY K H p xs/\k= !xs.isEmpty)\/∃kvs,H p=some (.dK kvs)/\k= !kvs.isEmpty
 | _=>False
theorem uT{κ:Type}{kvs:List (κ×V)}{vs:List (κ×UT)}(r:KV kvs vs):(!vs.isEmpty)= !kvs.isEmpty:=by
 cases r<;>rfl
theorem nE{xs:List V}{its:List UT}(r:Vals xs its):(!its.toArray.isEmpty)= !xs.isEmpty:=by
 cases r<;>simp
theorem ko:(U5:Nat) < 2 ^ 63:=by rw[sizeLine_eq];decide
theorem GK:NO X (λx H Q=>∃k,KS X.K x H k/\Q k H):=by
 intro pins s σ H x v Q I rx h
 obtain⟨k,e,q⟩:=h
 have hl:=ko
 have hs:U5=16777216:=sizeLine_eq
 cases x with
 | bS=>
  cases rx
  have e':k=false:=e
  subst e'
  exact truthy_none ⟨H,I,q⟩
 | bl b=>
  cases rx
  have e':k=b:=e
  subst e'
  exact Vc ⟨H,I,q⟩
 | int i=>
  obtain⟨t,rfl⟩:=rx
  have e':k=(i != 0):=e
  subst e'
  exact PySem.P.truthy_int ⟨H,I,q⟩
 | str y=>
  obtain⟨t,rfl⟩:=rx
  obtain⟨hy,e'⟩:y.length<=U5/\k=((y.length:Int) != 0):=e
  subst e'
  exact PySem.P.truthy_str (by omega) ⟨H,I.tok _,q⟩
 | J2 y=>
  obtain⟨t,rfl⟩:=rx
  obtain⟨hy,e'⟩:y.size<=U5/\k=((y.size:Int) != 0):=e
  subst e'
  exact PySem.W.truthy_bytes (by omega) ⟨H,I.tok _,q⟩
 | ref p=>
  cases rx
  have e':(∃xs,j9 X.K H p xs/\k= !xs.isEmpty)\/(∃xs,fY X.K H p xs/\k= !xs.isEmpty)\/∃kvs,H p=some (.dK kvs)/\k= !kvs.isEmpty:=e
  rcases e' with ⟨xs,hx,e'⟩ | ⟨xs,hx,e'⟩ | ⟨kvs,hx,e'⟩
  ·subst e'
   obtain⟨its,r,pl,hz⟩:=I.list hx
   have hlen:=r.length
   exact wpAny_truthy_list pl.isList (by simp only[aH];omega) ⟨H,I.tok _,by rw[nE r];exact q⟩
  ·subst e'
   obtain⟨its,r,pl,hz⟩:=I.tuple hx
   have hlen:=r.length
   exact truthy_tuple pl (by simp only[aH];omega) ⟨H,I.tok _,by rw[nE r];exact q⟩
  ·subst e'
   obtain⟨hz,hS,vs,r,m⟩:kvs.length<=U5/\(p == sysModules)=false/\∃vs,KV kvs vs/\s.heap.DictOf (aW X.prog X.w) p vs:=I.hok p _ hx
   have hlen:kvs.length=vs.length:=Paired.length r
   exact wpAny_truthy_dict hS m (by omega) ⟨H,I.tok _,by rw[uT r];exact q⟩
 | _=>exact(show False from e).elim
theorem zG(ha:PE X a ta)(he:∀whole,isTrue a X.env whole=(do let v <-whole;standAt a.pos;holding [v] (truthy v))) :
  PT X a (λσ H Q=>ta σ H λx H'=>∃k,KS X.K x H' k/\Q k H'):=by
 intro pins s σ H Q I h
 exact isTrue_plain (bI (ha pins s σ H _ I h) λv s1 ⟨x,H1,I1,r1,q1⟩=>GK pins s1 σ H1 x v Q I1 r1 q1) (he _)
theorem uU:fA X (UX .Add) (λx y H Q=>∃i j,x= .str i/\y= .str j/\i.length+j.length<=U5/\Q (.str (i++j)) H):=by
 intro pins s σ H x y v u Q I rx ry h
 obtain⟨i,j,rfl,rfl,hz,q⟩:=h
 obtain⟨t,rfl⟩:=rx
 obtain⟨t',rfl⟩:=ry
 exact add_str (λt' tk=>⟨.str (i++j),H,I.tok _,⟨_,rfl⟩,q⟩) hz
theorem vals1{x:V}{us:List UT}(r:Vals [x] us):∃u,us=[u]/\RelV x u:=by
 cases r with
 | cons r1 r2=>cases r2;exact⟨_,rfl,r1⟩
theorem vals2{x y:V}{us:List UT}(r:Vals [x,y] us):∃u w',us=[u,w']/\RelV x u/\RelV y w':=by
 cases r with
 | cons r1 r2=>
  cases r2 with
  | cons r3 r4=>cases r4;exact⟨_,_,rfl,r1,r3⟩
theorem x_(hc:X.calm=true):dg X (.builtin "min") (λxs H Q=>∃i j,xs=[.int i,.int j]/\Q (.int (if j < i then j else i)) H):=by
 intro pins s σ H xs us Q I r h
 obtain⟨i,j,rfl,q⟩:=h
 obtain⟨u,w',rfl,⟨t,rfl⟩,⟨t',rfl⟩⟩:=vals2 r
 refine min_two_ints (I.ok.hd hc) λh' tk k=>⟨_,H,I.kept k,?_,q⟩
 by_cases hj:j < i
 ·rw[if_pos hj,if_pos hj];exact⟨_,rfl⟩
 ·rw[if_neg hj,if_neg hj];exact⟨_,rfl⟩
theorem ya:dg X (.type "int") (λxs H Q=>(∃i,xs=[.int i]/\Q (.int i) H)\/∃k,xs=[.bl k]/\Q (.int (if k then 1 else 0)) H):=by
 intro pins s σ H xs us Q I r h
 rcases h with ⟨i,rfl,q⟩ | ⟨k,rfl,q⟩
 ·obtain⟨u,rfl,t,rfl⟩:=vals1 r
  exact call_int_int ⟨.int i,H,I,⟨_,rfl⟩,q⟩
 ·obtain⟨u,rfl,r1⟩:=vals1 r
  cases r1
  exact call_int_bool ⟨.int (if k then 1 else 0),H,I.tok _,⟨_,rfl⟩,q⟩
theorem qC:dg X (.type "str") (λxs H Q=>∃i,xs=[.int i]/\i.natAbs.log2 < 1920/\Q (.str (toString i)) H):=by
 intro pins s σ H xs us Q I r h
 obtain⟨i,rfl,hz,q⟩:=h
 obtain⟨u,rfl,t,rfl⟩:=vals1 r
 exact PySem.P.str_of_int hz ⟨.str _,H,I.tok _,⟨_,rfl⟩,q⟩
end
section
variable {prog:UR} {w:UU} {A:UO} {E:UT->US->Prop} {s:US} {K:PySem.W.Frag} {x dx C f:UN} {mA:Str->Option UT} {name:Str} {v:UT}
end
section
variable {P:UR} {w:UU} {H H':Hp} {h h':Heap} {a C dx:UN} {fs fs':List (Str×V)}
end
section
variable {X:Cx} {pins:List (UN×Obj)} {σ:St} {H:Hp} {s:US} {a C dx:UN} {fs:List (Str×V)} {f:Str} {v:V} {A:UO} {E:UT->US->Prop}
end
section
variable {X:Cx} {o e value:Expr} {f:Str} {pos pos' tpos:Pos} {ta tv:TE}
end
section
variable {X:Cx} {pins:List (UN×Obj)} {σ:St} {H:Hp} {s:US} {A:UO} {E:UT->US->Prop} {Q:UT->US->Prop} {c:UT} {b:Bool}
end
structure ja(k:Nat)(A:UO):Prop where
 hd:A.handled=none
 dp:A.depth+3 * k+5 < recursionLimit
 un:A.units+16 * k+200 < cLine
theorem ja.mono{j k:Nat}{A:UO}(r:ja k A)(h:j<=k):ja j A:=⟨r.hd,by have:=r.dp;omega,by have:=r.un;omega⟩
theorem ja.deeper{k:Nat}{A:UO}(r:ja (k+1) A)(env:Env):ja k (A.deeper env) :=
 ⟨r.hd,by have:=r.dp;show A.depth+1+3 * k+5 < _;omega,by have:=r.un;show A.units+3+16 * k+200 < _;omega⟩
theorem ja.depth{k:Nat}{A:UO}(r:ja k A):A.depth < recursionLimit:=by have:=r.dp;omega
def NQ:TA:=λ_ H Q=>Q [] H
def KU(ta:TE)(tr:TA):TA:=λσ H Q=>ta σ H λx H1=>tr σ H1 λxs H2=>Q (x::xs) H2
section
variable {X:Cx} {e:Expr} {es:List Expr} {te:TE} {t:TA} {pos:Pos}
theorem GL:PA X [] NQ:=λ_ _ _ _ H Q I h=>zH ⟨[],H,I,.nil,h⟩
theorem DH(ha:PE X e te)(hr:PA X es t)(hs:U6 (e::es) X.env=(false,eval e X.env)::U6 es X.env:=by rfl):PA X (e::es) (KU te t):=by
 intro pos pins s σ H Q I h
 rw[hs]
 show U7 _ _ (spliced ((false,eval e X.env)::backTo pos (U6 es X.env))) _ _ s
 refine Calls.spliced_cons (bI (ha pins s σ H _ I h) λu s1 ⟨x,H1,I1,r1,q1⟩=>?_)
 exact bI (hr pos pins s1 σ H1 _ I1 q1) λus s2 ⟨xs,H2,I2,r2,q2⟩=>⟨x::xs,H2,I2,.cons r1 r2,q2⟩
def NR(t:TA):TE:=λσ H Q=>t σ H λxs H1=>xs.length<=U5/\∀p,H1 p=none->Q (.ref p) (upd H1 p (.tup xs))
def NT(t:TA):TE:=λσ H Q=>t σ H λxs H1=>xs.length<=U5/\∀p,H1 p=none->Q (.ref p) (upd H1 p (.lst xs))
theorem GN{x1}(h:PA X es t):PE X (.Tuple es x1 pos) (NR t):=by
 intro pins s σ H Q I hq
 refine wpAny_Tuple_spliced (bI (h pos pins s σ H _ I hq) λus s1 ⟨xs,H1,I1,r,z,q⟩=>⟨by rw[<-r.length];exact z,?_⟩)
 have hf:H1 s1.heap.objs.size=none:=I1.hok.fresh (ai _)
 refine⟨.ref s1.heap.objs.size,upd H1 s1.heap.objs.size (.tup xs),I1.laid (t':=s1.toks) (λb u e=>aU _ e) (ai _) ?_,rfl,q _ hf⟩
 exact⟨z,us,r,⟨_,cO _ rfl,rfl,_,rfl⟩,xT.new _ _⟩
theorem GP(h:PA X es t):PE X (.List es pos) (NT t):=by
 intro pins s σ H Q I hq
 refine wpAny_List_spliced (bI (h pos pins s σ H _ I hq) λus s1 ⟨xs,H1,I1,r,z,q⟩=>⟨by rw[<-r.length];exact z,?_⟩)
 have hf:H1 s1.heap.objs.size=none:=I1.hok.fresh (ai _)
 refine⟨.ref s1.heap.objs.size,upd H1 s1.heap.objs.size (.lst xs),I1.laid (t':=s1.toks) (λb u e=>aU _ e) (ai _) ?_,rfl,q _ hf⟩
 exact⟨z,us,0,r,cO _ rfl⟩
end
abbrev Sp:=List V->Hp->VK->XK->Prop
abbrev zj:=List Env->Hp->US->XK->UT->US->Prop
structure zI(P:UR)(w:UU)(K:PySem.W.Frag)(mg:Str->Option UT)(base:Heap)(A:UO)(outer:List Env)(s:US)(H:Hp):Prop where
 frames:A.frames=some outer
 mod:Mod K mg base
 bs:∀b o,base.get? b=some o->s.heap.get? b=some o/\H b=none
 J4:base.objs.size<=s.heap.objs.size
 pg:s.heap.FunFrames base outer
 Kp:∀b∈frs outer,H b=none
 hok:kN P w H s.heap
 bare:AllBare s.gens
def CE(outer:List Env)(P:UR)(w:UU)(H:Hp)(s:US)(Q:VK)(u:UT)(s':US):Prop :=
 ∃v H',s'.os=s.os/\AllBare s'.gens/\Un (frs outer) [] H H' s.heap s'.heap/\kN P w H' s'.heap/\RelV v u/\Q v H'
def CR(CX:zj)(outer:List Env)(P:UR)(w:UU)(H:Hp)(s:US)(Q:VK)(E:XK)(r:Result)(s':US):Prop :=
 match r with
 | .ok (.ret u)=>CE outer P w H s Q u s'
 | .ok _=>False
 | .error e=>CX outer H s E e s'
structure FnOk(P:UR)(w:UU)(K:PySem.W.Frag)(mg:Str->Option UT)(base:Heap)(CX:zj)(k:Nat)(f:UN)(fd:UP)(ps:List Str)(sp:Sp):Prop where
 len:∀vs H Q E,sp vs H Q E->vs.length=ps.length
 run:∀(A:UO)(outer:List Env)(s:US)(H:Hp)(args:Args)(us:List UT)(vs:List V)(Q:VK)(E:XK),ja k A->zI P w K mg base A outer s H->BindsTo s fd args (ps.zip us)->Vals vs us->sp vs H Q E->
  UZ (model P w) A (.call (.ref f) args) (CR CX outer P w H s Q E) s
theorem FnOk.mono{P:UR}{w:UU}{K:PySem.W.Frag}{mg:Str->Option UT}{base:Heap}{CX:zj}{j k:Nat}{f:UN}{fd:UP}{ps:List Str}{sp:Sp}(F:FnOk P w K mg base CX j f fd ps sp)(h:j<=k) :
  FnOk P w K mg base CX k f fd ps sp:=⟨F.len,λA outer s H args us vs Q E hr=>F.run A outer s H args us vs Q E (hr.mono h)⟩
section
variable {X:Cx} {pins:List (UN×Obj)} {σ:St} {H:Hp} {s s':US}
theorem Inv.NU(I:Inv X pins σ H s):zI X.prog X.w X.K X.mg X.base X.A X.stack s H :=
 ⟨I.ok.frames,I.ok.mod,I.bs,bt I.ok.J4 I.sz,I.stack,I.qw,I.hok,I.bare⟩
theorem Inv.after{Q:VK}{u:UT}(I:Inv X pins σ H s)(h:CE X.stack X.prog X.w H s Q u s'):EP X pins σ Q u s':=by
 obtain⟨v,H',os,bare,un,hok,r,q⟩:=h
 obtain⟨hh,g,d,t,os'⟩:=s'
 obtain rfl:os'=s.os:=os
 exact⟨v,H',I.call (h':=hh) (g':=g) (d':=d) (t':=t) (ch:=[]) un hok bare (λb z=>absurd z (by simp)),r,q⟩
end
def Binds(K:PySem.W.Frag)(fd:UP)(ps:List Str)(ds:List UT):Prop :=
 ∀(s:US)(us:List UT),K.In s.heap->(us++ds).length=ps.length->BindsTo s fd ⟨us,[]⟩ (ps.zip (us++ds))
theorem Binds.all{K:PySem.W.Frag}{fd:UP}{ps:List Str}(h:∀us:List UT,us.length=ps.length->bindArgs fd ⟨us,[]⟩=pure (ps.zip us)):Binds K fd ps []:=λs us _ hl=>by
 rw[dE] at hl ⊢
 exact .of_eq (h us hl)
section
variable {X:Cx} {CX:zj} {k:Nat} {f C:UN} {fd:UP} {ps:List Str} {sp:Sp} {Ui:List V} {ds:List UT} {E:XK} {x m:Str} {p pos apos:Pos} {e o:Expr} {es:List Expr} {ta:TE} {t:TA}
end
section
variable {X:Cx} {CX:zj} {k:Nat} {f C:UN} {fd:UP} {ps ks:List Str} {sp:Sp} {E:XK} {x m:Str} {p pos apos kpos:Pos} {e o:Expr} {es:List Expr} {kws:List Keyword} {te ta:TE} {t tk:TA} {nm:Option Str}
variable {g:List UT->List UT->List UT} {gV:List V->List V->List V}
end
structure FnScope(N P:List Str)(sc:Scope):Prop where
 kind:sc.kind= .function
 co:sc.isCoroutine=false
 gen:sc.isGenerator=false
 nd:N.Nodup
 pre:N.take P.length=P
 par:∀x∈P,sc.names.lookup x=some .local\/sc.names.lookup x=some .cell
 GQ:∀y∈sc.names,y.2≠.free
theorem pR{kindOf:Str->Option UQ}{x:Str}:∀{binds:List (Str×UT)}{m:Str->Option UT},(∀v,(x,v)∉binds)->bindL kindOf binds m x=m x
 | [],_,_=>rfl
 | (n,v)::r,m,h=>by
  unfold bindL
  rw[pR λw hw=>h w (aN _ hw)]
  split
  ·have:x≠n:=by rintro rfl;exact h v aX
   simp[this]
  ·rfl
theorem pS{kindOf:Str->Option UQ}{x:Str}:∀{binds:List (Str×UT)}{m:Str->Option UT},(∀v,(x,v)∉binds)->bindC kindOf binds m x=m x
 | [],_,_=>rfl
 | (n,v)::r,m,h=>by
  unfold bindC
  rw[pS λw hw=>h w (aN _ hw)]
  split
  ·rfl
  ·have:x≠n:=by rintro rfl;exact h v aX
   simp[this]
theorem pT{kindOf:Str->Option UQ}{x:Str}{v:UT}:∀{P:List Str}{vs:List UT}{i:Nat}{m:Str->Option UT},P.Nodup->P[i]? =some x->vs[i]? =some v->kindOf x=some .local->
  bindL kindOf (P.zip vs) m x=some v
 | [],_,_,_,_,h,_,_=>by simp at h
 | _::_,[],_,_,_,_,h,_=>by simp at h
 | p::P,w::vs,0,m,nd,h1,h2,hk=>by
  simp at h1 h2;subst h1;subst h2
  show bindL kindOf ((p,w)::P.zip vs) m p=_
  unfold bindL
  rw[pR λv hv=>(List.nodup_cons.mp nd).1 (wt hv).1,if_pos hk]
  simp
 | p::P,w::vs,i+1,m,nd,h1,h2,hk=>by
  show bindL kindOf ((p,w)::P.zip vs) m x=_
  unfold bindL
  exact pT (i:=i) (List.nodup_cons.mp nd).2 (by simpa using h1) (by simpa using h2) hk
theorem pU{kindOf:Str->Option UQ}{x:Str}{v:UT}:∀{P:List Str}{vs:List UT}{i:Nat}{m:Str->Option UT},P.Nodup->P[i]? =some x->vs[i]? =some v->kindOf x≠some .local->
  bindC kindOf (P.zip vs) m x=some v
 | [],_,_,_,_,h,_,_=>by simp at h
 | _::_,[],_,_,_,_,h,_=>by simp at h
 | p::P,w::vs,0,m,nd,h1,h2,hk=>by
  simp at h1 h2;subst h1;subst h2
  show bindC kindOf ((p,w)::P.zip vs) m p=_
  unfold bindC
  rw[pS λv hv=>(List.nodup_cons.mp nd).1 (wt hv).1,if_neg hk]
  simp
 | p::P,w::vs,i+1,m,nd,h1,h2,hk=>by
  show bindC kindOf ((p,w)::P.zip vs) m x=_
  unfold bindC
  exact pU (i:=i) (List.nodup_cons.mp nd).2 (by simpa using h1) (by simpa using h2) hk
def start(N:List Str)(vs:List V):St:=vs.map some++aY (N.length - vs.length) none
def ph(CX:zj)(P:UR)(w:UU)(K:PySem.W.Frag)(mg:Str->Option UT)(base:Heap)(N:List Str)(qual:Str)(scope:Scope)(f:UN)(cd:UT)(A:UO)(outer:List Env)(s:US)(H:Hp)(E:XK):Cx where
 prog:=P
 w:=w
 K:=K
 mg:=mg
 base:=base
 A:=A.deeper (envOfC qual scope s.heap.objs.size f cd)
 N:=N
 s₀:=s
 H₀:=H
 env:=envOfC qual scope s.heap.objs.size f cd
 outer:=outer
 stack:=envOfC qual scope s.heap.objs.size f cd::outer
 ex:=[]
 calm:=true
 fn:=λ_=>true
 pn:=[]
 xe:=λe s'=>U7 (model P w) (A.deeper (envOfC qual scope s.heap.objs.size f cd)) (leaving (envOfC qual scope s.heap.objs.size f cd) e) (λ_ s''=>CX outer H s E e s'') (λe' s''=>CX outer H s E e' s'') s'
theorem sO{sc:Scope}{n:Nat}{x:Str}(h:sc.names.lookup x=some .cell):∃c,(cellsFrom n sc.names []).lookup x=some c:=by
 have q:=PySem.W.cellsFrom_some sc.names n [] (.inl h)
 exact Option.isSome_iff_exists.mp q
theorem yb{CX:zj}{P:UR}{w:UU}{K:PySem.W.Frag}{mg:Str->Option UT}{base:Heap}{N ps:List Str}{qual:Str}{scope:Scope}{f:UN}{cd:UT}{A:UO}{outer:List Env}{s s1:US}{H:Hp}{E:XK}{us:List UT}{vs:List V}
  (S:FnScope N ps scope)(hd:A.handled=none)(e0:zI P w K mg base A outer s H)(hl:vs.length=ps.length)(r:Vals vs us)
  (x:InCallC s s.heap.objs.size (bindL (envOfC qual scope s.heap.objs.size f cd).kindOf (ps.zip us) λ_=>none) (cellsFrom (s.heap.objs.size+1) scope.names []) (bindC (envOfC qual scope s.heap.objs.size f cd).kindOf (ps.zip us) λ_=>none) s1) :
  Inv (ph CX P w K mg base N qual scope f cd A outer s H E) [] (start N vs) H s1:=by
 have hpl:ps.length<=N.length:=by have:=congrArg fB S.pre;rw[aD] at this;omega
 obtain⟨h1,tk,rfl,hk⟩:=x.done
 have KW:∀b:UN,b∉(ph CX P w K mg base N qual scope f cd A outer s H E).ex:=λb z=>absurd (show b∈([]:List UN) from z) (by simp)
 refine⟨⟨e0.mod,S.kind,rfl,rfl,ai _,λy z c h1 h2=>?_,λy hy=>?_,λy c _ h=>?_,λ_=>hd,Around.frames_deeper e0.frames,.inr ⟨rfl,rfl⟩,λb z=>absurd z (KW b),e0.bs,e0.J4,λb _ _=>KW b,λb z=>absurd z (KW b),e0.pg,e0.Kp⟩,
  rfl,e0.bare,Un.kept hk,⟨_,x.toInCall.ns,λi y v h1 h2 h3=>?_⟩,λy c h=>⟨_,x.cell y c h⟩,e0.hok.fresh (ai _),λy c h=>?_,λp hp=>absurd (show p∈([]:List (UN×Obj)) from hp) (by simp),e0.hok.kept hk,?_⟩
 ·exact name_of_addr x.apart (PySem.mem_of_lookup h1) (PySem.mem_of_lookup h2)
 ·have hy:scope.names.lookup y=some .cell\/scope.names.lookup y=some .free:=hy
  rcases hy with hy | hy
  ·exact sO hy
  ·exact absurd rfl (S.GQ _ (PySem.mem_of_lookup hy))
 ·exact bq (x.above y c (PySem.mem_of_lookup h))
 ·have hi:i < vs.length:=by
   unfold start at h2
   by_cases hi:i < vs.length
   ·exact hi
   ·rw[jb (by simpa using hi)] at h2
    rw[DI] at h2
    split at h2<;>cases h2
  have ha:vs[i]? =some v:=by
   unfold start at h2
   rw[fg (by simpa using hi),cU] at h2
   cases e:vs[i]? with
   | none=>rw[e] at h2;cases h2
   | some a=>rw[e] at h2;cases h2;rfl
  obtain⟨u,hu,rv⟩:=r.get ha
  have hp:ps[i]? =some y:=by
   rw[<-S.pre,cL (by omega)];exact h1
  have Qq:ps.Nodup:=by rw[<-S.pre];exact S.nd.sublist (dm _ _)
  refine⟨u,rv,?_⟩
  rcases S.par y (jN hp) with k | k
  ·exact .inl ⟨k,pT Qq hp hu k⟩
  ·obtain⟨c,e⟩:=sO (n:=s.heap.objs.size+1) k
   refine .inr ⟨.inl k,c,e,?_⟩
   have q:=x.cell y c e
   rw[pU Qq hp hu (by show scope.names.lookup y≠_;rw[k];decide)] at q
   exact q
 ·exact e0.hok.fresh (bq (x.above y c (PySem.mem_of_lookup h)))
 ·unfold start
  show _=N.length
  rw[aP,bV,List.length_replicate]
  omega
theorem KY{CX:zj}{P:UR}{w:UU}{K:PySem.W.Frag}{mg:Str->Option UT}{base:Heap}{k:Nat}{f:UN}{name qual:Str}{params:Arguments}{body:List Stmt}{scope:Scope}{dV kV doc pm cdv ct oc:UT}{an od:Option UN}
  {osl:Array (Option UT)}{N ps:List Str}{sp:Sp}(lk:K.lookup f=some ⟨oc,od,.func (PySem.W.fnOf name qual params body scope dV kV doc pm an cdv ct),osl⟩)(hcd:PySem.W.codeIn K cdv qual=true)(S:FnScope N ps scope)
  (len:∀vs H Q E,sp vs H Q E->vs.length=ps.length)
  (hbody:∀(A:UO)(outer:List Env)(s:US)(H:Hp)(vs:List V)(Q:VK)(E:XK),ja k (A.deeper (envOfC qual scope s.heap.objs.size f cdv))->sp vs H Q E->
   ∃t,zx (ph CX P w K mg base N qual scope f cdv A outer s H E) body t/\t { nx:=λ_ H'=>Q .bS H',rt:=Q } (start N vs) H) :
  FnOk P w K mg base CX (k+1) f (PySem.W.fnOf name qual params body scope dV kV doc pm an cdv ct) ps sp:=by
 refine⟨len,λA outer s H args us vs Q E hr e0 hb r J6=>?_⟩
 have hl:=len _ _ _ _ J6
 have KX:K.In s.heap:=e0.mod.Kn.keeps λb o e=>(e0.bs b o e).1
 have lim:s.heap.NoLimit:=e0.mod.nolimit.keeps λb o e=>(e0.bs b o e).1
 have hkind:∀y∈ps.zip us,scope.names.lookup y.1=some .local\/(scope.names.lookup y.1=some .cell/\((cellsFrom (s.heap.objs.size+1) scope.names []).lookup y.1).isSome=true):=λ⟨n,v⟩ hy=>by
  rcases S.par n (wt hy).1 with q | q
  ·exact .inl q
  ·exact .inr ⟨q,PySem.W.cellsFrom_some _ _ _ (.inl q)⟩
 refine codeAny_call_function hr.depth (KX _ _ lk) rfl S.co S.gen rfl (PySem.W.codeRec_of KX hcd) (hb _ _ _ _ ?_)
 refine wpAny_newFunctionEnv_cells S.kind hkind λenv he s1 x=>?_
 subst he
 refine⟨lim.keeps x.toInCall.keep,codeAny_func ?_⟩
 obtain⟨t,ht,hq⟩:=hbody A outer s H vs Q E (hr.deeper _) J6
 have I:Inv (ph CX P w K mg base N qual scope f cdv A outer s H E) [] (start N vs) H s1:=yb S hr.hd e0 hl r x
 refine U_ (ht [] s1 (start N vs) H _ I hq) (λfl s' hs=>?_) λe s' hs=>hs
 have fin:∀{σ':St}{H':Hp}{v:V}{u:UT},Inv (ph CX P w K mg base N qual scope f cdv A outer s H E) [] σ' H' s'->RelV v u->Q v H'->CE outer P w H s Q u s' :=
  λ{σ' H' v u} J rv q=>⟨v,H',J.os,J.bare,J.base,J.hok,rv,q⟩
 cases fl with
 | ret u=>
  obtain⟨v,σ',H',J,rv,q⟩:=hs
  exact fin J rv q
 | next=>
  obtain⟨σ',H',J,q⟩:=hs
  exact fin (v:=V.bS) (u:=dk) J rfl q
 | brk=>
  obtain⟨_,_,_,q⟩:=hs
  exact aa q
 | cont=>
  obtain⟨_,_,_,q⟩:=hs
  exact aa q
section
variable {X:Cx} {x:Str} {p pos:Pos} {e:Expr} {es:List Expr} {t:TA} {id T:String} {r:List V->Hp->VK->Prop}
def Qr(r:List V->Hp->VK->Prop)(t:TA):TE:=λσ H Q=>t σ H λvs H1=>r vs H1 Q
theorem zJ(hc:dg X (.builtin id) r)(hg:Gl X x)(hm:X.mg x=none)(hv:UY x=some (.builtin id))(ha:PA X (e::es) t)(hn:x≠"__name__":=by decide)(hdb:(x == ("__debug__":Str))=false:=by decide)
  (he:U6 (e::es) X.env=(false,eval e X.env)::U6 es X.env:=by rfl)(hpl:(backTo pos (U6 es X.env)).any (·.1)=false:=by rfl):PE X (.Call (.Name x p) (e::es) [] pos) (Qr r t):=by
 intro pins s σ H Q I h
 refine wpAny_Call_Name_kw (kl I hg hm hv ?_ hn hdb)
 exact DJ (bI (ha pos pins s σ H _ I h) λus s1 ⟨vs,H1,I1,r1,q1⟩=>hc pins s1 σ H1 vs us Q I1 r1 q1) he hpl
theorem yc(hc:dg X (.type T) r)(hg:Gl X x)(hm:X.mg x=none)(hv:UY x=some (.type T))(ha:PA X (e::es) t)(hn:x≠"__name__":=by decide)(hdb:(x == ("__debug__":Str))=false:=by decide)
  (he:U6 (e::es) X.env=(false,eval e X.env)::U6 es X.env:=by rfl)(hpl:(backTo pos (U6 es X.env)).any (·.1)=false:=by rfl):PE X (.Call (.Name x p) (e::es) [] pos) (Qr r t):=by
 intro pins s σ H Q I h
 refine wpAny_Call_Name_kw (kl I hg hm hv ?_ hn hdb)
 exact qB (bI (ha pos pins s σ H _ I h) λus s1 ⟨vs,H1,I1,r1,q1⟩=>hc pins s1 σ H1 vs us Q I1 r1 q1) he hpl
end
end L2
namespace HT
open PySem PyProof.Rows
section
open PySem.SeqAt
open PySem.AutoSeq1 (wpAny_loadPart')
open PySem.MeetsSeq PySem.MeetsSeq2 PySem.MeetsSeq3
end
section
variable {prog:UR} {w:UU} {A:UO} {E:UT->US->Prop} {s:US}
theorem DK{t b:UN}{vs ws:List UT}{Q:UT->US->Prop}(ht:IsTup s.heap t vs.toArray)(hb:IsTup s.heap b ws.toArray)(hv:vs≠[])
  (h1:ws=[]->Q (.ref t) s)(h2:ws≠[]->Q (.ref s.heap.objs.size) { s with heap:=s.heap.push { cls:=.type "tuple",data:=.seq (vs++ws).toArray } })
  (hsz:vs.length+ws.length<=U5):U7 (model prog w) A (UX .Add (.ref t) (.ref b)) Q E s:=by
 obtain⟨⟨cls,dd,data,sl⟩,ho,hc,n,hd⟩:=id ht
 obtain⟨⟨NV,dd2,data2,sl2⟩,ho2,hc2,n2,hd2⟩:=id hb
 simp only at hc hd hc2 hd2
 subst hc hd hc2 hd2
 have e:vs.toArray++ws.toArray=(vs++ws).toArray:=by simp
 by_cases hw:ws=[]
 ·exact concat_meets ⟨_,ho,rfl⟩ ⟨_,ho2,rfl⟩ noFill_tuple_add seq_tuple_add PySem.F.slot_tuple_add PySem.F.entry_tuple_add (PySem.F.args_tuple_add_2 _ _)
   (tuple_addW1 t b vs.toArray ws.toArray n n2 dd dd2 sl sl2 (by simpa using hv) (by simp[hw])) ⟨ho,ho2,h1 hw⟩
 ·refine concat_meets ⟨_,ho,rfl⟩ ⟨_,ho2,rfl⟩ noFill_tuple_add seq_tuple_add PySem.F.slot_tuple_add PySem.F.entry_tuple_add (PySem.F.args_tuple_add_2 _ _)
   (tuple_addW2 t b vs.toArray ws.toArray n n2 dd dd2 sl sl2 (by simpa using hv) (by simpa using hw) (by rw[aH,aH];exact hsz)) ⟨ho,ho2,?_⟩
  rw[e]
  exact h2 hw
def de(n d:Nat):Option Int->Nat
 | none=>d
 | some v=>if v < 0 then(v+(n:Int)).toNat else min v.toNat n
theorem GR(n d:Nat)(hd:d<=n)(o:Option Int):de n d o<=n:=by
 cases o with
 | none=>exact hd
 | some v=>
  show(if v < 0 then(v+(n:Int)).toNat else min v.toNat n)<=n
  by_cases hv:v < 0
  ·rw[if_pos hv];omega
  ·rw[if_neg hv];exact wu _ _
theorem wx(v:Int)(n d:Nat):(if v < 0 then max (v+(n:Int)) 0 else min v (n:Int))=((de n d (some v):Nat):Int):=by
 show(if v < 0 then max (v+(n:Int)) 0 else min v (n:Int))=(((if v < 0 then(v+(n:Int)).toNat else min v.toNat n):Nat):Int)
 by_cases hv:v < 0
 ·simp only[if_pos hv];omega
 ·simp only[if_neg hv];omega
theorem uV(lo hi:Option Int)(n:Nat):zK lo hi 1 (n:Int)=(((de n 0 lo:Nat):Int),((de n n hi:Nat):Int)):=by
 have h1:¬((1:Int) < 0):=by omega
 unfold zK
 simp only[h1,if_false]
 refine qD ?_ ?_
 ·cases lo with
  | none=>rfl
  | some v=>exact wx v n 0
 ·cases hi with
  | none=>rfl
  | some v=>exact wx v n n
theorem uW(i j:Nat):uZ (i:Int) (j:Int) 1=j - i:=by
 unfold uZ
 have h1:(1:Int) > 0:=by omega
 simp only[h1,if_true,Int.ediv_one]
 split<;>omega
theorem nG{v:UT}{o:Option Int}{Q:Option Int->US->Prop}(p:IsPart v o)(h:Q o s):U7 (model prog w) A (Builtin.Slice.slicePartIndex v) Q E s:=by
 cases p with
 | none=>exact slicePart_none h
 | int i t=>exact slicePart_int h
theorem gT{sl:UN}{vl vu:UT}{lo hi:Option Int}{n:Nat}{Q:Int×Int×Nat->US->Prop}(hs:s.heap.IsSliceOf sl vl vu .none)(pl:IsPart vl lo)(pu:IsPart vu hi)
  (h:Q (((de n 0 lo:Nat):Int),1,de n n hi - de n 0 lo) s):U7 (model prog w) A (GU (.ref sl) (pure (n:Int))) Q E s:=by
 obtain⟨os,hos,hcs,hds⟩:=id hs
 unfold GU Builtin.Slice.sliceFields
 refine U8 (U8 (wpAny_field hos hds (x:=vl) rfl (U8 (wpAny_field hos hds (x:=vu) rfl (U8 (wpAny_field hos hds (x:=.none) rfl (Vb ?_)))))))
 refine U8 (slicePart_none ?_)
 show U7 _ _ (if((1:Int) == 0)=true then _ else _) _ _ s
 rw[if_neg (by decide)]
 refine U8 (nG pl (U8 (nG pu (U8 (Vb ?_)))))
 show U7 _ _ (match zK lo hi 1 (n:Int) with | (lo,hi)=>pure (lo,(1:Int),uZ lo hi 1)) _ _ s
 rw[uV lo hi n]
 show U7 _ _ (pure (((de n 0 lo:Nat):Int),(1:Int),uZ ((de n 0 lo:Nat):Int) ((de n n hi:Nat):Int) 1)) _ _ s
 rw[uW]
 exact Vb h
theorem zL(xs:Array UT)(i k:Nat):((av k).filterMap λ(m:Nat)=>xs[((i:Int)+(m:Int) * 1).toNat]?).toArray=((xs.toList.drop i).take k).toArray:=by
 have e:(λ(m:Nat)=>xs[((i:Int)+(m:Int) * 1).toNat]?)=λm=>xs[i+m]?:=by
  funext m
  have:((i:Int)+(m:Int) * 1).toNat=i+m:=by omega
  rw[this]
 rw[e]
 have:=pick_run xs i k
 rw[zM] at this
 have e2:((λx=>xs[x]?) ∘ λx=>i+x)=λm=>xs[i+m]?:=rfl
 rw[e2] at this
 rw[this]
theorem kR{t sl:UN}{items:Array UT}{vl vu:UT}{lo hi:Option Int}{Q:UT->US->Prop}(ht:IsTup s.heap t items)(hs:s.heap.IsSliceOf sl vl vu .none)(pl:IsPart vl lo)(pu:IsPart vu hi)
  (hw:¬(de items.size 0 lo=0/\de items.size items.size hi=items.size))
  (h:Q (.ref s.heap.objs.size) { s with heap:=s.heap.push { cls:=.type "tuple",data:=.seq ((items.toList.drop (de items.size 0 lo)).take (de items.size items.size hi - de items.size 0 lo)).toArray } })
  (hsz:items.size<=U5):U7 (model prog w) A (getItem (.ref t) (.ref sl)) Q E s:=by
 have wy:sizeOk (.seq ((items.toList.drop (de items.size 0 lo)).take (de items.size items.size hi - de items.size 0 lo)).toArray):=by
  show((items.toList.drop (de items.size 0 lo)).take (de items.size items.size hi - de items.size 0 lo)).toArray.size<=U5
  rw[aH,aD,bL,gq]
  omega
 have hj:de items.size items.size hi<=items.size:=GR _ _ (ai _) hi
 obtain⟨os,hos,hcs,hds⟩:=id hs
 have RN:s.TypeIs (.ref sl) "slice":=⟨os,hos,hcs⟩
 unfold getItem
 try with_reducible refine U9 ?_
 first | refine U8 (Vb ?_) | skip
 refine U8 (wpAny_sequenceKey ht.typeIs (by decide) ?_)
 refine U8 (wpAny_callSpecial?_slot (name:=wz "__getitem__") ht.typeIs qE
  (wpAny_call_entry qE ht.typeIs entry_tuple_getitem ?_ (args_tuple_getitem _ _)))
 show U7 _ _ (zu (.ref t) >>= _) _ _ s
 refine U8 (tupleItemsOf_ ht ?_)
 refine U8 (wpAny_typeOf RN ?_)
 rw[if_pos (by decide)]
 refine U8 (gT hs pl pu ?_)
 have hno:¬((((de items.size 0 lo:Nat):Int) == 0&&(1:Int) == 1&&(de items.size items.size hi - de items.size 0 lo) == items.size)=true):=by
  intro q
  rw[bf,bf] at q
  have q1:((de items.size 0 lo:Nat):Int)=0:=eq_of_beq q.1.1
  have q2:de items.size items.size hi - de items.size 0 lo=items.size:=eq_of_beq q.2
  exact hw ⟨by omega,by omega⟩
 show U7 _ _ (if(((de items.size 0 lo:Nat):Int) == 0&&(1:Int) == 1&&(de items.size items.size hi - de items.size 0 lo) == items.size)=true then _ else _) _ _ s
 rw[if_neg hno,zL]
 first
  | exact U8 (m:=u0 _) (Va (Vb ⟨_,rfl,Vb h⟩) wy)
  | exact U8 (m:=u0 _) (Va (U8 (Vb (Vb ⟨_,rfl,Vb h⟩))) wy)
  | exact U8 (U8 (m:=u0 _) (Va (Vb (Vb ⟨_,rfl,Vb h⟩)) wy))
  | exact U8 (U8 (m:=u0 _) (Va (Vb ⟨_,rfl,Vb h⟩) wy))
end
end HT
namespace L2
open PySem PySem.Spec PyProof.Rows
abbrev TO:=St->Hp->(Option Int->Hp->Prop)->Prop
def PO(X:Cx)(e:Option Expr)(t:TO):Prop :=
 ∀(pins:List (UN×Obj))(s:US)(σ:St)(H:Hp)(Q:Option Int->Hp->Prop),Inv X pins σ H s->t σ H Q->
  U7 (model X.prog X.w) X.A (evalPart e X.env) (λu s'=>∃o H',Inv X pins σ H' s'/\IsPart u o/\Q o H') X.xe s
def DL:TO:=λ_ H Q=>Q none H
def KZ(t:TE):TO:=λσ H Q=>t σ H λx H1=>∃i,x= .int i/\Q (some i) H1
section
variable {X:Cx} {e:Expr} {te:TE} {lo hi:Option Expr} {tl th:TO} {pos p2:Pos}
theorem DM:PO X none DL:=by
 intro pins s σ H Q I h
 rw[evalPart_none]
 exact Vb ⟨none,H,I,.none,h⟩
theorem DN(h:PE X e te):PO X (some e) (KZ te):=by
 intro pins s σ H Q I hw
 rw[evalPart_some]
 refine bI (h pins s σ H _ I hw) λu s1 ⟨x,H1,I1,r1,q1⟩=>?_
 obtain⟨i,rfl,q⟩:=q1
 obtain⟨t,rfl⟩:=r1
 exact⟨some i,H1,I1,.int i t,q⟩
def C9(X:Cx)(r:V->Option Int->Option Int->Hp->VK->Prop):Prop :=
 ∀(pins:List (UN×Obj))(s:US)(σ:St)(H:Hp)(x:V)(v vl vu:UT)(lo hi:Option Int)(sl:UN)(Q:VK),Inv X pins σ H s->RelV x v->s.heap.IsSliceOf sl vl vu .none->IsPart vl lo->IsPart vu hi->r x lo hi H Q->
  ∃T id,typeLookup (.type T) "__getitem__"=pure (some (.builtin id))/\s.TypeIs v T/\U7 (model X.prog X.w) X.A (getItem v (.ref sl)) (EP X pins σ Q) X.xe s
theorem C9.or{r r':V->Option Int->Option Int->Hp->VK->Prop}(h:C9 X r)(h':C9 X r'):C9 X (λx lo hi H Q=>r x lo hi H Q\/r' x lo hi H Q):=by
 intro pins s σ H x v vl vu lo hi sl Q I rx hs pl pu q
 rcases q with q | q
 ·exact h pins s σ H x v vl vu lo hi sl Q I rx hs pl pu q
 ·exact h' pins s σ H x v vl vu lo hi sl Q I rx hs pl pu q
def RO(r:V->Option Int->Option Int->Hp->VK->Prop)(te:TE)(tl th:TO):TE:=λσ H Q=>te σ H λx H1=>tl σ H1 λl H2=>th σ H2 λu H3=>r x l u H3 Q
theorem nH{r:V->Option Int->Option Int->Hp->VK->Prop}(hr:C9 X r)(he:PE X e te)(hl:PO X lo tl)(hu:PO X hi th):PE X (.Subscript e (.Slice lo hi none p2) pos) (RO r te tl th):=by
 intro pins s σ H Q I h
 refine Subscript_ (bI (he pins s σ H _ I h) λv s1 ⟨x,H1,I1,r1,q1⟩=>?_)
 refine wpAny_Slice (bI (hl pins s1 σ H1 _ I1 q1) λvl s2 ⟨l,H2,I2,pl,q2⟩=>bI (hu pins s2 σ H2 _ I2 q2) λvu s3 ⟨u,H3,I3,pu,q3⟩=>?_)
 rw[evalPart_none]
 refine Vb ?_
 have I4:Inv X pins σ H3 { s3 with heap:=s3.heap.push { cls:=.type "slice",data:=.fields #[vl,vu,.none] } }:=I3.kept (t':=s3.toks) λb ob q=>aU _ q
 obtain⟨T,id,hT,ht,hg⟩:=hr pins { s3 with heap:=s3.heap.push { cls:=.type "slice",data:=.fields #[vl,vu,.none] } } σ H3 x v vl vu l u s3.heap.objs.size Q I4 r1 (Heap.IsSliceOf.new ..) pl pu q3
 show U7 (model X.prog X.w) X.A (subscriptTail e (.Slice lo hi none p2) v (.ref s3.heap.objs.size)) (EP X pins σ Q) X.xe { s3 with heap:=s3.heap.push { cls:=.type "slice",data:=.fields #[vl,vu,.none] } }
 exact tail_any (ops:=[.ref s3.heap.objs.size,v]) ht hT hg (by with_unfolding_all rfl)
def pj(xs:List V)(lo hi:Option Int):List V:=(xs.drop (HT.de xs.length 0 lo)).take (HT.de xs.length xs.length hi - HT.de xs.length 0 lo)
theorem mF(xs:List V)(lo hi:Option Int):(pj xs lo hi).length<=xs.length:=by
 unfold pj
 rw[aD,bL]
 omega
def NW(K:PySem.W.Frag):V->Option Int->Option Int->Hp->VK->Prop:=λx lo hi H Q=>∃a xs,x= .ref a/\fY K H a xs/\
 ¬(HT.de xs.length 0 lo=0/\HT.de xs.length xs.length hi=xs.length)/\∀p,H p=none->Q (.ref p) (upd H p (.tup (pj xs lo hi)))
theorem zN:C9 X (NW X.K):=by
 intro pins s σ H x v vl vu lo hi sl Q I rx hs pl pu h
 obtain⟨a,xs,rfl,hx,hw,q⟩:=h
 cases rx
 obtain⟨its,r,ht,hz⟩:=I.tuple hx
 have hlen:its.toArray.size=xs.length:=by rw[aH];exact r.length.symm
 refine⟨"tuple",_,PyProof.Rows.slot_tuple_getitem.lookup,ht.typeIs,?_⟩
 refine HT.kR ht hs pl pu (by rw[hlen];exact hw) ?_ (by rw[hlen];exact hz)
 rw[hlen]
 refine⟨.ref s.heap.objs.size,_,I.laid (t':=s.toks) (o:=.tup (pj xs lo hi)) (λb ob q=>aU _ q) (ai _) ?_,rfl,q _ (I.hok.fresh (ai _))⟩
 exact⟨bt (mF xs lo hi) hz,_,(r.drop (HT.de xs.length 0 lo)).take (HT.de xs.length xs.length hi - HT.de xs.length 0 lo),IsTup.new _ _,xT.new _ _⟩
def K0(K:PySem.W.Frag):R2:=λx y H Q=>∃a b xs ys,x= .ref a/\y= .ref b/\fY K H a xs/\fY K H b ys/\xs≠[]/\xs.length+ys.length<=U5/\
 (ys=[]->Q (.ref a) H)/\(ys≠[]->∀p,H p=none->Q (.ref p) (upd H p (.tup (xs++ys))))
theorem Vals.qF{xs:List V}{us:List UT}(r:Vals xs us):us=[]↔xs=[]:=by
 cases r with
 | nil=>simp
 | cons _ _=>simp
theorem DO:fA X (UX .Add) (K0 X.K):=by
 intro pins s σ H x y v u Q I rx ry h
 obtain⟨a,b,xs,ys,rfl,rfl,ha,hb,hx,hz,q1,q2⟩:=h
 cases rx
 cases ry
 obtain⟨its,r1,p1,_⟩:=I.tuple ha
 obtain⟨its2,r2,p2,_⟩:=I.tuple hb
 refine HT.DK p1 p2 (λz=>hx (r1.qF.mp z)) (λz=>⟨.ref a,H,I,rfl,q1 (r2.qF.mp z)⟩) (λz=>?_) (by rw[<-r1.length,<-r2.length];exact hz)
 refine⟨.ref s.heap.objs.size,_,I.laid (t':=s.toks) (o:=.tup (xs++ys)) (λb ob q=>aU _ q) (ai _) ?_,rfl,q2 (λw=>z (r2.qF.mpr w)) _ (I.hok.fresh (ai _))⟩
 exact⟨by rw[aP];exact hz,_,r1.append r2,IsTup.new _ _,xT.new _ _⟩
end
def zk(n:Nat)(i:Int):Option Nat:=if 0<=i then(if i < n then some i.toNat else none) else if -(n:Int)<=i then some (i+n).toNat else none
def lR{α:Type}(xs:List α)(i:Int):Option α:=(zk xs.length i).bind λj=>xs[j]?
theorem wA{n:Nat}{i:Int}{j:Nat}(h:zk n i=some j):seqIndex? i n=some j/\j < n/\-(n:Int)<=i/\i < n:=by
 unfold zk at h
 by_cases h0:0<=i
 ·rw[if_pos h0] at h
  by_cases h1:i < n
  ·rw[if_pos h1] at h
   have e:i.toNat=j:=Option.some.inj h
   exact⟨by rw[seqIndex_of h0 h1,e],by omega,by omega,h1⟩
  ·rw[if_neg h1] at h;cases h
 ·rw[if_neg h0] at h
  by_cases h1:-(n:Int)<=i
  ·rw[if_pos h1] at h
   have e:(i+n).toNat=j:=Option.some.inj h
   exact⟨by rw[seqIndex_neg (by omega) h1,e],by omega,h1,by omega⟩
  ·rw[if_neg h1] at h;cases h
theorem mZ{α:Type}{xs:List α}{i:Int}{v:α}(h:lR xs i=some v):∃j,seqIndex? i xs.length=some j/\xs[j]? =some v/\j < xs.length/\-(xs.length:Int)<=i/\i < xs.length:=by
 unfold lR at h
 cases e:zk xs.length i with
 | none=>rw[e] at h;cases h
 | some j=>
  rw[e] at h
  obtain⟨h1,h2,h3,h4⟩:=wA e
  exact⟨j,h1,h,h2,h3,h4⟩
theorem eT{α:Type}{xs:List α}{j:Nat}{v:α}(h:xs[j]? =some v):lR xs (j:Int)=some v:=by
 have hj:j < xs.length:=(List.getElem?_eq_some_iff.mp h).1
 have e:zk xs.length (j:Int)=some j:=by
  unfold zk
  rw[if_pos (by omega),if_pos (by omega)];simp
 unfold lR;rw[e];exact h
def wB(b:Expr):Prop:=∀o i,subscripted b false o i=operate [o,i] (getItem o i)
def DP(X:Cx)(r:R2):Prop :=
 ∀(value slice:Expr)(pins:List (UN×Obj))(s:US)(σ:St)(H:Hp)(x y:V)(v u:UT)(Q:VK),Inv X pins σ H s->RelV x v->RelV y u->r x y H Q->
  subscripted slice false v u=operate [v,u] (getItem v u)->U7 (model X.prog X.w) X.A (subscriptTail value slice v u) (EP X pins σ Q) X.xe s
def DQ(X:Cx)(id:String)(r:V->List V->Hp->VK->Prop):Prop :=
 ∀(pins:List (UN×Obj))(s:US)(σ:St)(H:Hp)(x:V)(xs:List V)(v:UT)(us:List UT)(Q:VK),Inv X pins σ H s->RelV x v->Vals xs us->r x xs H Q->
  U7 (model X.prog X.w) X.A (call (.builtin id) (v::us)) (EP X pins σ Q) X.xe s
section
variable {X:Cx} {a b:Expr} {ta tb:TE} {pos:Pos}
theorem DP.or{r r':R2}(h:DP X r)(h':DP X r'):DP X (λx y H Q=>r x y H Q\/r' x y H Q):=by
 intro value slice pins s σ H x y v u Q I rx ry q hs
 rcases q with q | q
 ·exact h value slice pins s σ H x y v u Q I rx ry q hs
 ·exact h' value slice pins s σ H x y v u Q I rx ry q hs
theorem K3{r:R2}(hr:DP X r)(ha:PE X a ta)(hb:PE X b tb)(hs:wB b):PE X (.Subscript a b pos) (KJ r ta tb):=by
 intro pins s σ H Q I h
 exact Subscript_ (GD ha hb I h λv u s2 x y H2 I2 rx ry q=>hr a b pins s2 σ H2 x y v u Q I2 rx ry q (hs _ _))
def K4(K:PySem.W.Frag):R2:=λx y H Q=>∃p xs i v,x= .ref p/\y= .int i/\j9 K H p xs/\lR xs i=some v/\Q v H
def K5(K:PySem.W.Frag):R2:=λx y H Q=>∃p xs i v,x= .ref p/\y= .int i/\fY K H p xs/\lR xs i=some v/\Q v H
def K6:R2:=λx y H Q=>∃z i c,x= .str z/\y= .int i/\z.length<=U5/\lR z.cps.toList i=some c/\Q (.str ⟨#[c]⟩) H
theorem DR:DP X (K4 X.K):=by
 intro value slice pins s σ H x y v u Q I rx ry h hs
 obtain⟨p,xs,i,z,rfl,rfl,hq,he,q⟩:=h
 cases rx
 obtain⟨t,rfl⟩:=ry
 obtain⟨its,r,pl,hz⟩:=I.list hq
 obtain⟨j,h1,h2,h3,h4,h5⟩:=mZ he
 obtain⟨w,ew,rw'⟩:=r.get h2
 have hl:=r.length
 have hn:=ko
 have fin:EP X pins σ Q w s:=⟨z,H,I,rw',q⟩
 by_cases h0:0<=i
 ·have hj:i.toNat=j:=by
   rw[seqIndex_of h0 h5] at h1
   exact Option.some.inj h1
  exact item_listR pl.isList h0 (by omega) (by rw[hj];simpa using ew) fin hs
 ·have hj:(i+(its.toArray.size:Int)).toNat=j:=by
   rw[seqIndex_neg (by omega) h4] at h1
   rw[aH,<-hl]
   exact Option.some.inj h1
  exact subscriptTail_builtinR (x:=w) pl.isList.typeIs slot_list_getitem.lookup
   (wpAny_getItem_list_neg (Q:=λr s'=>r=w/\EP X pins σ Q r s') pl.isList (by omega) (by rw[aH]<;>omega) (by omega) (by rw[hj];simpa using ew) ⟨rfl,fin⟩) hs
theorem GV:DP X (K5 X.K):=by
 intro value slice pins s σ H x y v u Q I rx ry h hs
 obtain⟨p,xs,i,z,rfl,rfl,hq,he,q⟩:=h
 cases rx
 obtain⟨t,rfl⟩:=ry
 obtain⟨its,r,pl,hz⟩:=I.tuple hq
 obtain⟨j,h1,h2,h3,h4,h5⟩:=mZ he
 obtain⟨w,ew,rw'⟩:=r.get h2
 have hl:=r.length
 have hn:=ko
 have fin:EP X pins σ Q w s:=⟨z,H,I,rw',q⟩
 exact subscriptTail_builtinR (x:=w) pl.typeIs slot_tuple_getitem.lookup
  (getItem_tuple (j:=j) (Q:=λr s'=>r=w/\EP X pins σ Q r s') pl (by omega) (by omega) (by rw[aH,<-hl];exact h1) (by simpa using ew) ⟨rfl,fin⟩) hs
theorem GW:DP X K6:=by
 intro value slice pins s σ H x y v u Q I rx ry h hs
 obtain⟨z,i,c,rfl,rfl,hz,he,q⟩:=h
 obtain⟨t,rfl⟩:=rx
 obtain⟨t',rfl⟩:=ry
 obtain⟨j,h1,h2,h3,h4,h5⟩:=mZ he
 have hl:z.cps.toList.length=z.length:=by simp[Str.length]
 rw[hl] at h1 h4 h5
 have hn:=ko
 exact tail_any (typeIs_str s z t) slot_str_getitem.lookup (getItem_str (c:=c) (by
  have e1:decide (i < -(2 ^ 63:Int))=false:=decide_eq_false (by omega)
  have e2:decide (i >= 2 ^ 63)=false:=decide_eq_false (by omega)
  rw[e1,e2,Bool.or_false]) (by rw[h1];simpa using h2) ⟨.str ⟨#[c]⟩,H,I.tok _,⟨_,rfl⟩,q⟩) hs
def Qs(K:PySem.W.Frag):R2:=λx y H Q=>K4 K x y H Q\/K5 K x y H Q\/K6 x y H Q
theorem GX:DP X (Qs X.K):=DR.or (GV.or GW)
theorem u5(its:List UT)(n j:Nat)(u:UT):bM (·.setIfInBounds j u) { cls:=.type "list",data:=.seq its.toArray n }={ cls:=.type "list",data:=.seq (its.set j u).toArray n }:=by
 simp[bM]
theorem Inv.lst{pins:List (UN×Obj)}{σ:St}{H:Hp}{s:US}{p:UN}{xs:List V}(I:Inv X pins σ H s)(h:H p=some (.lst xs)) :
  ∃(its:List UT)(n:Nat),Vals xs its/\s.heap.get? p=some { cls:=.type "list",data:=.seq its.toArray n }/\xs.length<=U5:=by
 obtain⟨z,its,n,r,e⟩:=I.hok p _ h
 exact⟨its,n,r,e,z⟩
theorem Inv.GY{pins:List (UN×Obj)}{σ:St}{H:Hp}{s:US}{p:UN}{xs ys:List V}{its its':List UT}{n n':Nat}{f:Obj->Obj}(I:Inv X pins σ H s)(h:H p=some (.lst xs))
  (ho:s.heap.get? p=some { cls:=.type "list",data:=.seq its.toArray n })(hf:f { cls:=.type "list",data:=.seq its.toArray n }={ cls:=.type "list",data:=.seq its'.toArray n' })(r:Vals ys its')(hz:ys.length<=U5)(t:Nat) :
  Inv X pins σ (upd H p (.lst ys)) { s with heap:=s.heap.update p f,toks:=t }:=by
 have e:(s.heap.update p f).get? p=some { cls:=.type "list",data:=.seq its'.toArray n' }:=by
  rw[qG f ho (by rw[hf]<;>rfl),hf]
 refine I.write (x:=p) (e:=p) (by rw[h];trivial) (.inl rfl) (λb u hb q=>(nI _ _ (cT hb)).trans q) ⟨_,e⟩ ?_
 exact⟨hz,its',n',r,e⟩
def K7:V->V->V->Hp->(Hp->Prop)->Prop:=λo i v H Q=>∃p xs k j,o= .ref p/\i= .int k/\H p=some (.lst xs)/\zk xs.length k=some j/\Q (upd H p (.lst (xs.set j v)))
theorem set_list:KC X K7:=by
 intro pins s σ H o i v ov iv u Q I ro ri rv h
 obtain⟨p,xs,k,j,rfl,rfl,hp,hj,q⟩:=h
 cases ro
 obtain⟨t,rfl⟩:=ri
 obtain⟨its,n,r,ho,hz⟩:=I.lst hp
 obtain⟨h1,h2,h3,h4⟩:=wA hj
 have hl:=r.length
 have hn:=ko
 have I':Inv X pins σ (upd H p (.lst (xs.set j v))) { s with heap:=s.heap.update p (bM (·.setIfInBounds j u)) } :=
  I.GY hp ho (u5 its n j u) (r.set rv j) (by rw[wC];exact hz) s.toks
 by_cases h0:0<=k
 ·have hk:k.toNat=j:=by
   rw[seqIndex_of h0 h4] at h1
   exact Option.some.inj h1
  exact PySem.W.ki_setAt ho h0 (by omega) (by rw[aH,<-hl];exact h4) (by rw[hk];exact⟨_,I',q⟩)
 ·have hk:(k+(its.toArray.size:Int)).toNat=j:=by
   rw[seqIndex_neg (by omega) h3] at h1
   rw[aH,<-hl]
   exact Option.some.inj h1
  exact PySem.W.ki_setBack ho (by omega) (by rw[aH,<-hl];exact h3) (by omega) (by rw[hk];exact⟨_,I',q⟩)
theorem qH(lo hi:Option Int)(n:Nat):(sliceBounds lo hi none n).1=((HT.de n 0 lo:Nat):Int)/\(sliceBounds lo hi none n).2.1=((HT.de n n hi:Nat):Int)/\(sliceBounds lo hi none n).2.2=1:=by
 refine⟨?_,?_,rfl⟩
 ·cases lo with
  | none=>simp[sliceBounds,HT.de]
  | some i=>
   simp only[sliceBounds,HT.de,Option.getD_none,show(1:Int) > 0 by decide,if_true]
   by_cases h:i < 0
   ·simp only[h,if_true]<;>omega
   ·simp only[h,if_false]<;>omega
 ·cases hi with
  | none=>simp[sliceBounds,HT.de]
  | some i=>
   simp only[sliceBounds,HT.de,Option.getD_none,show(1:Int) > 0 by decide,if_true]
   by_cases h:i < 0
   ·simp only[h,if_true]<;>omega
   ·simp only[h,if_false]<;>omega
theorem pk(its:List UT)(lo hi:Option Int):slicePick its.toArray lo hi none=((its.drop (HT.de its.length 0 lo)).take (HT.de its.length its.length hi - HT.de its.length 0 lo)).toArray:=by
 obtain⟨h1,h2,h3⟩:=qH lo hi its.toArray.size
 unfold slicePick
 rw[h1,h2,h3]
 simp only[sliceRange_one,pick_run,aH]<;>rfl
def NX(K:PySem.W.Frag):V->Option Int->Option Int->Hp->VK->Prop:=λx lo hi H Q=>∃a xs,x= .ref a/\j9 K H a xs/\∀p,H p=none->Q (.ref p) (upd H p (.lst (pj xs lo hi)))
theorem DS:C9 X (NX X.K):=by
 intro pins s σ H x v vl vu lo hi sl Q I rx hs pl pu h
 obtain⟨a,xs,rfl,hx,q⟩:=h
 cases rx
 obtain⟨its,r,ht,hz⟩:=I.list hx
 have hlen:=r.length
 refine⟨"list",_,slot_list_getitem.lookup,ht.isList.typeIs,?_⟩
 refine wpAny_getItem_list_slice ht.isList hs pl pu .none (by simp) ?_ (by rw[aH]<;>omega)
 rw[pk,<-hlen]
 refine⟨.ref s.heap.objs.size,_,I.laid (t':=s.toks) (o:=.lst (pj xs lo hi)) (λb ob q=>aU _ q) (ai _) ?_,rfl,q _ (I.hok.fresh (ai _))⟩
 exact⟨bt (mF xs lo hi) hz,_,0,(r.drop (HT.de xs.length 0 lo)).take (HT.de xs.length xs.length hi - HT.de xs.length 0 lo),cO _ rfl⟩
def eG:V->Bool
 | .bS=>true
 | .bl _=>true
 | .int _=>true
 | .str _=>true
 | _=>false
def sP:V->V->Bool
 | .bS,.bS=>true
 | .bl a,.bl b=>a == b
 | .bl a,.int b=>(if a then 1 else 0) == b
 | .int a,.bl b=>a == (if b then 1 else 0)
 | .int a,.int b=>a == b
 | .str a,.str b=>a == b
 | _,_=>false
theorem GZ{A:UO}{s:US}{y x:V}{u v:UT}(ry:RelV y u)(rx:RelV x v)(fy:eG y=true)(fx:eG x=true):SeqAt.EqAt A s u v (sP y x):=by
 cases y with
 | bS=>
  cases ry
  cases x with
  | bS=>cases rx;exact Dq _
  | bl b=>cases rx;exact SeqAt.EqAt.none_bool b
  | int b=>obtain⟨t,rfl⟩:=rx;exact Dn b t
  | str b=>obtain⟨t,rfl⟩:=rx;exact Dp b t
  | _=>exact absurd (show false=true from fx) bG
 | bl a=>
  cases ry
  cases x with
  | bS=>cases rx;exact SeqAt.EqAt.bool_none a
  | bl b=>cases rx;exact SeqAt.EqAt.bool_bool a b
  | int b=>obtain⟨t,rfl⟩:=rx;exact SeqAt.EqAt.bool_int a b t
  | str b=>obtain⟨t,rfl⟩:=rx;exact SeqAt.EqAt.bool_str a b t
  | _=>exact absurd (show false=true from fx) bG
 | int a=>
  obtain⟨t',rfl⟩:=ry
  cases x with
  | bS=>cases rx;exact Dk a t'
  | bl b=>cases rx;exact SeqAt.EqAt.int_bool a t' b
  | int b=>obtain⟨t,rfl⟩:=rx;exact SeqAt.EqAt.int_int a t' b t
  | str b=>obtain⟨t,rfl⟩:=rx;exact Dj a t' b t
  | _=>exact absurd (show false=true from fx) bG
 | str a=>
  obtain⟨t',rfl⟩:=ry
  cases x with
  | bS=>cases rx;exact Dm a t'
  | bl b=>cases rx;exact SeqAt.EqAt.str_bool a t' b
  | int b=>obtain⟨t,rfl⟩:=rx;exact Dl a t' b t
  | str b=>obtain⟨t,rfl⟩:=rx;exact SeqAt.EqAt.str_str a t' b t
  | _=>exact absurd (show false=true from fx) bG
 | _=>exact absurd (show false=true from fy) bG
def u6(x:V)(u:UT):Bool:=match u with
 | .none=>sP .bS x
 | .bool b=>sP (.bl b) x
 | .int i _=>sP (.int i) x
 | .str z _=>sP (.str z) x
 | _=>false
theorem nJ{x y:V}{u:UT}(r:RelV y u)(f:eG y=true):u6 x u=sP y x:=by
 cases y with
 | bS=>cases r;rfl
 | bl b=>cases r;rfl
 | int i=>obtain⟨t,rfl⟩:=r;rfl
 | str z=>obtain⟨t,rfl⟩:=r;rfl
 | _=>exact absurd (show false=true from f) bG
theorem qI{x:V}:∀{xs:List V}{us:List UT},Vals xs us->xs.all eG=true->us.any (u6 x)=xs.any λy=>sP y x
 | _,_,.nil,_=>rfl
 | y::xs,u::us,.cons r t,f=>by
  rw[bT,bf] at f
  rw[qJ,qJ,nJ r f.1,qI t f.2]
theorem gU{A:UO}{s:US}{x:V}{v:UT}(rx:RelV x v)(fx:eG x=true):∀{xs:List V}{us:List UT},Vals xs us->xs.all eG=true->∀u∈us,SeqAt.EqAt A s u v (u6 x u)
 | _,_,.nil,_=>λu hu=>by cases hu
 | y::xs,u::us,.cons r t,f=>λu' hu=>by
  rw[bT,bf] at f
  rcases List.mem_cons.mp hu with rfl | hu
  ·rw[nJ r f.1];exact GZ r rx f.1 fx
  ·exact gU rx fx t f.2 u' hu
def MO(x:V)(xs:List V):Bool:=xs.any λy=>sP y x
def RP(K:PySem.W.Frag)(neg:Bool):R2:=λx y H Q=>∃p xs,y= .ref p/\(j9 K H p xs\/fY K H p xs)/\eG x=true/\xs.all eG=true/\Q (.bl (if neg then !MO x xs else MO x xs)) H
theorem yd:fA X (U1 .In) (RP X.K false):=by
 intro pins s σ H x y v u Q I rx ry h
 obtain⟨p,xs,rfl,hq,fx,fs,q⟩:=h
 cases ry
 rcases hq with hq | hq
 ·obtain⟨its,r,pl,hz⟩:=I.list hq
  refine SeqAt.in_listAt (u6 x) pl.isList (λw hw=>gU rx fx r fs w (by simpa using hw)) ⟨.bl _,H,I,rfl,?_⟩
  rw[show its.toArray.any (u6 x)=its.any (u6 x) by simp,qI r fs]
  exact q
 ·obtain⟨its,r,pl,hz⟩:=I.tuple hq
  refine SeqAt.in_tupleAt (u6 x) pl (λw hw=>gU rx fx r fs w (by simpa using hw)) ⟨.bl _,H,I,rfl,?_⟩
  rw[show its.toArray.any (u6 x)=its.any (u6 x) by simp,qI r fs]
  exact q
theorem qK:dg X (.builtin "len") (λxs H Q=>∃p ys,xs=[.ref p]/\(j9 X.K H p ys\/fY X.K H p ys)/\Q (.int ys.length) H):=by
 intro pins s σ H xs us Q I r h
 obtain⟨p,ys,rfl,hq,q⟩:=h
 obtain⟨u,rfl,rx⟩:=vals1 r
 cases rx
 have hn:=ko
 rcases hq with hq | hq
 ·obtain⟨its,r',pl,hz⟩:=I.list hq
  have hlen:=r'.length
  exact Calls.call_len_list pl.isList (by simp only[aH]<;>omega) ⟨.int ys.length,H,I.tok _,⟨s.toks+1,by rw[aH,hlen]⟩,q⟩
 ·obtain⟨its,r',pl,hz⟩:=I.tuple hq
  have hlen:=r'.length
  exact len_tuple pl (by simp only[aH]<;>omega) ⟨.int ys.length,H,I.tok _,⟨s.toks+1,by rw[aH,hlen]⟩,q⟩
theorem qL:dg X (.builtin "len") (λxs H Q=>∃z,xs=[.str z]/\z.length<=U5/\Q (.int z.length) H):=by
 intro pins s σ H xs us Q I r h
 obtain⟨z,rfl,hz,q⟩:=h
 obtain⟨u,rfl,t,rfl⟩:=vals1 r
 have hn:=ko
 exact len_str (by omega) ⟨.int z.length,H,I.tok _,⟨_,rfl⟩,q⟩
theorem dg.or{f:UT}{r r':List V->Hp->VK->Prop}(h:dg X f r)(h':dg X f r'):dg X f (λxs H Q=>r xs H Q\/r' xs H Q):=by
 intro pins s σ H xs us Q I rs q
 rcases q with q | q
 ·exact h pins s σ H xs us Q I rs q
 ·exact h' pins s σ H xs us Q I rs q
def Qt(K:PySem.W.Frag)(T:String)(x:V)(H:Hp):Prop:=match x with
 | .str _=>T="str"
 | .int _=>T="int"
 | .ref p=>(T="list"/\∃xs,j9 K H p xs)\/(T="tuple"/\((∃o,K.lookup p=some o/\o.cls= .type "tuple"/\o.dict=none)\/∃xs,H p=some (.tup xs)))\/
   (T="dict"/\((∃kvs,H p=some (.dK kvs))\/∃kvs,H p=some (.dT kvs)))\/(T="set"/\∃S n,H p=some (.set S n))\/(T="dict"/\∃kvs,H p=some (.dN kvs))
 | _=>False
theorem G0{pins:List (UN×Obj)}{σ:St}{H:Hp}{s:US}{T:String}{x:V}{v:UT}(I:Inv X pins σ H s)(r:RelV x v)(ty:Qt X.K T x H) :
  s.TypeIs v T/\∀a,v= .ref a->∃ob,s.heap.get? a=some ob/\ob.dict=none:=by
 cases x with
 | str z=>
  obtain⟨t,rfl⟩:=r
  cases (show T="str" from ty)
  exact⟨typeIs_str s z t,λ_ e=>nomatch e⟩
 | int i=>
  obtain⟨t,rfl⟩:=r
  cases (show T="int" from ty)
  exact⟨typeIs_int s i t,λ_ e=>nomatch e⟩
 | ref p=>
  cases r
  rcases ty with ⟨rfl,xs,hq⟩ | ⟨rfl,⟨o,hk,hc,hd⟩ | ⟨xs,hk⟩⟩ | ⟨rfl,hk⟩ | ⟨rfl,S,n,hk⟩ | ⟨rfl,kvs,hk⟩
  ·obtain⟨its,_,pl,_⟩:=I.list hq
   refine⟨pl.isList.typeIs,λa e=>?_⟩
   cases e
   obtain⟨o,n,e,c,hd,_⟩:=pl
   exact⟨o,e,hd⟩
  ·refine⟨⟨o,I.Dv p o hk,hc⟩,λa e=>?_⟩
   cases e
   exact⟨o,I.Dv _ o hk,hd⟩
  ·obtain⟨_,_,_,⟨o,e1,e2,_⟩,nd⟩:=I.hok p _ hk
   refine⟨⟨o,e1,e2⟩,λa e=>?_⟩
   cases e
   exact⟨o,e1,nd o e1⟩
  ·have z:∃o,s.heap.get? p=some o/\o.ExactDict:=by
    rcases hk with ⟨kvs,hk⟩ | ⟨kvs,hk⟩
    ·obtain⟨_,_,_,_,o,_,_,e,ex,_⟩:=I.hok p _ hk
     exact⟨o,e,ex⟩
    ·obtain⟨_,_,_,_,o,_,_,e,ex,_⟩:=I.hok p _ hk
     exact⟨o,e,ex⟩
   obtain⟨o,e,ex⟩:=z
   refine⟨⟨o,e,ex.1⟩,λa e2=>?_⟩
   cases e2
   exact⟨o,e,ex.2.1⟩
  ·obtain⟨o,_,_,_,e,ex,_⟩:=I.hok p _ hk
   refine⟨⟨o,e,ex.1⟩,λa e2=>?_⟩
   cases e2
   exact⟨o,e,ex.2.1⟩
  ·obtain⟨_,_,_,_,o,_,_,e,ex,_⟩:=I.hok p _ hk
   refine⟨⟨o,e,ex.1⟩,λa e2=>?_⟩
   cases e2
   exact⟨o,e,ex.2.1⟩
 | _=>exact aa ty
def RQ(K:PySem.W.Frag)(T:String)(r:V->List V->Hp->VK->Prop)(to:TE)(t:TA):TE:=λσ H Q=>to σ H λx H1=>Qt K T x H1/\t σ H1 λxs H2=>r x xs H2 Q
variable {o e:Expr} {es:List Expr} {to:TE} {t:TA} {name:Str} {apos cpos:Pos} {T id:String} {r:V->List V->Hp->VK->Prop}
theorem zO(pa:PlainAttrs T)(slot:Slot T name id)(hty:typeOf (.builtin id)=pure (.type "method_descriptor"))(hm:DQ X id r)(ho:PE X o to)(ha:PA X (e::es) t)
  (hbase:attributeBase o name X.env (eval o X.env)=eval o X.env:=by rfl)
  (hfew:((backTo cpos (U6 (e::es) X.env)).all (λx=> !x.1)&&(backToKw cpos (keywordEach [] X.env)).all (λx=>x.1.isSome)
   &&decide ((e::es).length+([]:List Keyword).length+(if([]:List Keyword).isEmpty then 0 else 1) < 30))=true:=by rfl)
  (hline:(apos.endLine == cpos.line)=true:=by rfl)(hs:U6 (e::es) X.env=(false,eval e X.env)::U6 es X.env:=by rfl)(hplain:(backTo cpos (U6 es X.env)).any (·.1)=false:=by rfl) :
  PE X (.Call (.Attribute o name apos) (e::es) [] cpos) (RQ X.K T r to t):=by
 intro pins s σ H Q I h
 refine wpAny_Call_method_late hbase hfew hline rfl (bI (ho pins s σ H _ I h) λv s1 ⟨x,H1,I1,r1,ty,q1⟩=>?_)
 obtain⟨h1,h2⟩:=G0 I1 r1 ty
 refine⟨T,id,pa,slot,hty,h1,h2,?_⟩
 have hA:=ha cpos pins s1 σ H1 _ I1 q1
 rw[hs] at hA ⊢
 refine Calls.callWith_builtin (by show(false||(backTo cpos (U6 es X.env)).any (·.1))=false;rw[hplain]<;>rfl) (G5 ?_)
 exact bI hA λus s2 ⟨vs,H2,I2,r2,q2⟩=>hm pins s2 σ H2 x vs v us Q I2 r1 r2 q2
/- xs.append(e),list.index on a zP tuple .. are DQ facts of 06m -/
end
def NY(X:Cx)(id:String)(r:V->List V->Hp->VK->Prop):Prop :=
 ∀(pins:List (UN×Obj))(s:US)(σ:St)(H:Hp)(x:V)(xs:List V)(v:UT)(us:List UT)(Q:VK),Inv X pins σ H s->RelV x v->Vals xs us->r x xs H Q->
  U7 (model X.prog X.w) X.A (call (.builtin id) (v::us)) (EP X pins σ Q) X.xe s
theorem Vals.one:∀{x:V}{us:List UT},Vals [x] us->∃u,us=[u]/\RelV x u
 | _,_,.cons r .nil=>⟨_,rfl,r⟩
theorem Vals.rep{xs:List V}{us:List UT}(h:Vals xs us):∀k:Nat,Vals (aY k xs).flatten (aY k us).flatten
 | 0=> .nil
 | k+1=>by
  rw[gv,gv,nK,nK]
  exact Vals.append h (Vals.rep h k)
theorem foldl_rep(its:List UT):∀(k:Nat)(acc:List UT),
  List.foldl (λx1 x2=>x1++x2) acc.toArray (aY k its.toArray)=(acc++(aY k its).flatten).toArray
 | 0,acc=>by simp
 | k+1,acc=>by
  have e:acc.toArray++its.toArray=(acc++its).toArray:=by simp
  have e2:(acc++its)++(aY k its).flatten=acc++(aY (k+1) its).flatten:=by
   rw[gv,nK,bp]
  rw[<-e2,<-foldl_rep its k (acc++its),<-e,gv,nL]
section
variable {X:Cx} {pins:List (UN×Obj)} {σ:St} {H:Hp} {s:US} {l b:UN} {xs ys zs:List V}
theorem Inv.G6{its its':List UT}{n:Nat}{f:Array UT->Array UT}{t':Nat}(I:Inv X pins σ H s)(hH:H l=some (.lst xs))
  (e:s.heap.get? l=some { cls:=.type "list",data:=.seq its.toArray n })(hf:f its.toArray=its'.toArray)(hv:Vals ys its')(hz:ys.length<=U5) :
  Inv X pins σ (upd H l (.lst ys)) { s with heap:=s.heap.update l (bM f),toks:=t' }:=by
 have q:=PySem.IsL.update e f
 rw[hf] at q
 refine I.write (x:=l) (e:=l) (by rw[hH];exact trivial) (.inl rfl) (λb' u hb hu=>(nI s.heap (bM f) (cT hb)).trans hu) ⟨_,q⟩ ?_
 exact⟨hz,its',_,hv,q⟩
theorem Inv.G7{its:List UT}{t':Nat}(I:Inv X pins σ H s)(hv:Vals ys its)(hz:ys.length<=U5) :
  Inv X pins σ (upd H s.heap.objs.size (.lst ys)) { s with heap:=s.heap.push { cls:=.type "list",data:=.seq its.toArray },toks:=t' } :=
 I.laid (λ_ _ q=>aU _ q) (ai _) ⟨hz,its,0,hv,cO _ rfl⟩
theorem Inv.fresh(I:Inv X pins σ H s):H s.heap.objs.size=none:=I.hok.fresh (ai _)
theorem Inv.zQ(I:Inv X pins σ H s)(hH:H l=some (.lst xs)):xs.length<=U5/\∃(its:List UT)(n:Nat),Vals xs its/\xs.length=its.length/\s.heap.get? l=some { cls:=.type "list",data:=.seq its.toArray n }:=by
 obtain⟨z,its,n,r,e⟩:=I.hok l _ hH
 exact⟨z,its,n,r,r.length,e⟩
theorem nM{n:Nat}(h:n<=U5):nN n=false:=by
 unfold nN
 exact decide_eq_false (by omega)
end
section
variable {X:Cx}
def DT:V->List V->Hp->VK->Prop:=λx vs H Q=>∃l xs y,x= .ref l/\vs=[y]/\H l=some (.lst xs)/\xs.length < U5/\Q .bS (upd H l (.lst (xs++[y])))
theorem ye:NY X "list.append" DT:=by
 intro pins s σ H x vs v us Q I rx rv h
 obtain⟨l,xs,y,rfl,rfl,hH,hz,q⟩:=h
 cases rx
 obtain⟨u,rfl,ru⟩:=rv.one
 obtain⟨z,its,n,r,hl,e⟩:=I.zQ hH
 refine call_meets F.slot_list_append ⟨_,e,rfl⟩ F.entry_list_append (F.args_list_append_2 _ _) (PySem.list_append l its.toArray n u (by rw[aH];omega)) ⟨e,?_⟩
 refine⟨.bS,_,I.G6 (its':=its++[u]) hH e (by simp) (r.append (.cons ru .nil)) ?_,rfl,q⟩
 rw[aP,wD]
 omega
def DU:V->List V->Hp->VK->Prop:=λx vs H Q=>∃l b xs zs,x= .ref l/\vs=[.ref b]/\H l=some (.lst xs)/\H b=some (.lst zs)/\xs.length+zs.length<=U5/\Q .bS (upd H l (.lst (xs++zs)))
theorem yf:NY X "list.extend" DU:=by
 intro pins s σ H x vs v us Q I rx rv h
 obtain⟨l,b,xs,zs,rfl,rfl,hH,hB,hz,q⟩:=h
 cases rx
 obtain⟨u,rfl,ru⟩:=rv.one
 cases ru
 obtain⟨z,its,n,r,hl,e⟩:=I.zQ hH
 obtain⟨z2,its2,n2,r2,hl2,e2⟩:=I.zQ hB
 have hsz:its.toArray.size+its2.toArray.size<=U5:=by rw[aH,aH];omega
 have sQ:¬(!its.toArray.isEmpty&&nN (its.toArray.size+its2.toArray.size))=true:=by
  rw[nM hsz,zR]
  exact bG
 refine call_meets F.slot_list_extend ⟨_,e,rfl⟩ F.entry_list_extend (F.args_list_extend_2 _ _)
  (AutoSeq1.list_extend_list_list_0 l its.toArray n b its2.toArray n2 sQ (by rw[aH];omega) (by omega)) ⟨e,e2,?_⟩
 refine⟨.bS,_,I.G6 (its':=its++its2) hH e (by simp) (r.append r2) ?_,rfl,q⟩
 rw[aP]
 omega
def NZ:R2:=λx y H Q=>∃l k xs,x= .ref l/\y= .int k/\H l=some (.lst xs)/\-(2 ^ 63)<=k/\k < 2 ^ 63/\xs.length * k.toNat<=U5/\
 ∀p,H p=none->Q (.ref p) (upd H p (.lst (aY k.toNat xs).flatten))
theorem len_rep{α:Type}(xs:List α)(k:Nat):(aY k xs).flatten.length=k * xs.length:=by
 induction k with
 | zero=>simp
 | succ k ih=>rw[gv,nK,aP,ih,Nat.succ_mul,wF]
theorem G8:fA X (UX .Mult) NZ:=by
 intro pins s σ H x y v u Q I rx ry h
 obtain⟨l,k,xs,rfl,rfl,hH,h1,h2,hz,q⟩:=h
 cases rx
 obtain⟨t,rfl⟩:=ry
 obtain⟨z,its,n,r,hl,e⟩:=I.zQ hH
 have hlen:its.toArray.size * k.toNat<=U5:=by rw[aH,<-hl];exact hz
 have hcap:¬its.toArray.size * k.toNat > (2 ^ 63 - 1) / 8:=by
  have:(U5:Nat)<=(2 ^ 63 - 1) / 8:=by decide
  omega
 have hfit:¬(!Builtin.List.listFitsIndex k)=true:=by
  rw[fitsIndex_both h1 h2]
  exact bG
 have sQ:¬nN (its.toArray.size * k.toNat)=true:=by
  rw[nM hlen]
  exact bG
 have hnew:List.foldl (λx1 x2=>x1++x2) #[] (aY (if its.toArray.isEmpty=true then 0 else k.toNat) its.toArray)=(aY k.toNat its).flatten.toArray:=by
  have f0:∀m:Nat,List.foldl (λx1 x2=>x1++x2) #[] (aY m its.toArray)=(aY m its).flatten.toArray:=λm=>by
   have:=foldl_rep its m []
   rw[ir] at this
   exact this
  rw[f0]
  cases its with
  | nil=>simp
  | cons a r'=>rw[if_neg (by simp)]
 refine wpAny_binaryOp_repeat_ref (T:="list") (U:="int") (by decide) ⟨_,e,rfl⟩ (λs'=>typeIs_int s' k t) noFill_list_mul F.fills_int_mul F.slot_int_rmul repeat_list F.slot_int_index.lookup
  (call_meets F.slot_int_rmul (typeIs_int s k t) F.entry_int_rmul (F.args_int_rmul_2 _ _) (int___rmul___int_list k t l its.toArray n)
   ⟨e,rfl,⟨_,e,rfl⟩,call_meets F.slot_list_mul ⟨_,e,rfl⟩ F.entry_list_mul (F.args_list_mul_2 _ _) (AutoListH.list___mul___list_int_3 l its.toArray n k t hfit hcap sQ) ⟨e,?_⟩⟩)
 rw[hnew]
 exact⟨.ref _,_,I.G7 (t':=s.toks) (r.rep k.toNat) (by rw[len_rep,Nat.mul_comm];exact hz),rfl,q _ I.fresh⟩
end
section
variable {prog:UR} {w:UU} {A:UO} {E:UT->US->Prop} {s:US}
set_option maxRecDepth 100000 in
end
section
variable {X:Cx}
end
end L2
namespace Att
open PySem PySem.W PySem.Calls PyProof.Rows
theorem mS{P:Params}{h:Heap}:∀(ns:List Int)(vs:List UT),WellAll P h vs (ns.map WData.int)->IntsAre vs ns:=by
 intro ns
 induction ns with
 | nil=>
  intro vs w
  rw[qM] at w
  cases w
  exact .nil
 | cons n ns ih=>
  intro vs w
  rw[aI] at w
  cases w with
  | cons a b=>
   cases a
   exact .cons _ _ (ih _ b)
theorem yg{l:OpenLaw}{n:Nat}(hn:l.most=some n){P:Params}{h:Heap}{args:List WData}{vals:List UT}
  (hpre:l.row.toRowW.claim.pre args=true)(hwl:WellAll P h vals args) :
  ∃a vs ns,vals=[bg a]/\args=[WData.list (ns.map WData.int)]/\h.get? a=some { cls:=.type "list",data:=.seq vs.toArray }/\IntsAre vs ns/\ns.length<=n:=by
 have hsh:WShape.hasAll [] args [.list .int]=true:=(pre_splitW hpre).1
 have hc:l.pre.holds [] { args:=args }=true:=(pre_splitW hpre).2
 obtain⟨d,r,rfl,h1,h2⟩:=hasAllW_cons hsh
 obtain rfl:=hasAllW_nil h2
 obtain⟨xs,rfl,h3⟩:=hasW_list h1
 obtain⟨ns,rfl⟩:=items_int h3
 have hlen:ns.length<=n:=by
  unfold OpenLaw.pre at hc
  have h4:(WTm.not (.lt (.lit (.int (n:Int))) (.len (.arg 0)))).holds [] { args:=[.list (ns.map .int)] }=true:=by
   have h4:=(holds_andW hc).1
   rw[hn] at h4
   exact h4
  have h5:=condW_of h4 (w_not (w_lt w_lit (w_len_list (w_arg rfl))))
  rw[bV] at h5
  refine wG λq=>?_
  have q':(n:Int) < ((ns.length:Nat):Int):=by omega
  first
   | (rw[decide_eq_true q'] at h5;exact absurd h5 (by decide))
   | (simp at h5;omega)
 cases hwl with
 | cons w1 w2=>
  cases w2
  cases w1 with
  | list ho hall=>exact⟨_,_,ns,rfl,rfl,ho,mS ns _ hall,hlen⟩
theorem yh(l:OpenLaw)(args:List WData):l.row.toRowW.claim.post args (.bool true) args=true :=
 postW_of (r:=l.row.toRowW) (X:=(true == true))
  (show WShape.has [] (.bool true) .bool=true by first | rfl | decide | simp[WShape.has,WShape.arms,WShape.armsAll])
  (show(WTm.eq .res (.lit (.bool true))).value [] { args:=args,res:=some (.bool true),after:=args }=some (.bool (true == true)) from w_eq_bool (w_res rfl) w_lit) rfl
theorem sR{l:OpenLaw}{n:Nat}{q:UR}{loose:List Str}{XP:(Str->Option UT)->Heap->Prop}{YP:UU->Heap->Prop}{d:DefRec}
  (hn:l.most=some n)(hdf:d.params.defaults=[])
  (call:∀(w:UU)(s₀ s₁:US)(mg mb:Str->Option UT)(fa:UN)(o:Obj)(pm cd doc:UT)(a:UN)(vs:List UT)(ns:List Int),
   Ground q loose [] XP w s₀ mg mb s₁.heap->YP w s₁.heap->
   s₁.heap.get? fa=some o->o.data= .func (docDef d.name d.params d.body d.scope pm cd doc)->s₁.heap.CodeRec cd d.name->mg d.name=some (.ref fa)->
   s₁.heap.get? a=some { cls:=.type "list",data:=.seq vs.toArray }->IntsAre vs ns->ns.length<=n->s₁.gens=#[]->
   UZ (model l.prog w) callerA (.call (.ref fa) ⟨[.ref a],[]⟩) (λr s'=>r= .ok (.ret (.bool true))/\OldK s₁.heap s'.heap/\s'.os=s₁.os/\AllBare s'.gens) s₁) :
  WalkO q loose XP YP l.row.toRowW d [] (λf vs=>PySem.call f vs):=by
 intro w s₀ s₁ mg mb G Y fa o pm cd doc dV kV ho hd hcd hD hmg hg args vals as hpre hlay hrd hwl hlo
 obtain rfl:dV= .none:=Dflts.none hD hdf
 obtain rfl:kV= .none:=Dflts.noKw hD
 obtain⟨a,vs,ns,rfl,rfl,hobj,hints,hlen⟩:=yg hn hpre hwl
 refine enter_call (codeAny_mono (call w s₀ s₁ mg mb fa o pm cd doc a vs ns G Y ho (fd_plain hd) hcd hmg hobj hints hlen hg) λr s' hq=>?_)
 obtain⟨rfl,h2,h3,h4⟩:=hq
 exact⟨.inl ⟨.bool true,.bool true,[],rfl,λ_=>rfl,.bool true,yh l _,λ_=>⟨List.Pairwise.nil,λ_ hm=>(nomatch hm)⟩⟩,h2,h3,h4⟩
section
variable {prog:UR} {w:UU} {A:UO} {E:UT->US->Prop} {s:US} {K:Frag}
end
end Att
namespace L2
open PySem PySem.Spec PyProof.Rows
theorem pV:∀{vs:List UT}{ns:List Int},IntsAre vs ns->Vals (ns.map V.int) vs
 | _,_,.nil=> .nil
 | _,_,.cons n t h=> .cons ⟨t,rfl⟩ (pV h)
def DV(H:Hp):Prop:=∀b,H b=none\/∃o xs,H b=some (.mC o (.lst xs))
theorem zS{P:UR}{w:UU}{K:PySem.W.Frag}{mg mb:Str->Option UT}{CX:zj}{k:Nat}{fa a:UN}{fd:UP}{x:Str}{sp:Sp}{s₁:US}{vs:List UT}{ns:List Int}
  (KX:K.In s₁.heap)(hns:s₁.heap.Ns U4 mg)(hb:s₁.heap.Ns builtinsNs mb)(RS:∀x:Str,x≠"__name__"->mb x=UY x)(hlim:s₁.heap.NoLimit)(hg:s₁.gens=#[])
  (ha:s₁.heap.get? a=some { cls:=.type "list",data:=.seq vs.toArray })(hi:IntsAre vs ns)(hl:ns.length<=U5)(hr:ja k callerA)
  (F:∀base:Heap,K.In base->base.Ns U4 mg->FnOk P w K mg base CX k fa fd [x] sp)(hbind:∀(s:US)(u:UT),BindsTo s fd ⟨[u],[]⟩ [(x,u)])
  (J6:∀H:Hp,DV H->j9 K H a (ns.map V.int)->sp [.ref a] H (λv _=>v= .bl true) λ_ _ _=>False)
  (N0:∀H e s',CX [] H s₁ (λ_ _ _=>False) e s'->False) :
  UZ (model P w) callerA (.call (.ref fa) ⟨[.ref a],[]⟩) (λr s'=>r= .ok (.ret (.bool true))/\OldK s₁.heap s'.heap/\s'.os=s₁.os/\AllBare s'.gens) s₁:=by
 have rv:=pV hi
 have N1:=hi.length
 -- from an abstract heap in which nothing but the script may be tracked
 have core:∀H:Hp,DV H->j9 K H a (ns.map V.int)->kN P w H s₁.heap->(∀b,H b≠none->b=a)->(H a≠none->K.lookup a=none)->
   UZ (model P w) callerA (.call (.ref fa) ⟨[.ref a],[]⟩) (λr s'=>r= .ok (.ret (.bool true))/\OldK s₁.heap s'.heap/\s'.os=s₁.os/\AllBare s'.gens) s₁:=by
  intro H hO hS hok hA hK
  have wH:∀{b:UN}{o:Obj},s₁.heap.get? b=some o->H b=none->(qu s₁.heap H).get? b=some o:=λe n=>zw e n
  have KW:∀{b:UN}{o:Obj}{es:Array DictEntry}{ep:Nat},s₁.heap.get? b=some o->o.data= .dict es ep->H b=none:=λ{b o es ep} e d=>by
   cases q:H b with
   | none=>rfl
   | some u=>
    have e':b=a:=hA b (by rw[q];simp)
    subst e'
    rw[ha] at e;cases e
    have d':Data.seq vs.toArray _=Data.dict es ep:=d
    cases d'
  have MP:∀{b:UN}{m:Str->Option UT},s₁.heap.Ns b m->(qu s₁.heap H).Ns b m:=λ{b m} ⟨o,es,ep,e,d,r⟩=>⟨o,es,ep,wH e (KW e d),d,r⟩
  have Qu:K.In (qu s₁.heap H):=λb o e=>wH (KX b o e) (by
   cases q:H b with
   | none=>rfl
   | some u=>
    have e':b=a:=hA b (by rw[q];simp)
    subst e'
    rw[hK (by rw[q];simp)] at e;cases e)
  have hM:Mod K mg (qu s₁.heap H):=⟨Qu,MP hns,⟨mb,MP hb,RS⟩,let ⟨mc,h1,h2⟩:=hlim;⟨mc,MP h1,h2⟩⟩
  have e0:zI P w K mg (qu s₁.heap H) callerA [] s₁ H:=⟨rfl,hM,λb o e=>Du e,qN (xU _ _),trivial,λb hb=>absurd (show b∈([]:List UN) from hb) (by simp),hok,.of_eq hg⟩
  refine codeAny_mono ((F _ Qu (MP hns)).run callerA [] s₁ H ⟨[.ref a],[]⟩ [.ref a] [.ref a] _ _ hr e0 (hbind s₁ (.ref a)) (.cons rfl .nil) (J6 H hO hS)) λr s' h=>?_
  cases r with
  | error e=>exact(N0 H e s' h).elim
  | ok fl=>
   cases fl with
   | next=>exact aa h
   | brk=>exact aa h
   | cont=>exact aa h
   | ret u=>
    obtain⟨v,H',os,bare,un,N2,r',q⟩:=h
    have q':v= .bl true:=q
    subst q'
    obtain rfl:u=mY true:=r'
    refine⟨rfl,OldK.of_keep λb o e=>?_,os,bare⟩
    cases q:H b with
    | none=>exact un.keep b o e q (by intro z;exact absurd (show b∈([]:List UN) from z) (by simp)) (by simp)
    | some u=>
     rcases hO b with z | ⟨ob,xs,z⟩
     ·rw[q] at z;cases z
     ·have z2:=un.mQ b ob _ z
      obtain⟨e1,_⟩:=hok b _ z
      obtain⟨e2,_⟩:=N2 b _ z2
      rw[e] at e1;cases e1
      exact e2
 cases hk:K.lookup a with
 | some o=>
  -- the script is one of the zP own objects
  have e:=KX a o hk
  rw[ha] at e
  cases e
  refine core (λ_=>none) (λ_=> .inl rfl) (.inr ⟨_,vs.toArray,_,hk,rfl,rfl,rfl,by rw[aH,N1];exact hl,by simpa using rv⟩) (λb u z=>by have z':(none:Option HO)=some u:=z;cases z') (λb z=>absurd rfl z) λz=>absurd rfl z
 | none=>
  refine core (λb=>if b=a then some (.mC { cls:=.type "list",data:=.seq vs.toArray } (.lst (ns.map V.int))) else none) (λb=>?_) (.inl (.inr ⟨{ cls:=.type "list",data:=.seq vs.toArray },if_pos rfl⟩)) (λb u z=>?_) (λb z=>?_) λ_=>hk
  ·by_cases hb:b=a
   ·exact .inr ⟨_,_,if_pos hb⟩
   ·exact .inl (if_neg hb)
  ·by_cases hb:b=a
   ·have z':=(if_pos hb).symm.trans z
    cases z'
    subst hb
    exact⟨ha,by rw[bV];exact hl,vs,_,rv,ha⟩
   ·have z':=(if_neg hb).symm.trans z
    cases z'
  ·by_cases hb:b=a
   ·exact hb
   ·exact absurd (if_neg hb) z
abbrev KOf{K:PySem.W.Frag}{h:Heap}(_:K.In h):PySem.W.Frag:=K
theorem walk_of{l:PySem.W.OpenLaw}{n k:Nat}{q:UR}{loose:List Str}{XP:(Str->Option UT)->Heap->Prop}{YP:UU->Heap->Prop}{d:DefRec}{K:Params->PySem.W.Frag}{CX:UU->zj}{sp:UU->Sp}{x:Str}
  (hn:l.most=some n)(hn2:n<=U5)(hdf:d.params.defaults=[])(hr:ja k callerA)
  (hY:∀(w:UU)(h:Heap),YP w h->(K w.params).In h)
  (F:∀(w:UU)(mg:Str->Option UT)(fa:UN)(h:Heap),(K w.params).In h->h.Ns U4 mg->mg d.name=some (.ref fa)->
   ∃fd:UP,(∀(s:US)(u:UT),BindsTo s fd ⟨[u],[]⟩ [(x,u)])/\
    ∀base:Heap,(K w.params).In base->base.Ns U4 mg->FnOk l.prog w (K w.params) mg base (CX w) k fa fd [x] (sp w))
  (J6:∀(w:UU)(H:Hp)(a:UN)(ns:List Int),ns.length<=n->DV H->j9 (K w.params) H a (ns.map V.int)->sp w [.ref a] H (λv _=>v= .bl true) λ_ _ _=>False)
  (N0:∀(w:UU)(H:Hp)(s:US)(e:UT)(s':US),CX w [] H s (λ_ _ _=>False) e s'->False) :
  PySem.W.WalkO q loose XP YP l.row.toRowW d [] (λf vs=>PySem.call f vs):=by
 refine Att.sR hn hdf λw s₀ s₁ mg mb fa o pm cd doc a vs ns G Y ho hd hcd hmg hobj hints hlen hg=>?_
 have KX:=hY w _ Y
 obtain⟨fd,hb,hF⟩:=F w mg fa _ KX G.T.g hmg
 exact zS KX G.T.g G.T.b G.T.builtins G.T.nolimit hg hobj hints (bt hlen hn2) hr hF hb (λH hO hS=>J6 w H a ns hlen hO hS) λH e s'=>N0 w H s₁ e s'
end L2
/- Uj RT MQ (shape;Uk,My.* are Qv):
   My.Ul: a structure of the addresses RU your Qw names (classes,J7);My.Txt K t: a structure (Prop) of the equations over K;
   My.G9:{K} {implicit addresses ..} (e1:nsIn K U4 "law"=some (some (.ref f))) (e2:K.lookup f=some ⟨oc,od,.func (fnOf "law" "law" params body scope dV kV doc pm an cdv ct),sl⟩) (e3:codeIn K cdv "law"=true) ..:∃t,My.Txt K t
set_option maxRecDepth 100000 in
set_option maxHeartbeats 0 in
theorem PySem.Challenge.cw_LID_holds:PySem.Challenge.rw_LID.Holds:=by
 w_on;o_law;k_head;(case hw=>w_witness2)
 k_fill
 refine L2.walk_of (l:=PySem.Challenge.rw_LID) (n:=63) (k:=40) (x:="script") (CX:=fun w => ..) (sp:=fun _ => My.sp_law) rfl (by decide) rfl ⟨rfl,by decide,by decide⟩ (fun w h Y => PySem.W.kIn_of Y) ?F ?S ?C
 case F=>
  intro w mg fa h KX G hmg
  have T:∃t,My.Txt (L2.KOf KX) t:=by
   dsimp only[L2.KOf] -- K RV stand as «<heap const> w.params» for k_is
   refine' My.G9 ?e1 ?e2 ?e3 ..
   (case e1=>PySem.W.k_is) -- in the order: a name -> its address -> its object -> its parts
   (case e2=>PySem.W.k_is)
   ..
  obtain⟨t,T⟩:=T
  have e0:=hmg.symm.trans (PySem.W.mg_of KX G T.law)
  cases e0 -- fa is the Qx own address
  exact⟨_,λs u=> .of_eq rfl,λbase kb nb=>My.G_ T kb nb⟩ -- if «.of_eq rfl» comes Um early: refine' ⟨_,?b,λbase kb nb=>My.G_ T kb nb⟩;exact λs u=> .of_eq rfl
 case S=>exact λw H a ns hl hO hS=> ..
 case C=>exact ..
(the tactic k_is has no namespace: write k_is) -/
namespace L2
open PySem PySem.Spec PyProof.Rows
def defArgs(s:Stmt):Arguments:=match s with
 | .FunctionDef _ a _ _ _ _ _ _ _ _=>a
 | _=>{ posonlyargs:=[],args:=[],vararg:=none,kwonlyargs:=[],kw_defaults:=[],kwarg:=none,defaults:=[] }
def defBody(s:Stmt):List Stmt:=match s with
 | .FunctionDef _ _ b _ _ _ _ _ _ _=>b
 | _=>[]
def defScope(s:Stmt):Scope:=match s with
 | .FunctionDef _ _ _ _ _ _ sc _ _ _=>sc
 | _=>{ kind:=.function,names:=[],isGenerator:=false,isCoroutine:=false }
abbrev CX0:zj:=λ_ _ _ _ _ _=>False
abbrev E0:XK:=λ_ _ _=>False
structure G'(K:PySem.W.Frag)(x qual:Str)(st:Stmt)(f:UN)(fd:UP):Prop where
 ex:∃(oc:UT)(od:Option UN)(kV doc pm:UT)(an:Option UN)(cdv ct:UT)(osl:Array (Option UT)),
  fd=PySem.W.fnOf x qual (defArgs st) (defBody st) (defScope st) .none kV doc pm an cdv ct/\K.lookup f=some ⟨oc,od,.func fd,osl⟩/\PySem.W.codeIn K cdv qual=true
 kp:PySem.W.keepIn K (.ref f)=true
section
variable {P:UR} {w:UU} {K:PySem.W.Frag} {mg:Str->Option UT} {base:Heap}
theorem G'.binds{x qual:Str}{st:Stmt}{f:UN}{fd:UP}{ps:List Str}(F:G' K x qual st f fd)
  (h:∀(kV doc pm:UT)(an:Option UN)(cdv ct:UT)(us:List UT),us.length=ps.length->bindArgs (PySem.W.fnOf x qual (defArgs st) (defBody st) (defScope st) .none kV doc pm an cdv ct) ⟨us,[]⟩=pure (ps.zip us)):Binds K fd ps []:=by
 obtain⟨oc,od,kV,doc,pm,an,cdv,ct,osl,rfl,lk,hcd⟩:=F.ex
 exact .all (h kV doc pm an cdv ct)
theorem Ha{x qual:Str}{st:Stmt}{f:UN}{oc:UT}{od an:Option UN}{osl:Array (Option UT)}{kV doc pm cdv ct:UT}(l:K.lookup f=some ⟨oc,od,.func (PySem.W.fnOf x qual (defArgs st) (defBody st) (defScope st) .none kV doc pm an cdv ct),osl⟩)
  (c:PySem.W.codeIn K cdv qual=true)(k:PySem.W.keepIn K (.ref f)=true):G' K x qual st f (PySem.W.fnOf x qual (defArgs st) (defBody st) (defScope st) .none kV doc pm an cdv ct):=⟨⟨oc,od,kV,doc,pm,an,cdv,ct,osl,rfl,l,c⟩,k⟩
end
section
variable {X:Cx}
end
section
variable {κ : Type} [DecidableEq κ]
end
theorem K8{P : UR}{w : UU}{k : Key}{u : UT}(r : RelV (kV k) u) : (aW P w).is k u=true := by
 cases k with
 | inl i=>obtain⟨t, e⟩ := (show ∃t, u=kM i t from r);subst e;exact sH P w i t
 | inr x=>obtain⟨t, e⟩ := (show ∃t, u=mW x t from r);subst e;exact sI P w x t
 | bS=>rw[show u=dk from r];rfl
theorem pW{P : UR}{w : UU} : ∀{ks : List Key}{us : List UT}, Vals (ks.map kV) us->ItemsAre (aW P w) ks us
 | [], _, r=>by rw[qM] at r;cases r;exact .nil
 | k::ks, _, r=>by
  rw[aI] at r
  cases r with
  | cons h t=>exact .cons (K8 h) (pW t)
section
variable {P : UR} {w : UU} {H : Hp} {h : Heap} {a : UN}
theorem Hd{ks : List Key}(ok : kN P w H h)(e : H a=some (.tup (ks.map kV))) : (tupleKind (aW P w)).is h ks a := by
 obtain⟨_, its, r, ⟨o, h1, h2, n, h3⟩, _⟩ := (show e_ P w H h a (.tup (ks.map kV)) from ok a _ e)
 exact⟨o, its.toArray, n, h1, h2, h3, by simpa using pW r⟩
end
section
variable {X : Cx} {pins : List (UN×Obj)} {σ : St} {H : Hp} {s : US} {a : UN} {y v : V} {u r : UT} {o : Option V} {A : UO} {E : UT->US->Prop}
end
section
variable {X : Cx} {pins : List (UN×Obj)} {σ : St} {H : Hp} {s : US} {a : UN} {kvs : List (Key×V)} {k : Key} {u : UT} {A : UO} {E : UT->US->Prop}
end
def Hf(i : Expr) : Prop := ∀ov iv, subscripted i false ov iv=operate [ov, iv] (getItem ov iv)
theorem DW{prog : UR}{w : UU}{A : UO}{E : UT->US->Prop}{s : US}{env : Env}{value slice : Expr}{pos : Pos}{T id : String}{Q : UT->US->Prop}
  (hl : typeLookup (.type T) "__getitem__"=pure (some (.builtin id)))(hs : Hf slice)
  (h : U7 (model prog w) A (eval value env) (λo s₁=>U7 (model prog w) A (eval slice env) (λi s₂=>s₂.TypeIs o T/\U7 (model prog w) A (getItem o i) Q E s₂) E s₁) E s) :
  U7 (model prog w) A (eval (.Subscript value slice pos) env) Q E s := by
 refine Subscript_ (U_ h (λo s₁ h₁=>U_ h₁ (λi s₂ h₂=>?_) λ_ _ x=>x) λ_ _ x=>x)
 obtain⟨hT, h₂⟩ := h₂
 unfold subscriptTail
 refine U8 ?_
 rw[getitemInPython_of_ne hT.not_modules]
 refine U8 (wpAny_specialOf hT hl ?_)
 have fin : U7 (model prog w) A (subscripted slice false o i) (λr s₃=>U7 (model prog w) A (letTemporaryGo value o r >>= λ_=>pure r) Q E s₃) E s₂ := by
  rw[hs o i]
  exact wpAny_operating (U_ h₂ (λr s₃ h₃=>U8 (wpAny_letTemporaryGo (Vb h₃))) λ_ _ x=>x)
 first
  | exact Vb (U8 fin)
  | exact U8 (Vb (U8 fin))
  | exact U8 fin
section
variable {X : Cx} {o i e value : Expr} {pos pos' tpos : Pos} {td ty tv : TE}
end
section
variable {X : Cx} {pos : Pos}
end
section
variable {X : Cx} {pins : List (UN×Obj)} {σ : St} {H : Hp} {s : US} {a : UN} {y d : V} {u r : UT} {o : Option V} {A : UO} {E : UT->US->Prop}
end
section
variable {X : Cx} {o e f : Expr} {apos cpos : Pos} {td ty tx : TE}
end
section
variable {X : Cx} {pins : List (UN×Obj)} {σ : St} {H : Hp} {s : US} {a : UN} {kvs : List (Key×V)} {A : UO} {E : UT->US->Prop}
end
section
variable {X : Cx} {pins : List (UN×Obj)} {σ : St} {H : Hp} {s : US} {a : UN} {y : V} {u : UT} {A : UO} {E : UT->US->Prop}
end
end L2
namespace Att
open PySem PySem.W PySem.Calls PyProof.Rows
end Att
namespace L2
open PySem PySem.Spec PyProof.Rows
section
variable {X : Cx}
end
section
variable {κ : Type} [DecidableEq κ]
end
end L2
set_option maxHeartbeats 4000000
namespace J
open PySem PySem.Spec PyProof.Rows L2
def MR(h base:Heap)(e:UN)(cls a0 fl:UT):Prop :=
 ∃ox us T ot ws,h.get? e=some ox/\(ox.cls=cls/\us[2]? =some dk)/\ox.data= .fields us/\us[1]? =some (.ref T)/\base.get? T=none/\T≠e/\h.get? T=some ot/\ot.data= .fields ws/\ws[3]? =some fl
abbrev DX(base:Heap)(l:List Env)(e:UN)(cls a0 fl:UT)(h:Heap):Prop:=base.StaysIn h/\base.get? e=none/\h.FunFrames base l/\MR h base e cls a0 fl
def zT(base:Heap)(l:List Env)(e:UN)(cls a0:UT)(L:UN)(h:Heap):Prop:=DX base l e cls a0 (rawInt L) h
def Hg(base:Heap)(l:List Env)(e:UN)(cls a0:UT)(h:Heap):Prop:=DX base l e cls a0 .none h
section
variable {M:Model} {A:UO} {E:UT->US->Prop} {s:US} {base:Heap} {env:Env} {outer l:List Env} {L e:UN} {cls a0 nt:UT} {Q:Unit->US->Prop}
theorem u7{h h1:Heap}{S:List UN}{ox ob:Obj}{us ws:Array UT}(so:Heap.SlotsOnly S h h1)(hS:S=l.filterMap (·.frame))(fs:h.FunFrames base l)(g1:h.get? e=some ox)(g3:ox.data= .fields us)(st:base.StaysIn h)(ne:base.get? e=none)(sz:1 < us.size)(g2:us[2]? =some dk)
  (d:ob.data= .fields ws)(w3:ws[3]? =some nt)(nf:ob.isFreed=false) :
  DX base l e ox.cls a0 nt ((h1.push ob).update e (kT (·.setIfInBounds 1 (.ref h1.objs.size))))/\h.UpToSlots ((h1.push ob).update e (kT (·.setIfInBounds 1 (.ref h1.objs.size)))):=by
 have nS:e∉S:=λz=>by
  rw[hS] at z
  obtain⟨_,o2,q2,d2⟩:=fs.mem z
  rw[g1] at q2
  cases q2
  exact d2 us g3
 have q1:h1.get? e=some ox:=(so.2.1 e nS).trans g1
 have lt:e≠h1.objs.size:=a6 (aE q1)
 have Qy:∀b o,b≠e->h1.get? b=some o->((h1.push ob).update e (kT (·.setIfInBounds 1 (.ref h1.objs.size)))).get? b=some o:=λb o n q=>(nI _ _ (cT n)).trans (aU _ q)
 have up:h.UpToSlots ((h1.push ob).update e (kT (·.setIfInBounds 1 (.ref h1.objs.size)))):=λb o q n=>by
  obtain⟨sl,q2⟩:=so.2.2 b o q
  exact⟨sl,Qy b _ (λz=>by rw[z,g1] at q;cases q;exact n us g3) q2⟩
 have stay:base.StaysIn h1:=λb o q=>(so.2.1 b λz=>by
  rw[hS] at z
  rw[(fs.mem z).1] at q
  cases q).trans (st b o q)
 have fresh:base.get? h1.objs.size=none:=by
  cases z:base.get? h1.objs.size with
  | none=>rfl
  | some o=>exact absurd (aE (stay _ _ z)) (gn _)
 have d1:=wI g3 (·.setIfInBounds 1 (bg h1.objs.size))
 refine⟨⟨λb o q=>Qy b o (λz=>by rw[z,ne] at q;cases q) (stay b o q),ne,fs.of_keeps λb o q n=>?_,_,_,h1.objs.size,ob,ws,qG _ (aU _ q1) (DY d1),⟨Obj.cls_mapFields _ _,?_⟩,d1,by simp[sz],fresh,cT lt,?_,d,w3⟩,up⟩
 ·obtain⟨sl,q2⟩:=up b o q n
  exact⟨_,q2,rfl⟩
 ·rw[Array.getElem?_setIfInBounds_ne (by decide)];exact g2
 ·exact(nI _ _ lt).trans (cO _ nf)
theorem zU{ox:Obj}{us:Array UT}{head:UT}{had:Bool}(hfr:A.frames=some (env::outer))(fs:s.heap.FunFrames base (env::outer))(hf:env.frame=some L)(g1:s.heap.get? e=some ox)(st:base.StaysIn s.heap)(ne:base.get? e=none)(g3:ox.data= .fields us)(sz:1 < us.size)(g2:us[2]? =some dk)
  (k:∀h',zT base (env::outer) e ox.cls a0 L h'->s.heap.UpToSlots h'->Q () { s with heap:=h' }) :
  U7 M A (do let a <-frameOf env;let pl <-entryPlaceOf L had;let b <-Hh head a .none (rawInt L) .none pl;setField (.ref e) 1 b) Q E s:=by
 refine U8 (wpAny_frameOf_fun hfr fs hf λh1 so=>U8 (wpAny_entryPlaceOf λpl pp=>?_))
 have nS:e∉(env::outer).filterMap (·.frame):=λz=>by
  obtain⟨_,o2,q2,d2⟩:=fs.mem z
  rw[g1] at q2
  cases q2
  exact d2 us g3
 have q1:h1.get? e=some ox:=(so.2.1 e nS).trans g1
 simp only[Hh,newFields]
 refine U8 (Va (wpAny_setField (aU _ q1) g3 sz ?_) (pp.sizeOk5 _ _ _ _ _))
 obtain⟨m,up⟩:=u7 (a0:=a0) (nt:=rawInt L) so rfl fs g1 g3 st ne sz g2 (ob:={ cls:=.type "traceback",dict:=none,data:=.fields ([head,.ref L,.none,rawInt L,.none]++(if pl.isEmpty then aY 6 dk else pl)).toArray }) rfl (by first | (simp;done) | (rcases pp with rfl | ⟨_,_,_,_,_,_,_,rfl⟩<;>simp)) rfl
 exact k _ m up
theorem Hj(hf:env.frame=some L)(x:MR s.heap base e cls a0 (rawInt L))(k:Q () s):U7 M A (noteFrame (.ref e) env) Q E s:=by
 obtain⟨ox,us,T,ot,ws,g1,g2,g3,g4,g5,g6,g7,g8,g9⟩:=x
 unfold noteFrame
 simp only[hf]
 refine U8 (wpAny_field g1 g3 g4 ?_)
 rw[if_pos (by simp)]
 refine U8 (wpAny_field g7 g8 g9 ?_)
 rw[if_pos (by simp)]
 exact Vb k
theorem FE(x:DX base l e cls a0 nt s.heap)(k:∀h',Hg base l e cls a0 h'->s.heap.UpToSlots h'->Q () { s with heap:=h' }):U7 M A (setFlight (.ref e) none) Q E s:=by
 obtain⟨x1,x2,x3,ox,us,T,ot,ws,g1,g2,g3,g4,g5,g6,g7,g8,g9⟩:=x
 have sz:3 < ws.size:=(Array.getElem?_eq_some_iff.mp g9).1
 unfold setFlight
 refine U8 (wpAny_field g1 g3 g4 ?_)
 rw[if_pos (by simp)]
 refine wpAny_setField g7 g8 sz ?_
 generalize hu:s.heap.update T _=h'
 have ap:∀b,b≠T->h'.get? b=s.heap.get? b:=λb n=>by rw[<-hu];exact nI _ _ (cT n)
 have pl:∀b o,s.heap.get? b=some o->(∀vs,o.data≠.fields vs)->h'.get? b=some o:=λb o q n=>(ap b λz=>by rw[z,g7] at q;cases q;exact n ws g8).trans q
 refine k h' ⟨λb o q=>(ap b λz=>by rw[z,g5] at q;cases q).trans (x1 b o q),x2,x3.of_keeps λb o q n=>⟨o,pl b o q n,rfl⟩,ox,us,T,kT (·.setIfInBounds 3 .none) ot,ws.setIfInBounds 3 .none,(ap e (cT g6)).trans g1,g2,g3,g4,g5,g6,?_,wI g8 _,?_⟩ λb o q n=>⟨o.slots,pl b o q n⟩
 ·rw[<-hu];exact qG _ g7 (DY (wI g8 _))
 ·simp[sz]
end
structure Lm where
 a:UN
 c:UN
 q:PySem.Str
 xs:List V
inductive Wv where
 | bS
 | bl (b:Bool)
 | int (i:Int)
 | str (x:PySem.Str)
 | tup (ws:List Wv)
 | nO (ws:List Wv)
 | ref (l:Nat)
 | ty (n:String)
 | cls (c:PySem.Str)
 | sS (c:PySem.Str)
 | fn (p:Lm) (ws:List Wv)
inductive Ob where
 | lst (ws:List Wv)
 | ic (ns:List Int)
 | dct (kvs:List (L2.Key×Wv))
 | zl (kvs:List (List L2.Key×Wv))
 | yi (kvs:List (List L2.Key×Wv))
 | zm (kvs:List (L2.Key×Wv))
 | zV (kvs:List (NK.KD×Wv))
abbrev Hs:=List Ob
abbrev St:=L2.St
abbrev bY:=List (Option Wv)
abbrev Mp:=List UN
def zW(a C:UN):Heap->Prop:=λh=>∃o,h.get? a=some o/\o.cls= .ref C/\∃vs,o.data= .fields vs
def MS(a C:UN)(u:Option HO):Prop:=∃o vs,u=some (.mC o (.ext (zW a C)))/\o.data= .fields vs/\vs[2]? =some dk
theorem FF{P:UR}{w:UU}{H:Hp}{h:Heap}{a C:UN}(ok:kN P w H h)(x:MS a C (H a)):zW a C h:=let ⟨_,_,e,_⟩:=x;(ok a _ e).2.1
def ClsAt(K:PySem.W.Frag)(c:PySem.Str)(C:UN):Prop:=PySem.W.nsIn K U4 c=some (some (.ref C))
def zX(c:UN)(q:PySem.Str):Heap->Prop:=λh=>h.CodeRec (.ref c) q
def dq:List PySem.Str:=["form_of","formula_by","turned","readied_content","ordered"]
def iu(K:PySem.W.Frag)(q:PySem.Str):Option UN:=match PySem.W.tabIn K q with
 | some (_,P)=>if(K.lookup P).isNone=true then some P else none
 | none=>none
def N3(q:PySem.Str):PySem.Str:=(q++".<locals>.")++"<lambda>"
def qO(K:PySem.W.Frag)(H:Hp):Prop:=∀q P,q∈dq->iu K q=some P->∃ps,H P=some (.sG ps)/\TriplesOk ps.toList/\∀pos cv,codeAmong pos ps.toList=some cv->∃c,cv= .ref c/\H c=some (.ext (zX c (N3 q)))
theorem qO.keep{K:PySem.W.Frag}{H H':Hp}(t:qO K H)(h1:∀a ps,H a=some (.sG ps)->H' a=some (.sG ps))(h2:∀a φ,H a=some (.ext φ)->H' a=some (.ext φ)):qO K H':=λq P hq hP=>by
 obtain⟨ps,e1,e2,e3⟩:=t q P hq hP
 refine⟨ps,h1 _ _ e1,e2,λpos cv e=>?_⟩
 obtain⟨c,f1,f2⟩:=e3 pos cv e
 exact⟨c,f1,h2 _ _ f2⟩
def N4(K:PySem.W.Frag)(a:UN)(xs:List V):Prop:=∃(o:Obj)(its:Array UT)(n:Nat),K.lookup a=some o/\o.cls= .type "tuple"/\o.data= .seq its n/\its.size<=U5/\Vals xs its.toList
mutual
def ah(K:PySem.W.Frag)(m:Mp)(H:Hp):Wv->V->Prop
 | .bS,v=>v= .bS
 | .bl b,v=>v= .bl b
 | .int i,v=>v= .int i
 | .str x,v=>v= .str x/\aC x=true
 | .tup ws,v=>∃a xs,v= .ref a/\H a=some (.tup xs)/\af K m H ws xs
 | .nO ws,v=>∃a xs,v= .ref a/\N4 K a xs/\af K m H ws xs
 | .ref l,v=>∃a,v= .ref a/\m[l]? =some a
 | .ty n,v=>v= .ty n
 | .cls c,v=>∃C,v= .ref C/\ClsAt K c C
 | .sS c,v=>∃a C,v= .ref a/\ClsAt K c C/\MS a C (H a)
 | .fn p ws,v=>v= .ref p.a/\H p.c=some (.ext (zX p.c p.q))/\af K m H ws p.xs
def af(K:PySem.W.Frag)(m:Mp)(H:Hp):List Wv->List V->Prop
 | [],xs=>xs=[]
 | w::ws,xs=>∃x r,xs=x::r/\ah K m H w x/\af K m H ws r
end
structure Ext(K:PySem.W.Frag)(m:Mp)(H:Hp)(m':Mp)(H':Hp):Prop where
 pre:∀(l:Nat)(a:UN),m[l]? =some a->m'[l]? =some a
 tup:∀(a:UN)(xs:List V),H a=some (.tup xs)->H' a=some (.tup xs)
 ext:∀(a:UN)(φ:Heap->Prop),H a=some (.ext φ)->H' a=some (.ext φ)
 mC:∀(a:UN)(o:Obj)(u:HO),H a=some (.mC o u)->H' a=some (.mC o u)
section
variable {K:PySem.W.Frag} {m m1 m2:Mp} {H H1 H2:Hp}
theorem Ext.refl:Ext K m H m H:=⟨λ_ _ h=>h,λ_ _ h=>h,λ_ _ h=>h,λ_ _ _ h=>h⟩
theorem Ext.trans(a:Ext K m H m1 H1)(b:Ext K m1 H1 m2 H2):Ext K m H m2 H2 :=
 ⟨λl x h=>b.pre l x (a.pre l x h),λx xs h=>b.tup x xs (a.tup x xs h),λx φ h=>b.ext x φ (a.ext x φ h),λx o u h=>b.mC x o u (a.mC x o u h)⟩
structure Hk(K:PySem.W.Frag)(m:Mp)(H:Hp)(m':Mp)(H':Hp):Prop where
 pre:∀(l:Nat)(a:UN),m[l]? =some a->m'[l]? =some a
 tup:∀(a:UN)(xs:List V),H a=some (.tup xs)->H' a=some (.tup xs)
 ext:∀(a:UN)(φ:Heap->Prop),H a=some (.ext φ)->H' a=some (.ext φ)
 fx:∀(a:UN)(o:Obj)(φ:Heap->Prop),H a=some (.mC o (.ext φ))->H' a=some (.mC o (.ext φ))
theorem Ext.z(e:Ext K m H m1 H1):Hk K m H m1 H1:=⟨e.pre,e.tup,e.ext,λa o φ h=>e.mC a o _ h⟩
mutual
theorem ah.mG(e:Hk K m H m1 H1):∀(w:Wv)(v:V),ah K m H w v->ah K m1 H1 w v
 | .bS,v,h=>by unfold ah at h ⊢;exact h
 | .bl b,v,h=>by unfold ah at h ⊢;exact h
 | .int i,v,h=>by unfold ah at h ⊢;exact h
 | .str x,v,h=>by unfold ah at h ⊢;exact h
 | .ty n,v,h=>by unfold ah at h ⊢;exact h
 | .cls c,v,h=>by unfold ah at h ⊢;exact h
 | .sS c,v,h=>by
  unfold ah at h ⊢
  obtain⟨a,C,e1,e2,o,vs,e3,e4⟩:=h
  exact⟨a,C,e1,e2,o,vs,e.fx _ _ _ e3,e4⟩
 | .ref l,v,h=>by
  unfold ah at h ⊢
  obtain⟨a,e1,e2⟩:=h
  exact⟨a,e1,e.pre _ _ e2⟩
 | .tup ws,v,h=>by
  unfold ah at h ⊢
  obtain⟨a,xs,e1,e2,e3⟩:=h
  exact⟨a,xs,e1,e.tup _ _ e2,af.mG e ws xs e3⟩
 | .nO ws,v,h=>by
  unfold ah at h ⊢
  obtain⟨a,xs,e1,e2,e3⟩:=h
  exact⟨a,xs,e1,e2,af.mG e ws xs e3⟩
 | .fn p ws,v,h=>by
  unfold ah at h ⊢
  obtain⟨e1,e2,e3⟩:=h
  exact⟨e1,e.ext _ _ e2,af.mG e ws p.xs e3⟩
theorem af.mG(e:Hk K m H m1 H1):∀(ws:List Wv)(xs:List V),af K m H ws xs->af K m1 H1 ws xs
 | [],xs,h=>by unfold af at h ⊢;exact h
 | w::ws,xs,h=>by
  unfold af at h ⊢
  obtain⟨x,r,e1,e2,e3⟩:=h
  exact⟨x,r,e1,ah.mG e w x e2,af.mG e ws r e3⟩
end
theorem ah.mono(e:Ext K m H m1 H1)(w:Wv)(v:V)(h:ah K m H w v):ah K m1 H1 w v:=ah.mG e.z w v h
theorem af.mono(e:Ext K m H m1 H1)(ws:List Wv)(xs:List V)(h:af K m H ws xs):af K m1 H1 ws xs:=af.mG e.z ws xs h
theorem af.nil:af K m H [] []:=by unfold af;rfl
theorem af.cons{w:Wv}{x:V}{ws:List Wv}{xs:List V}(h:ah K m H w x)(t:af K m H ws xs):af K m H (w::ws) (x::xs):=by unfold af;exact⟨x,xs,rfl,h,t⟩
theorem af.length:∀{ws:List Wv}{xs:List V},af K m H ws xs->ws.length=xs.length
 | [],xs,h=>by unfold af at h;subst h;rfl
 | w::ws,xs,h=>by
  unfold af at h
  obtain⟨x,r,e1,_,e3⟩:=h
  subst e1
  simp[af.length e3]
theorem af.get:∀{ws:List Wv}{xs:List V}{i:Nat}{w:Wv},af K m H ws xs->ws[i]? =some w->∃x,xs[i]? =some x/\ah K m H w x
 | [],_,i,w,_,e=>by simp at e
 | a::ws,xs,0,w,h,e=>by
  unfold af at h
  obtain⟨x,r,e1,e2,_⟩:=h
  subst e1
  simp at e
  subst e
  exact⟨x,rfl,e2⟩
 | a::ws,xs,i+1,w,h,e=>by
  unfold af at h
  obtain⟨x,r,e1,_,e3⟩:=h
  subst e1
  obtain⟨y,f1,f2⟩:=af.get (i:=i) (w:=w) e3 (by simpa using e)
  exact⟨y,by simpa using f1,f2⟩
theorem af.append:∀{ws zs:List Wv}{xs ys:List V},af K m H ws xs->af K m H zs ys->af K m H (ws++zs) (xs++ys)
 | [],_,xs,_,h,g=>by unfold af at h;subst h;exact g
 | w::ws,zs,xs,ys,h,g=>by
  unfold af at h
  obtain⟨x,r,e1,e2,e3⟩:=h
  subst e1
  exact af.cons e2 (af.append e3 g)
theorem af.set:∀{ws:List Wv}{xs:List V}(i:Nat){w:Wv}{x:V},af K m H ws xs->ah K m H w x->af K m H (ws.set i w) (xs.set i x)
 | [],xs,i,w,x,h,_=>by unfold af at h;subst h;exact af.nil
 | a::ws,xs,0,w,x,h,g=>by
  unfold af at h
  obtain⟨y,r,e1,e2,e3⟩:=h
  subst e1
  exact af.cons g e3
 | a::ws,xs,i+1,w,x,h,g=>by
  unfold af at h
  obtain⟨y,r,e1,e2,e3⟩:=h
  subst e1
  exact af.cons e2 (af.set i e3 g)
theorem af.drop:∀{ws:List Wv}{xs:List V}(i:Nat),af K m H ws xs->af K m H (ws.drop i) (xs.drop i)
 | ws,xs,0,h=>by simpa using h
 | [],xs,i+1,h=>by unfold af at h;subst h;simpa using af.nil
 | a::ws,xs,i+1,h=>by
  unfold af at h
  obtain⟨y,r,e1,e2,e3⟩:=h
  subst e1
  simpa using af.drop i e3
theorem af.take:∀{ws:List Wv}{xs:List V}(i:Nat),af K m H ws xs->af K m H (ws.take i) (xs.take i)
 | ws,xs,0,h=>by simpa using af.nil
 | [],xs,i+1,h=>by unfold af at h;subst h;simpa using af.nil
 | a::ws,xs,i+1,h=>by
  unfold af at h
  obtain⟨y,r,e1,e2,e3⟩:=h
  subst e1
  simpa using af.cons e2 (af.take i e3)
theorem af.ints:∀(ns:List Int),af K m H (ns.map Wv.int) (ns.map V.int)
 | []=>af.nil
 | n::ns=>af.cons (by unfold ah;rfl) (af.ints ns)
end
def sT(K:PySem.W.Frag)(H:Hp)(a:UN)(ns:List Int):Prop :=
 (∃o,H a=some (.mC o (.lst (ns.map V.int))))\/
  ∃(o:Obj)(its:Array UT)(n:Nat),K.lookup a=some o/\o.cls= .type "list"/\o.dict=none/\o.data= .seq its n/\its.size<=U5/\Vals (ns.map V.int) its.toList
def RelK{κ:Type}(K:PySem.W.Frag)(m:Mp)(H:Hp)(kvs:List (κ×Wv))(xs:List (κ×V)):Prop:=kvs.map (·.1)=xs.map (·.1)/\af K m H (kvs.map (·.2)) (xs.map (·.2))
def pq(K:PySem.W.Frag)(m:Mp)(H:Hp)(a:UN):Ob->Prop
 | .lst ws=>∃xs,H a=some (.lst xs)/\af K m H ws xs
 | .ic ns=>sT K H a ns
 | .dct kvs=>∃xs,H a=some (.dK xs)/\RelK K m H kvs xs
 | .zl kvs=>∃xs,H a=some (.dT xs)/\RelK K m H kvs xs
 | .yi kvs=>∃o xs,H a=some (.mC o (.dT xs))/\RelK K m H kvs xs
 | .zm kvs=>∃o xs,H a=some (.mC o (.dK xs))/\RelK K m H kvs xs
 | .zV kvs=>∃xs,H a=some (.dN xs)/\RelK K m H kvs xs
def Ob.mu:Ob->Bool
 | .ic _=>false
 | _=>true
def Ob.wm:Ob->Bool
 | .ic _=>false
 | .yi _=>false
 | .zm _=>false
 | _=>true
theorem Ob.K9{o:Ob}(h:o.wm=true):o.mu=true:=by cases o<;>first | rfl | cases h
structure bF(K:PySem.W.Frag)(m:Mp)(st:Hs)(H:Hp):Prop where
 len:m.length=st.length
 obj:∀(l:Nat)(a:UN)(o:Ob),m[l]? =some a->st[l]? =some o->pq K m H a o
 inj:∀(l l':Nat)(a:UN)(o o':Ob),m[l]? =some a->m[l']? =some a->st[l]? =some o->st[l']? =some o'->o.mu=true->o'.mu=true->l=l'
 tab:qO K H
def ak(st:Hs)(l:Nat):Option (List Wv):=match st[l]? with
 | some (.lst ws)=>some ws
 | some (.ic ns)=>some (ns.map Wv.int)
 | _=>none
section
variable {K:PySem.W.Frag} {m:Mp} {H:Hp} {st:Hs}
def Wr(u:Option HO):Prop:=u=none\/(∃ys,u=some (.lst ys))\/(∃ys,u=some (.dK ys))\/(∃ys,u=some (.dT ys))\/∃ys,u=some (.dN ys)
theorem Wr.ne{p a:UN}{u:HO}(hp:Wr (H p))(e:H a=some u)(n1:∀ys,u≠.lst ys)(n2:∀ys,u≠.dK ys)(n3:∀ys,u≠.dT ys)(n4:∀ys,u≠.dN ys):a≠p:=λz=>by
 subst z
 rcases hp with q | ⟨ys,q⟩ | ⟨ys,q⟩ | ⟨ys,q⟩ | ⟨ys,q⟩
 ·rw[q] at e;cases e
 ·rw[q] at e;cases e;exact n1 ys rfl
 ·rw[q] at e;cases e;exact n2 ys rfl
 ·rw[q] at e;cases e;exact n3 ys rfl
 ·rw[q] at e;cases e;exact n4 ys rfl
theorem zY{p a:UN}{o:HO}{xs:List V}(hp:Wr (H p))(h:H a=some (.tup xs)):upd H p o a=some (.tup xs):=by
 rw[bj (hp.ne h nofun nofun nofun nofun)];exact h
theorem zZ{p a:UN}{o:HO}{ns:List Int}(hp:Wr (H p))(h:sT K H a ns):sT K (upd H p o) a ns:=by
 rcases h with ⟨o',h⟩ | h
 ·exact .inl ⟨o',by rw[bj (hp.ne h nofun nofun nofun nofun)];exact h⟩
 ·exact .inr h
theorem Wr.of{u:Option HO}(h:u=none\/∃ys,u=some (.lst ys)):Wr u:=by
 rcases h with q | q
 ·exact .inl q
 ·exact .inr (.inl q)
theorem Ext.nP{p:UN}{o:HO}(hp:Wr (H p)):Ext K m H m (upd H p o):=⟨λ_ _ h=>h,λ_ _ h=>zY hp h,λa φ h=>by
 rw[bj (hp.ne h nofun nofun nofun nofun)]
 exact h,λa o u h=>by
 rw[bj (hp.ne h nofun nofun nofun nofun)]
 exact h⟩
theorem Ext.upd{p:UN}{o:HO}(hp:H p=none\/∃ys,H p=some (.lst ys)):Ext K m H m (upd H p o):=Ext.nP (Wr.of hp)
theorem RelK.mono{κ:Type}{m1:Mp}{H1:Hp}{kvs:List (κ×Wv)}{xs:List (κ×V)}(e:Ext K m H m1 H1)(h:RelK K m H kvs xs):RelK K m1 H1 kvs xs:=⟨h.1,af.mono e _ _ h.2⟩
theorem pq.keep{m1:Mp}{b p:UN}{u:HO}{o:Ob}(ex:Ext K m H m1 (L2.upd H p u))(hp:Wr (H p))(hb:o.mu=true->b≠p)(h:pq K m H b o):pq K m1 (L2.upd H p u) b o:=by
 cases o with
 | lst ws=>
  obtain⟨xs,e1,e2⟩:=h
  exact⟨xs,by rw[bj (hb rfl)];exact e1,af.mono ex _ _ e2⟩
 | dct kvs=>
  obtain⟨xs,e1,e2⟩:=h
  exact⟨xs,by rw[bj (hb rfl)];exact e1,e2.mono ex⟩
 | zl kvs=>
  obtain⟨xs,e1,e2⟩:=h
  exact⟨xs,by rw[bj (hb rfl)];exact e1,e2.mono ex⟩
 | yi kvs=>
  obtain⟨o,xs,e1,e2⟩:=h
  exact⟨o,xs,by rw[bj (hb rfl)];exact e1,e2.mono ex⟩
 | zm kvs=>
  obtain⟨o,xs,e1,e2⟩:=h
  exact⟨o,xs,by rw[bj (hb rfl)];exact e1,e2.mono ex⟩
 | zV kvs=>
  obtain⟨xs,e1,e2⟩:=h
  exact⟨xs,by rw[bj (hb rfl)];exact e1,e2.mono ex⟩
 | ic ns=>exact zZ hp h
theorem pq.at{b:UN}{o:Ob}(h:pq K m H b o)(hm:o.mu=true):∃u,H b=some u:=by
 cases o with
 | lst ws=>obtain⟨xs,e1,e2⟩:=h;exact⟨_,e1⟩
 | dct kvs=>obtain⟨xs,e1,e2⟩:=h;exact⟨_,e1⟩
 | zl kvs=>obtain⟨xs,e1,e2⟩:=h;exact⟨_,e1⟩
 | yi kvs=>obtain⟨o,xs,e1,e2⟩:=h;exact⟨_,e1⟩
 | zm kvs=>obtain⟨o,xs,e1,e2⟩:=h;exact⟨_,e1⟩
 | zV kvs=>obtain⟨xs,e1,e2⟩:=h;exact⟨_,e1⟩
 | ic ns=>simp[Ob.mu] at hm
theorem pq.wr{b:UN}{o:Ob}(h:pq K m H b o)(hm:o.wm=true):Wr (H b):=by
 cases o with
 | lst ws=>obtain⟨xs,e1,e2⟩:=h;exact .inr (.inl ⟨_,e1⟩)
 | dct kvs=>obtain⟨xs,e1,e2⟩:=h;exact .inr (.inr (.inl ⟨_,e1⟩))
 | zl kvs=>obtain⟨xs,e1,e2⟩:=h;exact .inr (.inr (.inr (.inl ⟨_,e1⟩)))
 | zV kvs=>obtain⟨xs,e1,e2⟩:=h;exact .inr (.inr (.inr (.inr ⟨_,e1⟩)))
 | yi kvs=>cases hm
 | zm kvs=>cases hm
 | ic ns=>cases hm
theorem qO.nP{p:UN}{o:HO}(t:qO K H)(hp:Wr (H p)):qO K (L2.upd H p o):=t.keep
 (λa ps h=>by rw[bj (hp.ne h nofun nofun nofun nofun)];exact h)
 λa φ h=>by rw[bj (hp.ne h nofun nofun nofun nofun)];exact h
theorem Ext.more{p:UN}:Ext K m H (m++[p]) H:=⟨λl a h=>by
 rw[fg]
 ·exact h
 ·exact(List.getElem?_eq_some_iff.mp h).1,λ_ _ h=>h,λ_ _ h=>h,λ_ _ _ h=>h⟩
theorem bF.fresh{p:UN}{o:HO}(S:bF K m st H)(hp:H p=none):bF K m st (upd H p o) :=
 ⟨S.len,λl a ob h1 h2=>by
  have q:=S.obj l a ob h1 h2
  refine q.keep (Ext.nP (.inl hp)) (.inl hp) λhm=>?_
  obtain⟨u,e⟩:=q.at hm
  exact dD e hp,S.inj,S.tab.nP (.inl hp)⟩
theorem bF.nQ{l:Nat}{a:UN}{ws:List Wv}(S:bF K m st H)(h1:m[l]? =some a)(h2:st[l]? =some (.lst ws)):∃xs,H a=some (.lst xs)/\af K m H ws xs:=S.obj l a _ h1 h2
theorem bF.read{l:Nat}{a:UN}{ws:List Wv}(S:bF K m st H)(h1:m[l]? =some a)(h2:ak st l=some ws):∃xs,j9 K H a xs/\af K m H ws xs:=by
 unfold ak at h2
 cases e:st[l]? with
 | none=>rw[e] at h2;cases h2
 | some o=>
  rw[e] at h2
  cases o with
  | lst zs=>
   cases h2
   obtain⟨xs,e1,e2⟩:=S.nQ h1 e
   exact⟨xs,j9.of e1,e2⟩
  | dct kvs=>cases h2
  | zl kvs=>cases h2
  | yi kvs=>cases h2
  | zm kvs=>cases h2
  | zV kvs=>cases h2
  | ic ns=>
   cases h2
   have q:sT K H a ns:=S.obj l a _ h1 e
   refine⟨ns.map V.int,?_,af.ints ns⟩
   rcases q with ⟨o,q⟩ | q
   ·exact .inl (.inr ⟨o,q⟩)
   ·exact .inr q
theorem bF.Hl{p:UN}{ob:Ob}{u:HO}(S:bF K m st H)(hp:H p=none)(r:pq K (m++[p]) (L2.upd H p u) p ob):bF K (m++[p]) (st++[ob]) (L2.upd H p u):=by
 have ex:Ext K m H (m++[p]) (L2.upd H p u):=Ext.more.trans (Ext.nP (.inl hp))
 have z_:∀(l:Nat)(o:Ob),m[l]? =some p->st[l]? =some o->o.mu=true->False:=λl o h1 h2 hm=>by
  obtain⟨v,e⟩:=(S.obj l p o h1 h2).at hm
  rw[hp] at e;cases e
 have old:∀(l:Nat)(a:UN),(m++[p])[l]? =some a->(l < m.length/\m[l]? =some a)\/(l=m.length/\a=p):=λl a h=>by
  by_cases hl:l < m.length
  ·exact .inl ⟨hl,by rw[fg hl] at h;exact h⟩
  ·have h':=h
   rw[jb (by omega)] at h'
   have z:=List.getElem?_eq_some_iff.mp h'
   have z1:l - m.length < 1:=by simpa using z.1
   refine .inr ⟨by omega,?_⟩
   have e0:l - m.length=0:=by omega
   rw[e0] at h'
   simpa using h'.symm
 have olds:∀(l:Nat)(o:Ob),l < m.length->(st++[ob])[l]? =some o->st[l]? =some o:=λl o hl h=>by
  rw[fg (by rw[<-S.len];exact hl)] at h
  exact h
 refine⟨by simp[S.len],λl a o h1 h2=>?_,λl l' a zs zs' h1 J8 h2 h2' k k'=>?_,S.tab.nP (.inl hp)⟩
 ·rcases old l a h1 with ⟨hl,h1⟩ | ⟨hl,rfl⟩
  ·have q:=S.obj l a o h1 (olds l o hl h2)
   refine q.keep ex (.inl hp) λhm=>?_
   obtain⟨v,e⟩:=q.at hm
   exact dD e hp
  ·have e:o=ob:=by
    rw[hl,S.len,jb (ai _),kU] at h2
    simpa using h2.symm
   subst e
   exact r
 ·rcases old l a h1 with ⟨hl,g1⟩ | ⟨hl,ea⟩
  ·rcases old l' a J8 with ⟨hl',FG⟩ | ⟨hl',ea'⟩
   ·exact S.inj l l' a zs zs' g1 FG (olds l _ hl h2) (olds l' _ hl' h2') k k'
   ·rw[ea'] at g1
    exact(z_ l zs g1 (olds l _ hl h2) k).elim
  ·rcases old l' a J8 with ⟨hl',FG⟩ | ⟨hl',_⟩
   ·rw[ea] at FG
    exact(z_ l' zs' FG (olds l' _ hl' h2') k').elim
   ·omega
theorem bF.alloc{p:UN}{ws:List Wv}{xs:List V}(S:bF K m st H)(hp:H p=none)(r:af K m H ws xs):bF K (m++[p]) (st++[.lst ws]) (upd H p (.lst xs)) :=
 S.Hl hp ⟨xs,e8,af.mono (Ext.more.trans (Ext.nP (.inl hp))) _ _ r⟩
theorem bF.Hm{l:Nat}{a:UN}{o0 ob:Ob}{u:HO}(S:bF K m st H)(h1:m[l]? =some a)(h2:st[l]? =some o0)(hw:o0.wm=true)(r:pq K m (L2.upd H a u) a ob):bF K m (st.set l ob) (L2.upd H a u):=by
 have wr:Wr (H a):=(S.obj l a o0 h1 h2).wr hw
 have hm:=Ob.K9 hw
 have ex:Ext K m H m (L2.upd H a u):=Ext.nP wr
 have hl:l < st.length:=(List.getElem?_eq_some_iff.mp h2).1
 have at':∀(k:Nat)(o:Ob),(st.set l ob)[k]? =some o->(k=l/\o=ob)\/(k≠l/\st[k]? =some o):=λk o h=>by
  by_cases e:l=k
  ·subst e
   rw[kO hl] at h
   exact .inl ⟨rfl,(Option.some.inj h).symm⟩
  ·rw[kP e] at h
   exact .inr ⟨λz=>e z.symm,h⟩
 refine⟨by simp[S.len],λk b o g1 g2=>?_,λk k' b us us' g1 FG g2 Qz q q'=>?_,S.tab.nP wr⟩
 ·rcases at' k o g2 with ⟨rfl,rfl⟩ | ⟨hk,g2⟩
  ·rw[h1] at g1;cases g1
   exact r
  ·have q:=S.obj k b o g1 g2
   refine q.keep ex wr λho z=>?_
   subst z
   exact hk (S.inj k l b o o0 g1 h1 g2 h2 ho hm)
 ·have back:∀(k:Nat)(o:Ob),(st.set l ob)[k]? =some o->o.mu=true->∃o',st[k]? =some o'/\o'.mu=true:=λk o h ho=>by
   rcases at' k _ h with ⟨rfl,_⟩ | ⟨_,h⟩
   ·exact⟨o0,h2,hm⟩
   ·exact⟨o,h,ho⟩
  obtain⟨u1,e1,f1⟩:=back k us g2 q
  obtain⟨u2,e2,f2⟩:=back k' us' Qz q'
  exact S.inj k k' b u1 u2 g1 FG e1 e2 f1 f2
theorem bF.write{l:Nat}{a:UN}{ws zs:List Wv}{xs:List V}(S:bF K m st H)(h1:m[l]? =some a)(h2:st[l]? =some (.lst ws))(r:af K m H zs xs):bF K m (st.set l (.lst zs)) (upd H a (.lst xs)) :=
 S.Hm h1 h2 rfl ⟨xs,e8,af.mono (Ext.nP ((S.obj l a _ h1 h2).wr rfl)) _ _ r⟩
end
structure aB(K:PySem.W.Frag)(m:Mp)(H:Hp)(ρ:bY)(σ:St):Prop where
 len:ρ.length=σ.length
 get:∀(i:Nat)(w:Wv),ρ[i]? =some (some w)->∃v,σ[i]? =some (some v)/\ah K m H w v
section
variable {K:PySem.W.Frag} {m m1:Mp} {H H1:Hp} {ρ:bY} {σ:St}
theorem aB.mono(R:aB K m H ρ σ)(e:Ext K m H m1 H1):aB K m1 H1 ρ σ:=⟨R.len,λi w h=>let ⟨v,h1,h2⟩:=R.get i w h;⟨v,h1,ah.mono e _ _ h2⟩⟩
theorem aB.set(R:aB K m H ρ σ)(i:Nat){w:Wv}{v:V}(h:ah K m H w v):aB K m H (ρ.set i (some w)) (σ.set i (some v)):=by
 refine⟨by simp[R.len],λj u e=>?_⟩
 by_cases hj:i=j
 ·subst hj
  have hi:i < ρ.length:=by
   have:=(List.getElem?_eq_some_iff.mp e).1
   simpa using this
  rw[kO hi] at e
  have e':w=u:=Option.some.inj (Option.some.inj e)
  subst e'
  exact⟨v,by rw[kO (by rw[<-R.len];exact hi)],h⟩
 ·rw[kP hj] at e
  obtain⟨x,h1,h2⟩:=R.get j u e
  exact⟨x,by rw[kP hj];exact h1,h2⟩
end
inductive Re(α:Type) where
 | ok (a:α) (st:Hs)
 | err (c:PySem.Str) (st:Hs)
 | bad
def Re.bind{α β:Type}(r:Re α)(f:α->Hs->Re β):Re β:=match r with
 | .ok a st=>f a st
 | .err c st=> .err c st
 | .bad=> .bad
inductive Rs where
 | nx (ρ:bY) (st:Hs)
 | rt (w:Wv) (st:Hs)
 | bk (ρ:bY) (st:Hs)
 | ct (ρ:bY) (st:Hs)
 | err (c:PySem.Str) (ρ:bY) (st:Hs)
 | bad
def Re.bI{α:Type}(ρ:bY)(r:Re α)(f:α->Hs->Rs):Rs:=match r with
 | .ok a st=>f a st
 | .err c st=> .err c ρ st
 | .bad=> .bad
def Re.jd{α:Type}(r:Re α):Re α:=match r with
 | .ok a st=> .ok a st
 | _=> .bad
abbrev GE:=bY->Hs->Re Wv
abbrev GT:=bY->Hs->Re Bool
abbrev GA:=bY->Hs->Re (List Wv)
abbrev GS:=bY->Hs->Rs
def sU(P:UR)(w:UU)(outer:List Env)(H:Hp)(s:US)(H':Hp)(cls:UT)(e:UT)(s':US):Prop :=
 ∃(a:UN)(a0:UT)(B:Heap),e= .ref a/\s'.os=s.os/\AllBare s'.gens/\Un (frs outer) [] H H' s.heap s'.heap/\kN P w H' B/\Hg B outer a cls a0 s'.heap/\
  (∀b o,s.heap.get? b=some o->b∉frs outer->∃o',B.get? b=some o'/\(H b=none->o'=o))
def u9(X:Cx)(pins:List (UN×Obj))(H:Hp)(s:US)(H':Hp)(cls:UT)(e:UT)(s':US):Prop :=
 ∃(a:UN)(a0 nt:UT)(B:Heap)(ch:List UN),e= .ref a/\s'.os=s.os/\AllBare s'.gens/\(∀b∈ch,gj X pins H b)/\Un (frs X.stack) ch H H' s.heap s'.heap/\kN X.prog X.w H' B/\
  (B.StaysIn s'.heap/\B.get? a=none/\s'.heap.FunFrames B X.stack/\MR s'.heap B a cls a0 nt)/\
  (∀b o,s.heap.get? b=some o->b∉frs X.stack->b∉ch->∃o',B.get? b=some o'/\(H b=none->o'=o))
theorem sU.any{X:Cx}{pins:List (UN×Obj)}{H H':Hp}{s s':US}{cls e:UT}(f:sU X.prog X.w X.stack H s H' cls e s'):u9 X pins H s H' cls e s' :=
 let ⟨a,a0,B,e1,e2,e3,un,hok,fl,K_⟩:=f
 ⟨a,a0,.none,B,[],e1,e2,e3,(λb z=>by cases z),un,hok,fl,λb o q hb _=>K_ b o q hb⟩
def u_(X:Cx)(σ:St)(H':Hp)(c:PySem.Str)(e:UT)(s':US):Prop :=
 ∃(C:UN)(pins:List (UN×Obj))(Hc:Hp)(sc:US),ClsAt X.K c C/\Inv X pins σ Hc sc/\
  (u9 X pins Hc sc H' (.ref C) e s'\/(H'=Hc/\∃a args,e= .ref a/\s'.os=sc.os/\s'.gens=sc.gens/\Aa sc.heap s'.heap a (.ref C) args))
def J9(X:Cx)(σ:St)(m:Mp)(H:Hp)(c:PySem.Str)(st:Hs):Prop :=
 ∀(m':Mp)(H':Hp)(e:UT)(s':US),Ext X.K m H m' H'->bF X.K m' st H'->u_ X σ H' c e s'->X.xe e s'
theorem J9.mono{X:Cx}{σ:St}{m m1:Mp}{H H1:Hp}{c:PySem.Str}{st:Hs}(h:J9 X σ m H c st)(e:Ext X.K m H m1 H1):J9 X σ m1 H1 c st :=
 λm' H' x s' e' S r=>h m' H' x s' (e.trans e') S r
def au{α:Type}(X:Cx)(σ:St)(m:Mp)(H:Hp)(r:Re α)(ok:α->Hs->Prop):Prop:=match r with
 | .ok a st=>ok a st
 | .err c st=>J9 X σ m H c st
 | .bad=>False
def nR{α:Type}(r:Re α)(ok:α->Hs->Prop):Prop:=match r with
 | .ok a st=>ok a st
 | _=>False
theorem au.jd{α:Type}{X:Cx}{σ:St}{m:Mp}{H:Hp}{r:Re α}{ok:α->Hs->Prop}(h:au X σ m H r.jd ok):nR r ok:=by
 cases r with
 | ok a st=>exact h
 | err c st=>exact h
 | bad=>exact h
theorem au.bind{α β:Type}{X:Cx}{σ:St}{m:Mp}{H:Hp}{r:Re α}{f:α->Hs->Re β}{ok:β->Hs->Prop}(h:au X σ m H (r.bind f) ok):au X σ m H r (λa st=>au X σ m H (f a st) ok):=by
 cases r with
 | ok a st=>exact h
 | err c st=>exact h
 | bad=>exact h
theorem au.imp{α:Type}{X:Cx}{σ:St}{m m1:Mp}{H H1:Hp}{r:Re α}{ok ok':α->Hs->Prop}(h:au X σ m H r ok)(e:Ext X.K m H m1 H1)(k:∀a st,ok a st->ok' a st):au X σ m1 H1 r ok':=by
 cases r with
 | ok a st=>exact k a st h
 | err c st=>exact J9.mono (c:=c) (st:=st) h e
 | bad=>exact h
theorem nR.imp{α:Type}{r:Re α}{ok ok':α->Hs->Prop}(h:nR r ok)(k:∀a st,ok a st->ok' a st):nR r ok':=by
 cases r with
 | ok a st=>exact k a st h
 | err c st=>exact h
 | bad=>exact h
def J_(K:PySem.W.Frag)(m:Mp)(H:Hp)(Q:VK)(w:Wv)(st:Hs):Prop:=∀(v:V)(m':Mp)(H':Hp),Ext K m H m' H'->bF K m' st H'->ah K m' H' w v->Q v H'
def RW(K:PySem.W.Frag)(m:Mp)(H:Hp)(Q:Bool->Hp->Prop)(b:Bool)(st:Hs):Prop:=∀(m':Mp)(H':Hp),Ext K m H m' H'->bF K m' st H'->Q b H'
def RX(K:PySem.W.Frag)(m:Mp)(H:Hp)(Q:List V->Hp->Prop)(ws:List Wv)(st:Hs):Prop:=∀(vs:List V)(m':Mp)(H':Hp),Ext K m H m' H'->bF K m' st H'->af K m' H' ws vs->Q vs H'
abbrev f6(X:Cx)(σ:St)(m:Mp)(H:Hp)(r:Re Wv)(Q:VK):Prop:=au X σ m H r (J_ X.K m H Q)
abbrev gW(X:Cx)(σ:St)(m:Mp)(H:Hp)(r:Re Bool)(Q:Bool->Hp->Prop):Prop:=au X σ m H r (RW X.K m H Q)
abbrev FH(X:Cx)(σ:St)(m:Mp)(H:Hp)(r:Re (List Wv))(Q:List V->Hp->Prop):Prop:=au X σ m H r (RX X.K m H Q)
theorem f6.shift{X:Cx}{σ:St}{m m1:Mp}{H H1:Hp}{r:Re Wv}{Q:VK}(h:f6 X σ m H r Q)(e:Ext X.K m H m1 H1):f6 X σ m1 H1 r Q:=h.imp e λ_ _ k v m' H' e'=>k v m' H' (e.trans e')
theorem gW.shift{X:Cx}{σ:St}{m m1:Mp}{H H1:Hp}{r:Re Bool}{Q:Bool->Hp->Prop}(h:gW X σ m H r Q)(e:Ext X.K m H m1 H1):gW X σ m1 H1 r Q:=h.imp e λ_ _ k m' H' e'=>k m' H' (e.trans e')
abbrev cA(K:PySem.W.Frag)(m:Mp)(H:Hp)(r:Re Wv)(Q:VK):Prop:=nR r (J_ K m H Q)
theorem cA.shift{K:PySem.W.Frag}{m m1:Mp}{H H1:Hp}{r:Re Wv}{Q:VK}(h:cA K m H r Q)(e:Ext K m H m1 H1):cA K m1 H1 r Q:=nR.imp h λ_ _ k v m' H' e'=>k v m' H' (e.trans e')
def aO(X:Cx)(m:Mp)(H:Hp)(r:Rs)(D:Ends):Prop:=match r with
 | .nx ρ st=>∀(σ:St)(m':Mp)(H':Hp),Ext X.K m H m' H'->bF X.K m' st H'->aB X.K m' H' ρ σ->D.nx σ H'
 | .rt w st=>∀(v:V)(m':Mp)(H':Hp),Ext X.K m H m' H'->bF X.K m' st H'->ah X.K m' H' w v->D.rt v H'
 | .bk ρ st=>∀(σ:St)(m':Mp)(H':Hp),Ext X.K m H m' H'->bF X.K m' st H'->aB X.K m' H' ρ σ->D.bk σ H'
 | .ct ρ st=>∀(σ:St)(m':Mp)(H':Hp),Ext X.K m H m' H'->bF X.K m' st H'->aB X.K m' H' ρ σ->D.ct σ H'
 | .err c ρ st=>∀(σ:St)(m':Mp)(H':Hp)(e:UT)(s':US),Ext X.K m H m' H'->bF X.K m' st H'->aB X.K m' H' ρ σ->u_ X σ H' c e s'->X.xe e s'
 | .bad=>False
theorem aO.shift{X:Cx}{m m1:Mp}{H H1:Hp}{r:Rs}{D:Ends}(h:aO X m H r D)(e:Ext X.K m H m1 H1):aO X m1 H1 r D:=by
 cases r with
 | nx ρ st=>exact λσ m' H' e'=>h σ m' H' (e.trans e')
 | rt w st=>exact λv m' H' e'=>h v m' H' (e.trans e')
 | bk ρ st=>exact λσ m' H' e'=>h σ m' H' (e.trans e')
 | ct ρ st=>exact λσ m' H' e'=>h σ m' H' (e.trans e')
 | err c ρ st=>exact λσ m' H' x s' e'=>h σ m' H' x s' (e.trans e')
 | bad=>exact h
theorem aO.fh{α:Type}{X:Cx}{m:Mp}{H:Hp}{ρ:bY}{σ:St}{r:Re α}{f:α->Hs->Rs}{D:Ends}(R:aB X.K m H ρ σ)(h:aO X m H (r.bI ρ f) D):au X σ m H r (λa st=>aO X m H (f a st) D):=by
 cases r with
 | ok a st=>exact h
 | err c st=>exact λm' H' x s' e' S r=>h σ m' H' x s' e' S (R.mono e') r
 | bad=>exact h
def SE(X:Cx)(e:Expr):TE:=λσ H Q=>∀(pins:List (UN×Obj))(s:US),Inv X pins σ H s->U7 (model X.prog X.w) X.A (eval e X.env) (EP X pins σ Q) X.xe s
def ST(X:Cx)(e:Expr):TT:=λσ H Q=>∀(pins:List (UN×Obj))(s:US),Inv X pins σ H s->U7 (model X.prog X.w) X.A (isTrue e X.env (eval e X.env)) (TP X pins σ Q) X.xe s
def SA(X:Cx)(es:List Expr):TA:=λσ H Q=>∀(pos:Pos)(pins:List (UN×Obj))(s:US),Inv X pins σ H s->U7 (model X.prog X.w) X.A (spliced (backTo pos (U6 es X.env))) (AP X pins σ Q) X.xe s
def SS(X:Cx)(st:Stmt):TS:=λD σ H=>∀(pins:List (UN×Obj))(s:US),Inv X pins σ H s->U7 (model X.prog X.w) X.A (exec st X.env) (SP X pins D) X.xe s
def MT(X:Cx)(st:List Stmt):TS:=λD σ H=>∀(pins:List (UN×Obj))(s:US),Inv X pins σ H s->U7 (model X.prog X.w) X.A (execs st X.env) (SP X pins D) X.xe s
section
variable {X:Cx}
theorem a7{e:Expr}:PE X e (SE X e):=λpins s _ _ _ I h=>h pins s I
theorem nT{e:Expr}:PT X e (ST X e):=λpins s _ _ _ I h=>h pins s I
theorem gX{es:List Expr}:PA X es (SA X es):=λpos pins s _ _ _ I h=>h pos pins s I
theorem FI{st:Stmt}:PS X st (SS X st):=λpins s _ _ _ I h=>h pins s I
theorem iw{st:List Stmt}:zx X st (MT X st):=λpins s _ _ _ I h=>h pins s I
end
def JE(X:Cx)(e:Expr)(g:GE):Prop:=∀(ρ:bY)(st:Hs)(σ:St)(H:Hp)(m:Mp)(Q:VK),bF X.K m st H->aB X.K m H ρ σ->f6 X σ m H (g ρ st) Q->SE X e σ H Q
def JT(X:Cx)(e:Expr)(g:GT):Prop:=∀(ρ:bY)(st:Hs)(σ:St)(H:Hp)(m:Mp)(Q:Bool->Hp->Prop),bF X.K m st H->aB X.K m H ρ σ->gW X σ m H (g ρ st) Q->ST X e σ H Q
def JA(X:Cx)(es:List Expr)(g:GA):Prop:=∀(ρ:bY)(st:Hs)(σ:St)(H:Hp)(m:Mp)(Q:List V->Hp->Prop),bF X.K m st H->aB X.K m H ρ σ->FH X σ m H (g ρ st) Q->SA X es σ H Q
def JS(X:Cx)(s:Stmt)(g:GS):Prop:=∀(ρ:bY)(st:Hs)(σ:St)(H:Hp)(m:Mp)(D:Ends),bF X.K m st H->aB X.K m H ρ σ->aO X m H (g ρ st) D->SS X s D σ H
def nU(X:Cx)(s:List Stmt)(g:GS):Prop:=∀(ρ:bY)(st:Hs)(σ:St)(H:Hp)(m:Mp)(D:Ends),bF X.K m st H->aB X.K m H ρ σ->aO X m H (g ρ st) D->MT X s D σ H
section
variable {X:Cx}
theorem JE.of{e:Expr}{g:GE}{t:TE}(h:PE X e t)(k:∀(ρ:bY)(st:Hs)(σ:St)(H:Hp)(m:Mp)(Q:VK),bF X.K m st H->aB X.K m H ρ σ->f6 X σ m H (g ρ st) Q->t σ H Q):JE X e g :=
 λρ st σ H m Q S R p pins s I=>h pins s σ H Q I (k ρ st σ H m Q S R p)
theorem JT.of{e:Expr}{g:GT}{t:TT}(h:PT X e t)(k:∀(ρ:bY)(st:Hs)(σ:St)(H:Hp)(m:Mp)(Q:Bool->Hp->Prop),bF X.K m st H->aB X.K m H ρ σ->gW X σ m H (g ρ st) Q->t σ H Q):JT X e g :=
 λρ st σ H m Q S R p pins s I=>h pins s σ H Q I (k ρ st σ H m Q S R p)
theorem JA.of{es:List Expr}{g:GA}{t:TA}(h:PA X es t)(k:∀(ρ:bY)(st:Hs)(σ:St)(H:Hp)(m:Mp)(Q:List V->Hp->Prop),bF X.K m st H->aB X.K m H ρ σ->FH X σ m H (g ρ st) Q->t σ H Q):JA X es g :=
 λρ st σ H m Q S R p pos pins s I=>h pos pins s σ H Q I (k ρ st σ H m Q S R p)
theorem JS.of{e:Stmt}{g:GS}{t:TS}(h:PS X e t)(k:∀(ρ:bY)(st:Hs)(σ:St)(H:Hp)(m:Mp)(D:Ends),bF X.K m st H->aB X.K m H ρ σ->aO X m H (g ρ st) D->t D σ H):JS X e g :=
 λρ st σ H m D S R p pins s I=>h pins s σ H D I (k ρ st σ H m D S R p)
theorem nU.of{e:List Stmt}{g:GS}{t:TS}(h:zx X e t)(k:∀(ρ:bY)(st:Hs)(σ:St)(H:Hp)(m:Mp)(D:Ends),bF X.K m st H->aB X.K m H ρ σ->aO X m H (g ρ st) D->t D σ H):nU X e g :=
 λρ st σ H m D S R p pins s I=>h pins s σ H D I (k ρ st σ H m D S R p)
theorem JE.go{e:Expr}{g:GE}{ρ:bY}{st:Hs}{σ:St}{H:Hp}{m:Mp}{T:VK}{ok:Wv->Hs->Prop}(h:JE X e g)(S:bF X.K m st H)(R:aB X.K m H ρ σ)(p:au X σ m H (g ρ st) ok)
  (k:∀(w:Wv)(st1:Hs)(v:V)(m1:Mp)(H1:Hp),ok w st1->Ext X.K m H m1 H1->bF X.K m1 st1 H1->ah X.K m1 H1 w v->T v H1):SE X e σ H T :=
 h ρ st σ H m T S R (p.imp Ext.refl λw st1 q v m1 H1 e1 s1 r1=>k w st1 v m1 H1 q e1 s1 r1)
theorem JT.go{e:Expr}{g:GT}{ρ:bY}{st:Hs}{σ:St}{H:Hp}{m:Mp}{T:Bool->Hp->Prop}{ok:Bool->Hs->Prop}(h:JT X e g)(S:bF X.K m st H)(R:aB X.K m H ρ σ)(p:au X σ m H (g ρ st) ok)
  (k:∀(b:Bool)(st1:Hs)(m1:Mp)(H1:Hp),ok b st1->Ext X.K m H m1 H1->bF X.K m1 st1 H1->T b H1):ST X e σ H T :=
 h ρ st σ H m T S R (p.imp Ext.refl λb st1 q m1 H1 e1 s1=>k b st1 m1 H1 q e1 s1)
theorem JA.go{es:List Expr}{g:GA}{ρ:bY}{st:Hs}{σ:St}{H:Hp}{m:Mp}{T:List V->Hp->Prop}{ok:List Wv->Hs->Prop}(h:JA X es g)(S:bF X.K m st H)(R:aB X.K m H ρ σ)(p:au X σ m H (g ρ st) ok)
  (k:∀(ws:List Wv)(st1:Hs)(vs:List V)(m1:Mp)(H1:Hp),ok ws st1->Ext X.K m H m1 H1->bF X.K m1 st1 H1->af X.K m1 H1 ws vs->T vs H1):SA X es σ H T :=
 h ρ st σ H m T S R (p.imp Ext.refl λw st1 q v m1 H1 e1 s1 r1=>k w st1 v m1 H1 q e1 s1 r1)
end
end J
namespace J
open PySem PySem.Spec PyProof.Rows L2
def lim:Nat:=1000000
theorem dF{n:Nat}(h:n<=lim):n<=U5:=bt h (by unfold lim;rw[sizeLine_eq];decide)
theorem Hn{n:Nat}(h:n < lim):n < U5:=aL h (by unfold lim;rw[sizeLine_eq];decide)
def ag(i:Nat):GE:=λρ st=>match ρ[i]? with
 | some (some w)=> .ok w st
 | _=> .bad
def gC(w:Wv):GE:=λ_ st=> .ok w st
section
variable {X:Cx}
theorem va(i:Nat){x:Str}{pos:Pos}(hN:X.N[i]? =some x:=by rfl)(hv:Nw X.env.scope x:=by first | exact Or.inl rfl | exact jO (Or.inl rfl) | exact jO (jO rfl))(hd:(x == ("__debug__":Str))=false:=by decide)
  (hcd:(x == ("__classdict__":Str))=false:=by decide):JE X (.Name x pos) (ag i):=JE.of (Gi hN hv hd hcd) λρ st σ H m Q S R p=>by
 unfold ag at p
 cases e:ρ[i]? with
 | none=>rw[e] at p;exact aa p
 | some o=>
  cases o with
  | none=>rw[e] at p;exact aa p
  | some w=>
   rw[e] at p
   obtain⟨v,h1,h2⟩:=R.get i w e
   exact⟨v,h1,p v m H Ext.refl S h2⟩
theorem Ho{i:Int}{j pos}:JE X (.Constant (.int i) j pos) (gC (.int i)):=JE.of Gj λρ st σ H m Q S R p=>p (.int i) m H Ext.refl S (by unfold ah;rfl)
theorem K'{b:Bool}{j pos}:JE X (.Constant (.bool b) j pos) (gC (.bl b)):=JE.of Kt λρ st σ H m Q S R p=>p (.bl b) m H Ext.refl S (by unfold ah;rfl)
theorem Hq{j pos}:JE X (.Constant .none j pos) (gC .bS):=JE.of Gk λρ st σ H m Q S R p=>p .bS m H Ext.refl S (by unfold ah;rfl)
theorem Hr{x:PySem.Str}{j pos}(hx:aC x=true:=by decide+kernel):JE X (.Constant (.str x) j pos) (gC (.str x)):=JE.of Gm λρ st σ H m Q S R p=>p (.str x) m H Ext.refl S (by unfold ah;exact⟨rfl,hx⟩)
theorem Ab{x:Str}{i:Int}{t:Tok}{pos:Pos}(hg:Gl X x)(hm:X.mg x=some (.int i t))(hd:(x == ("__debug__":Str))=false:=by decide):JE X (.Name x pos) (gC (.int i)) :=
 JE.of (jM (v:=.int i) hg hm ⟨t,rfl⟩ hd) λρ st σ H m Q S R p=>p (.int i) m H Ext.refl S (by unfold ah;rfl)
theorem Ac{x y:Str}{t:Tok}{pos:Pos}(hg:Gl X x)(hm:X.mg x=some (.str y t))(hy:aC y=true:=by decide+kernel)(hd:(x == ("__debug__":Str))=false:=by decide):JE X (.Name x pos) (gC (.str y)) :=
 JE.of (jM (v:=.str y) hg hm ⟨t,rfl⟩ hd) λρ st σ H m Q S R p=>p (.str y) m H Ext.refl S (by unfold ah;exact⟨rfl,hy⟩)
theorem La{x:Str}{T:String}{pos:Pos}(hg:Gl X x)(hm:X.mg x=none)(hv:UY x=some (.type T))(hn:x≠"__name__":=by decide)(hd:(x == ("__debug__":Str))=false:=by decide):JE X (.Name x pos) (gC (.ty T)) :=
 JE.of (Dw (v:=.ty T) hg hm hv rfl hn hd) λρ st σ H m Q S R p=>p (.ty T) m H Ext.refl S (by unfold ah;rfl)
abbrev f7:=Wv->Wv->Hs->Re Wv
def aj(op:f7)(ga gb:GE):GE:=λρ st=>(ga ρ st).bind λx st1=>(gb ρ st1).bind λy st2=>(op x y st2).jd
def wJ(X:Cx)(op:f7)(r:R2):Prop:=∀(x y:Wv)(a b:V)(st:Hs)(H:Hp)(m:Mp)(Q:VK),bF X.K m st H->ah X.K m H x a->ah X.K m H y b->cA X.K m H (op x y st) Q->r a b H Q
def kq(X:Cx)(f:UT->UT->Sem UT)(op:f7):Prop:=∃r,fA X f r/\wJ X op r
theorem wK{a b:Expr}{ga gb:GE}{op:f7}{r:R2}(h2:wJ X op r)(ha:JE X a ga)(hb:JE X b gb){ρ:bY}{st:Hs}{σ:St}{H:Hp}{m:Mp}{Q:VK}(S:bF X.K m st H)(R:aB X.K m H ρ σ)(p:f6 X σ m H (aj op ga gb ρ st) Q) :
  KJ r (SE X a) (SE X b) σ H Q:=by
 refine ha.go S R (au.bind p) λx st1 v m1 H1 p1 e1 S1 rx=>?_
 refine hb.go S1 (R.mono e1) ((au.bind p1).imp e1 λ_ _ q=>q) λy st2 u m2 H2 p2 e2 S2 ry=>?_
 exact h2 x y v u st2 H2 m2 Q S2 (ah.mono e2 _ _ rx) ry (cA.shift (au.jd p2) (e1.trans e2))
theorem Ht{a b:Expr}{ga gb:GE}{o:Operator}{op:f7}{pos:Pos}(ho:kq X (UX o) op)(ha:JE X a ga)(hb:JE X b gb):JE X (.BinOp a o b pos) (aj op ga gb):=by
 obtain⟨r,h1,h2⟩:=ho
 exact JE.of (KL h1 a7 a7) λρ st σ H m Q S R p=>wK h2 ha hb S R p
theorem vb{a b:Expr}{ga gb:GE}{o:CmpOp}{op:f7}{pos:Pos}(ho:kq X (U1 o) op)(ha:JE X a ga)(hb:JE X b gb)(hm:UW o b=false):JE X (.Compare a [o] [b] pos) (aj op ga gb):=by
 obtain⟨r,h1,h2⟩:=ho
 exact JE.of (DF h1 a7 a7 hm) λρ st σ H m Q S R p=>wK h2 ha hb S R p
def Ka(w:Wv)(st:Hs):Re Bool:=match w with
 | .bl b=> .ok b st
 | _=> .bad
def dh(g:GE):GT:=λρ st=>(g ρ st).bind Ka
theorem sV{σ:St}{m:Mp}{H:Hp}{r:Re Wv}{Q:Bool->Hp->Prop}(p:gW X σ m H (r.bind Ka) Q):f6 X σ m H r (λx H'=>∃k,x= .bl k/\Q k H'):=by
 cases r with
 | ok w st=>
  cases w with
  | bl b=>
   intro v m' H' e S rw'
   unfold ah at rw'
   exact⟨b,rw',p m' H' e S⟩
  | _=>exact aa p
 | err c st=>exact p
 | bad=>exact p
theorem vc{a b:Expr}{ga gb:GE}{o:CmpOp}{op:f7}{pos:Pos}(ho:kq X (U1 o) op)(ha:JE X a ga)(hb:JE X b gb)(hm:UW o b=false):JT X (.Compare a [o] [b] pos) (dh (aj op ga gb)):=by
 obtain⟨r,h1,h2⟩:=ho
 exact JT.of (DG h1 a7 a7 hm) λρ st σ H m Q S R p=>wK h2 ha hb S R (sV p)
def gL(op op':f7)(ga gb gc:GE):GE:=λρ st=>(ga ρ st).bind λx st1=>(gb ρ st1).bind λy st2=>(op x y st2).jd.bind λz st3=>match z with
 | .bl true=>(gc ρ st3).bind λu zo=>(op' y u zo).jd
 | .bl false=> .ok (.bl false) st3
 | _=> .bad
theorem FJ{a b c:Expr}{ga gb gc:GE}{op op':f7}{r r':R2}(h2:wJ X op r)(h2':wJ X op' r')(ha:JE X a ga)(hb:JE X b gb)(hc:JE X c gc){ρ:bY}{st:Hs}{σ:St}{H:Hp}{m:Mp}{Q:VK}
  (S:bF X.K m st H)(R:aB X.K m H ρ σ)(p:f6 X σ m H (gL op op' ga gb gc ρ st) Q):uS r r' (SE X a) (SE X b) (SE X c) σ H Q:=by
 refine ha.go S R (au.bind p) λx st1 v m1 H1 p1 e1 S1 rx=>?_
 refine hb.go S1 (R.mono e1) ((au.bind p1).imp e1 λ_ _ q=>q) λy st2 u m2 H2 p2 e2 S2 ry=>?_
 refine h2 x y v u st2 H2 m2 _ S2 (ah.mono e2 _ _ rx) ry (nR.imp (au.jd (au.bind p2)) λz st3 p3=>?_)
 intro z' m3 H3 e3 S3 rz
 cases z with
 | bl k=>
  unfold ah at rz
  refine⟨k,rz,?_⟩
  cases k with
  | true=>
   rw[if_pos rfl]
   refine hc.go S3 (R.mono (e1.trans (e2.trans e3))) ((au.bind p3).imp (e1.trans (e2.trans e3)) λ_ _ q=>q) λq zo u' m4 H4 p4 e4 S4 rq=>?_
   exact h2' y q u u' zo H4 m4 Q S4 (ah.mono (e3.trans e4) _ _ ry) rq (cA.shift (au.jd p4) (e1.trans (e2.trans (e3.trans e4))))
  | false=>
   rw[if_neg bG]
   exact p3 (.bl false) m3 H3 (e1.trans (e2.trans e3)) S3 (by unfold ah;rfl)
 | _=>exact aa p3
theorem Ad{a b c:Expr}{ga gb gc:GE}{o o':CmpOp}{op op':f7}{pos:Pos}(ho:kq X (U1 o) op)(ho':kq X (U1 o') op')(ha:JE X a ga)(hb:JE X b gb)(hc:JE X c gc)
  (hm:lastMarks [o,o'] [b,c]=false:=by with_unfolding_all rfl):JE X (.Compare a [o,o'] [b,c] pos) (gL op op' ga gb gc):=by
 obtain⟨r,h1,h2⟩:=ho
 obtain⟨r',J8,h2'⟩:=ho'
 exact JE.of (zE h1 J8 a7 a7 a7 hm) λρ st σ H m Q S R p=>FJ h2 h2' ha hb hc S R p
theorem Ae{a b c:Expr}{ga gb gc:GE}{o o':CmpOp}{op op':f7}{pos:Pos}(ho:kq X (U1 o) op)(ho':kq X (U1 o') op')(ha:JE X a ga)(hb:JE X b gb)(hc:JE X c gc)
  (hm:lastMarks [o,o'] [b,c]=false:=by with_unfolding_all rfl):JT X (.Compare a [o,o'] [b,c] pos) (dh (gL op op' ga gb gc)):=by
 obtain⟨r,h1,h2⟩:=ho
 obtain⟨r',J8,h2'⟩:=ho'
 exact JT.of (zF h1 J8 a7 a7 a7 hm) λρ st σ H m Q S R p=>FJ h2 h2' ha hb hc S R (sV p)
def Lb(op:Wv->Hs->Re Wv)(ga:GE):GE:=λρ st=>(ga ρ st).bind op
def sW:Wv->Hs->Re Wv
 | .int i,st=> .ok (.int (-i)) st
 | _,_=> .bad
theorem Hu{a:Expr}{ga:GE}{pos:Pos}(ha:JE X a ga):JE X (.UnaryOp .USub a pos) (Lb sW ga):=by
 refine JE.of (KN GJ a7) λρ st σ H m Q S R p=>?_
 refine ha.go S R (au.bind p) λx st1 v m1 H1 p1 e1 S1 rx=>?_
 cases x with
 | int i=>
  unfold ah at rx
  exact⟨i,rx,p1 _ m1 H1 e1 S1 (by unfold ah;rfl)⟩
 | _=>exact aa p1
def SW(X:Cx)(e:Expr):TT:=λσ H Q=>∀(wh:Sem UT)(pins:List (UN×Obj))(s:US),Inv X pins σ H s->U7 (model X.prog X.w) X.A (isTrue e X.env wh) (TP X pins σ Q) X.xe s
theorem FK{e:Expr}:PW X e (SW X e):=λwh pins s _ _ _ I h=>h wh pins s I
def JW(X:Cx)(e:Expr)(g:GT):Prop:=∀(ρ:bY)(st:Hs)(σ:St)(H:Hp)(m:Mp)(Q:Bool->Hp->Prop),bF X.K m st H->aB X.K m H ρ σ->gW X σ m H (g ρ st) Q->SW X e σ H Q
theorem JW.of{e:Expr}{g:GT}{t:TT}(h:PW X e t)(k:∀(ρ:bY)(st:Hs)(σ:St)(H:Hp)(m:Mp)(Q:Bool->Hp->Prop),bF X.K m st H->aB X.K m H ρ σ->gW X σ m H (g ρ st) Q->t σ H Q):JW X e g :=
 λρ st σ H m Q S R p wh pins s I=>h wh pins s σ H Q I (k ρ st σ H m Q S R p)
theorem JW.jt{e:Expr}{g:GT}(h:JW X e g):JT X e g:=λρ st σ H m Q S R p pins s I=>h ρ st σ H m Q S R p _ pins s I
def DZ(ga gb:GT):GT:=λρ st=>(ga ρ st).bind λb st1=>if b=true then gb ρ st1 else .ok false st1
def yj(ga gb:GT):GT:=λρ st=>(ga ρ st).bind λb st1=>if b=true then .ok true st1 else gb ρ st1
def qP(ga:GT):GT:=λρ st=>(ga ρ st).bind λb st1=> .ok (!b) st1
theorem D0{a:Expr}{ga:GT}{pos:Pos}(ha:JT X a ga):JW X (.BoolOp .And [a] pos) ga:=JW.of (Dx nT) λρ st σ H m Q S R p=>ha ρ st σ H m Q S R p
theorem Hv{a:Expr}{ga:GT}{pos:Pos}(ha:JT X a ga):JW X (.BoolOp .Or [a] pos) ga:=JW.of (Gp nT) λρ st σ H m Q S R p=>ha ρ st σ H m Q S R p
theorem Hw{a b:Expr}{rest:List Expr}{ga gb:GT}{pos:Pos}(ha:JT X a ga)(hb:JW X (.BoolOp .And (b::rest) pos) gb):JW X (.BoolOp .And (a::b::rest) pos) (DZ ga gb):=by
 refine JW.of (Gq nT FK) λρ st σ H m Q S R p=>?_
 refine ha.go S R (au.bind p) λc st1 m1 H1 p1 e1 S1=>?_
 cases c with
 | true=>rw[if_pos rfl] at p1 ⊢;exact hb ρ st1 σ H1 m1 Q S1 (R.mono e1) (gW.shift p1 e1)
 | false=>rw[if_neg bG] at p1 ⊢;exact p1 m1 H1 e1 S1
theorem Lc{a b:Expr}{rest:List Expr}{ga gb:GT}{pos:Pos}(ha:JT X a ga)(hb:JW X (.BoolOp .Or (b::rest) pos) gb):JW X (.BoolOp .Or (a::b::rest) pos) (yj ga gb):=by
 refine JW.of (Ku nT FK) λρ st σ H m Q S R p=>?_
 refine ha.go S R (au.bind p) λc st1 m1 H1 p1 e1 S1=>?_
 cases c with
 | true=>rw[if_pos rfl] at p1 ⊢;exact p1 m1 H1 e1 S1
 | false=>rw[if_neg bG] at p1 ⊢;exact hb ρ st1 σ H1 m1 Q S1 (R.mono e1) (gW.shift p1 e1)
theorem Hx{a:Expr}{ga:GT}{pos:Pos}(ha:JT X a ga):JT X (.UnaryOp .Not a pos) (qP ga):=by
 refine JT.of (Gs nT) λρ st σ H m Q S R p=>?_
 exact ha.go S R (au.bind p) λc st1 m1 H1 p1 e1 S1=>p1 m1 H1 e1 S1
def gy(ga gb:GE):GE:=λρ st=>(ga ρ st).bind λw st1=>match w with
 | .bl true=>gb ρ st1
 | .bl false=> .ok (.bl false) st1
 | _=> .bad
theorem Hy{op}{a:Expr}{ga:GE}{pos:Pos}(ha:JE X a ga):JE X (.BoolOp op [a] pos) ga:=JE.of (Gu a7) λρ st σ H m Q S R p=>ha ρ st σ H m Q S R p
theorem Hz{a b:Expr}{rest:List Expr}{ga gb:GE}{pos:Pos}(ha:JE X a ga)(hb:JE X (.BoolOp .And (b::rest) pos) gb):JE X (.BoolOp .And (a::b::rest) pos) (gy ga gb):=by
 refine JE.of (Gv a7 a7) λρ st σ H m Q S R p=>?_
 refine ha.go S R (au.bind p) λx st1 v m1 H1 p1 e1 S1 rx=>?_
 cases x with
 | bl c=>
  unfold ah at rx
  refine⟨c,rx,?_⟩
  cases c with
  | true=>rw[if_pos rfl];exact hb ρ st1 σ H1 m1 Q S1 (R.mono e1) (f6.shift p1 e1)
  | false=>rw[if_neg bG];exact p1 _ m1 H1 e1 S1 (by unfold ah;rfl)
 | _=>exact aa p1
def Ld(gt:GT)(ga gb:GE):GE:=λρ st=>(gt ρ st).bind λb st1=>if b=true then ga ρ st1 else gb ρ st1
theorem Le{c a b:Expr}{gt:GT}{ga gb:GE}{pos:Pos}(hc:JT X c gt)(ha:JE X a ga)(hb:JE X b gb):JE X (.IfExp c a b pos) (Ld gt ga gb):=by
 refine JE.of (zy nT a7 a7) λρ st σ H m Q S R p=>?_
 refine hc.go S R (au.bind p) λk st1 m1 H1 p1 e1 S1=>?_
 cases k with
 | true=>rw[if_pos rfl] at p1 ⊢;exact ha ρ st1 σ H1 m1 Q S1 (R.mono e1) (f6.shift p1 e1)
 | false=>rw[if_neg bG] at p1 ⊢;exact hb ρ st1 σ H1 m1 Q S1 (R.mono e1) (f6.shift p1 e1)
def aq:GA:=λ_ st=> .ok [] st
def ae(ga:GE)(gr:GA):GA:=λρ st=>(ga ρ st).bind λx st1=>(gr ρ st1).bind λxs st2=> .ok (x::xs) st2
theorem vd:JA X [] aq:=JA.of GL λρ st σ H m Q S R p=>p [] m H Ext.refl S af.nil
theorem qQ{e:Expr}{es:List Expr}{ga:GE}{gr:GA}(ha:JE X e ga)(hr:JA X es gr)(hs:U6 (e::es) X.env=(false,eval e X.env)::U6 es X.env:=by rfl):JA X (e::es) (ae ga gr):=by
 refine JA.of (DH a7 gX hs) λρ st σ H m Q S R p=>?_
 refine ha.go S R (au.bind p) λx st1 v m1 H1 p1 e1 S1 rx=>?_
 refine hr.go S1 (R.mono e1) ((au.bind p1).imp e1 λ_ _ q=>q) λxs st2 vs m2 H2 p2 e2 S2 rs=>?_
 exact p2 (v::vs) m2 H2 (e1.trans e2) S2 (af.cons (ah.mono e2 _ _ rx) rs)
def je(g:GA):GE:=λρ st=>(g ρ st).bind λws st1=>if ws.length<=lim then .ok (.tup ws) st1 else .bad
def lT(g:GA):GE:=λρ st=>(g ρ st).bind λws st1=>if ws.length<=lim then .ok (.ref st1.length) (st1++[.lst ws]) else .bad
theorem HA{es:List Expr}{g:GA}{x1 pos}(h:JA X es g):JE X (.Tuple es x1 pos) (je g):=by
 refine JE.of (GN gX) λρ st σ H m Q S R p=>?_
 refine h.go S R (au.bind p) λws st1 vs m1 H1 p1 e1 S1 rs=>?_
 by_cases hl:ws.length<=lim
 ·rw[if_pos hl] at p1
  refine⟨by rw[<-rs.length];exact dF hl,λq hq=>?_⟩
  have e2:Ext X.K m1 H1 m1 (upd H1 q (.tup vs)):=Ext.upd (.inl hq)
  exact p1 (.ref q) m1 _ (e1.trans e2) (S1.fresh hq) (by unfold ah;exact⟨q,vs,rfl,e8,af.mono e2 _ _ rs⟩)
 ·rw[if_neg hl] at p1;exact aa p1
theorem bF.newest{K:PySem.W.Frag}{m:Mp}{st:Hs}{H:Hp}(S:bF K m st H)(q:UN)(H':Hp):ah K (m++[q]) H' (.ref st.length) (.ref q):=by
 unfold ah
 refine⟨q,rfl,?_⟩
 rw[<-S.len,jb (ai _),kU]
 rfl
theorem jf{m m1:Mp}{H H1:Hp}{st1:Hs}{ws:List Wv}{vs:List V}{Q:VK}(p1:J_ X.K m H Q (.ref st1.length) (st1++[.lst ws]))(e1:Ext X.K m H m1 H1)(S1:bF X.K m1 st1 H1)(rs:af X.K m1 H1 ws vs)(q:UN)(hq:H1 q=none) :
  Q (.ref q) (upd H1 q (.lst vs)) :=
 p1 (.ref q) (m1++[q]) _ (e1.trans (Ext.more.trans (Ext.upd (.inl hq)))) (S1.alloc hq rs) (S1.newest q _)
theorem HB{es:List Expr}{g:GA}{pos}(h:JA X es g):JE X (.List es pos) (lT g):=by
 refine JE.of (GP gX) λρ st σ H m Q S R p=>?_
 refine h.go S R (au.bind p) λws st1 vs m1 H1 p1 e1 S1 rs=>?_
 by_cases hl:ws.length<=lim
 ·rw[if_pos hl] at p1
  exact⟨by rw[<-rs.length];exact dF hl,λq hq=>jf p1 e1 S1 rs q hq⟩
 ·rw[if_neg hl] at p1;exact aa p1
end
section
variable {X:Cx}
theorem fA.or{f:UT->UT->Sem UT}{r r':R2}(h:fA X f r)(h':fA X f r'):fA X f (λx y H Q=>r x y H Q\/r' x y H Q):=by
 intro pins s σ H x y v u Q I rx ry q
 rcases q with q | q
 ·exact h pins s σ H x y v u Q I rx ry q
 ·exact h' pins s σ H x y v u Q I rx ry q
theorem Af:fA X (UX .FloorDiv) (rI (λ_ j=>j≠0/\j.natAbs.log2 < 9000) λi j=> .int (i.fdiv j)):=MN λi j _ _ _ _ _ hc q=>floordiv_int hc.1 q (.inl (PyProof.noPylong_of_log2 hc.2))
theorem D1:fA X (UX .Mod) (rI (λ_ j=>j≠0) λi j=> .int (i.fmod j)):=MN λi j _ _ _ _ _ hc q=>mod_int' hc q
theorem D2:fA X (UX .Mult) (rI (λi j=>IntMulOk i j) λi j=> .int (i * j)):=MN λ_ _ _ _ _ _ _ hc q=>mul_int q hc
instance N5{a b:Int}:Decidable (IntMulOk a b):=by unfold IntMulOk;infer_instance
def ku:f7
 | .int i,.int j,st=> .ok (.int (i - j)) st
 | _,_,_=> .bad
def pX:f7
 | .int i,.int j,st=>if j≠0/\j.natAbs.log2 < 9000 then .ok (.int (i.fdiv j)) st else .bad
 | _,_,_=> .bad
def oMod:f7
 | .int i,.int j,st=>if j≠0 then .ok (.int (i.fmod j)) st else .bad
 | _,_,_=> .bad
def HC:f7
 | .int i,.int j,st=>if 0<=j/\j<=1000000/\i.natAbs < 2 ^ 64 then .ok (.int (i ^ j.toNat)) st else .bad
 | _,_,_=> .bad
def Lf:f7
 | .int i,.int j,st=> .ok (.bl (decide (i < j))) st
 | .str i,.str j,st=> .ok (.bl (decide (i.cps.toList < j.cps.toList))) st
 | _,_,_=> .bad
def Lg:f7
 | .int i,.int j,st=> .ok (.bl (decide (i<=j))) st
 | _,_,_=> .bad
def RY:f7
 | .int i,.int j,st=> .ok (.bl (decide (j < i))) st
 | _,_,_=> .bad
def RZ:f7
 | .int i,.int j,st=> .ok (.bl (decide (j<=i))) st
 | _,_,_=> .bad
theorem aM{m:Mp}{H:Hp}{i:Int}{a:V}(h:ah X.K m H (.int i) a):a= .int i:=by unfold ah at h;exact h
theorem Lh{m:Mp}{H:Hp}{b:Bool}{a:V}(h:ah X.K m H (.bl b) a):a= .bl b:=by unfold ah at h;exact h
theorem dQ{m:Mp}{H:Hp}{x:PySem.Str}{a:V}(h:ah X.K m H (.str x) a):a= .str x/\aC x=true:=by unfold ah at h;exact h
theorem mkInt{m:Mp}{H:Hp}{i:Int}:ah X.K m H (.int i) (.int i):=by unfold ah;rfl
theorem j_{m:Mp}{H:Hp}{i:Bool}:ah X.K m H (.bl i) (.bl i):=by unfold ah;rfl
theorem wL{m:Mp}{H:Hp}:ah X.K m H .bS .bS:=by unfold ah;rfl
theorem mkStr{m:Mp}{H:Hp}{x:PySem.Str}(h:aC x=true):ah X.K m H (.str x) (.str x):=by unfold ah;exact⟨rfl,h⟩
theorem HD:kq X (UX .Sub) ku:=⟨_,GG,λx y a b st H m Q S rx ry p=>by
 cases x with
 | int i=>
  cases y with
  | int j=>exact⟨i,j,aM rx,aM ry,p _ m H Ext.refl S mkInt⟩
  | _=>exact aa p
 | _=>cases y<;>exact aa p⟩
theorem D3:kq X (UX .FloorDiv) pX:=⟨_,Af,λx y a b st H m Q S rx ry p=>by
 cases x with
 | int i=>
  cases y with
  | int j=>
   dsimp only[pX] at p
   by_cases c:j≠0/\j.natAbs.log2 < 9000
   ·rw[if_pos c] at p;exact⟨i,j,aM rx,aM ry,c,p _ m H Ext.refl S mkInt⟩
   ·rw[if_neg c] at p;exact aa p
  | _=>exact aa p
 | _=>cases y<;>exact aa p⟩
theorem HE:kq X (UX .Mod) oMod:=⟨_,D1,λx y a b st H m Q S rx ry p=>by
 cases x with
 | int i=>
  cases y with
  | int j=>
   dsimp only[oMod] at p
   by_cases c:j≠0
   ·rw[if_pos c] at p;exact⟨i,j,aM rx,aM ry,c,p _ m H Ext.refl S mkInt⟩
   ·rw[if_neg c] at p;exact aa p
  | _=>exact aa p
 | _=>cases y<;>exact aa p⟩
theorem HF:kq X (UX .Pow) HC:=⟨_,GH,λx y a b st H m Q S rx ry p=>by
 cases x with
 | int i=>
  cases y with
  | int j=>
   dsimp only[HC] at p
   by_cases c:0<=j/\j<=1000000/\i.natAbs < 2 ^ 64
   ·rw[if_pos c] at p;exact⟨i,j,aM rx,aM ry,c,p _ m H Ext.refl S mkInt⟩
   ·rw[if_neg c] at p;exact aa p
  | _=>exact aa p
 | _=>cases y<;>exact aa p⟩
theorem Li:kq X (U1 .Lt) Lf:=⟨_,fA.or KQ xZ,λx y a b st H m Q S rx ry p=>by
 cases x with
 | int i=>
  cases y with
  | int j=>exact .inl ⟨i,j,aM rx,aM ry,p _ m H Ext.refl S j_⟩
  | _=>exact aa p
 | str i=>
  cases y with
  | str j=>exact .inr ⟨i,j,(dQ rx).1,(dQ ry).1,p _ m H Ext.refl S j_⟩
  | _=>exact aa p
 | _=>cases y<;>exact aa p⟩
theorem Lj:kq X (U1 .LtE) Lg:=⟨_,KR,λx y a b st H m Q S rx ry p=>by
 cases x with
 | int i=>
  cases y with
  | int j=>exact⟨i,j,aM rx,aM ry,p _ m H Ext.refl S j_⟩
  | _=>exact aa p
 | _=>cases y<;>exact aa p⟩
def Ag:f7
 | x,.bS,st=> .ok (.bl (match x with | .bS=>false | _=>true)) st
 | _,_,_=> .bad
theorem Lk{m:Mp}{H:Hp}{x:Wv}{a:V}(h:ah X.K m H x a):decide (a=V.bS)=(match x with | .bS=>true | _=>false):=by
 cases x with
 | bS=>unfold ah at h;subst h;rfl
 | bl b=>unfold ah at h;subst h;rfl
 | int b=>unfold ah at h;subst h;rfl
 | str b=>unfold ah at h;obtain⟨h,_⟩:=h;subst h;rfl
 | tup b=>unfold ah at h;obtain⟨q,xs,h,_⟩:=h;subst h;rfl
 | nO b=>unfold ah at h;obtain⟨q,xs,h,_⟩:=h;subst h;rfl
 | ref b=>unfold ah at h;obtain⟨q,h,_⟩:=h;subst h;rfl
 | ty b=>unfold ah at h;subst h;rfl
 | cls b=>unfold ah at h;obtain⟨q,h,_⟩:=h;subst h;rfl
 | sS b=>unfold ah at h;obtain⟨q,C,h,_⟩:=h;subst h;rfl
 | fn fp b=>unfold ah at h;obtain⟨h,_⟩:=h;subst h;rfl
theorem Ah:kq X (U1 .IsNot) Ag:=⟨_,DE,λx y a b st H m Q S rx ry p=>by
 cases y with
 | bS=>
  refine⟨by unfold ah at ry;exact ry,?_⟩
  rw[Lk rx]
  cases x<;>exact p _ m H Ext.refl S j_
 | _=>cases x<;>exact aa p⟩
theorem qR{a b:PySem.Str}(ha:aC a=true)(hb:aC b=true):aC (a++b)=true:=by
 unfold aC at *
 show((a.cps++b.cps).all _)=true
 rw[Array.all_append,ha,hb]
 rfl
def Ll(K:PySem.W.Frag):R2:=λx y H Q=>∃l b xs zs,x= .ref l/\y= .ref b/\j9 K H l xs/\j9 K H b zs/\xs.length+zs.length<=U5/\∀p,H p=none->Q (.ref p) (upd H p (.lst (xs++zs)))
theorem D4:fA X (UX .Add) (Ll X.K):=by
 intro pins s σ H x y v u Q I rx ry h
 obtain⟨l,b,xs,zs,rfl,rfl,hH,hB,hz,q⟩:=h
 cases rx
 cases ry
 obtain⟨its,r,pl,hs⟩:=I.list hH
 obtain⟨its2,r2,R0,hs2⟩:=I.list hB
 have hl:=r.length
 have hl2:=r2.length
 obtain⟨⟨cls,dd,data,sl⟩,ho,hc,n,hd⟩:=id pl.isList
 obtain⟨⟨NV,dd2,data2,sl2⟩,ho2,hc2,n2,hd2⟩:=id R0.isList
 simp only at hc hd hc2 hd2
 subst hc hd hc2 hd2
 have e:its.toArray++its2.toArray=(its++its2).toArray:=by simp
 refine PySem.concat_meets ⟨_,ho,rfl⟩ ⟨_,ho2,rfl⟩ PySem.noFill_list_add PySem.seq_list_add PySem.F.slot_list_add PySem.F.entry_list_add (PySem.F.args_list_add_2 _ _) (list_addW l b its.toArray its2.toArray n n2 dd dd2 sl sl2 (by simp;omega)) ⟨ho,ho2,?_⟩
 rw[e]
 exact⟨.ref _,_,I.G7 (t':=s.toks) (r.append r2) (by rw[aP];omega),rfl,q _ I.fresh⟩
def Ln(K:PySem.W.Frag):R2:=λx y H Q=>∃a b ys,x= .ref a/\y= .ref b/\fY K H a []/\fY K H b ys/\Q (.ref b) H
theorem D5:fA X (UX .Add) (Ln X.K):=by
 intro pins s σ H x y v u Q I rx ry h
 obtain⟨a,b,ys,rfl,rfl,ha,hb,q⟩:=h
 cases rx
 cases ry
 obtain⟨its,r1,p1,_⟩:=I.tuple ha
 obtain⟨its2,r2,p2,_⟩:=I.tuple hb
 cases r1
 obtain⟨⟨c1,d1,t1,l1⟩,g1,k1,n1,j1⟩:=id p1
 obtain⟨⟨c2,d2,t2,l2⟩,g2,k2,n2,j2⟩:=id p2
 simp only at k1 j1 k2 j2
 subst k1 j1 k2 j2
 exact PySem.concat_meets ⟨_,g1,rfl⟩ ⟨_,g2,rfl⟩ PySem.noFill_tuple_add PySem.seq_tuple_add PySem.F.slot_tuple_add PySem.F.entry_tuple_add (PySem.F.args_tuple_add_2 _ _) (tuple_addW0 a b #[] its2.toArray n1 n2 d1 d2 l1 l2 (by simp)) ⟨g1,g2,⟨.ref b,H,I,rfl,q⟩⟩
def cC:f7
 | .int i,.int j,st=> .ok (.int (i+j)) st
 | .str i,.str j,st=>if i.length+j.length<=lim then .ok (.str (i++j)) st else .bad
 | .tup i,.tup j,st=>if i.length+j.length<=lim then .ok (.tup (i++j)) st else .bad
 | .ref l,.ref k,st=>match ak st l,ak st k with
  | some i,some j=>if i.length+j.length<=lim then .ok (.ref st.length) (st++[.lst (i++j)]) else .bad
  | _,_=> .bad
 | _,_,_=> .bad
instance {α:Type}{xs:List α}:Decidable (xs≠[]):=match xs with
 | []=>isFalse (λh=>h rfl)
 | _::_=>isTrue (λh=>by cases h)
theorem HG:kq X (UX .Add) cC:=⟨_,fA.or GF (fA.or uU (fA.or DO (fA.or D4 D5))),λx y a b st H m Q S rx ry p=>by
 cases x with
 | int i=>
  cases y with
  | int j=>exact .inl ⟨i,j,aM rx,aM ry,p _ m H Ext.refl S mkInt⟩
  | _=>exact aa p
 | str i=>
  cases y with
  | str j=>
   dsimp only[cC] at p
   by_cases c:i.length+j.length<=lim
   ·rw[if_pos c] at p
    exact .inr (.inl ⟨i,j,(dQ rx).1,(dQ ry).1,dF c,p _ m H Ext.refl S (mkStr (qR (dQ rx).2 (dQ ry).2))⟩)
   ·rw[if_neg c] at p;exact aa p
  | _=>exact aa p
 | tup i=>
  cases y with
  | tup j=>
   dsimp only[cC] at p
   by_cases c:i.length+j.length<=lim
   ·rw[if_pos c] at p
    by_cases c0:i=[]
    ·subst c0
     unfold ah at rx ry
     obtain⟨a1,xs,rfl,h1,h2⟩:=rx
     obtain⟨a2,ys,rfl,h3,h4⟩:=ry
     have l1:xs=[]:=Ai h2.length.symm
     subst l1
     exact .inr (.inr (.inr (.inr ⟨a1,a2,ys,rfl,rfl,fY.of h1,fY.of h3,p (.ref a2) m H Ext.refl S (by rw[ir];unfold ah;exact⟨a2,ys,rfl,h3,h4⟩)⟩)))
    unfold ah at rx ry
    obtain⟨a1,xs,rfl,h1,h2⟩:=rx
    obtain⟨a2,ys,rfl,h3,h4⟩:=ry
    have l1:=h2.length
    have l2:=h4.length
    have n1:xs≠[]:=λz=>by rw[z] at l1;exact c0 (Ai l1)
    refine .inr (.inr (.inl ⟨a1,a2,xs,ys,rfl,rfl,fY.of h1,fY.of h3,n1,by rw[<-l1,<-l2];exact dF c,λz=>?_,λ_ q hq=>?_⟩))
    ·rw[z] at l2
     rw[Ai l2,dE] at p
     exact p (.ref a1) m H Ext.refl S (by unfold ah;exact⟨a1,xs,rfl,h1,h2⟩)
    have e2:Ext X.K m H m (upd H q (.tup (xs++ys))):=Ext.upd (.inl hq)
    exact p (.ref q) m _ e2 (S.fresh hq) (by unfold ah;exact⟨q,xs++ys,rfl,e8,af.mono e2 _ _ (h2.append h4)⟩)
   ·rw[if_neg c] at p;exact aa p
  | _=>exact aa p
 | ref l=>
  cases y with
  | ref k=>
   dsimp only[cC] at p
   unfold ah at rx ry
   obtain⟨a1,rfl,h1⟩:=rx
   obtain⟨a2,rfl,h2⟩:=ry
   cases e1:ak st l with
   | none=>rw[e1] at p;exact aa p
   | some i=>
    cases e2:ak st k with
    | none=>rw[e1,e2] at p;exact aa p
    | some j=>
     rw[e1,e2] at p
     by_cases c:i.length+j.length<=lim
     ·simp only[if_pos c] at p
      obtain⟨xs,q1,q2⟩:=S.read h1 e1
      obtain⟨ys,q3,q4⟩:=S.read h2 e2
      exact .inr (.inr (.inr (.inl ⟨a1,a2,xs,ys,rfl,rfl,q1,q3,by rw[<-q2.length,<-q4.length];exact dF c,λq hq=>jf p Ext.refl S (q2.append q4) q hq⟩)))
     ·simp only[if_neg c] at p;exact aa p
  | _=>exact aa p
 | _=>cases y<;>exact aa p⟩
def sZ(n:Nat)(x:PySem.Str):PySem.Str:=⟨(aY n x.cps).foldl (· ++·) #[]⟩
end
open PySem PySem.Spec PySem.SeqAt PyProof.Rows L2
def dR{α β:Type}(f:α->Option β):List α->Option (List β)
 | []=>some []
 | w::ws=>match f w,dR f ws with
  | some d,some ds=>some (d::ds)
  | _,_=>none
def aT(st:Hs):Nat->Wv->Option PyData
 | 0,w=>match w with
  | .bS=>some .none
  | .bl b=>some (.bool b)
  | .int i=>some (.int i)
  | .str x=>some (.str x)
  | _=>none
 | n+1,w=>match w with
  | .bS=>some .none
  | .bl b=>some (.bool b)
  | .int i=>some (.int i)
  | .str x=>some (.str x)
  | .tup ws=>(dR (aT st n) ws).map .tuple
  | .nO ws=>(dR (aT st n) ws).map .tuple
  | .ref l=>match ak st l with
   | some ws=>(dR (aT st n) ws).map .list
   | none=>none
  | .ty _=>none
  | .cls _=>none
  | .sS _=>none
  | .fn _ _=>none
section
variable {X:Cx} {pins:List (UN×Obj)} {σ:St} {H:Hp} {s:US} {m:Mp} {st:Hs}
def FO(h:Heap)(n:Nat)(u:UT)(d:PyData):Prop:=∃as,Reads h u d as/\d.canLay0=true/\d.depth<=n
theorem jP{n:Nat}(ih:∀(w:Wv)(a:V)(u:UT)(d:PyData),ah X.K m H w a->RelV a u->aT st n w=some d->FO s.heap n u d) :
  ∀(ws:List Wv)(xs:List V)(us:List UT)(ds:List PyData),af X.K m H ws xs->Vals xs us->dR (aT st n) ws=some ds->∃as,ReadsAll s.heap us ds as/\mX ds=true/\ig ds<=n
 | [],xs,us,ds,h,r,e=>by
  unfold af at h
  subst h
  cases r
  cases e
  exact⟨[],.nil,rfl,aA _⟩
 | w::ws,xs,us,ds,h,r,e=>by
  unfold af at h
  obtain⟨x,xr,rfl,h1,h2⟩:=h
  cases r with
  | cons r1 r2=>
   unfold dR at e
   cases e1:aT st n w with
   | none=>rw[e1] at e;cases e
   | some d=>
    cases e2:dR (aT st n) ws with
    | none=>rw[e1,e2] at e;cases e
    | some dr=>
     rw[e1,e2] at e
     cases e
     obtain⟨as,q1,q2,q3⟩:=ih w x _ d h1 r1 e1
     obtain⟨bs,p1,p2,p3⟩:=jP ih ws xr _ dr h2 r2 e2
     refine⟨as++bs,.cons q1 p1,?_,?_⟩
     ·show(PyData.canLay0 d&&mX dr)=true
      rw[q2,p2];rfl
     ·show max d.depth (ig dr)<=n
      omega
theorem fb(I:Inv X pins σ H s)(S:bF X.K m st H):∀(n:Nat)(w:Wv)(a:V)(u:UT)(d:PyData),ah X.K m H w a->RelV a u->aT st n w=some d->FO s.heap n u d:=by
 intro n
 induction n with
 | zero=>
  intro w a u d h r e
  cases w with
  | bS=>unfold ah at h;subst h;cases r;cases e;exact⟨[],.none,rfl,ai _⟩
  | bl b=>unfold ah at h;subst h;cases r;cases e;exact⟨[],.bool b,rfl,ai _⟩
  | int i=>unfold ah at h;subst h;obtain⟨t,rfl⟩:=r;cases e;exact⟨[],.int i t,rfl,ai _⟩
  | str x=>unfold ah at h;obtain⟨rfl,hx⟩:=h;obtain⟨t,rfl⟩:=r;cases e;exact⟨[],.str x t,hx,ai _⟩
  | tup ws=>cases e
  | nO ws=>cases e
  | ref l=>cases e
  | ty t=>cases e
  | cls t=>cases e
  | sS t=>cases e
  | fn fp t=>cases e
 | succ n ih=>
  intro w a u d h r e
  cases w with
  | bS=>unfold ah at h;subst h;cases r;cases e;exact⟨[],.none,rfl,aA _⟩
  | bl b=>unfold ah at h;subst h;cases r;cases e;exact⟨[],.bool b,rfl,aA _⟩
  | int i=>unfold ah at h;subst h;obtain⟨t,rfl⟩:=r;cases e;exact⟨[],.int i t,rfl,aA _⟩
  | str x=>unfold ah at h;obtain⟨rfl,hx⟩:=h;obtain⟨t,rfl⟩:=r;cases e;exact⟨[],.str x t,hx,aA _⟩
  | ty t=>cases e
  | cls t=>cases e
  | sS t=>cases e
  | fn fp t=>cases e
  | tup ws=>
   unfold ah at h
   obtain⟨p,xs,rfl,h1,h2⟩:=h
   cases r
   have e':(dR (aT st n) ws).map wM=some d:=e
   cases e2:dR (aT st n) ws with
   | none=>rw[e2] at e';cases e'
   | some ds=>
    rw[e2] at e'
    cases e'
    obtain⟨its,rv,ht,hz⟩:=I.tuple (fY.of h1)
    obtain⟨as,q1,q2,q3⟩:=jP ih ws xs its ds h2 rv e2
    obtain⟨o,ho,hc,k,hd⟩:=ht
    exact⟨as,.tuple ho hc hd (by simpa using q1),q2,ij q3⟩
  | nO ws=>
   unfold ah at h
   obtain⟨p,xs,rfl,h1,h2⟩:=h
   cases r
   have e':(dR (aT st n) ws).map wM=some d:=e
   cases e2:dR (aT st n) ws with
   | none=>rw[e2] at e';cases e'
   | some ds=>
    rw[e2] at e'
    cases e'
    obtain⟨its,rv,ht,hz⟩:=I.tuple (.inr h1)
    obtain⟨as,q1,q2,q3⟩:=jP ih ws xs its ds h2 rv e2
    obtain⟨o,ho,hc,k,hd⟩:=ht
    exact⟨as,.tuple ho hc hd (by simpa using q1),q2,ij q3⟩
  | ref l=>
   unfold ah at h
   obtain⟨p,rfl,h1⟩:=h
   cases r
   have e':(match ak st l with | some ws=>(dR (aT st n) ws).map wN | none=>none)=some d:=e
   cases e1:ak st l with
   | none=>rw[e1] at e';cases e'
   | some ws=>
    rw[e1] at e'
    have e'':(dR (aT st n) ws).map wN=some d:=e'
    cases e2:dR (aT st n) ws with
    | none=>rw[e2] at e'';cases e''
    | some ds=>
     rw[e2] at e''
     cases e''
     obtain⟨xs,hq,h2⟩:=S.read h1 e1
     obtain⟨its,rv,ht,hz⟩:=I.list hq
     obtain⟨as,q1,q2,q3⟩:=jP ih ws xs its ds h2 rv e2
     obtain⟨o,ho,hc,k,hd⟩:=ht.isList
     exact⟨_,.list ho hc hd (by simpa using q1),q2,ij q3⟩
end
def oEq:f7:=λx y st=>match aT st 20 x,aT st 20 y with
 | some a,some b=> .ok (.bl (aZ a b)) st
 | _,_=> .bad
def iy:f7:=λx y st=>match aT st 20 x,aT st 20 y with
 | some a,some b=> .ok (.bl (!PyData.eqv a b)) st
 | _,_=> .bad
section
variable {X:Cx}
def Lq(K:PySem.W.Frag)(neg:Bool):R2:=λa b H Q=>∃m st x y da db,bF K m st H/\ah K m H x a/\ah K m H y b/\aT st 20 x=some da/\aT st 20 y=some db/\Q (.bl (if neg then !PyData.eqv da db else aZ da db)) H
theorem jQ{n:Nat}{d:PyData}(hn:n<=64)(h:d.canLay0=true)(k:d.depth<=n):shaped d=true:=by
 unfold shaped
 rw[h,decide_eq_true (bt k hn)]
 rfl
theorem HH(hu:X.A.units+64 < cLine):fA X (U1 .Eq) (Lq X.K false):=by
 intro pins s σ H a b v u Q I rx ry h
 obtain⟨m,st,x,y,da,db,S,h1,h2,e1,e2,q⟩:=h
 obtain⟨as,q1,q2,q3⟩:=fb I S 20 x a v da h1 rx e1
 obtain⟨bs,p1,p2,p3⟩:=fb I S 20 y b u db h2 ry e2
 exact eq_dataH q1 p1 (jQ (by decide) q2 q3) (jQ (by decide) p2 p3) hu ⟨.bl _,H,I,rfl,q⟩
theorem HI(hu:X.A.units+64 < cLine):fA X (U1 .NotEq) (Lq X.K true):=by
 intro pins s σ H a b v u Q I rx ry h
 obtain⟨m,st,x,y,da,db,S,h1,h2,e1,e2,q⟩:=h
 obtain⟨as,q1,q2,q3⟩:=fb I S 20 x a v da h1 rx e1
 obtain⟨bs,p1,p2,p3⟩:=fb I S 20 y b u db h2 ry e2
 exact ne_dataH q1 p1 (jQ (by decide) q2 q3) (jQ (by decide) p2 p3) hu ⟨.bl _,H,I,rfl,q⟩
theorem Lr(hu:X.A.units+64 < cLine):kq X (U1 .Eq) oEq:=⟨_,HH hu,λx y a b st H m Q S rx ry p=>by
 unfold oEq at p
 cases e1:aT st 20 x with
 | none=>rw[e1] at p;exact aa p
 | some da=>
  cases e2:aT st 20 y with
  | none=>rw[e1,e2] at p;exact aa p
  | some db=>
   rw[e1,e2] at p
   exact⟨m,st,x,y,da,db,S,rx,ry,e1,e2,p _ m H Ext.refl S j_⟩⟩
theorem Ls(hu:X.A.units+64 < cLine):kq X (U1 .NotEq) iy:=⟨_,HI hu,λx y a b st H m Q S rx ry p=>by
 unfold iy at p
 cases e1:aT st 20 x with
 | none=>rw[e1] at p;exact aa p
 | some da=>
  cases e2:aT st 20 y with
  | none=>rw[e1,e2] at p;exact aa p
  | some db=>
   rw[e1,e2] at p
   exact⟨m,st,x,y,da,db,S,rx,ry,e1,e2,p _ m H Ext.refl S j_⟩⟩
def b_:Wv->Bool
 | .bS=>true
 | .bl _=>true
 | .int _=>true
 | .str _=>true
 | _=>false
def Aj:Wv->Wv->Bool
 | .bS,.bS=>true
 | .bl a,.bl b=>a == b
 | .bl a,.int b=>(if a then 1 else 0) == b
 | .int a,.bl b=>a == (if b then 1 else 0)
 | .int a,.int b=>a == b
 | .str a,.str b=>a == b
 | _,_=>false
def kW(st:Hs):Wv->Option (List Wv)
 | .tup ws=>some ws
 | .nO ws=>some ws
 | .ref l=>ak st l
 | _=>none
def N6:f7:=λx y st=>match kW st y with
 | some ws=>if b_ x=true/\ws.all b_=true then .ok (.bl (ws.any λz=>Aj z x)) st else .bad
 | none=> .bad
theorem gY{m:Mp}{H:Hp}{x:Wv}{a:V}(h:ah X.K m H x a)(f:b_ x=true):eG a=true:=by
 cases x with
 | bS=>unfold ah at h;subst h;rfl
 | bl b=>unfold ah at h;subst h;rfl
 | int b=>unfold ah at h;subst h;rfl
 | str b=>unfold ah at h;obtain⟨h,_⟩:=h;subst h;rfl
 | _=>cases f
theorem qS{m:Mp}{H:Hp}{x y:Wv}{a b:V}(h:ah X.K m H x a)(k:ah X.K m H y b)(f:b_ x=true)(g:b_ y=true):sP a b=Aj x y:=by
 cases x with
 | bS=>
  unfold ah at h;subst h
  cases y with
  | str j=>unfold ah at k;obtain⟨k,_⟩:=k;subst k;rfl
  | tup j=>cases g
  | nO j=>cases g
  | ref j=>cases g
  | ty j=>cases g
  | cls j=>cases g
  | sS j=>cases g
  | fn fp j=>cases g
  | _=>unfold ah at k;subst k;rfl
 | bl i=>
  unfold ah at h;subst h
  cases y with
  | str j=>unfold ah at k;obtain⟨k,_⟩:=k;subst k;rfl
  | tup j=>cases g
  | nO j=>cases g
  | ref j=>cases g
  | ty j=>cases g
  | cls j=>cases g
  | sS j=>cases g
  | fn fp j=>cases g
  | _=>unfold ah at k;subst k;rfl
 | int i=>
  unfold ah at h;subst h
  cases y with
  | str j=>unfold ah at k;obtain⟨k,_⟩:=k;subst k;rfl
  | tup j=>cases g
  | nO j=>cases g
  | ref j=>cases g
  | ty j=>cases g
  | cls j=>cases g
  | sS j=>cases g
  | fn fp j=>cases g
  | _=>unfold ah at k;subst k;rfl
 | str i=>
  unfold ah at h;obtain⟨h,_⟩:=h;subst h
  cases y with
  | str j=>unfold ah at k;obtain⟨k,_⟩:=k;subst k;rfl
  | tup j=>cases g
  | nO j=>cases g
  | ref j=>cases g
  | ty j=>cases g
  | cls j=>cases g
  | sS j=>cases g
  | fn fp j=>cases g
  | _=>unfold ah at k;subst k;rfl
 | _=>cases f
theorem pY{m:Mp}{H:Hp}{x:Wv}{a:V}(h:ah X.K m H x a)(f:b_ x=true):∀{ws:List Wv}{xs:List V},af X.K m H ws xs->ws.all b_=true->xs.all eG=true/\MO a xs=ws.any λz=>Aj z x
 | [],xs,r,_=>by unfold af at r;subst r;exact⟨rfl,rfl⟩
 | w::ws,xs,r,g=>by
  unfold af at r
  obtain⟨y,yr,rfl,r1,r2⟩:=r
  rw[bT,bf] at g
  obtain⟨q1,q2⟩:=pY h f r2 g.2
  constructor
  ·rw[bT,gY r1 g.1,q1];rfl
  ·unfold MO at q2 ⊢
   rw[qJ,qJ,qS r1 h g.1 f,q2]
theorem qT{m:Mp}{H:Hp}{st:Hs}{y:Wv}{b:V}{ws:List Wv}(S:bF X.K m st H)(h:ah X.K m H y b)(e:kW st y=some ws):∃p xs,b= .ref p/\(j9 X.K H p xs\/fY X.K H p xs)/\af X.K m H ws xs:=by
 cases y with
 | tup zs=>
  cases e
  unfold ah at h
  obtain⟨p,xs,e1,e2,e3⟩:=h
  exact⟨p,xs,e1,.inr (fY.of e2),e3⟩
 | nO zs=>
  cases e
  unfold ah at h
  obtain⟨p,xs,e1,e2,e3⟩:=h
  exact⟨p,xs,e1,.inr (.inr e2),e3⟩
 | ref l=>
  unfold ah at h
  obtain⟨p,e1,e2⟩:=h
  obtain⟨xs,q1,q2⟩:=S.read e2 e
  exact⟨p,xs,e1,.inl q1,q2⟩
 | _=>cases e
theorem Lu:kq X (U1 .In) N6:=⟨_,yd,λx y a b st H m Q S rx ry p=>by
 unfold N6 at p
 cases e:kW st y with
 | none=>rw[e] at p;exact aa p
 | some ws=>
  rw[e] at p
  by_cases c:b_ x=true/\ws.all b_=true
  ·simp only[if_pos c] at p
   obtain⟨q,xs,e1,e2,e3⟩:=qT S ry e
   obtain⟨f1,f2⟩:=pY rx c.1 e3 c.2
   refine⟨q,xs,e1,e2,gY rx c.1,f1,?_⟩
   rw[f2]
   exact p _ m H Ext.refl S j_
  ·simp only[if_neg c] at p;exact aa p⟩
def aG:f7
 | .str z,.int i,st=>if z.length<=lim then(match lR z.cps.toList i with | some c=> .ok (.str ⟨#[c]⟩) st | none=> .bad) else .bad
 | x,.int i,st=>match kW st x with
  | some ws=>(match lR ws i with | some w=> .ok w st | none=> .bad)
  | none=> .bad
 | _,_,_=> .bad
theorem D6{m:Mp}{H:Hp}{ws:List Wv}{xs:List V}{i:Int}{w:Wv}(r:af X.K m H ws xs)(h:lR ws i=some w):∃x,lR xs i=some x/\ah X.K m H w x:=by
 unfold lR at h ⊢
 rw[<-r.length]
 cases e:zk ws.length i with
 | none=>rw[e] at h;cases h
 | some j=>rw[e] at h;exact r.get h
theorem D7{α:Type}{xs:List α}{i:Int}{v:α}(h:lR xs i=some v):v∈xs:=by
 obtain⟨j,_,h2,_⟩:=mZ h
 exact jN h2
theorem yk{z:PySem.Str}{c:Nat}(h:aC z=true)(hc:c∈z.cps.toList):aC ⟨#[c]⟩=true:=by
 unfold aC at h ⊢
 rw[FP] at h
 have q:=h c (by simpa using hc)
 simpa using q
theorem Lv{a b:Expr}{ga gb:GE}{pos:Pos}(ha:JE X a ga)(hb:JE X b gb)(hs:wB b:=by exact λ_ _=>rfl):JE X (.Subscript a b pos) (aj aG ga gb) :=
 JE.of (K3 GX a7 a7 hs) λρ st σ H m Q S R p=>wK (op:=aG) (λx y a b st H m Q S rx ry p=>by
  have seqs:∀(i:Int),y= .int i->(match kW st x with | some ws=>(match lR ws i with | some w=>Re.ok w st | none=> .bad) | none=> .bad)=aG x y st->Qs X.K a b H Q:=λi hy hp=>by
   subst hy
   rw[<-hp] at p
   cases e:kW st x with
   | none=>rw[e] at p;exact aa p
   | some ws=>
    rw[e] at p
    dsimp only at p
    cases e1:lR ws i with
    | none=>rw[e1] at p;exact aa p
    | some w=>
     rw[e1] at p
     obtain⟨q,xs,e2,e3,e4⟩:=qT S rx e
     obtain⟨v,f1,f2⟩:=D6 e4 e1
     rcases e3 with e3 | e3
     ·exact .inl ⟨q,xs,i,v,e2,aM ry,e3,f1,p v m H Ext.refl S f2⟩
     ·exact .inr (.inl ⟨q,xs,i,v,e2,aM ry,e3,f1,p v m H Ext.refl S f2⟩)
  cases y with
  | int i=>
   cases x with
   | str z=>
    dsimp only[aG] at p
    by_cases c:z.length<=lim
    ·simp only[if_pos c] at p
     cases e1:lR z.cps.toList i with
     | none=>rw[e1] at p;exact aa p
     | some ch=>
      rw[e1] at p
      exact .inr (.inr ⟨z,i,ch,(dQ rx).1,aM ry,dF c,e1,p _ m H Ext.refl S (mkStr (yk (dQ rx).2 (D7 e1)))⟩)
    ·simp only[if_neg c] at p;exact aa p
   | _=>exact seqs i rfl rfl
  | _=>cases x<;>exact aa p) ha hb S R p
abbrev GO:=bY->Hs->Re (Option Int)
def SO(X:Cx)(e:Option Expr):TO:=λσ H Q=>∀(pins:List (UN×Obj))(s:US),Inv X pins σ H s->U7 (model X.prog X.w) X.A (evalPart e X.env) (λu s'=>∃o H',Inv X pins σ H' s'/\IsPart u o/\Q o H') X.xe s
theorem pZ{e:Option Expr}:PO X e (SO X e):=λpins s _ _ _ I h=>h pins s I
def R1(K:PySem.W.Frag)(m:Mp)(H:Hp)(Q:Option Int->Hp->Prop)(o:Option Int)(st:Hs):Prop:=∀(m':Mp)(H':Hp),Ext K m H m' H'->bF K m' st H'->Q o H'
def JO(X:Cx)(e:Option Expr)(g:GO):Prop:=∀(ρ:bY)(st:Hs)(σ:St)(H:Hp)(m:Mp)(Q:Option Int->Hp->Prop),bF X.K m st H->aB X.K m H ρ σ->au X σ m H (g ρ st) (R1 X.K m H Q)->SO X e σ H Q
def eV:GO:=λ_ st=> .ok none st
def kg(g:GE):GO:=λρ st=>(g ρ st).bind λw st1=>match w with
 | .int i=> .ok (some i) st1
 | _=> .bad
theorem D8:JO X none eV:=λρ st σ H m Q S R p pins s I=>DM pins s σ H Q I (p m H Ext.refl S)
theorem D9{e:Expr}{g:GE}(h:JE X e g):JO X (some e) (kg g):=λρ st σ H m Q S R p pins s I=>
 DN a7 pins s σ H Q I (h.go S R (au.bind p) λw st1 v m1 H1 p1 e1 S1 r1=>by
  cases w with
  | int i=>exact⟨i,aM r1,p1 m1 H1 e1 S1⟩
  | _=>exact aa p1)
theorem JO.go{e:Option Expr}{g:GO}{ρ:bY}{st:Hs}{σ:St}{H:Hp}{m:Mp}{T:Option Int->Hp->Prop}{ok:Option Int->Hs->Prop}(h:JO X e g)(S:bF X.K m st H)(R:aB X.K m H ρ σ)(p:au X σ m H (g ρ st) ok)
  (k:∀(b:Option Int)(st1:Hs)(m1:Mp)(H1:Hp),ok b st1->Ext X.K m H m1 H1->bF X.K m1 st1 H1->T b H1):SO X e σ H T :=
 h ρ st σ H m T S R (p.imp Ext.refl λb st1 q m1 H1 e1 s1=>k b st1 m1 H1 q e1 s1)
def lU(xs:List Wv)(lo hi:Option Int):List Wv:=(xs.drop (HT.de xs.length 0 lo)).take (HT.de xs.length xs.length hi - HT.de xs.length 0 lo)
def Kb(x:Wv)(lo hi:Option Int)(st:Hs):Re Wv:=match x with
 | .tup ws=>if HT.de ws.length 0 lo=0/\HT.de ws.length ws.length hi=ws.length then .bad else .ok (.tup (lU ws lo hi)) st
 | .ref l=>match ak st l with
  | some ws=> .ok (.ref st.length) (st++[.lst (lU ws lo hi)])
  | none=> .bad
 | _=> .bad
theorem qU{m:Mp}{H:Hp}{ws:List Wv}{xs:List V}{lo hi:Option Int}(r:af X.K m H ws xs):af X.K m H (lU ws lo hi) (pj xs lo hi):=by
 unfold lU pj
 rw[<-r.length]
 exact(r.drop _).take _
def ve(ga:GE)(gl gh:GO):GE:=λρ st=>(ga ρ st).bind λx st1=>(gl ρ st1).bind λlo st2=>(gh ρ st2).bind λhi st3=>Kb x lo hi st3
theorem s_{a:Expr}{lo hi:Option Expr}{ga:GE}{gl gh:GO}{pos p2:Pos}(ha:JE X a ga)(hl:JO X lo gl)(hh:JO X hi gh):JE X (.Subscript a (.Slice lo hi none p2) pos) (ve ga gl gh):=by
 refine JE.of (nH (zN.or DS) a7 pZ pZ) λρ st σ H m Q S R p=>?_
 refine ha.go S R (au.bind p) λx st1 v m1 H1 p1 e1 S1 rx=>?_
 refine hl.go S1 (R.mono e1) ((au.bind p1).imp e1 λ_ _ q=>q) λl st2 m2 H2 p2 e2 S2=>?_
 refine hh.go S2 (R.mono (e1.trans e2)) ((au.bind p2).imp (e1.trans e2) λ_ _ q=>q) λh st3 m3 H3 p3 e3 S3=>?_
 have zq:=e1.trans (e2.trans e3)
 have MU:=ah.mono (e2.trans e3) _ _ rx
 cases x with
 | tup ws=>
  have kZ:f6 X σ m H (if HT.de ws.length 0 l=0/\HT.de ws.length ws.length h=ws.length then .bad else .ok (.tup (lU ws l h)) st3) Q:=p3
  by_cases c:HT.de ws.length 0 l=0/\HT.de ws.length ws.length h=ws.length
  ·rw[if_pos c] at kZ;exact aa kZ
  ·rw[if_neg c] at kZ
   unfold ah at MU
   obtain⟨q,xs,rfl,f1,f2⟩:=MU
   refine .inl ⟨q,xs,rfl,fY.of f1,by rw[<-f2.length];exact c,λr hr=>?_⟩
   have e4:Ext X.K m3 H3 m3 (upd H3 r (.tup (pj xs l h))):=Ext.upd (.inl hr)
   exact kZ (.ref r) m3 _ (zq.trans e4) (S3.fresh hr) (by unfold ah;exact⟨r,_,rfl,e8,af.mono e4 _ _ (qU f2)⟩)
 | ref k=>
  have kZ:f6 X σ m H (match ak st3 k with | some ws=> .ok (.ref st3.length) (st3++[.lst (lU ws l h)]) | none=> .bad) Q:=p3
  unfold ah at MU
  obtain⟨q,rfl,f1⟩:=MU
  cases e:ak st3 k with
  | none=>rw[e] at kZ;exact aa kZ
  | some ws=>
   rw[e] at kZ
   obtain⟨xs,g1,g2⟩:=S3.read f1 e
   exact .inr ⟨q,xs,rfl,g1,λr hr=>jf kZ zq S3 (qU g2) r hr⟩
 | _=>exact aa p3
end
section
variable {X:Cx}
def f9(X:Cx)(f:UT)(op:List Wv->Hs->Re Wv):Prop:=∃r,dg X f r/\∀(ws:List Wv)(vs:List V)(st:Hs)(H:Hp)(m:Mp)(Q:VK),bF X.K m st H->af X.K m H ws vs->cA X.K m H (op ws st) Q->r vs H Q
def aV(op:List Wv->Hs->Re Wv)(g:GA):GE:=λρ st=>(g ρ st).bind λws st1=>(op ws st1).jd
theorem Ak{x:Str}{id:String}{p pos:Pos}{e:Expr}{es:List Expr}{g:GA}{op:List Wv->Hs->Re Wv}(hc:f9 X (.builtin id) op)(hg:Gl X x)(hm:X.mg x=none)(hv:UY x=some (.builtin id))(ha:JA X (e::es) g)
  (hn:x≠"__name__":=by decide)(hdb:(x == ("__debug__":Str))=false:=by decide)(he:U6 (e::es) X.env=(false,eval e X.env)::U6 es X.env:=by rfl)(hpl:(backTo pos (U6 es X.env)).any (·.1)=false:=by rfl) :
  JE X (.Call (.Name x p) (e::es) [] pos) (aV op g):=by
 obtain⟨r,h1,h2⟩:=hc
 refine JE.of (zJ h1 hg hm hv gX hn hdb he hpl) λρ st σ H m Q S R p=>?_
 exact ha.go S R (au.bind p) λws st1 vs m1 H1 p1 e1 S1 rs=>h2 ws vs st1 H1 m1 Q S1 rs (cA.shift (au.jd p1) e1)
theorem ym{x:Str}{T:String}{p pos:Pos}{e:Expr}{es:List Expr}{g:GA}{op:List Wv->Hs->Re Wv}(hc:f9 X (.type T) op)(hg:Gl X x)(hm:X.mg x=none)(hv:UY x=some (.type T))(ha:JA X (e::es) g)
  (hn:x≠"__name__":=by decide)(hdb:(x == ("__debug__":Str))=false:=by decide)(he:U6 (e::es) X.env=(false,eval e X.env)::U6 es X.env:=by rfl)(hpl:(backTo pos (U6 es X.env)).any (·.1)=false:=by rfl) :
  JE X (.Call (.Name x p) (e::es) [] pos) (aV op g):=by
 obtain⟨r,h1,h2⟩:=hc
 refine JE.of (yc h1 hg hm hv gX hn hdb he hpl) λρ st σ H m Q S R p=>?_
 exact ha.go S R (au.bind p) λws st1 vs m1 H1 p1 e1 S1 rs=>h2 ws vs st1 H1 m1 Q S1 rs (cA.shift (au.jd p1) e1)
theorem kc{m:Mp}{H:Hp}{w:Wv}{vs:List V}(r:af X.K m H [w] vs):∃v,vs=[v]/\ah X.K m H w v:=by
 unfold af at r
 obtain⟨v,t,rfl,h1,h2⟩:=r
 unfold af at h2
 subst h2
 exact⟨v,rfl,h1⟩
theorem vf{m:Mp}{H:Hp}{w w':Wv}{vs:List V}(r:af X.K m H [w,w'] vs):∃v v',vs=[v,v']/\ah X.K m H w v/\ah X.K m H w' v':=by
 unfold af at r
 obtain⟨v,t,rfl,h1,h2⟩:=r
 obtain⟨v',rfl,h3⟩:=kc h2
 exact⟨v,v',rfl,h1,h3⟩
def k7:List Wv->Hs->Re Wv
 | [.str z],st=>if z.length<=lim then .ok (.int z.length) st else .bad
 | [x],st=>match kW st x with
  | some ws=> .ok (.int ws.length) st
  | none=> .bad
 | _,_=> .bad
theorem HJ:f9 X (.builtin "len") k7:=⟨_,qK.or qL,λws vs st H m Q S r p=>by
 match ws,r,p with
 | [],r,p=>exact aa p
 | x::y::t,r,p=>cases x<;>exact aa p
 | [x],r,p=>
  obtain⟨v,rfl,rx⟩:=kc r
  have seqs:(match kW st x with | some ws=>Re.ok (Wv.int ws.length) st | none=> .bad)=k7 [x] st->(∃p ys,[v]=[V.ref p]/\(j9 X.K H p ys\/fY X.K H p ys)/\Q (.int ys.length) H):=λhp=>by
   rw[<-hp] at p
   cases e:kW st x with
   | none=>rw[e] at p;exact aa p
   | some ws=>
    rw[e] at p
    obtain⟨q,xs,rfl,e2,e3⟩:=qT S rx e
    refine⟨q,xs,rfl,e2,?_⟩
    rw[<-e3.length]
    exact p _ m H Ext.refl S mkInt
  cases x with
  | str z=>
   have p':cA X.K m H (if z.length<=lim then .ok (.int z.length) st else .bad) Q:=p
   by_cases c:z.length<=lim
   ·rw[if_pos c] at p'
    obtain⟨rfl,_⟩:=dQ rx
    exact .inr ⟨z,rfl,dF c,p' _ m H Ext.refl S mkInt⟩
   ·rw[if_neg c] at p';exact aa p'
  | _=>exact .inl (seqs rfl)⟩
def N7:List Wv->Hs->Re Wv
 | [.int i],st=> .ok (.int (if i < 0 then -i else i)) st
 | _,_=> .bad
def MV(st:Hs)(T:String):Wv->Option Bool
 | .bS=>some false
 | .bl _=>some (T == "bool"||T == "int")
 | .int _=>some (T == "int")
 | .str _=>some (T == "str")
 | .tup _=>some (T == "tuple")
 | .nO _=>none
 | .ref l=>(ak st l).map λ_=>T == "list"
 | .ty _=>none
 | .cls _=>none
 | .sS _=>none
 | .fn _ _=>none
def Al(T:String):Bool:=T == "int"||T == "str"||T == "bool"||T == "tuple"||T == "list"
def Lw:List Wv->Hs->Re Wv
 | [x,.ty T],st=>if Al T=true then(match MV st T x with | some b=> .ok (.bl b) st | none=> .bad) else .bad
 | _,_=> .bad
def N8(K:PySem.W.Frag):List V->Hp->VK->Prop:=λvs H Q=>∃m st x T v b,vs=[v,.ty T]/\bF K m st H/\ah K m H x v/\Al T=true/\MV st T x=some b/\Q (.bl b) H
theorem Am:dg X (.builtin "isinstance") (N8 X.K):=by
 intro pins s σ H xs us Q I r h
 obtain⟨m,st,x,T,v,b,rfl,S,rx,hT,hb,q⟩:=h
 obtain⟨u,u',rfl,r1,r2⟩:=vals2 r
 cases r2
 have fin:∀tk,EP X pins σ Q (.bool b) { s with toks:=tk }:=λtk=>⟨.bl b,H,I.tok tk,rfl,q⟩
 have An:EP X pins σ Q (.bool b) s:=⟨.bl b,H,I,rfl,q⟩
 unfold Al at hT
 simp only[Ao,beq_iff_eq] at hT
 cases x with
 | bS=>
  unfold ah at rx;subst rx;cases r1
  cases hb
  rcases hT with (((rfl | rfl) | rfl) | rfl) | rfl<;>
   exact call_isinstance (isinstance_false_none (by decide) (by kernel_rfl) (by rw[U3];kernel_rfl)) (fin _)
 | bl c=>
  unfold ah at rx;subst rx;cases r1
  rcases hT with (((rfl | rfl) | rfl) | rfl) | rfl<;>cases hb<;>first
   | exact call_isinstance_yes (Tx:="bool") rfl (by kernel_rfl) (by rw[U3];kernel_rfl) An
   | exact call_isinstance (isinstance_false_bool (by decide) (by kernel_rfl) (by rw[U3];kernel_rfl)) (fin _)
 | int c=>
  unfold ah at rx;subst rx;obtain⟨t,rfl⟩:=r1
  rcases hT with (((rfl | rfl) | rfl) | rfl) | rfl<;>cases hb<;>first
   | exact call_isinstance_yes (Tx:="int") (typeIs_int s c t) (by kernel_rfl) (by rw[U3];kernel_rfl) An
   | exact call_isinstance (isinstance_false_int (by decide) (by kernel_rfl) (by rw[U3];kernel_rfl)) (fin _)
 | str c=>
  obtain⟨rfl,_⟩:=dQ rx;obtain⟨t,rfl⟩:=r1
  rcases hT with (((rfl | rfl) | rfl) | rfl) | rfl<;>cases hb<;>first
   | exact call_isinstance_yes (Tx:="str") (typeIs_str s c t) (by kernel_rfl) (by rw[U3];kernel_rfl) An
   | exact call_isinstance (isinstance_false_str (by decide) (by kernel_rfl) (by rw[U3];kernel_rfl)) (fin _)
 | nO ws=>cases hb
 | tup ws=>
  unfold ah at rx;obtain⟨a,xs,rfl,h1,h2⟩:=rx;cases r1
  obtain⟨its,rv,ht,hz⟩:=I.tuple (fY.of h1)
  have hty:=ht.typeIs
  obtain⟨o,ho,hc,k,hd⟩:=ht
  rcases hT with (((rfl | rfl) | rfl) | rfl) | rfl<;>cases hb<;>first
   | exact call_isinstance_yes (Tx:="tuple") hty (by kernel_rfl) (by rw[U3];kernel_rfl) An
   | exact call_isinstance (isinstance_false_tuple (by decide) (by kernel_rfl) (by rw[U3];kernel_rfl)) ⟨⟨o,ho,hc⟩,fin _⟩
 | ref l=>
  unfold ah at rx;obtain⟨a,rfl,h1⟩:=rx;cases r1
  have hb':(ak st l).map (λ_=>T == "list")=some b:=hb
  cases e:ak st l with
  | none=>rw[e] at hb';cases hb'
  | some ws=>
   rw[e] at hb'
   obtain⟨xs,hq,h2⟩:=S.read h1 e
   obtain⟨its,rv,ht,hz⟩:=I.list hq
   have hty:=ht.isList.typeIs
   obtain⟨o,ho,hc,k,hd⟩:=ht.isList
   rcases hT with (((rfl | rfl) | rfl) | rfl) | rfl<;>cases hb'<;>first
    | exact call_isinstance_yes (Tx:="list") hty (by kernel_rfl) (by rw[U3];kernel_rfl) An
    | exact call_isinstance (isinstance_false_list (by decide) (by kernel_rfl) (by rw[U3];kernel_rfl)) ⟨⟨o,ho,hc⟩,fin _⟩
 | ty t=>cases hb
 | cls t=>cases hb
 | sS t=>cases hb
 | fn fp t=>cases hb
theorem HK:f9 X (.builtin "isinstance") Lw:=⟨_,Am,λws vs st H m Q S r p=>by
 match ws,r,p with
 | [],r,p=>exact aa p
 | [x],r,p=>cases x<;>exact aa p
 | x::y::z::t,r,p=>cases y<;>exact aa p
 | [x,y],r,p=>
  obtain⟨v,v',rfl,rx,ry⟩:=vf r
  cases y with
  | ty T=>
   unfold ah at ry
   subst ry
   have p':cA X.K m H (if Al T=true then(match MV st T x with | some b=> .ok (.bl b) st | none=> .bad) else .bad) Q:=p
   by_cases c:Al T=true
   ·rw[if_pos c] at p'
    cases e:MV st T x with
    | none=>rw[e] at p';exact aa p'
    | some b=>rw[e] at p';exact⟨m,st,x,T,v,b,rfl,S,rx,c,e,p' _ m H Ext.refl S j_⟩
   ·rw[if_neg c] at p';exact aa p'
  | _=>exact aa p⟩
def cD:GS:=λρ st=> .nx ρ st
def bo(g h:GS):GS:=λρ st=>match g ρ st with
 | .nx ρ' st'=>h ρ' st'
 | r=>r
theorem D_:nU X [] cD:=nU.of Dy λρ st σ H m D S R p=>p σ m H Ext.refl S R
theorem Ap{s:Stmt}{rest:List Stmt}{g h:GS}(h1:JS X s g)(h2:nU X rest h):nU X (s::rest) (bo g h) :=
 nU.of (zB FI iw) λρ st σ H m D S R p=>h1 ρ st σ H m _ S R (by
  unfold bo at p
  cases e:g ρ st with
  | nx ρ' st'=>rw[e] at p;exact λσ' m' H' e' S' R'=>h2 ρ' st' σ' H' m' D S' R' (aO.shift p e')
  | rt w st'=>rw[e] at p;exact p
  | bk ρ' st'=>rw[e] at p;exact p
  | ct ρ' st'=>rw[e] at p;exact p
  | err c ρ' st'=>rw[e] at p;exact p
  | bad=>rw[e] at p;exact p)
theorem Ea{s:Stmt}{g:GS}(h1:JS X s g):nU X [s] g:=nU.of (Dz FI) λρ st σ H m D S R p=>h1 ρ st σ H m D S R p
def bN(g:GE):GS:=λρ st=>(g ρ st).bI ρ λw st'=> .rt w st'
theorem HL{e:Expr}{g:GE}{pos:Pos}(h:JE X e g):JS X (.Return (some e) pos) (bN g) :=
 JS.of (Gw a7) λρ st σ H m D S R p=>h.go S R (aO.fh R p) λw st1 v m1 H1 q e1 S1 r1=>q v m1 H1 e1 S1 r1
theorem Eb{pos:Pos}:JS X (.Pass pos) cD:=JS.of DA λρ st σ H m D S R p=>p σ m H Ext.refl S R
def p5(g:GE):GS:=λρ st=>(g ρ st).bI ρ λ_ st'=> .nx ρ st'
theorem Ec{e:Expr}{g:GE}{pos:Pos}(h:JE X e g)(hs:swapsWith e none pos.line X.env=pure false:=by rfl):JS X (.Expr e pos) (p5 g) :=
 JS.of (DB a7 hs) λρ st σ H m D S R p=>h.go S R (aO.fh R p) λw st1 v m1 H1 q e1 S1 r1=>q σ m1 H1 e1 S1 (R.mono e1)
def nV(gt:GT)(ga gb:GS):GS:=λρ st=>(gt ρ st).bI ρ λb st'=>if b=true then ga ρ st' else gb ρ st'
theorem Ly{c:Expr}{a b:List Stmt}{gt:GT}{ga gb:GS}{pos:Pos}(hc:JT X c gt)(ha:nU X a ga)(hb:nU X b gb):JS X (.If c a b pos) (nV gt ga gb) :=
 JS.of (Kz nT iw iw) λρ st σ H m D S R p=>hc.go S R (aO.fh R p) λk st1 m1 H1 q e1 S1=>by
  cases k with
  | true=>rw[if_pos rfl] at q ⊢;exact ha ρ st1 σ H1 m1 D S1 (R.mono e1) (aO.shift q e1)
  | false=>rw[if_neg bG] at q ⊢;exact hb ρ st1 σ H1 m1 D S1 (R.mono e1) (aO.shift q e1)
def bU(i:Nat)(g:GE):GS:=λρ st=>(g ρ st).bI ρ λw st'=> .nx (ρ.set i (some w)) st'
theorem Aq(i:Nat){x:Str}{e:Expr}{g:GE}{pos pos':Pos}(hN:X.N.Nodup)(h:JE X e g)(hi:X.N[i]? =some x:=by rfl)(hx:Loc X.env.scope x:=by first | exact Or.inl rfl | exact jO rfl)(hs:swapsWith e (some (.Name x pos')) pos.line X.env=pure false:=by rfl)
  (hf:X.fn x=true\/X.env.scope.names.lookup x=some .local:=by first | exact .inl rfl | exact .inr rfl | assumption):JS X (.Assign [.Name x pos'] e pos) (bU i g) :=
 JS.of (Gz hN hi hx a7 hs hf) λρ st σ H m D S R p=>h.go S R (aO.fh R p) λw st1 v m1 H1 q e1 S1 r1=>q _ m1 H1 e1 S1 ((R.mono e1).set i r1)
def dG:GS:=λ_ _=> .bad
theorem cE{s:Stmt}:JS X s dG:=JS.of zD λρ st σ H m D S R p=>p
theorem yn{s:List Stmt}:nU X s dG:=nU.of xW λρ st σ H m D S R p=>p
def Lz(o i v:Wv)(ρ:bY)(st:Hs):Rs:=match o,i with
 | .ref l,.int k=>match st[l]? with
  | some (.lst ws)=>(match zk ws.length k with | some j=> .nx ρ (st.set l (.lst (ws.set j v))) | none=> .bad)
  | _=> .bad
 | _,_=> .bad
def wO(ge go gi:GE):GS:=λρ st=>(ge ρ st).bI ρ λv st1=>(go ρ st1).bI ρ λo st2=>(gi ρ st2).bI ρ λi st3=>Lz o i v ρ st3
theorem Ed{o i e:Expr}{go gi ge:GE}{pos pos':Pos}(he:JE X e ge)(ho:JE X o go)(hi:JE X i gi)(hs:swapsWithSole [.Subscript o i pos'] e pos.line X.env=pure false:=by rfl)(hw:swappedStores [.Subscript o i pos'] e X.env=pure none:=by rfl)
  (h1:(assignEach [.Subscript o i pos'] X.env).map (·.2)=[assign (.Subscript o i pos') X.env]:=by rfl)
  (ha:∀v,assign (.Subscript o i pos') X.env v=(do
   let ov <-holding [v] (eval o X.env)
   let iv <-holding [v,ov] (eval i X.env)
   standAt pos'
   holding [v,ov,iv] (setItem ov iv v)
   release [v,ov,iv] []):=by intro _;rfl):JS X (.Assign [.Subscript o i pos'] e pos) (wO ge go gi):=by
 refine JS.of (Gy a7 (Gx a7 a7 set_list ha) hs hw h1) λρ st σ H m D S R p=>?_
 refine he.go S R (aO.fh R p) λv st1 vv m1 H1 p1 e1 S1 rv=>?_
 refine ho.go S1 (R.mono e1) ((aO.fh (m:=m) (H:=H) R p1).imp e1 λ_ _ q=>q) λo' st2 ov m2 H2 p2 e2 S2 ro=>?_
 refine hi.go S2 (R.mono (e1.trans e2)) ((aO.fh (m:=m) (H:=H) R p2).imp (e1.trans e2) λ_ _ q=>q) λi' st3 iv m3 H3 p3 e3 S3 ri=>?_
 have zq:=e1.trans (e2.trans e3)
 cases o' with
 | ref l=>
  cases i' with
  | int k=>
   have kZ:aO X m H (match st3[l]? with | some (.lst ws)=>(match zk ws.length k with | some j=> .nx ρ (st3.set l (.lst (ws.set j v))) | none=> .bad) | _=> .bad) D:=p3
   have QA:=ah.mono e3 _ _ ro
   unfold ah at QA
   obtain⟨a,rfl,f1⟩:=QA
   cases e:st3[l]? with
   | none=>rw[e] at kZ;exact aa kZ
   | some ob=>
    cases ob with
    | dct kvs=>rw[e] at kZ;exact aa kZ
    | zl kvs=>rw[e] at kZ;exact aa kZ
    | yi kvs=>rw[e] at kZ;exact aa kZ
    | zm kvs=>rw[e] at kZ;exact aa kZ
    | zV kvs=>rw[e] at kZ;exact aa kZ
    | ic ns=>rw[e] at kZ;exact aa kZ
    | lst ws=>
     rw[e] at kZ
     cases ej:zk ws.length k with
     | none=>simp only[ej] at kZ;exact aa kZ
     | some j=>
      simp only[ej] at kZ
      obtain⟨xs,g1,g2⟩:=S3.nQ f1 e
      refine⟨a,xs,k,j,rfl,aM ri,g1,by rw[<-g2.length];exact ej,?_⟩
      have R4:=ah.mono (e2.trans e3) _ _ rv
      have e4:Ext X.K m3 H3 m3 (upd H3 a (.lst (xs.set j vv))):=Ext.upd (.inr ⟨xs,g1⟩)
      exact kZ σ m3 _ (zq.trans e4) (S3.write f1 e (g2.set j R4)) (R.mono (zq.trans e4))
  | _=>exact aa p3
 | _=>cases i'<;>exact aa p3
open Classical in
def forL(i:Nat)(gb:GS)(l:Nat)(all:List Wv):List Wv->bY->Hs->Rs
 | [],ρ,st=> .nx ρ st
 | w::r,ρ,st=>match gb (ρ.set i (some w)) st with
  | .nx ρ' st'=>if ak st' l=some all then forL i gb l all r ρ' st' else .bad
  | .ct ρ' st'=>if ak st' l=some all then forL i gb l all r ρ' st' else .bad
  | .bk ρ' st'=> .nx ρ' st'
  | .rt w st'=> .rt w st'
  | .err c ρ' st'=> .err c ρ' st'
  | .bad=> .bad
end
def CXJ(P:UR)(w:UU):zj:=λouter H s E e s'=>∃H' C,sU P w outer H s H' (.ref C) e s'/\E (.ref C) none H'
section
variable {X:Cx} {pins:List (UN×Obj)} {σ:St} {Hc H':Hp} {sc s':US} {cls e:UT} {E:UT->US->Prop} {Q:Unit->US->Prop}
theorem old_ne(I:Inv X pins σ Hc sc){b:UN}{o:Obj}(q:X.s₀.heap.get? b=some o):b≠X.env.locals:=λz=>by
 have h1:=aE q
 have h2:=I.ok.above
 rw[z] at h1
 exact absurd (aL h1 h2) (gn _)
theorem Ee(I:Inv X pins σ Hc sc)(hst:X.stack=X.env::X.outer)(hf:X.env.frame=some X.env.locals){b:UN}{o:Obj}(q:X.s₀.heap.get? b=some o)(hb:b∉frs X.outer):b∉frs X.stack:=λz=>by
 rw[hst] at z
 unfold frs at z
 rw[i_,hf] at z
 rcases List.mem_cons.mp z with z | z
 ·exact old_ne I q z
 ·exact hb z
theorem As(hst:X.stack=X.env::X.outer)(hf:X.env.frame=some X.env.locals){b:UN}(hb:b∈frs X.outer):b∈frs X.stack:=by
 rw[hst]
 unfold frs
 rw[i_,hf]
 exact aN _ hb
theorem Au{M:Model}{A:UO}{E:UT->US->Prop}{s:US}{base:Heap}{env:Env}{outer:List Env}{L e:UN}{cls a0 nt:UT}{Q:Unit->US->Prop}(hfr:A.frames=some (env::outer))(hf:env.frame=some L)
  (x:base.StaysIn s.heap/\base.get? e=none/\s.heap.FunFrames base (env::outer)/\MR s.heap base e cls a0 nt)(k:∀h',zT base (env::outer) e cls a0 L h'->s.heap.UpToSlots h'->Q () { s with heap:=h' }) :
  U7 M A (noteFrame (.ref e) env) Q E s:=by
 obtain⟨x1,x2,x3,x4⟩:=x
 by_cases z:nt=rawInt L
 ·subst z
  exact Hj hf x4 (k s.heap ⟨x1,x2,x3,x4⟩ (Heap.UpToSlots.refl _))
 ·obtain⟨ox,us,T,ot,ws,g1,⟨g2,g3⟩,g4,g5,g6,g7,g8,g9,LA⟩:=x4
  subst g2
  have apart:∀b,b≠T->(s.heap.update T (kT (·.setIfInBounds 3 dk))).get? b=s.heap.get? b:=λb hb=>nI _ _ (cT hb)
  have plain:∀b o,s.heap.get? b=some o->(∀vs,o.data≠.fields vs)->b≠T:=λb o hb hd q=>by
   subst q
   rw[g8] at hb
   cases hb
   exact hd ws g9
  unfold noteFrame
  simp only[hf]
  refine U8 (wpAny_field g1 g4 g5 ?_)
  rw[if_pos (show(bg T != dk)=true from by simp)]
  refine U8 (wpAny_field g8 g9 LA ?_)
  rw[if_neg (show ¬((nt == rawInt L)=true) from by simpa using z)]
  refine U8 (wpAny_setField g8 g9 (Array.getElem?_eq_some_iff.mp LA).1 ?_)
  refine zU (a0:=a0) hfr (x3.of_keeps λb o hb hd=>⟨o,(apart b (plain b o hb hd)).trans hb,rfl⟩) hf ((apart e (cT g7)).trans g1) (λb o hb=>(apart b λq=>by rw[q,g6] at hb;cases hb).trans (x1 b o hb)) x2 g4 (Array.getElem?_eq_some_iff.mp g5).1 g3 λh' y y4=>?_
  exact k h' y λb o hb hd=>y4 b o ((apart b (plain b o hb hd)).trans hb) hd
theorem yo{M:Model}{A:UO}{E:UT->US->Prop}{s:US}{base h:Heap}{env:Env}{outer:List Env}{L a:UN}{cls:UT}{args:List UT}{Q:Unit->US->Prop}(hfr:A.frames=some (env::outer))(hf:env.frame=some L)
  (st:base.StaysIn h)(fs:h.FunFrames base (env::outer))(mk:Aa h s.heap a cls args)(k:∀h' a0,zT base (env::outer) a cls a0 L h'->s.heap.UpToSlots h'->Q () { s with heap:=h' }) :
  U7 M A (noteFrame (.ref a) env) Q E s:=by
 obtain⟨t,e1,e2,e3⟩:=mk.there
 have fresh:∀b,h.get? b=none->base.get? b=none:=λb hb=>by
  cases q:base.get? b with
  | none=>rfl
  | some o'=>have z:=st b o' q;rw[hb] at z;cases z
 have fs':=fs.of_keeps (h':=s.heap) λb o hb _=>⟨o,mk.keeps b o hb,rfl⟩
 unfold noteFrame
 simp only[hf]
 refine U8 (wpAny_field e1 rfl (x:=.none) rfl ?_)
 rw[if_neg (by decide)]
 exact zU hfr fs' hf e1 (λb o hb=>mk.keeps b o (st b o hb)) (fresh a mk.new) rfl (by simp) (a0:=.ref t) rfl λh' l1 l4=>k h' (.ref t) l1 l4
theorem Av{ch:List UN}(hx:X.ex=[])(hst:X.stack=X.env::X.outer)(hf:X.env.frame=some X.env.locals)(I:Inv X pins σ Hc sc){B h2:Heap}(hch:∀b∈ch,gj X pins Hc b)(un:Un (frs X.stack) ch Hc H' sc.heap s'.heap)(up:s'.heap.UpToSlots h2)(stay:B.StaysIn h2)
  (K_:∀b o,sc.heap.get? b=some o->b∉frs X.stack->b∉ch->∃o',B.get? b=some o'/\(Hc b=none->o'=o)) :
  Un (frs X.outer) [] X.H₀ H' X.s₀.heap h2/\(∀b o,X.s₀.heap.get? b=some o->b∉frs X.outer->∃o',B.get? b=some o'/\(X.H₀ b=none->o'=o)):=by
 have nx:∀b:UN,b∉X.ex:=λb=>by rw[hx];simp
 have nc:∀b o,X.s₀.heap.get? b=some o->b∉ch:=λb o q z=>by
  rcases(hch b z).2.2.2.1 with y | y
  ·exact nx b y
  ·exact absurd (aL (aE q) y) (gn _)
 have HM:∀b o,X.s₀.heap.get? b=some o->b∉frs X.outer->∃o',B.get? b=some o'/\(X.H₀ b=none->o'=o):=λb o q hb=>by
  obtain⟨o1,q1⟩:=I.base.there b o q (nx b)
  obtain⟨o2,q2,q3⟩:=K_ b o1 q1 (Ee I hst hf q hb) (nc b o q)
  refine⟨o2,q2,λn=>?_⟩
  have q4:=I.base.keep b o q n hb (nx b)
  rw[q4] at q1
  cases q1
  exact q3 (I.base.free b o q n (nx b))
 have sl:∀b o,X.s₀.heap.get? b=some o->X.H₀ b=none->b∈frs X.outer->∃sl,h2.get? b=some { o with slots:=sl }:=λb o q n hb=>by
  obtain⟨s1,q1⟩:=I.base.slot b o q n hb (nx b)
  obtain⟨s2,q2⟩:=un.slot b _ q1 (I.base.free b o q n (nx b)) (As hst hf hb) (nc b o q)
  obtain⟨_,o3,q3,q4⟩:=I.ok.pg.mem hb
  rw[q] at q3
  cases q3
  obtain⟨s3,q5⟩:=up b _ q2 q4
  exact⟨s3,q5⟩
 refine⟨⟨λb o q n hb _=>?_,λb o q n hb _=>sl b o q n hb,λb o q n _=>?_,λb o q _=>?_,λb xs h=>un.tups b xs (I.base.tups b xs h),λb o u h=>un.mQ b o u (I.base.mQ b o u h),λb ps h=>?_⟩,HM⟩
 ·obtain⟨o2,q2,q3⟩:=HM b o q hb
  rw[q3 n] at q2
  exact stay b o q2
 ·obtain⟨o1,q1⟩:=I.base.there b o q (nx b)
  exact un.free b o1 q1 (I.base.free b o q n (nx b)) (nc b o q)
 ·by_cases hb:b∈frs X.outer
  ·obtain⟨s3,q3⟩:=sl b o q (I.ok.Kp b hb) hb
   exact⟨_,q3⟩
  ·obtain⟨o2,q2,_⟩:=HM b o q hb
   exact⟨o2,stay b o2 q2⟩
 ·obtain⟨m1,t1⟩:=I.base.pf b ps h
  obtain⟨m2,t2⟩:=un.pf b _ t1
  exact⟨m1++m2,by rw[<-Array.append_assoc];exact t2⟩
theorem tm(hx:X.ex=[])(hst:X.stack=X.env::X.outer)(hf:X.env.frame=some X.env.locals)(I:Inv X pins σ Hc sc)(F:u9 X pins Hc sc H' cls e s')
  (k:∀s2,sU X.prog X.w X.outer X.H₀ X.s₀ H' cls e s2->Q () s2):U7 (model X.prog X.w) X.A (leaving X.env e) Q E s':=by
 obtain⟨a,a0,nt,B,ch,rfl,os,bare,hch,un,hok,fl,K_⟩:=F
 have hfr:X.A.frames=some (X.env::X.outer):=by rw[I.ok.frames,hst]
 rw[hst] at fl
 unfold leaving
 refine U8 (Au hfr hf fl λh1 hd1 up1=>?_)
 refine FE hd1 λh2 C_ N9=>k _ ?_
 obtain⟨k1,k2,⟨_,_,k3⟩,k4⟩:=C_
 obtain⟨u2,c2⟩:=Av hx hst hf I hch un (up1.trans N9) k1 K_
 exact⟨a,a0,B,rfl,os.trans I.os,bare,u2,hok,⟨k1,k2,k3,k4⟩,c2⟩
theorem Aw{P:UR}{w:UU}{H:Hp}{h:Heap}{l:List UN}(ok:kN P w H h)(fr:∀b∈l,H b=none):kN P w H (PySem.W.hideAll h l):=λa o q=>
 (ok a o q).stay (λb u hb r=>PySem.W.hideAll_get _ r λz=>by
  have n:=fr b z
  rcases hb with hb | hb
  ·rw[hb,q] at n;cases n
  ·rw[hb] at n;cases n) (λ_ r=>r) λ_ _ r=>r
theorem vg{a C:UN}{args:List UT}(hx:X.ex=[])(hst:X.stack=X.env::X.outer)(hf:X.env.frame=some X.env.locals)(I:Inv X pins σ Hc sc)(ho:s'.os=sc.os)(R6:s'.gens=sc.gens)
  (M:Aa sc.heap s'.heap a (.ref C) args)(k:∀s2,sU X.prog X.w X.outer X.H₀ X.s₀ Hc (.ref C) (.ref a) s2->Q () s2):U7 (model X.prog X.w) X.A (leaving X.env (.ref a)) Q E s':=by
 have hfr:X.A.frames=some (X.env::X.outer):=by rw[I.ok.frames,hst]
 have fs:sc.heap.FunFrames (PySem.W.hideAll sc.heap (frs X.stack)) (X.env::X.outer):=by
  rw[<-hst]
  exact PySem.W.funFrames_hide I.stack λenv he b hb=>List.mem_filterMap.mpr ⟨env,he,hb⟩
 unfold leaving
 refine U8 (yo (base:=PySem.W.hideAll sc.heap (frs X.stack)) hfr hf (λb o q=>PySem.W.of_hideAll _ q) fs M λh1 t hd1 up1=>?_)
 refine FE hd1 λh2 C_ N9=>k _ ?_
 have up:=up1.trans N9
 replace C_:Hg (PySem.W.hideAll sc.heap (frs X.stack)) X.outer a (.ref C) t h2:=let ⟨k1,k2,⟨_,_,k3⟩,k4⟩:=C_;⟨k1,k2,k3,k4⟩
 obtain⟨u2,c2⟩:=Av (H':=Hc) (s':=s') (ch:=[]) hx hst hf I (λb z=>by cases z) (Un.kept M.keeps) up C_.1 λb o q hb _=>⟨o,PySem.W.hideAll_get _ q hb,λ_=>rfl⟩
 exact⟨a,t,_,rfl,ho.trans I.os,by rw[show({ s' with heap:=h2 }:US).gens=sc.gens from R6];exact I.bare,u2,Aw I.hok I.qw,C_,c2⟩
end
def FQ(K:PySem.W.Frag)(m:Mp)(H:Hp)(r:Re Wv)(Q:VK)(E:XK):Prop:=match r with
 | .ok w st=>J_ K m H Q w st
 | .err c st=>∀(m':Mp)(H':Hp)(C:UN),Ext K m H m' H'->bF K m' st H'->ClsAt K c C->E (.ref C) none H'
 | .bad=>False
def spW(K:PySem.W.Frag)(n:Nat)(F:List Wv->Hs->Re Wv):Sp:=λvs H Q E=>∃m st ws,bF K m st H/\af K m H ws vs/\ws.length=n/\FQ K m H (F ws st) Q E
def ay(n:Nat)(F:List Wv->Hs->Re Wv)(g:GA):GE:=λρ st=>(g ρ st).bind λws st1=>if ws.length=n then F ws st1 else .bad
section
variable {X:Cx}
theorem Ef{k n:Nat}{f:UN}{fd:UP}{ps:List Str}{F:List Wv->Hs->Re Wv}{x:Str}{p pos:Pos}{e:Expr}{es:List Expr}{g:GA}
  (G:FnOk X.prog X.w X.K X.mg X.base (CXJ X.prog X.w) k f fd ps (spW X.K n F))(hr:ja k X.A)(hm:X.mg x=some (.ref f))(hk:PySem.W.keepIn X.K (.ref f)=true)(hb:Binds X.K fd ps [])(ha:JA X (e::es) g)(hg:Gl X x:=by rfl)
  (hdb:(x == ("__debug__":Str))=false:=by decide)(he:U6 (e::es) X.env=(false,eval e X.env)::U6 es X.env:=by rfl)(hpl:(backTo pos (U6 es X.env)).any (·.1)=false:=by rfl) :
  JE X (.Call (.Name x p) (e::es) [] pos) (ay n F g):=by
 intro ρ st σ H m Q S R p pins s I
 have args:=ha.go (T:=λvs H1=>∃ws st1 m1,f6 X σ m H (if ws.length=n then F ws st1 else .bad) Q/\Ext X.K m H m1 H1/\bF X.K m1 st1 H1/\af X.K m1 H1 ws vs) S R (au.bind p)
  λws st1 vs m1 H1 p1 e1 S1 rs=>⟨ws,st1,m1,p1,e1,S1,rs⟩
 refine wpAny_Call_Name_kw (qy I hg hm ?_ hdb)
 refine PySem.W.callWith_K (h₀:=X.base) I.ok.mod.Kn hk (bI (args pos pins s I) λus s1 ⟨vs,H1,I1,r,ws,st1,m1,p1,e1,S1,rs⟩=>⟨I1.Dv,?_⟩) he hpl
 by_cases c:ws.length=n
 ·rw[if_pos c] at p1
  let E:XK:=λcl _ H2=>∃c' st2 m2 C,cl= .ref C/\ClsAt X.K c' C/\F ws st1= .err c' st2/\Ext X.K m1 H1 m2 H2/\bF X.K m2 st2 H2
  have sp:spW X.K n F vs H1 Q E:=by
   refine⟨m1,st1,ws,S1,rs,c,?_⟩
   cases er:F ws st1 with
   | ok w st2=>rw[er] at p1;exact f6.shift (r:=.ok w st2) p1 e1
   | err c' st2=>exact λm2 H2 C e2 S2 hC=>⟨c',st2,m2,C,rfl,hC,er,e2,S2⟩
   | bad=>rw[er] at p1;exact aa p1
  have hl:us.length=ps.length:=by rw[<-r.length];exact G.len _ _ _ _ sp
  have bd:=hb s1 us I1.Dv (by rw[dE];exact hl)
  rw[dE] at bd
  refine wpAny_call (codeAny_mono (G.run X.A X.stack s1 H1 ⟨us,[]⟩ us vs Q E hr I1.NU bd r sp) λrr s2 hq=>?_)
  cases rr with
  | error x=>
   obtain⟨H2,C,fl,c',st2,m2,C',ec,hC,er,e2,S2⟩:=hq
   cases ec
   rw[er] at p1
   exact p1 m2 H2 x s2 (e1.trans e2) S2 ⟨C,pins,H1,s1,hC,I1,.inl fl.any⟩
  | ok fw=>
   cases fw with
   | ret u=>exact I1.after hq
   | next=>exact aa hq
   | brk=>exact aa hq
   | cont=>exact aa hq
 ·rw[if_neg c] at p1;exact aa p1
end
def gg(n:Nat)(g:GS):List Wv->Hs->Re Wv:=λws st=>match g (ws.map some++aY (n - ws.length) none) st with
 | .nx _ st'=> .ok .bS st'
 | .rt w st'=> .ok w st'
 | .err c _ st'=> .err c st'
 | _=> .bad
theorem Ax{K:PySem.W.Frag}{m:Mp}{H:Hp}{N:List Str}{ws:List Wv}{vs:List V}(r:af K m H ws vs)(h:ws.length<=N.length):aB K m H (ws.map some++aY (N.length - ws.length) none) (L2.start N vs):=by
 have hl:=r.length
 refine⟨by unfold L2.start;simp[hl],λi w e=>?_⟩
 by_cases hi:i < ws.length
 ·rw[fg (by simpa using hi),cU] at e
  cases q:ws[i]? with
  | none=>rw[q] at e;cases e
  | some w'=>
   rw[q] at e
   cases e
   obtain⟨x,h1,h2⟩:=r.get q
   refine⟨x,?_,h2⟩
   unfold L2.start
   rw[fg (by simp;omega),cU,h1]
   rfl
 ·rw[jb (by simpa using hi),DI] at e
  split at e<;>cases e
section
variable {P:UR} {w:UU} {K:PySem.W.Frag} {mg:Str->Option UT} {base:Heap}
theorem vh{N:List Str}{qual:Str}{scope:Scope}{f:UN}{cdv:UT}{A:UO}{outer:List Env}{s s':US}{H H':Hp}{E:XK}{σ:St}{c:PySem.Str}{e:UT}
  (r:u_ (ph (CXJ P w) P w K mg base N qual scope f cdv A outer s H E) σ H' c e s')(h:∀C,ClsAt K c C->E (.ref C) none H'):(ph (CXJ P w) P w K mg base N qual scope f cdv A outer s H E).xe e s':=by
 obtain⟨C,pins,Hc,sc,hC,I,r⟩:=r
 rcases r with fl | ⟨rfl,a,args,rfl,ho,hg,M⟩
 ·exact tm (X:=ph (CXJ P w) P w K mg base N qual scope f cdv A outer s H E) rfl rfl rfl I fl λs2 C_=>⟨H',C,C_,h C hC⟩
 ·exact vg (X:=ph (CXJ P w) P w K mg base N qual scope f cdv A outer s H E) rfl rfl rfl I ho hg M λs2 C_=>⟨H',C,C_,h C hC⟩
def Ay(K:PySem.W.Frag)(f:UN)(cdv:UT):Prop:=∃o,K.lookup f=some o/\∃fd,o.data= .func fd/\fd.code=cdv
theorem FR{x qual:Str}{st:Stmt}{f:UN}{fd:UP}{N ps:List Str}{k:Nat}{g:GS}(F:G' K x qual st f fd)(S:FnScope N ps (defScope st))
  (body:∀(cdv:UT),Ay K f cdv->∀(A:UO)(outer:List Env)(s:US)(H:Hp)(E:XK),ja k (A.deeper (envOfC qual (defScope st) s.heap.objs.size f cdv))->nU (ph (CXJ P w) P w K mg base N qual (defScope st) f cdv A outer s H E) (defBody st) g) :
  FnOk P w K mg base (CXJ P w) (k+1) f fd ps (spW K ps.length (gg N.length g)):=by
 have hpl:ps.length<=N.length:=by have:=congrArg fB S.pre;rw[aD] at this;omega
 obtain⟨oc,od,kV,doc,pm,an,cdv,ct,osl,rfl,lk,hcd⟩:=F.ex
 refine KY lk hcd S (λvs H Q E h=>?_) λA outer s H vs Q E hr h=>?_
 ·obtain⟨m,st',ws,_,r,hl,_⟩:=h
  rw[<-r.length];exact hl
 ·obtain⟨m,st',ws,S',r,hl,p⟩:=h
  refine⟨_,iw,?_⟩
  refine body cdv ⟨_,lk,_,rfl,rfl⟩ A outer s H E hr _ st' _ H m _ S' (Ax r (by omega)) ?_
  unfold gg at p
  cases e:g (ws.map some++aY (N.length - ws.length) none) st' with
  | nx ρ st2=>rw[e] at p;exact λσ m' H' e' S2 R2=>p _ m' H' e' S2 (by unfold ah;rfl)
  | rt w' st2=>rw[e] at p;exact p
  | bk ρ st2=>rw[e] at p;exact aa p
  | ct ρ st2=>rw[e] at p;exact aa p
  | err c ρ st2=>rw[e] at p;exact λσ m' H' x s' e' S2 R2 rz=>vh rz λC hC=>p m' H' C e' S2 hC
  | bad=>rw[e] at p;exact aa p
end
def OnlyT(H:Hp):Prop:=∀b,H b=none\/(∃o xs,H b=some (.mC o (.lst xs)))\/H b=some (.sG #[])
theorem OnlyT.of{H:Hp}(h:DV H):OnlyT H:=λb=>by
 rcases h b with q | q
 ·exact .inl q
 ·exact .inr (.inl q)
theorem law_sp{K:PySem.W.Frag}{F:List Wv->Hs->Re Wv}(h:∀ns:List Int,ns.length<=63->∃st,F [.ref 0] [.ic ns]= .ok (.bl true) st)(H:Hp)(a:UN)(ns:List Int)(hl:ns.length<=63)(hO:OnlyT H)(hS:j9 K H a (ns.map V.int))(hT:qO K H) :
  spW K 1 F [.ref a] H (λv _=>v= .bl true) λ_ _ _=>False:=by
 obtain⟨st,e⟩:=h ns hl
 refine⟨[a],[.ic ns],[.ref 0],⟨rfl,λl b o h1 h2=>?_,λl l' b ws Uo _ _ h2 _ k _=>?_,hT⟩,af.cons (by unfold ah;exact⟨a,rfl,rfl⟩) af.nil,rfl,?_⟩
 ·cases l with
  | zero=>
   simp at h1 h2
   subst h1 h2
   show sT K H a ns
   rcases hS with (q | ⟨o',q⟩) | q
   ·rcases hO a with z | ⟨o',xs,z⟩ | z
    ·rw[z] at q;cases q
    ·rw[z] at q;cases q
    ·rw[z] at q;cases q
   ·exact .inl ⟨o',q⟩
   ·exact .inr q
  | succ l=>simp at h1
 ·cases l with
  | zero=>simp at h2;subst h2;simp[Ob.mu] at k
  | succ l=>simp at h2
 ·rw[e]
  intro v m' H' _ _ r
  unfold ah at r
  exact r
def HN(w:Wv)(st:Hs):Re Bool:=match w with
 | .bS=> .ok false st
 | .bl b=> .ok b st
 | .int i=> .ok (i != 0) st
 | .str y=>if y.length<=lim then .ok ((y.length:Int) != 0) st else .bad
 | .tup ws=> .ok (!ws.isEmpty) st
 | .nO _=> .bad
 | .ref l=>match ak st l with
  | some ws=> .ok (!ws.isEmpty) st
  | none=> .bad
 | .ty _=> .bad
 | .cls _=> .bad
 | .sS _=> .bad
 | .fn _ _=> .bad
def lV(g:GE):GT:=λρ st=>(g ρ st).bind HN
section
variable {X:Cx}
theorem QB{m:Mp}{H:Hp}{ws:List Wv}{xs:List V}(r:af X.K m H ws xs):(!ws.isEmpty)= !xs.isEmpty:=by
 have h:=r.length
 cases ws<;>cases xs<;>simp_all
theorem nW{e:Expr}{g:GE}(h:JE X e g)(he:∀whole,isTrue e X.env whole=(do let v <-whole;standAt e.pos;holding [v] (truthy v))):JT X e (lV g) :=
 JT.of (zG a7 he) λρ st σ H m Q S R p=>h.go S R (au.bind p) λw st1 v m1 H1 p1 e1 S1 r1=>by
  cases w with
  | bS=>unfold ah at r1;subst r1;exact⟨false,rfl,p1 m1 H1 e1 S1⟩
  | bl b=>unfold ah at r1;subst r1;exact⟨b,rfl,p1 m1 H1 e1 S1⟩
  | int i=>unfold ah at r1;subst r1;exact⟨_,rfl,p1 m1 H1 e1 S1⟩
  | str y=>
   obtain⟨rfl,_⟩:=dQ r1
   have p2:gW X σ m H (if y.length<=lim then .ok ((y.length:Int) != 0) st1 else .bad) Q:=p1
   by_cases c:y.length<=lim
   ·rw[if_pos c] at p2;exact⟨_,⟨dF c,rfl⟩,p2 m1 H1 e1 S1⟩
   ·rw[if_neg c] at p2;exact aa p2
  | nO ws=>exact aa p1
  | tup ws=>
   unfold ah at r1
   obtain⟨a,xs,rfl,h1,h2⟩:=r1
   refine⟨!xs.isEmpty,.inr (.inl ⟨xs,fY.of h1,rfl⟩),?_⟩
   rw[<-QB h2]
   exact p1 m1 H1 e1 S1
  | ref l=>
   unfold ah at r1
   obtain⟨a,rfl,h1⟩:=r1
   have p2:gW X σ m H (match ak st1 l with | some ws=> .ok (!ws.isEmpty) st1 | none=> .bad) Q:=p1
   cases el:ak st1 l with
   | none=>rw[el] at p2;exact aa p2
   | some ws=>
    rw[el] at p2
    obtain⟨xs,hq,h2⟩:=S1.read h1 el
    refine⟨!xs.isEmpty,.inl ⟨xs,hq,rfl⟩,?_⟩
    rw[<-QB h2]
    exact p2 m1 H1 e1 S1
  | ty T=>exact aa p1
  | cls T=>exact aa p1
  | sS T=>exact aa p1
  | fn fp T=>exact aa p1
theorem tq{p:Nat->Bool}{x:Array Nat}(hx:x.all p=true):∀(n:Nat)(a:Array Nat),a.all p=true->((aY n x).foldl (· ++·) a).all p=true
 | 0,a,h=>h
 | n+1,a,h=>by
  rw[gv,nL]
  refine tq hx n _ ?_
  rw[Array.all_append,h,hx]
  rfl
theorem yp{x:PySem.Str}{n:Nat}(h:aC x=true):aC (sZ n x)=true:=by
 unfold aC at h ⊢
 unfold sZ
 exact tq h n #[] (by simp)
theorem p6{x:Array Nat}:∀(n:Nat)(a:Array Nat),((aY n x).foldl (· ++·) a).size=a.size+x.size * n
 | 0,a=>by simp
 | n+1,a=>by
  rw[gv,nL,p6 n,Array.size_append,Nat.mul_succ]
  omega
theorem Az{x:PySem.Str}{n:Nat}:(sZ n x).length=x.length * n:=by
 show((aY n x.cps).foldl (· ++·) #[]).size=x.cps.size * n
 rw[p6]
 simp
def p7(x:PySem.Str)(n:Int):Prop:=1 < n/\n<=100000/\x.length≠0/\x.length * n.toNat<=lim
instance {x n}:Decidable (p7 x n):=by unfold p7;infer_instance
theorem Eg:fA X (UX .Mult) (λx y H Q=>∃z n,x= .str z/\y= .int n/\p7 z n/\Q (.str (sZ n.toNat z)) H):=by
 intro pins s σ H x y v u Q I rx ry h
 obtain⟨z,n,rfl,rfl,⟨h1,h2,h3,h4⟩,q⟩:=h
 obtain⟨t,rfl⟩:=rx
 obtain⟨t',rfl⟩:=ry
 have n1:¬n < 1:=by omega
 have hlen:z.length<=lim:=by
  refine bt ?_ h4
  exact Nat.le_mul_of_pos_right _ (by omega)
 have hne:(n == 1||z.length == 0)=false:=by
  have e1:(n == 1)=false:=by rw[beq_eq_false_iff_ne];omega
  have e2:(z.length == 0)=false:=by rw[beq_eq_false_iff_ne];exact h3
  rw[e1,e2];rfl
 have hl:PySem.Builtin.Str.tooLong (z.length * n.toNat)=false:=by
  unfold PySem.Builtin.Str.tooLong
  have q:=dF h4
  first
   | exact decide_eq_false (by omega)
   | simp only[decide_eq_false_iff_not];omega
 refine PySem.P.mul_str (by
   have e1:¬n < -(2 ^ 63:Int):=by omega
   have e2:¬n >= 2 ^ 63:=by omega
   rw[decide_eq_false e1,decide_eq_false e2];rfl) (λ_ _=>?_) (λ_ _=>hl) ?_
 ·have e:((2:Int) ^ 63 - 1) / 100000<=(2 ^ 63 - 1) / n:=by
   refine Int.le_ediv_of_mul_le (by omega) ?_
   have:((2:Int) ^ 63 - 1) / 100000 * n<=((2:Int) ^ 63 - 1) / 100000 * 100000:=Int.mul_le_mul_of_nonneg_left h2 (by decide)
   exact cP this (by decide)
  have e':(1000000:Int)<=(2 ^ 63 - 1) / 100000:=by decide
  unfold lim at hlen
  omega
 ·rw[if_neg n1,if_neg (by rw[hne];exact bG)]
  exact⟨by show(sZ n.toNat z).length<=_;rw[Az];exact dF h4,.str (sZ n.toNat z),H,I.tok _,⟨_,rfl⟩,q⟩
def FT:f7
 | .int i,.int j,st=>if IntMulOk i j then .ok (.int (i * j)) st else .bad
 | .str z,.int n,st=>if p7 z n then .ok (.str (sZ n.toNat z)) st else .bad
 | _,_,_=> .bad
theorem Eh:kq X (UX .Mult) FT:=⟨_,fA.or D2 Eg,λx y a b st H m Q S rx ry p=>by
 cases x with
 | int i=>
  cases y with
  | int j=>
   cases aM rx;cases aM ry
   have p':cA X.K m H (if IntMulOk i j then .ok (.int (i * j)) st else .bad) Q:=p
   by_cases c:IntMulOk i j
   ·rw[if_pos c] at p';exact .inl ⟨i,j,rfl,rfl,c,p' _ m H Ext.refl S mkInt⟩
   ·rw[if_neg c] at p';exact aa p'
  | _=>exact aa p
 | str z=>
  cases y with
  | int n=>
   obtain⟨rfl,hz⟩:=dQ rx
   cases aM ry
   have p':cA X.K m H (if p7 z n then .ok (.str (sZ n.toNat z)) st else .bad) Q:=p
   by_cases c:p7 z n
   ·rw[if_pos c] at p';exact .inr ⟨z,n,rfl,rfl,c,p' _ m H Ext.refl S (mkStr (yp hz))⟩
   ·rw[if_neg c] at p';exact aa p'
  | _=>exact aa p
 | _=>exact aa p⟩
def b8:GE:=λ_ _=> .bad
def jg:GT:=λ_ _=> .bad
theorem aF{e:Expr}:JE X e b8:=λρ st σ H m Q S R p=>aa p
theorem jh{e:Expr}:JT X e jg:=λρ st σ H m Q S R p=>aa p
end
def jR(P:UR)(w:UU)(K:PySem.W.Frag)(mg:Str->Option UT)(base:Heap)(k:Nat)(x:Str)(n:Nat)(F:List Wv->Hs->Re Wv):Prop :=
 ∃f fd ps,FnOk P w K mg base (CXJ P w) k f fd ps (spW K n F)/\mg x=some (.ref f)/\PySem.W.keepIn K (.ref f)=true/\Binds K fd ps []
theorem jR.mono{P:UR}{w:UU}{K:PySem.W.Frag}{mg:Str->Option UT}{base:Heap}{j k:Nat}{x:Str}{n:Nat}{F:List Wv->Hs->Re Wv}(h:jR P w K mg base j x n F)(l:j<=k):jR P w K mg base k x n F:=by
 obtain⟨f,fd,ps,G,r⟩:=h
 exact⟨f,fd,ps,G.mono l,r⟩
def cb(K:PySem.W.Frag)(x:Str)(st:Stmt):Prop:=∃f fd,PySem.W.nsIn K U4 x=some (some (.ref f))/\G' K x x st f fd
theorem HP{K:PySem.W.Frag}{x:Str}{st:Stmt}{f:UN}{oc:UT}{od an:Option UN}{osl:Array (Option UT)}{kV doc pm cdv ct:UT}(a:PySem.W.nsIn K U4 x=some (some (.ref f)))
  (l:K.lookup f=some ⟨oc,od,.func (PySem.W.fnOf x x (defArgs st) (defBody st) (defScope st) .none kV doc pm an cdv ct),osl⟩)(c:PySem.W.codeIn K cdv x=true)(k:PySem.W.keepIn K (.ref f)=true):cb K x st:=⟨f,_,a,Ha l c k⟩
theorem AA:UY "isinstance"=some (.builtin "isinstance"):=by decide+kernel
theorem p8:UY "len"=some (.builtin "len"):=by decide+kernel
theorem tw:UY "int"=some (.type "int"):=by decide+kernel
theorem tD:UY "str"=some (.type "str"):=by decide+kernel
theorem AB:UY "bool"=some (.type "bool"):=by decide+kernel
theorem AD:UY "tuple"=some (.type "tuple"):=by decide+kernel
theorem AE:UY "list"=some (.type "list"):=by decide+kernel
def gM(i:Nat)(gb:GS):List Wv->bY->Hs->Rs
 | [],ρ,st=> .nx ρ st
 | w::r,ρ,st=>match gb (ρ.set i (some w)) st with
  | .nx ρ' st'=>gM i gb r ρ' st'
  | .ct ρ' st'=>gM i gb r ρ' st'
  | .bk ρ' st'=> .nx ρ' st'
  | .rt w st'=> .rt w st'
  | .err c ρ' st'=> .err c ρ' st'
  | .bad=> .bad
section
variable {X:Cx}
theorem nX(i:Nat){body:List Stmt}{gb:GS}(hb:nU X body gb){J':It}{ws:List Wv}{m1:Mp}{H1:Hp}{st1:Hs}{ρ:bY}{σ:St}{D:Ends}(S1:bF X.K m1 st1 H1)(R:aB X.K m1 H1 ρ σ)(p1:aO X m1 H1 (gM i gb ws ρ st1) D)
  (hgo:∀(k:Nat)(H:Hp)(m':Mp),Ext X.K m1 H1 m' H->k < ws.length->J'.go k H)(hstop:∀(k:Nat)(H:Hp)(m':Mp),Ext X.K m1 H1 m' H->k=ws.length->J'.stop k H)
  (hy:∀(k:Nat)(hk:k < ws.length)(H:Hp)(x:V)(H':Hp)(m':Mp),Ext X.K m1 H1 m' H->J'.zi k H x H'->H'=H/\ah X.K m' H ws[k] x) :
  ∃W:Nat->Nat->St->Hp->Prop,(∃m,W 0 m σ H1)/\∀k n σ H,W k n σ H->
   (J'.stop k H/\D.nx σ H)\/(J'.go k H/\∃N:St->Hp->Prop,(∀σ' H',N σ' H'->∃m',m' < n/\W (k+1) m' σ' H')/\∀x H',J'.zi k H x H'->wq i x σ H' λσ2 H2=>MT X body { D with nx:=N,ct:=N,bk:=D.nx } σ2 H2):=by
 let Pv:Nat->St->Hp->Prop:=λk σ H=>∃ρ st m',Ext X.K m1 H1 m' H/\bF X.K m' st H/\aB X.K m' H ρ σ/\aO X m' H (gM i gb (ws.drop k) ρ st) D
 refine⟨λk n σ H=>n=ws.length - k/\k<=ws.length/\Pv k σ H,⟨ws.length,by simp,aA _,ρ,st1,m1,Ext.refl,S1,R,p1⟩,?_⟩
 rintro k n σ2 H2 ⟨rfl,hk,ρ2,st2,m2,e2,S2,R2,p2⟩
 by_cases hlt:k < ws.length
 ·refine .inr ⟨hgo k H2 m2 e2 hlt,Pv (k+1),λσ' H' p'=>⟨ws.length - (k+1),by omega,rfl,hlt,p'⟩,λx H' y=>?_⟩
  obtain⟨ee,qV⟩:=hy k hlt H2 x H' m2 e2 y
  subst ee
  have ed:ws.drop k=ws[k]::ws.drop (k+1):=ji hlt
  rw[ed] at p2
  refine hb _ st2 _ _ m2 _ S2 (R2.set i qV) ?_
  unfold gM at p2
  cases eg:gb (ρ2.set i (some ws[k])) st2 with
  | nx ρ3 st3=>rw[eg] at p2;exact λσ3 m3 H3 e3 S3 R3=>⟨ρ3,st3,m3,e2.trans e3,S3,R3,aO.shift p2 e3⟩
  | ct ρ3 st3=>rw[eg] at p2;exact λσ3 m3 H3 e3 S3 R3=>⟨ρ3,st3,m3,e2.trans e3,S3,R3,aO.shift p2 e3⟩
  | bk ρ3 st3=>rw[eg] at p2;exact p2
  | rt w3 st3=>rw[eg] at p2;exact p2
  | err c3 ρ3 st3=>rw[eg] at p2;exact p2
  | bad=>rw[eg] at p2;exact p2
 ·have e:k=ws.length:=by omega
  subst e
  rw[AF] at p2
  exact .inl ⟨hstop _ H2 m2 e2 rfl,p2 σ2 m2 H2 Ext.refl S2 R2⟩
def N_(K:PySem.W.Frag)(tl:TE):TI:=λσ H R=>tl σ H λx H1=>∃a,x= .ref a/\(((∃xs,j9 K H1 a xs)/\R (Qn K a) H1)\/((∃xs,fY K H1 a xs)/\R (Qo K a) H1))
theorem AG{tg l:Expr}{tl:TE}(hl:PE X l tl):PI X tg l (N_ X.K tl):=by
 intro pins s σ H R I h
 refine bI (hl pins s σ H _ I h) λv s1 ⟨x,H1,I1,r1,q1⟩=>?_
 obtain⟨a,e,q1⟩:=q1
 subst e
 cases r1
 have frs:∀b∈[s1.heap.objs.size],gj X pins H1 b:=λb hb=>by
  have e:b=s1.heap.objs.size:=by simpa using hb
  subst e
  exact I1.DD (ai _) (I1.hok.fresh (ai _))
 rcases q1 with ⟨⟨xs,hq⟩,q⟩ | ⟨⟨xs,hq⟩,q⟩
 ·obtain⟨its,rv,p,hz⟩:=I1.list hq
  refine wpAny_pyIter_list p.isList ?_
  exact⟨s1.heap.objs.size,[s1.heap.objs.size],_,_,H1,rfl,I1.kept (t':=s1.toks) λb o e=>aU _ e,xX a _,⟨_,cO _ rfl,rfl,rfl⟩,frs,q⟩
 ·obtain⟨its,rv,p,hz⟩:=I1.tuple hq
  refine wpAny_pyIter_tuple (show s1.heap.IsTuple a its.toArray from p) ?_
  exact⟨s1.heap.objs.size,[s1.heap.objs.size],_,_,H1,rfl,I1.kept (t':=s1.toks) λb o e=>aU _ e,uO a _,⟨_,cO _ rfl,rfl,rfl⟩,frs,q⟩
def nY(i:Nat)(gi:GE)(gb:GS):GS:=λρ st=>(gi ρ st).bI ρ λw st1=>match w with
 | .ref l=>(match ak st1 l with | some ws=>forL i gb l ws ws ρ st1 | none=> .bad)
 | .tup ws=>gM i gb ws ρ st1
 | .nO ws=>gM i gb ws ρ st1
 | _=> .bad
theorem vi(i:Nat){x:Str}{iter:Expr}{body:List Stmt}{gi:GE}{gb:GS}{pos pos':Pos}(hN:X.N.Nodup)(hp:PassesOwn (model X.prog X.w) X.A X.env X.xe)(hc:X.calm=true)(hi:JE X iter gi)(hb:nU X body gb)
  (hx:X.N[i]? =some x)(hlo:Loc X.env.scope x)(LB:X.fn x=true\/X.env.scope.names.lookup x=some .local)
  (hs:∀x,U2 iter X.env x=pure x):JS X (.For (.Name x pos') iter body [] pos) (nY i gi gb):=by
 refine JS.of (uQ hp hc (AG a7) (qz hN hx hlo LB) iw hs) λρ st σ H m D S R p=>?_
 refine hi.go S R (aO.fh R p) λw st1 v m1 H1 p1 e1 S1 rw'=>?_
 cases w with
 | ref l=>
  have p1':aO X m H (match ak st1 l with | some ws=>forL i gb l ws ws ρ st1 | none=> .bad) D:=p1
  unfold ah at rw'
  obtain⟨a,rfl,hla⟩:=rw'
  cases el:ak st1 l with
  | none=>rw[el] at p1';exact aa p1'
  | some ws=>
   rw[el] at p1'
   obtain⟨N',q0,_⟩:=S1.read hla el
   refine⟨a,rfl,.inl ⟨⟨N',q0⟩,?_⟩⟩
   let Pv:Nat->St->Hp->Prop:=λk σ H=>∃ρ st m',Ext X.K m1 H1 m' H/\bF X.K m' st H/\aB X.K m' H ρ σ/\ak st l=some ws/\aO X m' H (forL i gb l ws (ws.drop k) ρ st) D
   refine⟨λk n σ H=>n=ws.length - k/\k<=ws.length/\Pv k σ H,⟨ws.length,by simp,aA _,ρ,st1,m1,Ext.refl,S1,R.mono e1,el,aO.shift p1' e1⟩,?_⟩
   rintro k n σ2 H2 ⟨rfl,hk,ρ2,st2,m2,e2,S2,R2,l2,p2⟩
   obtain⟨xs,hq,rws⟩:=S2.read (e2.pre _ _ hla) l2
   have hlen:=rws.length
   by_cases hlt:k < ws.length
   ·have hx':k < xs.length:=by omega
    refine .inr ⟨⟨xs,xs[k],hq,by simp[hx']⟩,Pv (k+1),λσ' H' p'=>⟨ws.length - (k+1),by omega,rfl,hlt,p'⟩,λx H' y=>?_⟩
    obtain⟨ee,y⟩:=y
    subst ee
    have ey:=y xs hq
    have ed:ws.drop k=ws[k]::ws.drop (k+1):=ji hlt
    obtain⟨x',ex',qV⟩:=rws.get (i:=k) (w:=ws[k]) (cm hlt)
    rw[ey] at ex'
    cases ex'
    rw[ed] at p2
    refine hb _ st2 _ _ m2 _ S2 (R2.set i qV) ?_
    unfold forL at p2
    cases eg:gb (ρ2.set i (some ws[k])) st2 with
    | nx ρ3 st3=>
     rw[eg] at p2
     by_cases c:ak st3 l=some ws
     ·simp only[if_pos c] at p2
      exact λσ3 m3 H3 e3 S3 R3=>⟨ρ3,st3,m3,e2.trans e3,S3,R3,c,aO.shift p2 e3⟩
     ·simp only[if_neg c] at p2;exact aa p2
    | ct ρ3 st3=>
     rw[eg] at p2
     by_cases c:ak st3 l=some ws
     ·simp only[if_pos c] at p2
      exact λσ3 m3 H3 e3 S3 R3=>⟨ρ3,st3,m3,e2.trans e3,S3,R3,c,aO.shift p2 e3⟩
     ·simp only[if_neg c] at p2;exact aa p2
    | bk ρ3 st3=>rw[eg] at p2;exact p2
    | rt w3 st3=>rw[eg] at p2;exact p2
    | err c3 ρ3 st3=>rw[eg] at p2;exact p2
    | bad=>rw[eg] at p2;exact p2
   ·have e:k=ws.length:=by omega
    subst e
    rw[AF] at p2
    exact .inl ⟨⟨xs,hq,by omega⟩,p2 σ2 m2 H2 Ext.refl S2 R2⟩
 | tup ws=>
  unfold ah at rw'
  obtain⟨a,xs,rfl,hq,rws⟩:=rw'
  have hlen:=rws.length
  refine⟨a,rfl,.inr ⟨⟨xs,fY.of hq⟩,?_⟩⟩
  refine nX i hb (ws:=ws) S1 (R.mono e1) (aO.shift p1 e1) (λk H m' e hk=>?_) (λk H m' e hk=>?_) λk hk H x H' m' e y=>?_
  ·have hx':k < xs.length:=by omega
   exact⟨xs,xs[k],fY.of (e.tup _ _ hq),by simp[hx']⟩
  ·exact⟨xs,fY.of (e.tup _ _ hq),by omega⟩
  ·obtain⟨ee,y⟩:=y
   refine⟨ee,?_⟩
   obtain⟨x',ex',qV⟩:=(af.mono e _ _ rws).get (i:=k) (w:=ws[k]) (cm hk)
   rw[y xs (fY.of (e.tup _ _ hq))] at ex'
   cases ex'
   exact qV
 | nO ws=>
  unfold ah at rw'
  obtain⟨a,xs,rfl,hq,rws⟩:=rw'
  have hlen:=rws.length
  refine⟨a,rfl,.inr ⟨⟨xs,.inr hq⟩,?_⟩⟩
  refine nX i hb (ws:=ws) S1 (R.mono e1) (aO.shift p1 e1) (λk H m' e hk=>?_) (λk H m' e hk=>?_) λk hk H x H' m' e y=>?_
  ·have hx':k < xs.length:=by omega
   exact⟨xs,xs[k],.inr hq,by simp[hx']⟩
  ·exact⟨xs,.inr hq,by omega⟩
  ·obtain⟨ee,y⟩:=y
   refine⟨ee,?_⟩
   obtain⟨x',ex',qV⟩:=(af.mono e _ _ rws).get (i:=k) (w:=ws[k]) (cm hk)
   rw[y xs (.inr hq)] at ex'
   cases ex'
   exact qV
 | _=>exact aa p1
def bC(lo:Int)(n:Nat):List Wv:=(av n).map λk:Nat=>Wv.int (lo+k)
theorem lW{lo:Int}{n k:Nat}(h:k < n):(bC lo n)[k]? =some (.int (lo+k)):=by
 unfold bC
 rw[cU,List.getElem?_range h]
 rfl
theorem tE{lo:Int}{n k:Nat}(h:k < (bC lo n).length):(bC lo n)[k]= .int (lo+k):=by
 have q:=lW (lo:=lo) (n:=n) (k:=k) (by unfold bC at h;simpa using h)
 rw[cm h] at q
 exact Option.some.inj q
theorem dS{lo:Int}{n:Nat}:(bC lo n).length=n:=by unfold bC;simp
def cN(i:Int):Prop:=-(2 ^ 62)<=i/\i < 2 ^ 62
instance {i}:Decidable (cN i):=AH _
def qW(i:Nat)(ga:GA)(gb:GS):GS:=λρ st=>(ga ρ st).bI ρ λws st1=>match ws with
 | [.int j]=>if cN j then gM i gb (bC 0 j.toNat) ρ st1 else .bad
 | _=> .bad
def qX(i:Nat)(ga:GA)(gb:GS):GS:=λρ st=>(ga ρ st).bI ρ λws st1=>match ws with
 | [.int a,.int j]=>if cN a/\cN j then gM i gb (bC a (j - a).toNat) ρ st1 else .bad
 | _=> .bad
theorem wQ(i:Nat){body:List Stmt}{gb:GS}(hb:nU X body gb){lo:Int}{n:Nat}{m1:Mp}{H1:Hp}{st1:Hs}{ρ:bY}{σ:St}{D:Ends}(S1:bF X.K m1 st1 H1)(R:aB X.K m1 H1 ρ σ)(p1:aO X m1 H1 (gM i gb (bC lo n) ρ st1) D) :
  ∃W:Nat->Nat->St->Hp->Prop,(∃m,W 0 m σ H1)/\∀k n' σ H,W k n' σ H->
   ((FC lo n).stop k H/\D.nx σ H)\/((FC lo n).go k H/\∃N:St->Hp->Prop,(∀σ' H',N σ' H'->∃m',m' < n'/\W (k+1) m' σ' H')/\∀x H',(FC lo n).zi k H x H'->wq i x σ H' λσ2 H2=>MT X body { D with nx:=N,ct:=N,bk:=D.nx } σ2 H2) :=
 nX i hb S1 R p1 (λk H m' e hk=>by rw[dS] at hk;exact hk) (λk H m' e hk=>by rw[dS] at hk;exact qN hk.symm) λk hk H x H' m' e y=>by
  obtain⟨y1,y2⟩:=y
  refine⟨y1,?_⟩
  rw[tE,y2]
  exact mkInt
theorem AI(i:Nat){x:Str}{a:Expr}{body:List Stmt}{ga:GA}{gb:GS}{pos pos' p q:Pos}(hN:X.N.Nodup)(hp:PassesOwn (model X.prog X.w) X.A X.env X.xe)(hc:X.calm=true)(hg:Gl X "range")(hm:X.mg "range"=none)(ha:JA X [a] ga)(hb:nU X body gb)
  (hx:X.N[i]? =some x)(hlo:Loc X.env.scope x)(LB:X.fn x=true\/X.env.scope.names.lookup x=some .local)(hst:U6 [a] X.env=[(false,eval a X.env)]):JS X (.For (.Name x pos') (.Call (.Name "range" p) [a] [] q) body [] pos) (qW i ga gb):=by
 refine JS.of (uQ hp hc (pP hg hm gX hst) (qz hN hx hlo LB) iw (λ_=>rfl)) λρ st σ H m D S R p=>?_
 refine ha.go S R (aO.fh R p) λws st1 vs m1 H1 p1 e1 S1 rs=>?_
 match ws,rs,p1 with
 | [],rs,p1=>exact aa p1
 | x::y::t,rs,p1=>cases x<;>exact aa p1
 | [x],rs,p1=>
  obtain⟨v,rfl,r1⟩:=kc rs
  cases x with
  | int j=>
   cases aM r1
   have p2:aO X m H (if cN j then gM i gb (bC 0 j.toNat) ρ st1 else .bad) D:=p1
   by_cases c:cN j
   ·rw[if_pos c] at p2
    exact⟨j,rfl,c.1,c.2,wQ i hb S1 (R.mono e1) (aO.shift p2 e1)⟩
   ·rw[if_neg c] at p2;exact aa p2
  | _=>exact aa p1
theorem AJ(i:Nat){x:Str}{a b:Expr}{body:List Stmt}{ga:GA}{gb:GS}{pos pos' p q:Pos}(hN:X.N.Nodup)(hp:PassesOwn (model X.prog X.w) X.A X.env X.xe)(hc:X.calm=true)(hg:Gl X "range")(hm:X.mg "range"=none)(ha:JA X [a,b] ga)(hb:nU X body gb)
  (hx:X.N[i]? =some x)(hlo:Loc X.env.scope x)(LB:X.fn x=true\/X.env.scope.names.lookup x=some .local)(hst:U6 [a,b] X.env=[(false,eval a X.env),(false,eval b X.env)])(HQ:U6 [b] X.env=[(false,eval b X.env)]):JS X (.For (.Name x pos') (.Call (.Name "range" p) [a,b] [] q) body [] pos) (qX i ga gb):=by
 refine JS.of (uQ hp hc (pQ hg hm gX hst HQ) (qz hN hx hlo LB) iw (λ_=>rfl)) λρ st σ H m D S R p=>?_
 refine ha.go S R (aO.fh R p) λws st1 vs m1 H1 p1 e1 S1 rs=>?_
 match ws,rs,p1 with
 | [],rs,p1=>exact aa p1
 | [x],rs,p1=>cases x<;>exact aa p1
 | x::y::z::t,rs,p1=>cases x<;>cases y<;>exact aa p1
 | [x,y],rs,p1=>
  obtain⟨v,v',rfl,r1,r2⟩:=vf rs
  cases x with
  | int a=>
   cases y with
   | int j=>
    cases aM r1;cases aM r2
    have p2:aO X m H (if cN a/\cN j then gM i gb (bC a (j - a).toNat) ρ st1 else .bad) D:=p1
    by_cases c:cN a/\cN j
    ·rw[if_pos c] at p2
     exact⟨a,j,rfl,⟨c.1.1,c.1.2,c.2.1,c.2.2⟩,wQ i hb S1 (R.mono e1) (aO.shift p2 e1)⟩
    ·rw[if_neg c] at p2;exact aa p2
   | _=>exact aa p1
  | _=>cases y<;>exact aa p1
theorem Ei{pos:Pos}:JS X (.Return none pos) (bN (gC .bS)):=JS.of DC λρ st σ H m D S R p=>p .bS m H Ext.refl S wL
end
abbrev zr:List UT:=[.type "ValueError",.type "Exception",.type "BaseException",.type "object"]
abbrev zt:String:="ValueError.__new__"
structure Ej(K:PySem.W.Frag)(c:PySem.Str)(C:UN):Prop where
 cls:ClsAt K c C
 exc:PySem.W.excIn K C zr zt=true
theorem k8{K:PySem.W.Frag}{h:Heap}{C:UN}(KX:K.In h)(q:PySem.W.excIn K C zr zt=true) :
  ∃(bm:List UT)(N:UN)(nm qn:Str)(bs:List UT)(hd:Bool)(sn:List Str)(sub:List UT)(ab:Bool)(col:Option Bool)(dd:Option UN)(k0 k1 k2 k3 k5:Option UT)(mN:Str->Option UT),
   h.get? C=some (excClassObj nm qn C N bs bm hd sn sub ab col dd k0 k1 k2 k3 k5 zt)/\h.Ns N mN/\mN "__init__"=none/\OwnTail h zr bm/\(∀v r,PySem.W.mroIn K C v=some r->(bg C::bm).contains v=r):=by
 unfold PySem.W.excIn at q
 split at q
 ·rename_i dd cd sl lk
  split at q
  ·rename_i C1 bm k0 k1 k2 k3 n1 k5 em es
   simp only[bf,beq_iff_eq,Bool.not_eq_true'] at q
   obtain⟨⟨⟨⟨⟨q1,q2⟩,q3⟩,q4⟩,q5⟩,q6⟩:=q
   subst q1 q2
   obtain⟨nm,bs,mro,N,qn,hd,sn,sub,ab,col,del⟩:=cd
   dsimp only at em q3 q5 q6
   subst em q3
   have R7:sl=#[k0,k1,k2,k3,some (.builtin zt),k5]:=by
    cases sl with
    | mk l=>exact congrArg Array.mk es
   subst R7
   refine⟨bm,N,nm,qn,bs,hd,sn,sub,ab,col,dd,k0,k1,k2,k3,k5,_,KX _ _ lk,.of_isNs (PySem.W.isNs_of_in KX q5),PySem.W.nsMap_none_of_in KX q5 q6,PySem.W.tail_of_in KX q4,λv r e=>?_⟩
   unfold PySem.W.mroIn PySem.W.clsIn at e
   rw[lk] at e
   first
    | exact Option.some.inj e
    | (simp at e;exact e)
  ·cases q
 ·cases q
section
variable {X:Cx}
def jj(c:PySem.Str)(ga:GA):GS:=λρ st=>(ga ρ st).bI ρ λws st1=>if ws.length<=lim then .err c ρ st1 else .bad
theorem AK{c:Str}{C:UN}{e:Expr}{es:List Expr}{ga:GA}{np cpos pos:Pos}(hc:X.calm=true)(O:Ej X.K c C)(hg:Gl X c)(hm:X.mg c=some (.ref C))(ha:JA X (e::es) ga)(hd:(c == ("__debug__":Str))=false)
  (he:U6 (e::es) X.env=(false,eval e X.env)::U6 es X.env)(hpl:(backTo cpos (U6 es X.env)).any (·.1)=false):JS X (.Raise (some (.Call (.Name c np) (e::es) [] cpos)) none pos) (jj c ga):=by
 intro ρ st σ H m D S R p pins s I
 have args:=ha.go (T:=λvs H1=>∃ws st1 m1,aO X m H (if ws.length<=lim then .err c ρ st1 else .bad) D/\Ext X.K m H m1 H1/\bF X.K m1 st1 H1/\af X.K m1 H1 ws vs) S R (aO.fh R p)
  λws st1 vs m1 H1 p1 e1 S1 rs=>⟨ws,st1,m1,p1,e1,S1,rs⟩
 obtain⟨bm,N,nm,qn,bs,LC,sn,sub,ab,col,dd,k0,k1,k2,k3,k5,mN,hC,hN,hni,T,_⟩:=k8 I.ok.mod.Kn O.exc
 refine wpAny_Raise_call_subU (C:=C) (nm:=nm) (q:=qn) (N:=N) (bs:=bs) (bm:=bm) (hdct:=LC) (sn:=sn) (sub:=sub) (ab:=ab) (col:=col) (dd:=dd) (k0:=k0) (k1:=k1) (k2:=k2) (k3:=k3) (k5:=k5) (bmB:=zr)
  F.excBase_ValueError (by decide) F.excBase_ValueError (mN:=mN) (T.hasType F.excBase_ValueError.hasBase) (I.ok.hd hc) ?_ hni (qy I hg hm ⟨rfl,?_⟩ hd)
 ·rw[he]
  show(false||(backTo cpos (U6 es X.env)).any (·.1))=false
  rw[hpl]
  rfl
 ·have go:=args cpos pins s I
  rw[he] at go ⊢
  refine G5 (bI go λus s1 ⟨vs,H1,I1,r,ws,st1,m1,p1,e1,S1,rs⟩=>?_)
  by_cases cl:ws.length<=lim
  ·rw[if_pos cl] at p1
   refine⟨rfl,by rw[<-r.length,<-rs.length];exact dF cl,I1.bk _ _ hC,hN.keeps I1.bk,T.keeps I1.bk,λh2 a M=>?_⟩
   exact p1 σ m1 H1 _ _ e1 S1 (R.mono e1) ⟨C,pins,H1,s1,O.cls,I1,.inr ⟨rfl,a,us,rfl,rfl,rfl,M⟩⟩
  ·rw[if_neg cl] at p1;exact aa p1
end
structure kf(K:PySem.W.Frag)(C:UN):Prop where
 exc:PySem.W.excIn K C zr zt=true
 ga:PySem.W.findIn K (.ref C) "__getattribute__"=some (some (.builtin "BaseException.__getattribute__"))
 gx:PySem.W.findIn K (.ref C) "__getattr__"=some none
 cl:PySem.W.findIn K (.ref C) "__class__"=some (some (.builtin "object.__class__"))
section
variable {prog:UR} {w:UU} {A:UO} {E:UT->US->Prop} {h:Heap} {g:Array GenState} {d:Drawn} {t:Nat} {os:OsState} {a C:UN} {o:Obj} {K:PySem.W.Frag}
theorem HR{R:Result->US->Prop}(Y:K.In h)(Z:kf K C)(ha:h.get? a=some o)(hc:o.cls= .ref C)(k:R (.ok (.ret (.ref C))) ⟨h,g,d,t,os⟩) :
  UZ (model prog w) A (.call (.builtin "getset_descriptor.__get__") ⟨[.builtin "object.__class__",.ref a,.ref C],[]⟩) R ⟨h,g,d,t,os⟩:=by
 obtain⟨bm,N,nm,qn,bs,LC,sn,sub,ab,col,dd,k0,k1,k2,k3,k5,mN,hC,hN,hni,T,_⟩:=k8 Y Z.exc
 have ty:(⟨h,g,d,t,os⟩:US).TypeIs (.builtin "object.__class__") "getset_descriptor":=AL
 have own:(bg C::bm).contains (.type (".".intercalate ("object.__class__".cutAt '.').dropLast))=true:=by
  rw[F.owner_object_class,AM,T.hasType (X:="object") (b:=true) (by decide)];rfl
 refine codeAny_call_builtin F.slot_gs_get.plain F.entry_gs_get (F.slot_gs_get.check _ _ _ _ _ _ _ _ ty (F.args_gs_get _ _ _) ?_)
 repeat (any_goals (first | assumption | (with_reducible refine wpAny_loadPart_at ha ?_;rw[hc]) | (with_reducible refine wpAny_isSubtype_exc hC ?_;rw[own]) | wp_step))
 refine⟨Code.quiet_builtin _ (by decide+kernel),codeAny_builtin F.entry_object_class ?_⟩
 repeat (any_goals (first | assumption | (with_reducible refine wpAny_loadPart_at ha ?_;rw[hc]) | wp_step))
theorem AN{tk:Tok}{Q:Fin->US->Prop}(Y:K.In h)(Z:kf K C)(ha:h.get? a=some o)(hc:o.cls= .ref C)(k:Q (.done (.ret (.ref C))) ⟨h,g,d,t,os⟩) :
  U7 (model prog w) A (Builtin.«object.__getattribute__» ⟨[.ref a,.str "__class__" tk],[]⟩) Q E ⟨h,g,d,t,os⟩:=by
 have ty:(⟨h,g,d,t,os⟩:US).TypeIs (.builtin "object.__class__") "getset_descriptor":=AL
 have t1:=AL
 have t2:=F.slot_gs_get.lookup
 have t3:=F.slot_gs_set.lookup
 have L:=PySem.W.looks_findIn (M:=model prog w) Y Z.cl
 repeat (any_goals (first | assumption | (with_reducible refine wpAny_loadPart_at ha ?_;rw[hc]) | with_reducible refine L.at ?_ | wp_step))
 refine HR Y Z ha hc ?_
 repeat (any_goals (first | assumption | wp_step))
theorem AO{M:Model}{nv:UT}{Q:Unit->US->Prop}(Y:K.In h)(Z:kf K C)(ha:h.get? a=some o)(hc:o.cls= .ref C)(k:Q () ⟨h,g,d,t,os⟩) :
  U7 M A (checkBuiltinCall "BaseException.__getattribute__" ⟨[.ref a,nv],[]⟩) Q E ⟨h,g,d,t,os⟩:=by
 obtain⟨bm,N,nm,qn,bs,LC,sn,sub,ab,col,dd,k0,k1,k2,k3,k5,mN,hC,hN,hni,T,_⟩:=k8 Y Z.exc
 have u1:builtinKind "BaseException.__getattribute__"=some .slot:=by decide+kernel
 have u2:splitId "BaseException.__getattribute__"=some ("BaseException","__getattribute__"):=by decide+kernel
 have u3:(bg C::bm).contains (.type "BaseException")=true:=by rw[AM,T.hasType (X:="BaseException") (b:=true) (by decide)];rfl
 have u4:=F.args_bexc_ga (.ref a) nv
 simp only[checkBuiltinCall,u1,u2]
 refine U8 ?_
 unfold isInstance
 repeat (first | (with_reducible refine wpAny_loadPart_at ha ?_;rw[hc]) | (with_reducible refine wpAny_isSubtype_exc hC ?_;rw[u3]) | wp_step)
 exact k
theorem LD{tk:Tok}{Q:UT->US->Prop}(Y:K.In h)(Z:kf K C)(ha:h.get? a=some o)(hc:o.cls= .ref C)(k:Q (.ref C) ⟨h,g,d,t,os⟩) :
  U7 (model prog w) A (getAttrBy (.ref a) (.str "__class__" tk) false) Q E ⟨h,g,d,t,os⟩:=by
 have v1:=F.excAttr_ValueError.ga.bind (.ref a)
 have v2:(m7 "BaseException.__getattribute__" == m7 "object.__getattribute__")=false:=by decide+kernel
 have v3:(onTheHeap (bg C)&&m7 "BaseException.__getattribute__" == m7 "object.__getattribute__")=false:=by rw[v2];rfl
 have v4:(false&&onTheHeap (m7 "BaseException.__getattribute__"))=false:=rfl
 have L1:=PySem.W.looks_findIn (M:=model prog w) Y Z.ga
 have L2:=PySem.W.looks_findIn (M:=model prog w) Y Z.gx
 repeat (any_goals (first | assumption | (with_reducible refine wpAny_loadPart_at ha ?_;rw[hc]) | with_reducible refine L1.at ?_ | with_reducible refine L2.at ?_ | wp_step))
 refine codeAny_call_builtin F.excAttr_ValueError.ga.plain F.entry_bexc_ga (AO Y Z ha hc (AN Y Z ha hc ?_))
 repeat (any_goals (first | assumption | wp_step))
theorem Ek{Q:Option UT->US->Prop}(Y:K.In h)(Z:kf K C)(ha:h.get? a=some o)(hc:o.cls= .ref C)(k:Q (some (.ref C)) ⟨h,g,d,t+1,os⟩) :
  U7 (model prog w) A (getAttr? (.ref a) "__class__") Q E ⟨h,g,d,t,os⟩:=by
 unfold getAttr? getAttrBy?
 repeat (any_goals (first | assumption | with_reducible apply LD Y Z ha hc | wp_step))
end
structure R9(X:Cx):Prop where
 st:X.stack=X.env::X.outer
 fr:X.env.frame=some X.env.locals
 ex:X.ex=[]
theorem yq{P:UR}{w:UU}{H:Hp}{h:Heap}{a:UN}{o:HO}(x:e_ P w H h a o):∃u,h.get? a=some u:=by
 cases o with
 | lst xs=>obtain⟨_,_,_,_,e⟩:=x;exact⟨_,e⟩
 | tup xs=>obtain⟨_,_,_,⟨ob,e,_⟩,_⟩:=x;exact⟨_,e⟩
 | dK kvs=>obtain⟨_,_,_,_,ob,_,_,e,_⟩:=x;exact⟨_,e⟩
 | dT kvs=>obtain⟨_,_,_,_,ob,_,_,e,_⟩:=x;exact⟨_,e⟩
 | dN kvs=>obtain⟨_,_,_,_,ob,_,_,e,_⟩:=x;exact⟨_,e⟩
 | set S n=>obtain⟨ob,_,_,_,e,_⟩:=x;exact⟨_,e⟩
 | ins C dx fs=>obtain⟨_,_,_,e,_⟩:=x;exact⟨_,e⟩
 | own y=>exact x
 | xd fs=>obtain⟨_,⟨_,_,_,e,_⟩,_⟩:=x;exact⟨_,e⟩
 | MH lo hi=>obtain⟨_,_,_,e⟩:=x;exact⟨_,e⟩
 | mC ob u=>obtain⟨e,_⟩:=x;exact⟨_,e⟩
 | sG ps=>exact⟨_,x⟩
 | met f y=>exact⟨_,x⟩
 | ext φ=>exact x.2.1
def LG(o:Obj):Prop:=∃vs,o.data= .fields vs/\vs[2]? =some dk
section
variable {X:Cx} {pins:List (UN×Obj)} {σ:St} {Hc H':Hp} {sc s':US} {B h2:Heap} {a C:UN} {a0:UT} {ch:List UN}
end
theorem tF{K:PySem.W.Frag}{a C:UN}(Z:kf K C):PySem.W.KitX K (.ref a) (.ref C) (zW a C) where
 ty:=λM h _ p=>by
  obtain⟨o,h1,h2,_⟩:=p
  rw[<-h2]
  exact(PySem.W.Looks.ld h1).andThen .now
 it:=λM h Y _=>by
  obtain⟨bm,N,nm,qn,bs,LC,sn,sub,ab,col,dd,k0,k1,k2,k3,k5,mN,hC,_⟩:=k8 Y Z.exc
  intro A' Q' E' s' k q
  unfold isType loadHead
  exact U8 (wpAny_loadPart (k _ _ hC) (Vb q))
 ne:=λh tp dd its n sl Y e=>by
  obtain⟨bm,N,nm,qn,bs,LC,sn,sub,ab,col,Uq,k0,k1,k2,k3,k5,mN,hC,_⟩:=k8 Y Z.exc
  refine Bool.eq_false_iff.mpr λq=>?_
  have z:C=tp:=Value.ref.inj (beq_iff_eq.mp q)
  subst z
  rw[hC] at e
  have z2:jL "type"=jL "tuple":=congrArg Obj.cls (Option.some.inj e)
  exact absurd z2 (by decide)
 ca:=λ{prog w A E Q s} Y p k=>by
  obtain⟨o,h1,h2,_⟩:=p
  obtain⟨h,g,d,t,os⟩:=s
  exact Ek Y Z h1 h2 k
abbrev Tab:=List ((PySem.Str×PySem.Str)×Bool)
abbrev vj:=List ((PySem.Str×String)×Bool)
structure TabOk(K:PySem.W.Frag)(tb:Tab)(tt:vj)(tc:Tab):Prop where
 own:∀c d b C D,tb.lookup (c,d)=some b->ClsAt K c C->ClsAt K d D->kf K C/\PySem.W.kitOne K (.ref C) (.ref D)=some b
 cat:∀c d b C D,tc.lookup (c,d)=some b->ClsAt K c C->ClsAt K d D->PySem.W.excIn K C zr zt=true/\PySem.W.excIn K D zr zt=true/\PySem.W.mroIn K C (.ref D)=some b
 typ:∀c T b C,tt.lookup (c,T)=some b->ClsAt K c C->kf K C/\PySem.W.kitOne K (.ref C) (.type T)=some b
def lX(tb:Tab)(c:PySem.Str):List Wv->Option Bool
 | []=>some false
 | .cls d::r=>(match tb.lookup (c,d) with
  | some true=>some true
  | some false=>lX tb c r
  | none=>none)
 | _=>none
theorem p9{K:PySem.W.Frag}{m:Mp}{H:Hp}{tb:Tab}{tt:vj}{tc:Tab}(O:TabOk K tb tt tc){c:PySem.Str}{C:UN}(hC:ClsAt K c C):∀{ds:List Wv}{vs:List V}{its:List UT}{b:Bool},af K m H ds vs->Vals vs its->lX tb c ds=some b->PySem.W.kitAny K (.ref C) its=some b
 | [],vs,its,b,r,v,e=>by
  unfold af at r
  subst r
  cases v
  cases e
  rfl
 | w::ds,vs,its,b,r,v,e=>by
  unfold af at r
  obtain⟨x,t,rfl,r1,r2⟩:=r
  cases v with
  | cons h1 h2=>
   cases w with
   | cls d=>
    unfold ah at r1
    obtain⟨D,rfl,hD⟩:=r1
    cases h1
    unfold lX at e
    unfold PySem.W.kitAny
    cases q:tb.lookup (c,d) with
    | none=>rw[q] at e;cases e
    | some k=>
     rw[q] at e
     obtain⟨_,z3⟩:=O.own c d k C D q hC hD
     rw[z3]
     cases k with
     | true=>cases e;rfl
     | false=>exact p9 O hC r2 h2 e
   | _=>cases e
def yt(tb:Tab)(tt:vj):List Wv->Hs->Re Wv
 | [.sS c,.cls d],st=>(match tb.lookup (c,d) with | some b=> .ok (.bl b) st | none=> .bad)
 | [.sS c,.ty T],st=>(match tt.lookup (c,T) with | some b=> .ok (.bl b) st | none=> .bad)
 | [.sS c,.tup (.cls d::ds)],st=>(match lX tb c (.cls d::ds) with | some b=> .ok (.bl b) st | none=> .bad)
 | ws,st=>Lw ws st
section
variable {X:Cx}
theorem AQ:dg X (.builtin "isinstance") (λvs H Q=>∃a C v c b,vs=[.ref a,v]/\MS a C (H a)/\kf X.K C/\RelV v c/\PySem.W.kitOne X.K (.ref C) c=some b/\Q (.bl b) H):=by
 intro pins s σ H xs us Q I r h
 obtain⟨a,C,v,c,b,rfl,ha,Z,rc,e,q⟩:=h
 obtain⟨u,u',rfl,r1,r2⟩:=vals2 r
 cases r1
 have uc:u'=c:=by
  cases v with
  | int i=>obtain⟨t,rfl⟩:=rc;cases e
  | str i=>obtain⟨t,rfl⟩:=rc;cases e
  | J2 i=>obtain⟨t,rfl⟩:=rc;cases e
  | MG i=>obtain⟨t,rfl⟩:=rc;cases e
  | bS=>cases rc;cases r2;rfl
  | bl i=>cases rc;cases r2;rfl
  | ref i=>cases rc;cases r2;rfl
  | ty i=>cases rc;cases r2;rfl
 subst uc
 exact PySem.W.kia_one (tF Z) I.Dv (FF I.hok ha) e (by intro z;cases z) λtk=>⟨.bl b,H,I.tok tk,rfl,q⟩
theorem yu:dg X (.builtin "isinstance") (λvs H Q=>∃a C p xs b,vs=[.ref a,.ref p]/\MS a C (H a)/\kf X.K C/\fY X.K H p xs/\(∀its,Vals xs its->PySem.W.kitAny X.K (.ref C) its=some b)/\Q (.bl b) H):=by
 intro pins s σ H xs us Q I r h
 obtain⟨a,C,p,ys,b,rfl,ha,Z,hT,e,q⟩:=h
 obtain⟨u,u',rfl,r1,r2⟩:=vals2 r
 cases r1
 cases r2
 obtain⟨its,rv,⟨o,g1,g2,n,g3⟩,z⟩:=I.tuple hT
 obtain⟨oc,od,Ur,osl⟩:=o
 cases g2
 cases g3
 exact PySem.W.kia_tup (tF Z) I.Dv (FF I.hok ha) g1 (e its rv) (by intro z;cases z) λtk=>⟨.bl b,H,I.tok tk,rfl,q⟩
theorem HS{tb:Tab}{tt:vj}{tc:Tab}(O:TabOk X.K tb tt tc):f9 X (.builtin "isinstance") (yt tb tt):=by
 obtain⟨r,h1,h2⟩:=HK (X:=X)
 refine⟨_,AQ.or (yu.or h1),λws vs st H m Q S rs p=>?_⟩
 unfold yt at p
 split at p
 ·rename_i _ c d
  cases e:tb.lookup (c,d) with
  | none=>rw[e] at p;exact aa p
  | some b=>
   rw[e] at p
   obtain⟨v,v',rfl,r1,r2⟩:=vf rs
   unfold ah at r1 r2
   obtain⟨a,C,rfl,hC,ha⟩:=r1
   obtain⟨D,rfl,hD⟩:=r2
   obtain⟨z1,z3⟩:=O.own c d b C D e hC hD
   exact .inl ⟨a,C,.ref D,.ref D,b,rfl,ha,z1,rfl,z3,p _ m H Ext.refl S j_⟩
 ·rename_i _ c T
  cases e:tt.lookup (c,T) with
  | none=>rw[e] at p;exact aa p
  | some b=>
   rw[e] at p
   obtain⟨v,v',rfl,r1,r2⟩:=vf rs
   unfold ah at r1 r2
   obtain⟨a,C,rfl,hC,ha⟩:=r1
   subst r2
   obtain⟨z1,z3⟩:=O.typ c T b C e hC
   exact .inl ⟨a,C,.ty T,.type T,b,rfl,ha,z1,rfl,z3,p _ m H Ext.refl S j_⟩
 ·rename_i _ c d ds
  cases e:lX tb c (.cls d::ds) with
  | none=>rw[e] at p;exact aa p
  | some b=>
   rw[e] at p
   obtain⟨v,v',rfl,r1,r2⟩:=vf rs
   unfold ah at r1
   obtain⟨a,C,rfl,hC,ha⟩:=r1
   have r2':=r2
   unfold ah at r2'
   obtain⟨t,xs,rfl,hT,rx⟩:=r2'
   have Z:kf X.K C:=by
    have qV:=rx
    unfold af at qV
    obtain⟨x,r,_,rd,_⟩:=qV
    unfold ah at rd
    obtain⟨D,_,hD⟩:=rd
    unfold lX at e
    cases q:tb.lookup (c,d) with
    | none=>rw[q] at e;cases e
    | some k=>exact(O.own c d k C D q hC hD).1
   exact .inr (.inl ⟨a,C,t,xs,b,rfl,ha,Z,fY.of hT,λits hv=>p9 O hC rx hv e,p _ m H Ext.refl S j_⟩)
 ·exact .inr (.inr (h2 ws vs st H m Q S rs p))
end
section
variable {X:Cx} {pins:List (UN×Obj)} {σ:St} {H:Hp} {s:US}
def HU(X:Cx):Prop:=X.A.handled=none\/∃a o u,X.A.handled=some (.ref a)/\LG o/\X.H₀ a=some (.mC o u)
def yv(A:UO)(H:Hp):Prop:=A.handled=none\/∃a o u,A.handled=some (.ref a)/\LG o/\H a=some (.mC o u)
theorem HU.at(h:HU X)(I:Inv X pins σ H s):yv X.A H:=h.imp id λ⟨a,o,u,h1,h2,h3⟩=>⟨a,o,u,h1,h2,I.base.mQ _ _ _ h3⟩
end
section
variable {X:Cx}
end
theorem AR(x:String):aC (wz x)=true:=by
 unfold aC
 rw[FP]
 intro c hc
 have:∃ch:Char,c=ch.toNat:=by
  rw[Str.ofString_eq_toList] at hc
  simp at hc
  obtain⟨ch,_,e⟩:=hc
  exact⟨ch,e.symm⟩
 obtain⟨ch,rfl⟩:=this
 have h:=ch.valid
 simp only[decide_eq_true_eq]
 rcases h with h | ⟨_,h⟩
 ·exact du h (by decide)
 ·exact h
section
variable {X:Cx}
def El:List Wv->Hs->Re Wv
 | [.int i],st=>if i.natAbs.log2 < 1920 then .ok (.str (toString i:String)) st else .bad
 | _,_=> .bad
theorem HV:f9 X (.type "str") El:=⟨_,qC,λws vs st H m Q S r p=>by
 match ws,r,p with
 | [],r,p=>exact aa p
 | x::y::t,r,p=>cases x<;>exact aa p
 | [x],r,p=>
  obtain⟨v,rfl,rx⟩:=kc r
  cases x with
  | int i=>
   cases aM rx
   have p':cA X.K m H (if i.natAbs.log2 < 1920 then .ok (.str (toString i:String)) st else .bad) Q:=p
   by_cases c:i.natAbs.log2 < 1920
   ·rw[if_pos c] at p'
    exact⟨i,rfl,c,p' _ m H Ext.refl S (mkStr (AR _))⟩
   ·rw[if_neg c] at p';exact aa p'
  | _=>exact aa p⟩
def pv(o v:Wv)(st:Hs):Re Wv:=match o with
 | .ref l=>(match st[l]? with
  | some (.lst ws)=>if ws.length < lim then .ok .bS (st.set l (.lst (ws++[v]))) else .bad
  | _=> .bad)
 | _=> .bad
def HW(o v:Wv)(st:Hs):Re Wv:=match o,v with
 | .ref l,.ref k=>(match st[l]?,st[k]? with
  | some (.lst ws),some (.lst zs)=>if ws.length+zs.length<=lim then .ok .bS (st.set l (.lst (ws++zs))) else .bad
  | _,_=> .bad)
 | _,_=> .bad
def ki(mt:Wv->Wv->Hs->Re Wv)(go ga:GE):GE:=λρ st=>(go ρ st).bind λo st1=>match o with
 | .ref l=>(match ak st1 l with
  | some _=>(ga ρ st1).bind λv st2=>(mt o v st2).jd
  | none=> .bad)
 | _=> .bad
def FU(X:Cx)(id:String)(mt:Wv->Wv->Hs->Re Wv):Prop:=∃r,DQ X id r/\∀(o w:Wv)(x v:V)(st:Hs)(H:Hp)(m:Mp)(Q:VK),bF X.K m st H->ah X.K m H o x->ah X.K m H w v->cA X.K m H (mt o w st) Q->r x [v] H Q
theorem AS:FU X "list.append" pv:=⟨_,ye,λo w x v st H m Q S ro rw' p=>by
 cases o with
 | ref l=>
  unfold ah at ro
  obtain⟨a,rfl,ha⟩:=ro
  have p':cA X.K m H (match st[l]? with | some (.lst ws)=>if ws.length < lim then .ok .bS (st.set l (.lst (ws++[w]))) else .bad | _=> .bad) Q:=p
  cases e:st[l]? with
  | none=>rw[e] at p';exact aa p'
  | some ob=>
   cases ob with
   | dct kvs=>rw[e] at p';exact aa p'
   | zl kvs=>rw[e] at p';exact aa p'
   | yi kvs=>rw[e] at p';exact aa p'
   | zm kvs=>rw[e] at p';exact aa p'
   | zV kvs=>rw[e] at p';exact aa p'
   | ic ns=>rw[e] at p';exact aa p'
   | lst ws=>
    rw[e] at p'
    dsimp only at p'
    by_cases c:ws.length < lim
    ·rw[if_pos c] at p'
     obtain⟨xs,h1,h2⟩:=S.nQ ha e
     have e4:Ext X.K m H m (upd H a (.lst (xs++[v]))):=Ext.upd (.inr ⟨xs,h1⟩)
     exact⟨a,xs,v,rfl,rfl,h1,by rw[<-h2.length];exact Hn c,p' _ m _ e4 (S.write ha e (h2.append (af.cons rw' af.nil))) wL⟩
    ·rw[if_neg c] at p';exact aa p'
 | _=>exact aa p⟩
theorem HX:FU X "list.extend" HW:=⟨_,yf,λo w x v st H m Q S ro rw' p=>by
 cases o with
 | ref l=>
  cases w with
  | ref k=>
   unfold ah at ro rw'
   obtain⟨a,rfl,ha⟩:=ro
   obtain⟨b,rfl,hb⟩:=rw'
   have p':cA X.K m H (match st[l]?,st[k]? with | some (.lst ws),some (.lst zs)=>if ws.length+zs.length<=lim then .ok .bS (st.set l (.lst (ws++zs))) else .bad | _,_=> .bad) Q:=p
   cases e:st[l]? with
   | none=>rw[e] at p';exact aa p'
   | some ob=>
    cases ob with
    | dct kvs=>rw[e] at p';exact aa p'
    | zl kvs=>rw[e] at p';exact aa p'
    | yi kvs=>rw[e] at p';exact aa p'
    | zm kvs=>rw[e] at p';exact aa p'
    | zV kvs=>rw[e] at p';exact aa p'
    | ic ns=>rw[e] at p';exact aa p'
    | lst ws=>
     cases e2:st[k]? with
     | none=>rw[e,e2] at p';exact aa p'
     | some R_=>
      cases R_ with
      | dct kvs=>rw[e,e2] at p';exact aa p'
      | zl kvs=>rw[e,e2] at p';exact aa p'
      | yi kvs=>rw[e,e2] at p';exact aa p'
      | zm kvs=>rw[e,e2] at p';exact aa p'
      | zV kvs=>rw[e,e2] at p';exact aa p'
      | ic ns=>rw[e,e2] at p';exact aa p'
      | lst zs=>
       rw[e,e2] at p'
       dsimp only at p'
       by_cases c:ws.length+zs.length<=lim
       ·rw[if_pos c] at p'
        obtain⟨xs,h1,h2⟩:=S.nQ ha e
        obtain⟨ys,g1,g2⟩:=S.nQ hb e2
        have e4:Ext X.K m H m (upd H a (.lst (xs++ys))):=Ext.upd (.inr ⟨xs,h1⟩)
        exact⟨a,b,xs,ys,rfl,rfl,h1,g1,by rw[<-h2.length,<-g2.length];exact dF c,p' _ m _ e4 (S.write ha e (h2.append g2)) wL⟩
       ·rw[if_neg c] at p';exact aa p'
  | _=>exact aa p
 | _=>exact aa p⟩
theorem m8{x name:Str}{id:String}{e:Expr}{go ga:GE}{p apos cpos:Pos}{mt:Wv->Wv->Hs->Re Wv}(hm:FU X id mt)(slot:Slot "list" name id)(hty:typeOf (.builtin id)=pure (.type "method_descriptor"))(ho:JE X (.Name x p) go)(ha:JE X e ga)
  (hst:U6 [e] X.env=[(false,eval e X.env)])(hline:(apos.endLine == cpos.line)=true):JE X (.Call (.Attribute (.Name x p) name apos) [e] [] cpos) (ki mt go ga):=by
 obtain⟨r,h1,h2⟩:=hm
 have hfew:((backTo cpos (U6 [e] X.env)).all (λx=> !x.1)&&(backToKw cpos (keywordEach [] X.env)).all (λx=>x.1.isSome)&&decide ([e].length+([]:List Keyword).length+(if([]:List Keyword).isEmpty then 0 else 1) < 30))=true:=by
  rw[hst];rfl
 refine JE.of (zO PySem.F.plainAttrs_list slot hty h1 a7 gX rfl hfew hline hst rfl) λρ st σ H m Q S R p=>?_
 refine ho.go S R (au.bind p) λo st1 v m1 H1 p1 e1 S1 ro=>?_
 cases o with
 | ref l=>
  dsimp only at p1
  cases el:ak st1 l with
  | none=>rw[el] at p1;exact aa p1
  | some Us=>
   rw[el] at p1
   dsimp only at p1
   have LH:=ro
   unfold ah at LH
   obtain⟨a,rfl,hla⟩:=LH
   obtain⟨xs,hq,_⟩:=S1.read hla el
   refine⟨.inl ⟨rfl,xs,hq⟩,?_⟩
   refine(qQ ha vd hst).go S1 (R.mono e1) (ok:=λws st2=>au X σ m H (match ws with | [w]=>(mt (.ref l) w st2).jd | _=> .bad) (J_ X.K m H Q)) ?_ λws st2 vs m2 H2 p2 e2 S2 rs=>?_
   ·have p3:=(au.bind p1).imp e1 (λ_ _ q=>q)
    show au X σ m1 H1 ((ga ρ st1).bind λx st1=>(aq ρ st1).bind λxs st2=> .ok (x::xs) st2) _
    cases eg:ga ρ st1 with
    | ok w st2=>rw[eg] at p3;exact p3
    | err c st2=>rw[eg] at p3;exact p3
    | bad=>rw[eg] at p3;exact p3
   ·match ws,rs,p2 with
    | [],rs,p2=>exact aa p2
    | [w],rs,p2=>
     obtain⟨v2,rfl,Oc⟩:=kc rs
     exact h2 (.ref l) w (.ref a) v2 st2 H2 m2 Q S2 (ah.mono e2 _ _ ro) Oc (cA.shift (au.jd p2) (e1.trans e2))
    | _::_::_,rs,p2=>exact aa p2
 | _=>exact aa p1
end
section
variable {X:Cx}
def p_:List Wv->Hs->Re Wv
 | [.str z],st=> .ok (.str z) st
 | ws,st=>El ws st
theorem vk:dg X (.type "str") (λxs H Q=>∃z,xs=[.str z]/\Q (.str z) H):=by
 intro pins s σ H xs us Q I r h
 obtain⟨z,rfl,q⟩:=h
 obtain⟨u,rfl,t,rfl⟩:=vals1 r
 exact PySem.P.str_of_str ⟨.str z,H,I,⟨t,rfl⟩,q⟩
theorem Em:f9 X (.type "str") p_:=by
 obtain⟨r,h1,h2⟩:=HV (X:=X)
 refine⟨_,vk.or h1,λws vs st H m Q S rs p=>?_⟩
 unfold p_ at p
 split at p
 ·obtain⟨v,rfl,r1⟩:=kc rs
  obtain⟨rfl,hz⟩:=dQ r1
  exact .inl ⟨_,rfl,p _ m H Ext.refl S (mkStr hz)⟩
 ·exact .inr (h2 ws vs st H m Q S rs p)
def LI:List Wv->Hs->Re Wv
 | [.int i],st=> .ok (.int i) st
 | [.bl b],st=> .ok (.int (if b then 1 else 0)) st
 | _,_=> .bad
theorem HY:f9 X (.type "int") LI:=⟨_,ya,λws vs st H m Q S rs p=>by
 match ws,rs,p with
 | [],rs,p=>exact aa p
 | x::y::t,rs,p=>cases x<;>exact aa p
 | [x],rs,p=>
  obtain⟨v,rfl,r1⟩:=kc rs
  cases x with
  | int i=>cases aM r1;exact .inl ⟨i,rfl,p _ m H Ext.refl S mkInt⟩
  | bl b=>cases Lh r1;exact .inr ⟨b,rfl,p _ m H Ext.refl S mkInt⟩
  | _=>exact aa p⟩
def Oe:List Wv->Hs->Re Wv
 | [.int i,.int j],st=> .ok (.int (if j > i then j else i)) st
 | _,_=> .bad
def LJ:List Wv->Hs->Re Wv
 | [.int i,.int j],st=> .ok (.int (if j < i then j else i)) st
 | _,_=> .bad
theorem HZ(hc:X.calm=true):f9 X (.builtin "min") LJ:=⟨_,x_ hc,λws vs st H m Q S rs p=>by
 match ws,rs,p with
 | [],rs,p=>exact aa p
 | [x],rs,p=>cases x<;>exact aa p
 | x::y::z::t,rs,p=>cases x<;>cases y<;>exact aa p
 | [x,y],rs,p=>
  obtain⟨v,v',rfl,r1,r2⟩:=vf rs
  cases x with
  | int i=>
   cases y with
   | int j=>cases aM r1;cases aM r2;exact⟨i,j,rfl,p _ m H Ext.refl S mkInt⟩
   | _=>exact aa p
  | _=>cases y<;>exact aa p⟩
open Classical in
end
def qY(env:Env):List (Str×UQ)->List (Str×UN)->List (Str×UN)
 | [],acc=>acc
 | (n,k)::r,acc=>if k= .free then qY env r ((n,(env.cells.lookup n).getD 0)::acc) else qY env r acc
theorem tG(env:Env):∀(names:List (Str×UQ))(acc:List (Str×UN)),(∀y∈names,y.2= .free->∃c,env.cells.lookup y.1=some c)->
  (forIn names acc λx r=>match x with
   | (name,kind)=>if(kind == dv)=true then do let c <-cellOf env name;pure (i7 ((name,c)::r)) else(pure (i7 r):Sem _))=pure (qY env names acc)
 | [],acc,_=>rfl
 | (n,k)::r,acc,h=>by
  have ih:=λacc=>tG env r acc λy hy=>h y (aN _ hy)
  rw[List.forIn_cons]
  by_cases hk:k= .free
  ·subst hk
   obtain⟨c,e⟩:=h (n,.free) aX rfl
   have e':env.cells.lookup n=some c:=e
   have cc:cellOf env n=pure c:=by unfold cellOf;rw[e']
   simp only[beq_self_eq_true,if_true,cc]
   have q:qY env ((n,.free)::r) acc=qY env r ((n,c)::acc):=by
    show(if dv= .free then qY env r ((n,(env.cells.lookup n).getD 0)::acc) else _)=_
    rw[if_pos rfl,e']
    rfl
   rw[q,<-ih]
   rfl
  ·have hb:(k == dv)=false:=by simpa using hk
   simp only[hb,i9,if_false]
   have q:qY env ((n,k)::r) acc=qY env r acc:=by
    show(if k= .free then _ else qY env r acc)=_
    rw[if_neg hk]
   rw[q,<-ih]
   rfl
theorem En{env:Env}{scope:Scope}(h:∀y∈scope.names,y.2= .free->∃c,env.cells.lookup y.1=some c):closureFor scope env=pure (qY env scope.names []):=by
 have q:=tG env scope.names [] h
 unfold closureFor
 first
  | (rw[<-q];rfl)
  | (simp only[bind_pure];exact q)
theorem qZ{env:Env}:∀{names:List (Str×UQ)}{acc:List (Str×UN)}{y:Str}{c:UN},(∀y∈names,y.2= .free->∃c,env.cells.lookup y.1=some c)->(∀y c,acc.lookup y=some c->env.cells.lookup y=some c)->(qY env names acc).lookup y=some c->env.cells.lookup y=some c
 | [],acc,y,c,_,ha,e=>ha y c e
 | (n,k)::r,acc,y,c,h,ha,e=>by
  unfold qY at e
  by_cases hk:k= .free
  ·rw[if_pos hk] at e
   subst hk
   obtain⟨c0,e0⟩:=h (n,.free) aX rfl
   have Sa:env.cells.lookup n=some c0:=e0
   refine qZ (λy hy=>h y (aN _ hy)) (λy' c' e'=>?_) e
   rw[dU] at e'
   cases q:y' == n with
   | true=>
    rw[q] at e'
    have q':=eq_of_beq q
    subst q'
    rw[Sa] at e' ⊢
    exact e'
   | false=>rw[q] at e';exact ha y' c' e'
  ·rw[if_neg hk] at e
   exact qZ (λy hy=>h y (aN _ hy)) ha e
theorem m_{env:Env}{y:Str}:∀{names:List (Str×UQ)}{acc:List (Str×UN)},((∃c,acc.lookup y=some c)\/(y,dv)∈names)->∃c,(qY env names acc).lookup y=some c
 | [],acc,h=>by
  rcases h with h | h
  ·exact h
  ·cases h
 | (n,k)::r,acc,h=>by
  unfold qY
  by_cases hk:k= .free
  ·rw[if_pos hk]
   refine m_ ?_
   rw[dU]
   cases q:y == n with
   | true=>exact .inl ⟨_,rfl⟩
   | false=>
    rcases h with h | h
    ·exact .inl h
    ·rcases List.mem_cons.mp h with h | h
     ·cases h;simp at q
     ·exact .inr h
  ·rw[if_neg hk]
   refine m_ ?_
   rcases h with h | h
   ·exact .inl h
   ·rcases List.mem_cons.mp h with h | h
    ·cases h;exact absurd rfl hk
    ·exact .inr h
theorem lookup_mem{α β:Type}[BEq α][LawfulBEq α]{y:α}{k:β}:∀{names:List (α×β)},names.lookup y=some k->(y,k)∈names
 | [],h=>by cases h
 | (n,j)::r,h=>by
  rw[dU] at h
  cases q:y == n with
  | true=>
   rw[q] at h
   cases h
   have q':=eq_of_beq q
   subst q'
   exact aX
  | false=>rw[q] at h;exact aN _ (lookup_mem h)
theorem k9{env:Env}:∀{names:List (Str×UQ)}{y:Str},(names.map λ(n,k)=>if(k == dv&&env.scope.kind == .function&&env.kindOf n == some .cell) then(n,dw) else(n,k)).lookup y=
  (names.lookup y).map λk=>if(k == dv&&env.scope.kind == .function&&env.kindOf y == some .cell)=true then dw else k
 | [],y=>rfl
 | (n,k)::r,y=>by
  have ih:=k9 (env:=env) (names:=r) (y:=y)
  show List.lookup y ((if(k == dv&&env.scope.kind == .function&&env.kindOf n == some .cell)=true then(n,dw) else(n,k))::_)=_
  cases q:y == n with
  | true=>
   have q':=eq_of_beq q
   subst q'
   by_cases hc:(k == dv&&env.scope.kind == .function&&env.kindOf y == some .cell)=true
   ·rw[if_pos hc]
    simp only[dU,beq_self_eq_true,k_]
    rw[if_pos hc]
   ·rw[if_neg hc]
    simp only[dU,beq_self_eq_true,k_]
    rw[if_neg hc]
  | false=>
   by_cases hc:(k == dv&&env.scope.kind == .function&&env.kindOf n == some .cell)=true
   ·rw[if_pos hc];simp only[dU,q];exact ih
   ·rw[if_neg hc];simp only[dU,q];exact ih
open Classical in
def jk(ck:Hs->Prop)(gt:Wv->Hs->Re Bool)(ge:Wv->Hs->Re Wv)(l:Nat):List Wv->Hs->Option Hs
 | [],st=>some st
 | w::r,st=>match gt w st with
  | .ok false st1=>if ck st1 then jk ck gt ge l r st1 else none
  | .ok true st1=>(match ge w st1 with
   | .ok v st2=>(match pv (.ref l) v st2 with
    | .ok _ st3=>if ck st3 then jk ck gt ge l r st3 else none
    | _=>none)
   | _=>none)
  | _=>none
open Classical in
def mH(ck:Hs->Prop)(gt:Wv->Hs->Re Bool)(ge:Wv->Hs->Re Wv)(l:Nat):List Wv->Hs->Re Unit
 | [],st=> .ok () st
 | w::r,st=>match gt w st with
  | .ok false st1=>if ck st1 then mH ck gt ge l r st1 else .bad
  | .ok true st1=>(match ge w st1 with
   | .ok v st2=>(match pv (.ref l) v st2 with
    | .ok _ st3=>if ck st3 then mH ck gt ge l r st3 else .bad
    | _=> .bad)
   | .err c st2=> .err c st2
   | .bad=> .bad)
  | .err c st1=> .err c st1
  | .bad=> .bad
theorem nZ{ck:Hs->Prop}{gt:Wv->Hs->Re Bool}{ge:Wv->Hs->Re Wv}{l:Nat}{wR:Hs}:∀(ws:List Wv)(st:Hs),jk ck gt ge l ws st=some wR->mH ck gt ge l ws st= .ok () wR
 | [],st,h=>by cases h;rfl
 | w::r,st,h=>by
  unfold jk at h
  unfold mH
  cases eg:gt w st with
  | err c st1=>rw[eg] at h;cases h
  | bad=>rw[eg] at h;cases h
  | ok b st1=>
   rw[eg] at h
   cases b with
   | false=>
    dsimp only at h ⊢
    by_cases c:ck st1
    ·rw[if_pos c] at h ⊢;exact nZ r st1 h
    ·rw[if_neg c] at h;cases h
   | true=>
    dsimp only at h ⊢
    cases ee:ge w st1 with
    | err c st2=>rw[ee] at h;cases h
    | bad=>rw[ee] at h;cases h
    | ok v st2=>
     rw[ee] at h
     dsimp only at h ⊢
     cases ea:pv (.ref l) v st2 with
     | err c st3=>rw[ea] at h;cases h
     | bad=>rw[ea] at h;cases h
     | ok u st3=>
      rw[ea] at h
      dsimp only at h ⊢
      by_cases c:ck st3
      ·rw[if_pos c] at h ⊢;exact nZ r st3 h
      ·rw[if_neg c] at h;cases h
abbrev gk:=List (Str×Nat)
def i6(cs:gk)(ρ:bY):bY:=cs.map λp=>(ρ[p.2]?).getD none
def q8(cs:gk)(σ:St):St:=cs.map λp=>(σ[p.2]?).getD none
theorem Eo{K:PySem.W.Frag}{m:Mp}{H:Hp}{ρ:bY}{σ:St}(cs:gk)(R:aB K m H ρ σ):aB K m H (i6 cs ρ) (q8 cs σ):=by
 refine⟨by unfold i6 q8;simp,λi w e=>?_⟩
 unfold i6 at e
 rw[cU] at e
 cases q:cs[i]? with
 | none=>rw[q] at e;cases e
 | some p=>
  rw[q] at e
  have e':(ρ[p.2]?).getD none=some w:=by simpa using e
  cases q2:ρ[p.2]? with
  | none=>rw[q2] at e';cases e'
  | some o=>
   rw[q2] at e'
   have e2:o=some w:=e'
   subst e2
   obtain⟨v,h1,h2⟩:=R.get _ _ q2
   refine⟨v,?_,h2⟩
   unfold q8
   rw[cU,q]
   simp[h1]
def uI(X:Cx)(scope:Scope)(C:UN):List (Str×UN):=cellsFrom (C+1) scope.names (qY X.env scope.names [])
theorem lg:∀{names:List (Str×UQ)}(n:Nat)(acc:List (Str×UN))(h:Heap),(names.filter λy=>y.2 == .cell)=[]->cellsFrom n names acc=acc/\pushCells h names=h
 | [],_,_,_,_=>⟨rfl,rfl⟩
 | (y,k)::r,n,acc,h,e=>by
  cases q:(k == dw) with
  | true=>rw[AU (by exact q)] at e;cases e
  | false=>
   rw[AV (by show ¬(k == dw)=true;rw[q];exact bG)] at e
   unfold cellsFrom pushCells
   rw[q]
   exact lg n acc h e
theorem gZ{x:Str}:∀{names:List (Str×UQ)}(n:Nat)(acc:List (Str×UN))(h:Heap),(names.filter λy=>y.2 == .cell)=[(x,.cell)]->cellsFrom n names acc=(x,n)::acc/\pushCells h names=h.push { cls:=.type "cell",data:=.cell none }
 | [],_,_,_,e=>by cases e
 | (y,k)::r,n,acc,h,e=>by
  cases q:(k == dw) with
  | true=>
   rw[AU (by exact q)] at e
   have e1:=(List.cons.inj e).1
   have e2:=(List.cons.inj e).2
   cases e1
   unfold cellsFrom pushCells
   rw[q]
   exact lg _ _ _ e2
  | false=>
   rw[AV (by show ¬(k == dw)=true;rw[q];exact bG)] at e
   unfold cellsFrom pushCells
   rw[q]
   exact gZ n acc h e
theorem n0{M:Model}{A:UO}{E:UT->US->Prop}{s:US}{scope:Scope}{globals:UN}{closure:List (Str×UN)}{qual:Str}{env:Env}{Q:Env->US->Prop}
  (hQ:Q (newEnv scope s.heap.objs.size globals (cellsFrom (s.heap.objs.size+1) scope.names closure) qual none .none (some env) builtinsNs) { s with heap:=pushCells (s.heap.push { cls:=.type "dict",data:=.dict #[] }) scope.names }) :
  U7 M A (newFunctionEnv scope globals closure [] qual none .none (some env)) Q E s:=by
 simp only[newFunctionEnv,Option.isSome_some,if_true]
 refine U8 (wpAny_alloc ?_)
 refine U8 (wpAny_layCells _ (λname kind cells=>by cases hkc:kind == dw<;>simp[hkc]) _ _ _ _ ?_)
 rw[show({ s with heap:=s.heap.push { cls:=.type "dict",data:=.dict #[] } }:US).heap.objs.size=s.heap.objs.size+1 from AW ..]
 rw[List.forIn_nil]
 exact U8 (Vb (Vb hQ))
def fq(X:Cx)(scope:Scope)(x:Str)(cs:gk)(C:UN)(s0:US)(H0:Hp)(fp:List UN)(pn:List (UN×Obj))(E:UT->US->Prop):Cx where
 prog:=X.prog
 w:=X.w
 K:=X.K
 mg:=X.mg
 base:=X.base
 A:=X.A
 N:=x::cs.map (·.1)
 s₀:=s0
 H₀:=H0
 env:=compEnvC scope (uI X scope C) C X.env
 outer:=X.stack
 stack:=X.stack
 ex:=fp
 fn:=λy=>scope.names.lookup y == some .cell
 calm:=X.calm
 pn:=pn
 xe:=E
structure cJ(X:Cx)(scope:Scope)(x:Str)(cs:gk):Prop where
 kind:scope.kind= .function
 look:∀y∈scope.names,scope.names.lookup y.1=some y.2
 own:(scope.names.filter λy=>y.2 == .cell)=[]\/(scope.names.filter λy=>y.2 == .cell)=[(x,.cell)]
 var:scope.names.lookup x=some .local\/scope.names.lookup x=some .cell
 cap:∀y∈scope.names,y.2= .free->X.env.kindOf y.1=some .cell\/X.env.kindOf y.1=some .free
 at_:∀p∈cs,X.N[p.2]? =some p.1/\scope.names.lookup p.1=some .free
 nd:(x::cs.map (·.1)).Nodup
section
variable {X:Cx} {pins:List (UN×Obj)} {σ:St} {H:Hp} {s:US} {scope:Scope} {x:Str} {cs:gk}
theorem tH(I:Inv X pins σ H s){b:UN}(f:gj X pins H b):b∉frs X.stack:=λz=>by
 rcases List.mem_cons.mp (I.qv b z) with q | q
 ·exact f.2.1 q
 ·exact f.2.2.1 q
theorem cJ.has(S:cJ X scope x cs)(ok:X.Ok):∀y∈scope.names,y.2= .free->∃c,X.env.cells.lookup y.1=some c:=λy hy e=>ok.has y.1 (S.cap y hy e)
theorem cJ.AX(S:cJ X scope x cs){y:Str}(e:scope.names.lookup y=some .cell):y=x/\(scope.names.filter λy=>y.2 == .cell)=[(x,.cell)]:=by
 have h:(y,dw)∈scope.names.filter λy=>y.2 == .cell:=List.mem_filter.mpr ⟨lookup_mem e,rfl⟩
 rcases S.own with z | z
 ·rw[z] at h;cases h
 ·rw[z] at h
  have:=List.mem_singleton.mp h
  cases this
  exact⟨rfl,z⟩
theorem cJ.sub(S:cJ X scope x cs)(ok:X.Ok){C:UN}{y:Str}{c:UN}(e:(uI X scope C).lookup y=some c):(c=C+1/\y=x/\(scope.names.filter λy=>y.2 == .cell)=[(x,.cell)])\/(X.env.cells.lookup y=some c/\scope.names.lookup y≠some .cell):=by
 have old:∀{y:Str}{c:UN},(qY X.env scope.names []).lookup y=some c->X.env.cells.lookup y=some c:=λe=>qZ (S.has ok) (λ_ _ z=>by cases z) e
 unfold uI at e
 rcases S.own with z | z
 ·rw[(lg _ _ X.base z).1] at e
  refine .inr ⟨old e,λq=>?_⟩
  rw[(S.AX q).2] at z
  cases z
 ·rw[(gZ _ _ X.base z).1,dU] at e
  cases q:(y == x) with
  | true=>
   rw[q] at e
   cases e
   exact .inl ⟨rfl,eq_of_beq q,z⟩
  | false=>
   rw[q] at e
   exact .inr ⟨old e,λw=>by rw[(S.AX w).1] at q;simp at q⟩
theorem cJ.to(S:cJ X scope x cs){C:UN}{y:Str}{c:UN}(e:(qY X.env scope.names []).lookup y=some c)(n:scope.names.lookup y≠some .cell):(uI X scope C).lookup y=some c:=by
 unfold uI
 rcases S.own with z | z
 ·rw[(lg _ _ X.base z).1];exact e
 ·rw[(gZ _ _ X.base z).1,dU]
  have hx:scope.names.lookup x=some .cell:=by
   have hm:(x,dw)∈scope.names.filter λy=>y.2 == .cell:=by rw[z];exact aX
   exact S.look _ (List.mem_filter.mp hm).1
  cases q:(y == x) with
  | true=>exact absurd (by rw[eq_of_beq q];exact hx) n
  | false=>exact e
theorem cJ.H_(S:cJ X scope x cs){C:UN}{y:Str}(h:(compEnvC scope (uI X scope C) C X.env).kindOf y=some .cell\/(compEnvC scope (uI X scope C) C X.env).kindOf y=some .free):scope.names.lookup y=some .free\/scope.names.lookup y=some .cell:=by
 have q:(compEnvC scope (uI X scope C) C X.env).kindOf y=(scope.names.lookup y).map λk=>if(k == dv&&X.env.scope.kind == .function&&X.env.kindOf y == some .cell)=true then dw else k:=k9
 rw[q] at h
 cases e:scope.names.lookup y with
 | none=>rw[e] at h;simp at h
 | some k=>
  rw[e] at h
  simp only[k_,Option.some.injEq] at h
  by_cases hk:k= .free
  ·rw[hk];exact .inl rfl
  ·have hb:(k == dv)=false:=by simpa using hk
   rw[hb] at h
   simp only[Bool.false_and,i9,if_false] at h
   rcases h with h | h
   ·rw[h];exact .inr rfl
   ·exact absurd h hk
theorem cJ.AY(S:cJ X scope x cs){C:UN}{y:Str}(e:scope.names.lookup y=some .free):(compEnvC scope (uI X scope C) C X.env).kindOf y=some .cell\/(compEnvC scope (uI X scope C) C X.env).kindOf y=some .free:=by
 have q:(compEnvC scope (uI X scope C) C X.env).kindOf y=(scope.names.lookup y).map λk=>if(k == dv&&X.env.scope.kind == .function&&X.env.kindOf y == some .cell)=true then dw else k:=k9
 rw[q,e]
 simp only[k_]
 split
 ·exact .inl rfl
 ·exact .inr rfl
theorem AZ{fp:List UN}{tk:Nat}{E:UT->US->Prop}(S:cJ X scope x cs)(I:Inv X pins σ H s)(hf:∀b∈fp,gj X pins H b)(hl:∀b∈fp,b < s.heap.objs.size) :
  Inv (fq X scope x cs s.heap.objs.size s H fp (X.pn++pins) E) [] (none::q8 cs σ) H { s with heap:=pushCells (s.heap.push { cls:=.type "dict",data:=.dict #[] }) scope.names,toks:=tk }:=by
 have keep:∀b o,s.heap.get? b=some o->(pushCells (s.heap.push { cls:=.type "dict",data:=.dict #[] }) scope.names).get? b=some o:=λb o e=>pushCells_keeps _ _ b o (aU _ e)
 have ns:(pushCells (s.heap.push { cls:=.type "dict",data:=.dict #[] }) scope.names).Ns s.heap.objs.size λ_=>none:=(Heap.Ns.new s.heap (.type "dict")).keeps (pushCells_keeps _ _)
 have own:(scope.names.filter λy=>y.2 == .cell)=[(x,.cell)]->(pushCells (s.heap.push { cls:=.type "dict",data:=.dict #[] }) scope.names).IsCell (s.heap.objs.size+1) none:=λz=>by
  rw[(gZ 0 [] _ z).2]
  have:=cO (s.heap.push { cls:=.type "dict",data:=.dict #[] }) (o:={ cls:=.type "cell",data:=.cell none }) rfl
  rw[AW] at this
  exact⟨_,this,rfl⟩
 generalize (pushCells (s.heap.push { cls:=.type "dict",data:=.dict #[] }) scope.names)=h2 at keep ns own ⊢
 have sub:=λ{y:Str}{c:UN}(e:(uI X scope s.heap.objs.size).lookup y=some c)=>S.sub I.ok e
 have cellK:∀y c,X.env.cells.lookup y=some c->∀v,s.heap.IsCell c v->h2.IsCell c v:=λy c _ v ⟨o,ho,hd⟩=>⟨o,keep c o ho,hd⟩
 have lt:∀{y:Str}{c:UN},X.env.cells.lookup y=some c->c < s.heap.objs.size:=λ{y c} e=>by
  obtain⟨v,z⟩:=I.cell y c e
  exact z.lt
 refine⟨⟨I.ok.mod,S.kind,I.ok.glob,I.ok.blt,ai _,(λy z c e1 e2=>?_),λy h=>?_,(λy c e1 e2=>?_),I.ok.hd,I.ok.frames,.inl rfl,λb hb=>⟨a6 (hl b hb),λy c e=>?_⟩,I.bs,bt I.ok.J4 I.sz,λb o e hb=>?_,λb hb=>tH I (hf b hb),I.stack,I.qw⟩,rfl,I.bare,Un.kept keep,⟨_,ns,λi y v e1 e2 e3=>?_⟩,(λy c e=>?_),I.fresh,(λy c e=>?_),λp hp=>?_,I.hok.kept keep,by unfold fq q8;simp⟩
 ·rcases sub e1 with ⟨q1,q2,_⟩ | ⟨q1,_⟩<;>rcases sub e2 with ⟨q3,q4,_⟩ | ⟨q3,_⟩
  ·rw[q2,q4]
  ·exact absurd (lt q3) (by rw[q1];exact Nat.not_lt.mpr (fD _))
  ·exact absurd (lt q1) (by rw[q3];exact Nat.not_lt.mpr (fD _))
  ·exact I.ok.inj y z c q1 q3
 ·rcases S.H_ h with k | k
  ·obtain⟨c,e⟩:=m_ (env:=X.env) (y:=y) (names:=scope.names) (acc:=[]) (.inr (lookup_mem k))
   exact⟨c,S.to e (by rw[k];decide)⟩
  ·obtain⟨rfl,z⟩:=S.AX k
   refine⟨s.heap.objs.size+1,?_⟩
   show(uI X scope s.heap.objs.size).lookup y=_
   unfold uI
   rw[(gZ _ _ s.heap z).1,dU,beq_self_eq_true]
 ·rcases sub e2 with ⟨q1,_,_⟩ | ⟨_,q2⟩
  ·rw[q1];exact fD _
  ·exact absurd (eq_of_beq e1) q2
 ·rcases sub e with ⟨q1,_,_⟩ | ⟨q1,_⟩
  ·rw[q1];exact qA (jS (hl b hb))
  ·exact(hf b hb).2.2.2.2.1 y c q1
 ·rcases(hf b hb).2.2.2.1 with z | z
  ·exact I.ok.Gg b o e z
  ·exact absurd (aL (aE e) (bt I.ok.J4 z)) (gn _)
 ·cases i with
  | zero=>cases e2
  | succ i=>
   have LK:(cs.map (·.1))[i]? =some y:=e1
   have Kc:(q8 cs σ)[i]? =some (some v):=e2
   unfold q8 at Kc
   rw[cU] at LK Kc
   cases q:cs[i]? with
   | none=>rw[q] at LK;cases LK
   | some p=>
    rw[q] at LK Kc
    have y1:p.1=y:=by simpa using LK
    have e4:(σ[p.2]?).getD none=some v:=by simpa using Kc
    have e5:σ[p.2]? =some (some v):=by
     cases q2:σ[p.2]? with
     | none=>rw[q2] at e4;cases e4
     | some o=>
      rw[q2] at e4
      have:o=some v:=e4
      rw[this]
    have hp:=S.at_ p (List.mem_iff_getElem?.mpr ⟨i,q⟩)
    rw[y1] at hp
    have kd:=S.cap (y,.free) (lookup_mem hp.2) rfl
    obtain⟨m,hn,hl'⟩:=I.loc
    obtain⟨u,r,l⟩:=hl' p.2 y v hp.1 e5 (.inr kd)
    refine⟨u,r,.inr ⟨S.AY hp.2,?_⟩⟩
    rcases l with ⟨l,_⟩ | ⟨_,c,e,z⟩
    ·rcases kd with kd | kd
     ·have Of:X.env.kindOf y=some .cell:=kd
      rw[Of] at l;cases l
     ·have Of:X.env.kindOf y=some .free:=kd
      rw[Of] at l;cases l
    ·obtain⟨c',e'⟩:=m_ (env:=X.env) (y:=y) (names:=scope.names) (acc:=[]) (.inr (lookup_mem hp.2))
     have e6:=S.to (C:=s.heap.objs.size) e' (by rw[hp.2];decide)
     rcases sub e6 with ⟨_,w1,w2⟩ | ⟨w1,_⟩
     ·have hm:(x,dw)∈scope.names.filter λy=>y.2 == .cell:=by rw[w2];exact aX
      have:=S.look _ (List.mem_filter.mp hm).1
      rw[<-w1,hp.2] at this
      cases this
     ·rw[e] at w1
      cases w1
      exact⟨c,e6,cellK y c e _ z⟩
 ·rcases sub e with ⟨rfl,_,q2⟩ | ⟨q1,_⟩
  ·exact⟨none,own q2⟩
  ·obtain⟨v,z⟩:=I.cell y c q1
   exact⟨v,cellK y c q1 v z⟩
 ·rcases sub e with ⟨rfl,_,_⟩ | ⟨q1,_⟩
  ·exact I.hok.fresh (fD _)
  ·exact I.mE y c q1
 ·rw[dE] at hp
  obtain⟨e,n,ne,nf,d⟩:=I.pin p hp
  refine⟨keep _ _ e,n,a6 (aE e),λz=>?_,d⟩
  rcases List.mem_cons.mp (I.qv p.1 z) with q | q
  ·exact ne q
  ·exact nf q
theorem A0{fp:List UN}{E:UT->US->Prop}{Hb He:Hp}{sb se:US}{C:UN}{σ':St}{wo:List (UN×Obj)}(I:Inv X pins σ Hb sb)(hf:∀b∈fp,gj X pins Hb b)(J:Inv (fq X scope x cs C sb Hb fp (X.pn++pins) E) wo σ' He se):Inv X pins σ He se:=by
 have un:Un (frs X.stack) fp Hb He sb.heap se.heap:=J.base
 exact I.Ks (ch:=fp) J.os un J.hok J.bare λb hb=>⟨(hf b hb).2.2.2.1,(hf b hb).2.1,(hf b hb).2.2.2.2.1,λp hp=>(hf b hb).2.2.2.2.2 p hp⟩
theorem qa{He:Hp}{se:US}{C:UN}{h2:Heap}(I:Inv X pins σ He se)(f:gj X pins He C)(same:lS C se.heap h2):Inv X pins σ He { se with heap:=h2 } :=
 I.turned (t':=se.toks) (it:=C) (λb o hb e=>(same.2 b hb).trans e) f.1 f.2.1 f.2.2.2.1 f.2.2.2.2.1 f.2.2.2.2.2
end
def A1(X:Cx):Prop:=∃(env:Env)(outer:List Env)(L:UN),X.stack=env::outer/\env.frame=some L/\X.env.frame=some L
section
variable {X:Cx} {pins:List (UN×Obj)} {σ:St} {scope:Scope} {x:Str} {cs:gk}
end
structure A2(Y:Cx->Prop)(P:UR)(w:UU)(K:PySem.W.Frag)(tg:Expr)(J:It)(fp:List UN)(it:UN)(tn:Nat->Heap->Prop):Prop where
 obj:∀i h,tn i h->∀b∈fp,∃o,h.get? b=some o/\∀v,o.data≠.cell v
 keep:∀i h h',tn i h->(∀b∈fp,∀o,h.get? b=some o->h'.get? b=some o)->tn i h'
 item:∀(X:Cx),X.prog=P->X.w=w->X.K=K->Y X->∀(i:Nat)(pins:List (UN×Obj))(s:US)(σ:St)(H:Hp)(E:UT->US->Prop),Inv X pins σ H s->(∀b∈fp,gj X pins H b)->tn i s.heap->J.go i H->U7 (model P w) X.A (pyNext (.ref it)) (λr s1=>∃u,r=some u/\
  U7 (model P w) X.A (letOwnedTupleGo tg (.ref it) u) (λ_ s2=>∃x H',Inv X pins σ H' s2/\RelV x u/\J.zi i H x H'/\tn (i+1) s2.heap/\∀b∈fp,H' b=none) E s1) E s
 done:∀(X:Cx),X.prog=P->X.w=w->X.K=K->Y X->∀(i:Nat)(pins:List (UN×Obj))(s:US)(σ:St)(H:Hp)(E:UT->US->Prop),Inv X pins σ H s->(∀b∈fp,gj X pins H b)->tn i s.heap->J.stop i H->U7 (model P w) X.A (pyNext (.ref it)) (λr s1=>r=none/\Inv X pins σ H s1) E s
 self:∀(A:UO)(i:Nat)(s:US)(Q:UT->US->Prop)(E:UT->US->Prop),tn i s.heap->Q (.ref it) s->U7 (model P w) A (pyIter (.ref it)) Q E s
abbrev Calm(X:Cx):Prop:=X.calm=true
theorem _root_.L2.Turn.y{P:UR}{w:UU}{K:PySem.W.Frag}{tg:Expr}{J:It}{fp:List UN}{it:UN}{tn:Nat->Heap->Prop}(T:Turn P w K tg J fp it tn):A2 Calm P w K tg J fp it tn:=⟨T.obj,T.keep,T.item,T.done,T.self⟩
def LL(Y:Cx->Prop)(X:Cx):Prop:=∀{pins:List (UN×Obj)}{σ:St}{H:Hp}{s:US}(scope:Scope)(x:Str)(cs:gk)(C:UN)(s0:US)(fp:List UN)(pn:List (UN×Obj))(E:UT->US->Prop),Inv X pins σ H s->Y (fq X scope x cs C s0 H fp pn E)
theorem tJ{X:Cx}(hc:X.calm=true):LL Calm X:=λ_ _ _ _ _ _ _ _ _=>hc
def Ia(X:Cx)(ifs:List Expr)(g:GT):Prop:=∀(ρ:bY)(st:Hs)(σ:St)(H:Hp)(m:Mp)(Q:Bool->Hp->Prop),bF X.K m st H->aB X.K m H ρ σ->gW X σ m H (g ρ st) Q->∀(pins:List (UN×Obj))(s:US),Inv X pins σ H s->
 U7 (model X.prog X.w) X.A (forIn ifs true λc r=>if r=true then do let ok <-isTrue c X.env (eval c X.env);pure (i7 ok) else pure (i7 r)) (TP X pins σ Q) X.xe s
section
variable {X:Cx}
theorem Ep:Ia X [] (λ_ st=> .ok true st):=λρ st σ H m Q S R p pins s I=>wpAny_tests_nil ⟨H,I,p m H Ext.refl S⟩
theorem vm{pins:List (UN×Obj)}{σ:St}{ρ:bY}{scope:Scope}{x:Str}{cs:gk}{px pos:Pos}{elt iter:Expr}{ifs:List Expr}{gt:GT}{ge:GE}{ck:Hs->Prop}{ws:List Wv}{E:UT->US->Prop}
  {use:Option (UT->Sem Unit)}{Q:UT->US->Prop}{res:Re Unit}
  {it:UN}{fp:List UN}{tn:Nat->Heap->Prop}{J':It}{H2:Hp}{s2:US}{m1:Mp}{st1:Hs}{Y:Cx->Prop}(fr:A1 X)(S:cJ X scope x cs)(hY:LL Y X)(hH:HU X)(I2:Inv X pins σ H2 s2)(T:A2 Y X.prog X.w X.K (.Name x px) J' fp it tn)(t0:tn 0 s2.heap)(f2:∀b∈fp,gj X pins H2 b)
  (S1:bF X.K m1 st1 H2)(R:aB X.K m1 H2 ρ σ)(hck:ck (st1++[.lst []]))(run:mH ck (λw=>gt (some w::i6 cs ρ)) (λw=>ge (some w::i6 cs ρ)) st1.length ws (st1++[.lst []])=res)(nb:res≠.bad)(hx:∀c Sb,res≠.err c Sb)
  (hE:∀C s0 H0 pn E,yv X.A H0->JE (fq X scope x cs C s0 H0 fp pn E) elt ge)(hT:∀C s0 H0 pn E,yv X.A H0->Ia (fq X scope x cs C s0 H0 fp pn E) ifs gt)
  (hgo:∀(k:Nat)(H:Hp)(m':Mp)(st:Hs),Ext X.K m1 H2 m' H->bF X.K m' st H->ck st->k < ws.length->J'.go k H)(hstop:∀(k:Nat)(H:Hp)(m':Mp)(st:Hs),Ext X.K m1 H2 m' H->bF X.K m' st H->ck st->k=ws.length->J'.stop k H)
  (hy:∀(k:Nat)(hk:k < ws.length)(H:Hp)(v:V)(H':Hp)(m':Mp)(st:Hs),Ext X.K m1 H2 m' H->bF X.K m' st H->ck st->J'.zi k H v H'->H'=H/\ah X.K m' H ws[k] v)
  (fin:∀(wR:Hs),res= .ok () wR->∀(D C:UN)(mm:Str->Option UT)(m':Mp)(H':Hp)(s':US),Ext X.K m1 H2 m' H'->bF X.K m' wR H'->m'[st1.length]? =some D->Inv X pins σ H' s'->gj X pins H' C->s'.heap.Ns C mm->(∀y c,X.env.cells.lookup y=some c->c≠C)->U0 (model X.prog X.w) X.A X.xe use Q (.ref D) C (.ok .next) s') :
  U7 (model X.prog X.w) X.A (newList []) (λacc s3=>U7 (model X.prog X.w) X.A (newFunctionEnv scope X.env.globals (qY X.env scope.names []) [] X.env.qual none .none (some X.env)) (λcenv s4=>
   UZ (model X.prog X.w) X.A (.compStart (.ListComp elt [⟨.Name x px,iter,ifs,0⟩] scope pos) 0 (.ref it) acc { cenv with scope:=relabel scope X.env }) (U0 (model X.prog X.w) X.A X.xe use Q acc cenv.locals) s4) E s3) E s2:=by
 refine U' ?_
 have I3:Inv X pins σ (upd H2 s2.heap.objs.size (.lst [])) { s2 with heap:=s2.heap.push { cls:=.type "list",data:=.seq ([]:List UT).toArray } }:=I2.G7 (ys:=[]) (its:=[]) (t':=s2.toks) .nil (aA _)
 have Sd:∀b∈fp,b < s2.heap.objs.size:=λb hb=>by
  obtain⟨o,e,_⟩:=T.obj _ _ t0 b hb
  exact aE e
 have hD:H2 s2.heap.objs.size=none:=I2.fresh
 have f3:∀b∈fp,gj X pins (upd H2 s2.heap.objs.size (.lst [])) b:=λb hb=>⟨by rw[bj (a6 (Sd b hb))];exact(f2 b hb).1,(f2 b hb).2⟩
 have S3:=S1.alloc (ws:=[]) (xs:=[]) hD af.nil
 have e3:Ext X.K m1 H2 (m1++[s2.heap.objs.size]) (upd H2 s2.heap.objs.size (.lst [])):=Ext.more.trans (Ext.upd (.inl hD))
 have MW:(m1++[s2.heap.objs.size])[st1.length]? =some s2.heap.objs.size:=by
  rw[<-S1.len,jb (ai _),kU];rfl
 generalize FV:({ s2 with heap:=s2.heap.push { cls:=.type "list",data:=.seq ([]:List UT).toArray } }:US)=s3 at I3
 have QC:∀b o,s2.heap.get? b=some o->s3.heap.get? b=some o:=λb o e=>by rw[<-FV];exact aU _ e
 have Og:∀b∈fp,b < s3.heap.objs.size:=λb hb=>by
  obtain⟨o,e,_⟩:=T.obj _ _ t0 b hb
  exact aE (QC b o e)
 generalize Ut:s2.heap.objs.size=D at *
 generalize Uu:upd H2 D (.lst [])=H3 at *
 generalize Uv:m1++[D]=m3 at *
 have R3:aB X.K m3 H3 (i6 cs ρ) (q8 cs σ):=(Eo cs R).mono e3
 generalize hrr:i6 cs ρ=ρc at *
 generalize hss:q8 cs σ=σc at *
 refine n0 ?_
 have Ic:=λE=>AZ (E:=E) (tk:=s3.toks) S I3 f3 Og
 have QD:∀b o,s3.heap.get? b=some o->(pushCells (s3.heap.push { cls:=.type "dict",data:=.dict #[] }) scope.names).get? b=some o:=λb o e=>pushCells_keeps _ _ b o (aU _ e)
 generalize (pushCells (s3.heap.push { cls:=.type "dict",data:=.dict #[] }) scope.names)=h4 at Ic QD ⊢
 have t4:tn 0 h4:=T.keep _ _ _ t0 λb _ o e=>QD b o (QC b o e)
 let EX:UT->US->Prop:=notedBy (model X.prog X.w) X.A (compEnvC scope (uI X scope s3.heap.objs.size) s3.heap.objs.size X.env) λe s'=>U0 (model X.prog X.w) X.A X.xe use Q (.ref D) s3.heap.objs.size (.error e) s'
 let Xc:=fq X scope x cs s3.heap.objs.size s3 H3 fp (X.pn++pins) EX
 have noted:∀{σ':St}{m:Mp}{H:Hp}{c:Str}{st:Hs},Ext X.K m1 H2 m H->res= .err c st->J9 Xc σ' m H c st:=λ_ er=>(hx _ _ er).elim
 have vis:Loc Xc.env.scope x/\(Xc.fn x=true\/Xc.env.scope.names.lookup x=some .local):=by
  rcases S.var with v | v
  ·exact⟨.inl (lookup_relabel_local v),.inr (lookup_relabel_local v)⟩
  ·have q:Xc.env.scope.names.lookup x=some .cell:=by
    show(scope.names.map _).lookup x=_
    rw[k9,v]
    rfl
   exact⟨.inr q,.inl (by show(scope.names.lookup x == some .cell)=true;rw[v];rfl)⟩
 have Oh:∀(H':Hp),(∀b∈fp,H' b=none)->∀b∈fp,gj Xc [] H' b:=λH' hn b hb=>⟨hn b hb,a6 (Og b hb),tH I3 (f3 b hb),.inl hb,λy c e=>(by
  rcases S.sub I3.ok e with ⟨q1,_,_⟩ | ⟨q1,_⟩
  ·rw[q1];exact qA (jS (Og b hb))
  ·exact(f3 b hb).2.2.2.2.1 y c q1),λp hp=>(f2 b hb).2.2.2.2.2 p (by have QE:p∈(X.pn++pins)++[]:=hp;rw[dE] at QE;exact QE)⟩
 let Pv:Nat->US->Prop:=λk s'=>∃z H' st m',Inv Xc [] (z::σc) H' s'/\tn k s'.heap/\(∀b∈fp,H' b=none)/\Ext X.K m3 H3 m' H'/\bF X.K m' st H'/\ck st/\mH ck (λw=>gt (some w::ρc)) (λw=>ge (some w::ρc)) st1.length (ws.drop k) st=res
 have loop:∀s4:US,Pv 0 s4->UZ (model X.prog X.w) X.A (.compLoop (.ListComp elt [⟨.Name x px,iter,ifs,0⟩] scope pos) 0 (.ref it) (.ref D) (compEnvC scope (uI X scope s3.heap.objs.size) s3.heap.objs.size X.env)) (U0 (model X.prog X.w) X.A X.xe use Q (.ref D) s3.heap.objs.size) s4:=λs4 p0=>by
  refine codeAny_compLoop_tests (λn s'=>∃k,n=ws.length - k/\k<=ws.length/\Pv k s') ?_ ws.length ⟨0,by simp,aA _,p0⟩
  rintro n s5 ⟨k,rfl,hk,z5,H5,sN,m5,I5,QF,MM,e5,S5,c5,dH⟩
  have Ke:=e3.trans e5
  by_cases hlt:k < ws.length
  ·refine bI (T.item Xc rfl rfl rfl (hY _ _ _ _ _ _ _ _ I3) k [] s5 (z5::σc) H5 _ I5 (Oh H5 MM) QF (hgo k H5 m5 sN Ke S5 c5 hlt)) λr s6 h6=>?_
   obtain⟨u,rfl,h6⟩:=h6
   show U7 (model X.prog X.w) X.A (pure () >>= λ_=>assign (.Name x px) Xc.env u) _ _ s6
   refine U8 (bI h6 λ_ s7 h7=>?_)
   obtain⟨v,H7,I7,rv,yl,Oi,Se⟩:=h7
   obtain⟨rfl,Sf⟩:=hy k hlt H5 v H7 m5 sN Ke S5 c5 yl
   have Sg:=I7.pinned (Oh H7 Se) (T.obj _ _ Oi)
   refine wpAny_assign_Name (nD (i:=0) Sg S.nd rfl vis.1 rv (λs8 I8=>?_) vis.2)
   have QG:Inv Xc ([]++fZ fp s7.heap) (some v::σc) H7 s8:=I8
   have R8:aB X.K m5 H7 (some ws[k]::ρc) (some v::σc):=by
    have R5:=R3.mono e5
    refine⟨by simp[R5.len],λi w e=>?_⟩
    cases i with
    | zero=>
     cases e
     exact⟨v,rfl,Sf⟩
    | succ i=>exact R5.get i w e
   have ed:ws.drop k=ws[k]::ws.drop (k+1):=ji hlt
   rw[ed] at dH
   unfold mH at dH
   have back:∀{H':Hp}{s':US}{m':Mp}{st:Hs},Inv Xc ([]++fZ fp s7.heap) (some v::σc) H' s'->Ext X.K m3 H3 m' H'->bF X.K m' st H'->ck st->mH ck (λw=>gt (some w::ρc)) (λw=>ge (some w::ρc)) st1.length (ws.drop (k+1)) st=res->∃n',n' < ws.length - k/\∃k',n'=ws.length - k'/\k'<=ws.length/\Pv k' s' :=
    λ{H' s' m' st} I' e' S' c' r'=>⟨ws.length - (k+1),by omega,k+1,rfl,hlt,some v,H',st,m',I'.kQ,T.keep _ _ _ Oi λb hb o e=>(I'.pin (b,o) (cg _ (cg _ (iq hb e)))).1,λb hb=>by
     obtain⟨o,e,_⟩:=T.obj _ _ Oi b hb
     exact(I'.pin (b,o) (cg _ (cg _ (iq hb e)))).2.1,e',S',c',r'⟩
   cases eg:gt (some ws[k]::ρc) sN with
   | err c Kf=>
    rw[eg] at dH
    refine U_ (hT s3.heap.objs.size s3 H3 (X.pn++pins) EX (hH.at I3) (some ws[k]::ρc) sN (some v::σc) H7 m5 (λ_ _=>False) S5 R8 (by rw[eg];exact noted Ke dH.symm) ([]++fZ fp s7.heap) s8 QG) (λ_ _ h9=>?_) λ_ _ z=>z
    obtain⟨_,_,z⟩:=h9
    exact z.elim
   | bad=>rw[eg] at dH;exact absurd dH.symm nb
   | ok b Kf=>
    rw[eg] at dH
    have Ka:=hT s3.heap.objs.size s3 H3 (X.pn++pins) EX (hH.at I3) (some ws[k]::ρc) sN (some v::σc) H7 m5 (λb' H'=>b'=b/\∃m',Ext X.K m5 H7 m' H'/\bF X.K m' Kf H') S5 R8 (by rw[eg];exact λm' H' e' S'=>⟨rfl,m',e',S'⟩) ([]++fZ fp s7.heap) s8 QG
    refine U_ Ka (λok s9 h9=>?_) λ_ _ z=>z
    obtain⟨H9,I9,rfl,m9,e9,S9⟩:=h9
    cases ok with
    | false=>
     dsimp only at dH
     by_cases c6:ck Kf
     ·rw[if_pos c6] at dH
      rw[if_neg bG]
      exact back I9 (e5.trans e9) S9 c6 dH
     ·rw[if_neg c6] at dH;exact absurd dH.symm nb
    | true=>
     dsimp only at dH
     rw[if_pos rfl]
     cases ee:ge (some ws[k]::ρc) Kf with
     | err c MX=>
      rw[ee] at dH
      refine U_ (hE s3.heap.objs.size s3 H3 (X.pn++pins) EX (hH.at I3) (some ws[k]::ρc) Kf (some v::σc) H9 m9 (λ_ _=>False) S9 (R8.mono e9) (by rw[ee];exact noted (Ke.trans e9) dH.symm) ([]++fZ fp s7.heap) s9 I9) (λ_ _ Oj=>?_) λ_ _ z=>z
      obtain⟨_,_,_,_,z⟩:=Oj
      exact z.elim
     | bad=>rw[ee] at dH;exact absurd dH.symm nb
     | ok w MX=>
      rw[ee] at dH
      dsimp only at dH
      cases ea:pv (.ref st1.length) w MX with
      | err c Ol=>rw[ea] at dH;exact absurd dH.symm nb
      | bad=>rw[ea] at dH;exact absurd dH.symm nb
      | ok w2 Ol=>
       rw[ea] at dH
       dsimp only at dH
       by_cases c8:ck Ol
       ·rw[if_pos c8] at dH
        have el:=hE s3.heap.objs.size s3 H3 (X.pn++pins) EX (hH.at I3) (some ws[k]::ρc) Kf (some v::σc) H9 m9 (λv' H'=>∃m',Ext X.K m9 H9 m' H'/\bF X.K m' MX H'/\ah X.K m' H' w v') S9 (R8.mono e9) (by rw[ee];exact λv' m' H' e' S' r'=>⟨m',e',S',r'⟩) ([]++fZ fp s7.heap) s9 I9
        refine U_ el (λu2 q9 Oj=>?_) λ_ _ z=>z
        obtain⟨v2,Er,Sh,r2,Om,Si,Sj,Oo⟩:=Oj
        obtain⟨r,h1,h2⟩:=AS (X:=Xc)
        have eA:=(e5.trans e9).trans Si
        have ro:ah X.K Om Er (.ref st1.length) (.ref D):=by unfold ah;exact⟨D,rfl,eA.pre _ _ MW⟩
        have rd:=h2 (.ref st1.length) w (.ref D) v2 MX Er Om (λ_ H'=>∃m',Ext X.K Om Er m' H'/\bF X.K m' Ol H') Sj ro Oo (by rw[ea];exact λv' m' H' e' S' r'=>⟨m',e',S'⟩)
        refine U_ (h1 ([]++fZ fp s7.heap) q9 (some v::σc) Er (.ref D) [v2] (.ref D) [u2] _ Sh rfl (.cons r2 .nil) rd) (λ_ Dd h11=>?_) λ_ _ z=>z
        obtain⟨_,QH,Sk,_,Uw,Sl,Sn⟩:=h11
        exact back Sk (eA.trans Sl) Sn c8 dH
       ·rw[if_neg c8] at dH;exact absurd dH.symm nb
  ·have ek:k=ws.length:=by omega
   subst ek
   refine bI (T.done Xc rfl rfl rfl (hY _ _ _ _ _ _ _ _ I3) _ [] s5 (z5::σc) H5 _ I5 (Oh H5 MM) QF (hstop _ H5 m5 sN Ke S5 c5 rfl)) λr s6 h6=>?_
   obtain⟨rfl,I6⟩:=h6
   rw[AF] at dH
   obtain⟨mm,So,_⟩:=id I6.loc
   have fC:=I3.DD (H':=H5) (ai _) I6.free
   exact fin sN dH.symm D _ mm m5 H5 _ Ke S5 (e5.pre _ _ MW) (A0 I3 f3 I6) fC So fC.2.2.2.2.1
 have p0:Pv 0 { s3 with heap:=h4,toks:=s3.toks }:=⟨none,H3,st1++[Ob.lst []],m3,hss ▸ Ic EX,t4,λb hb=>(f3 b hb).1,Ext.refl,S3,hck,by rw[cK];exact run⟩
 exact codeAny_compStart_list (loop _ p0) (T.self X.A 0 _ _ _ t4 (loop _ p0))
end
abbrev Wk:=Option Nat×List Wv
def lh(w:Wk)(st:Hs):Prop:=match w.1 with
 | some l=>ak st l=some w.2
 | none=>True
structure tK(X:Cx)(w:Wk)(m1:Mp)(H1:Hp)(J':It):Prop where
 go:∀(k:Nat)(H:Hp)(m':Mp)(st:Hs),Ext X.K m1 H1 m' H->bF X.K m' st H->lh w st->k < w.2.length->J'.go k H
 stop:∀(k:Nat)(H:Hp)(m':Mp)(st:Hs),Ext X.K m1 H1 m' H->bF X.K m' st H->lh w st->k=w.2.length->J'.stop k H
 zi:∀(k:Nat)(hk:k < w.2.length)(H:Hp)(v:V)(H':Hp)(m':Mp)(st:Hs),Ext X.K m1 H1 m' H->bF X.K m' st H->lh w st->J'.zi k H v H'->H'=H/\ah X.K m' H w.2[k] v
abbrev GI:=bY->Hs->Re Wk
def Oq(Y:Cx->Prop)(X:Cx)(pins:List (UN×Obj))(σ:St)(tg:Expr)(R:It->Hp->Prop)(itv:UT)(s2:US):Prop :=
 ∃(it:UN)(fp:List UN)(tn:Nat->Heap->Prop)(J:It)(H':Hp),itv= .ref it/\Inv X pins σ H' s2/\A2 Y X.prog X.w X.K tg J fp it tn/\tn 0 s2.heap/\(∀b∈fp,gj X pins H' b)/\R J H'
def QI(Y:Cx->Prop)(X:Cx)(tg iter:Expr)(wi:TI):Prop:=∀(pins:List (UN×Obj))(s:US)(σ:St)(H:Hp)(R:It->Hp->Prop),Inv X pins σ H s->wi σ H R->
 U7 (model X.prog X.w) X.A (eval iter X.env) (λv s1=>U7 (model X.prog X.w) X.A (pyIter v) (Oq Y X pins σ tg R) X.xe s1) X.xe s
theorem _root_.L2.PI.y{X:Cx}{tg iter:Expr}{wi:TI}(h:PI X tg iter wi):QI Calm X tg iter wi:=λpins s σ H R I q=>bI (h pins s σ H R I q) λ_ _ h1=>bI h1 λ_ _ h2=>
 let ⟨it,fp,tn,J,H',e,I',T,r⟩:=h2;⟨it,fp,tn,J,H',e,I',T.y,r⟩
def MY(Y:Cx->Prop)(X:Cx)(tg iter:Expr)(gi:GI):Prop:=∃wi,QI Y X tg iter wi/\∀(ρ:bY)(st:Hs)(σ:St)(H:Hp)(m:Mp)(R:It->Hp->Prop),bF X.K m st H->aB X.K m H ρ σ->
 au X σ m H (gi ρ st) (λw st1=>∀(m1:Mp)(H1:Hp)(J':It),Ext X.K m H m1 H1->bF X.K m1 st1 H1->lh w st1->tK X w m1 H1 J'->R J' H1)->wi σ H R
def JI(X:Cx)(tg iter:Expr)(gi:GI):Prop:=∃wi,PI X tg iter wi/\∀(ρ:bY)(st:Hs)(σ:St)(H:Hp)(m:Mp)(R:It->Hp->Prop),bF X.K m st H->aB X.K m H ρ σ->
 au X σ m H (gi ρ st) (λw st1=>∀(m1:Mp)(H1:Hp)(J':It),Ext X.K m H m1 H1->bF X.K m1 st1 H1->lh w st1->tK X w m1 H1 J'->R J' H1)->wi σ H R
theorem JI.y{X:Cx}{tg iter:Expr}{gi:GI}(h:JI X tg iter gi):MY Calm X tg iter gi:=let ⟨wi,h1,h2⟩:=h;⟨wi,h1.y,h2⟩
def Ib(w:Wv)(st:Hs):Re Wk:=match w with
 | .ref l=>(match ak st l with | some ws=> .ok (some l,ws) st | none=> .bad)
 | .tup ws=> .ok (none,ws) st
 | .nO ws=> .ok (none,ws) st
 | _=> .bad
def A3(g:GE):GI:=λρ st=>(g ρ st).bind Ib
section
variable {X:Cx}
theorem Ie{tg iter:Expr}{g:GE}(h:JE X iter g):JI X tg iter (A3 g):=by
 refine⟨_,AG a7,λρ st σ H m Q S R p=>?_⟩
 refine h.go S R (au.bind p) λw st1 v m1 H1 p1 e1 S1 rw'=>?_
 cases w with
 | ref l=>
  unfold ah at rw'
  obtain⟨a,rfl,hla⟩:=rw'
  unfold Ib at p1
  cases el:ak st1 l with
  | none=>simp only[el] at p1;exact aa p1
  | some ws=>
   simp only[el] at p1
   obtain⟨N',q0,_⟩:=S1.read hla el
   refine⟨a,rfl,.inl ⟨⟨N',q0⟩,p1 m1 H1 _ e1 S1 el ⟨λk H' m' st' e S' c hk=>?_,λk H' m' st' e S' c hk=>?_,λk hk H' v QJ m' st' e S' c y=>?_⟩⟩⟩
   ·obtain⟨xs,hq,rws⟩:=S'.read (e.pre _ _ hla) c
    have hx':k < xs.length:=by rw[<-rws.length];exact hk
    exact⟨xs,xs[k],hq,by simp[hx']⟩
   ·obtain⟨xs,hq,rws⟩:=S'.read (e.pre _ _ hla) c
    exact⟨xs,hq,by rw[<-rws.length,hk];exact ai _⟩
   ·obtain⟨xs,hq,rws⟩:=S'.read (e.pre _ _ hla) c
    obtain⟨ee,y⟩:=y
    refine⟨ee,?_⟩
    obtain⟨x',ex',qV⟩:=rws.get (i:=k) (w:=ws[k]) (cm hk)
    rw[y xs hq] at ex'
    cases ex'
    exact qV
 | tup ws=>
  unfold ah at rw'
  obtain⟨a,xs,rfl,hq,rws⟩:=rw'
  refine⟨a,rfl,.inr ⟨⟨xs,fY.of hq⟩,p1 m1 H1 _ e1 S1 trivial ⟨λk H' m' st' e S' c hk=>?_,λk H' m' st' e S' c hk=>?_,λk hk H' v QJ m' st' e S' c y=>?_⟩⟩⟩
  ·have hx':k < xs.length:=by rw[<-rws.length];exact hk
   exact⟨xs,xs[k],fY.of (e.tup _ _ hq),by simp[hx']⟩
  ·exact⟨xs,fY.of (e.tup _ _ hq),by rw[<-rws.length,hk];exact ai _⟩
  ·obtain⟨ee,y⟩:=y
   refine⟨ee,?_⟩
   obtain⟨x',ex',qV⟩:=(af.mono e _ _ rws).get (i:=k) (w:=ws[k]) (cm hk)
   rw[y xs (fY.of (e.tup _ _ hq))] at ex'
   cases ex'
   exact qV
 | nO ws=>
  unfold ah at rw'
  obtain⟨a,xs,rfl,hq,rws⟩:=rw'
  refine⟨a,rfl,.inr ⟨⟨xs,.inr hq⟩,p1 m1 H1 _ e1 S1 trivial ⟨λk H' m' st' e S' c hk=>?_,λk H' m' st' e S' c hk=>?_,λk hk H' v QJ m' st' e S' c y=>?_⟩⟩⟩
  ·have hx':k < xs.length:=by rw[<-rws.length];exact hk
   exact⟨xs,xs[k],.inr hq,by simp[hx']⟩
  ·exact⟨xs,.inr hq,by rw[<-rws.length,hk];exact ai _⟩
  ·obtain⟨ee,y⟩:=y
   refine⟨ee,?_⟩
   obtain⟨x',ex',qV⟩:=(af.mono e _ _ rws).get (i:=k) (w:=ws[k]) (cm hk)
   rw[y xs (.inr hq)] at ex'
   cases ex'
   exact qV
 | _=>exact aa p1
theorem A4{lo:Int}{n:Nat}{m1:Mp}{H1:Hp}:tK X (none,bC lo n) m1 H1 (FC lo n) where
 go:=λk H m' st e S c hk=>by
  have:(bC lo n).length=n:=dS
  have hk':k < (bC lo n).length:=hk
  rw[this] at hk';exact hk'
 stop:=λk H m' st e S c hk=>by
  have:(bC lo n).length=n:=dS
  have hk':k=(bC lo n).length:=hk
  rw[this] at hk';exact qN hk'.symm
 zi:=λk hk H v H' m' st e S c y=>by
  obtain⟨y1,y2⟩:=y
  refine⟨y1,?_⟩
  have q:(bC lo n)[k]'hk= .int (lo+k):=tE hk
  show ah X.K m' H ((bC lo n)[k]'hk) v
  rw[q,y2]
  exact mkInt
def qb(ws:List Wv)(st:Hs):Re Wk:=match ws with
 | [.int j]=>if cN j then .ok (none,bC 0 j.toNat) st else .bad
 | _=> .bad
def wU(ws:List Wv)(st:Hs):Re Wk:=match ws with
 | [.int a,.int j]=>if cN a/\cN j then .ok (none,bC a (j - a).toNat) st else .bad
 | _=> .bad
def vn(g:GA):GI:=λρ st=>(g ρ st).bind qb
def A5(g:GA):GI:=λρ st=>(g ρ st).bind wU
theorem LM{tg a:Expr}{ga:GA}{p q:Pos}(hg:Gl X "range")(hm:X.mg "range"=none)(ha:JA X [a] ga)(hst:U6 [a] X.env=[(false,eval a X.env)]):JI X tg (.Call (.Name "range" p) [a] [] q) (vn ga):=by
 refine⟨_,pP hg hm gX hst,λρ st σ H m Q S R p=>?_⟩
 refine ha.go S R (au.bind p) λws st1 vs m1 H1 p1 e1 S1 rs=>?_
 match ws,rs,p1 with
 | [],rs,p1=>exact aa p1
 | x::y::t,rs,p1=>cases x<;>exact aa p1
 | [x],rs,p1=>
  obtain⟨v,rfl,r1⟩:=kc rs
  cases x with
  | int j=>
   cases aM r1
   unfold qb at p1
   by_cases c:cN j
   ·simp only[if_pos c] at p1
    exact⟨j,rfl,c.1,c.2,p1 m1 H1 _ e1 S1 trivial A4⟩
   ·simp only[if_neg c] at p1;exact aa p1
  | _=>exact aa p1
theorem LN{tg a b:Expr}{ga:GA}{p q:Pos}(hg:Gl X "range")(hm:X.mg "range"=none)(ha:JA X [a,b] ga)(hst:U6 [a,b] X.env=[(false,eval a X.env),(false,eval b X.env)])(HQ:U6 [b] X.env=[(false,eval b X.env)]):JI X tg (.Call (.Name "range" p) [a,b] [] q) (A5 ga):=by
 refine⟨_,pQ hg hm gX hst HQ,λρ st σ H m Q S R p=>?_⟩
 refine ha.go S R (au.bind p) λws st1 vs m1 H1 p1 e1 S1 rs=>?_
 match ws,rs,p1 with
 | [],rs,p1=>exact aa p1
 | [x],rs,p1=>cases x<;>exact aa p1
 | x::y::z::t,rs,p1=>cases x<;>cases y<;>exact aa p1
 | [x,y],rs,p1=>
  obtain⟨v,v',rfl,r1,r2⟩:=vf rs
  cases x with
  | int a=>
   cases y with
   | int j=>
    cases aM r1;cases aM r2
    unfold wU at p1
    by_cases c:cN a/\cN j
    ·simp only[if_pos c] at p1
     exact⟨a,j,rfl,⟨c.1.1,c.1.2,c.2.1,c.2.2⟩,p1 m1 H1 _ e1 S1 trivial A4⟩
    ·simp only[if_neg c] at p1;exact aa p1
   | _=>exact aa p1
  | _=>cases y<;>exact aa p1
def wV:GI:=λ_ _=> .bad
theorem A6{tg iter:Expr}:PI X tg iter (λ_ _ _=>False):=λ_ _ _ _ _ _ h=>h.elim
theorem vo{tg iter:Expr}:JI X tg iter wV:=⟨_,A6,λρ st σ H m Q S R p=>p⟩
def fF(cs:gk)(gt:GT)(ge:GE)(ρ:bY)(w:Wk)(st:Hs):Re Wv:=match jk (lh w) (λv=>gt (some v::i6 cs ρ)) (λv=>ge (some v::i6 cs ρ)) st.length w.2 (st++[.lst []]) with
 | some wR=> .ok (.ref st.length) wR
 | none=> .bad
def gz(cs:gk)(gi:GI)(gt:GT)(ge:GE):GE:=λρ st=>(gi ρ st).bind λw st1=>fF cs gt ge ρ w st1
theorem yw{st:Hs}{l:Nat}{ws:List Wv}{more:Hs}(h:ak st l=some ws):ak (st++more) l=some ws:=by
 unfold ak at h ⊢
 cases e:st[l]? with
 | none=>rw[e] at h;cases h
 | some o=>
  have hl:=(List.getElem?_eq_some_iff.mp e).1
  rw[fg hl,e]
  rw[e] at h
  exact h
theorem n6{w:Wk}{st more:Hs}(h:lh w st):lh w (st++more):=by
 obtain⟨o,ws⟩:=w
 cases o with
 | none=>trivial
 | some l=>exact yw h
theorem wW{scope:Scope}{x:Str}{cs:gk}{px pos:Pos}{elt iter:Expr}{ifs:List Expr}{gi:GI}{gt:GT}{ge:GE}{use:Option (UT->Sem Unit)}{Q:UT->US->Prop}{P:Wv->Hs->Prop}
  {ρ:bY}{st:Hs}{σ:St}{H:Hp}{m:Mp}{pins:List (UN×Obj)}{s:US}{ps:Pos}
  {Y:Cx->Prop}(fr:A1 X)(CS:cJ X scope x cs)(hc:LL Y X)(hH:HU X)(hi:MY Y X (.Name x px) iter gi)(hE:∀C s0 H0 fp pn E,yv X.A H0->JE (fq X scope x cs C s0 H0 fp pn E) elt ge)(hT:∀C s0 H0 fp pn E,yv X.A H0->Ia (fq X scope x cs C s0 H0 fp pn E) ifs gt)(hs:∀x,U2 iter X.env x=pure x)
  (S:bF X.K m st H)(R:aB X.K m H ρ σ)(I:Inv X pins σ H s)(p:au X σ m H (gz cs gi gt ge ρ st) P)
  (fin:∀(w:Wv)(wR:Hs)(v:V)(D C:UN)(mm:Str->Option UT)(m':Mp)(H':Hp)(s':US),P w wR->Ext X.K m H m' H'->bF X.K m' wR H'->ah X.K m' H' w v->v= .ref D->Inv X pins σ H' s'->gj X pins H' C->s'.heap.Ns C mm->U0 (model X.prog X.w) X.A X.xe use Q (.ref D) C (.ok .next) s') :
  U7 (model X.prog X.w) X.A (comprehension (.ListComp elt [⟨.Name x px,iter,ifs,0⟩] scope pos) scope X.env ps (newList []) false (eval iter X.env) use) Q X.xe s:=by
 obtain⟨wi,Sq,hw⟩:=hi
 let R':It->Hp->Prop:=λJ' H1=>∃(w:Wk)(st1:Hs)(m1:Mp),au X σ m H (fF cs gt ge ρ w st1) P/\Ext X.K m H m1 H1/\bF X.K m1 st1 H1/\lh w st1/\tK X w m1 H1 J'
 have hr:=hw ρ st σ H m R' S R ((au.bind p).imp Ext.refl λw st1 q m1 H1 J' e1 S1 c1 LO=>⟨w,st1,m1,q,e1,S1,c1,LO⟩)
 refine wpAny_comprehension_free (g:=⟨.Name x px,iter,ifs,0⟩) (gs:=[]) (cl:=qY X.env scope.names []) rfl hs (En (CS.has I.ok)) CS.kind (λy hy e=>by rw[CS.look y hy,e]) (bI (Sq pins s σ H R' I hr) λv s1 h1=>bI h1 λitv s2 h2=>?_)
 obtain⟨it,fp,tn,J',H1,rfl,I2,T,t0,f2,w,st1,m1,q,e1,S1,c1,LO⟩:=h2
 unfold fF at q
 cases run:jk (lh w) (λv=>gt (some v::i6 cs ρ)) (λv=>ge (some v::i6 cs ρ)) st1.length w.2 (st1++[.lst []]) with
 | none=>
  rw[run] at q
  exact aa q
 | some wR=>
  rw[run] at q
  refine vm (use:=use) (Q:=Q) fr CS hc hH I2 T t0 f2 S1 (R.mono e1) (n6 c1) (nZ _ _ run) (by intro z;cases z) (λc' Sr z=>by cases z) (λC s0 H0 pn E=>hE C s0 H0 fp pn E) (λC s0 H0 pn E=>hT C s0 H0 fp pn E) LO.go LO.stop LO.zi ?_
  intro Ss z D C mm m' H' s' e' S' MW I' fC ns _
  cases z
  exact fin _ wR (.ref D) D C mm m' H' s' q (e1.trans e') S' (by unfold ah;exact⟨D,rfl,MW⟩) rfl I' fC ns
theorem wX{scope:Scope}{x:Str}{cs:gk}{px pos:Pos}{elt iter:Expr}{ifs:List Expr}{gi:GI}{gt:GT}{ge:GE}
  {Y:Cx->Prop}(fr:A1 X)(CS:cJ X scope x cs)(hc:LL Y X)(hH:HU X)(hi:MY Y X (.Name x px) iter gi)(hE:∀C s0 H0 fp pn E,yv X.A H0->JE (fq X scope x cs C s0 H0 fp pn E) elt ge)(hT:∀C s0 H0 fp pn E,yv X.A H0->Ia (fq X scope x cs C s0 H0 fp pn E) ifs gt)(hs:∀x,U2 iter X.env x=pure x) :
  JE X (.ListComp elt [⟨.Name x px,iter,ifs,0⟩] scope pos) (gz cs gi gt ge):=λρ st σ H m Q S R p pins s I=>by
 rw[eval_ListComp]
 refine wW (use:=none) fr CS hc hH hi hE hT hs S R I p ?_
 intro w wR v D C mm m' H' s' q e' S' rw' ev I' fC ns
 exact⟨mm,ns,λh' same=>⟨.ref D,H',qa I' fC same,rfl,ev ▸ q v m' H' e' S' rw'⟩⟩
theorem Es(i:Nat){scope:Scope}{x y:Str}{cs:gk}{px pos spos py:Pos}{elt iter:Expr}{ifs:List Expr}{gi:GI}{gt:GT}{ge:GE}(hN:X.N.Nodup)
  {Y:Cx->Prop}(fr:A1 X)(CS:cJ X scope x cs)(hc:LL Y X)(hH:HU X)(hi:MY Y X (.Name x px) iter gi)(hE:∀C s0 H0 fp pn E,yv X.A H0->JE (fq X scope x cs C s0 H0 fp pn E) elt ge)(hT:∀C s0 H0 fp pn E,yv X.A H0->Ia (fq X scope x cs C s0 H0 fp pn E) ifs gt)(hs:∀x,U2 iter X.env x=pure x)
  (hx:X.N[i]? =some y)(hl:Loc X.env.scope y)(hf:X.fn y=true\/X.env.scope.names.lookup y=some .local) :
  JS X (.Assign [.Name y py] (.ListComp elt [⟨.Name x px,iter,ifs,0⟩] scope pos) spos) (bU i (gz cs gi gt ge)):=by
 have sw:∃b,swapsWith (.ListComp elt [⟨.Name x px,iter,ifs,0⟩] scope pos) (some (.Name y py)) spos.line X.env=pure b:=⟨_,rfl⟩
 obtain⟨b,sw⟩:=sw
 cases b with
 | false=>exact Aq i hN (wX fr CS hc hH hi hE hT hs) hx hl sw hf
 | true=>
  intro ρ st σ H m D S R p pins s I
  rw[exec_Assign_Name_used _ _ _ _ sw]
  refine U8 (wpAny_standAt (U8 ?_))
  show U7 _ X.A (do let _ <-comprehension (.ListComp elt [⟨.Name x px,iter,ifs,0⟩] scope pos) scope X.env _ (newList []) false (eval iter X.env) (some (assign (.Name y py) X.env))) _ _ s
  refine U8 (U_ (wW (use:=some (assign (.Name y py) X.env)) (Q:=λ_ s'=>SP X pins D .next s') fr CS hc hH hi hE hT hs S R I (aO.fh R p) ?_) (λ_ s' hq=>Vb (Vb hq)) λ_ _ e=>e)
  intro w wR v D' C mm m' H' s' q e' S' rw' ev I' fC ns
  refine wpAny_assign_Name (pO (i:=i) I' hN hx hl (show RelV v (.ref D') by rw[ev];rfl) (λs2 I2 h2=>?_) hf)
  obtain⟨a,sb,ha⟩:=h2
  have hca:C≠a:=by
   rcases ha with z | z
   ·rw[z];exact fC.2.1
   ·exact cT (fC.2.2.2.2.1 y a z)
  exact⟨mm,ns.sameBut sb hca,λh' same=>⟨_,_,qa I2 fC same,q _ m' H' e' S' ((R.mono e').set i rw')⟩⟩
end
section
variable {X:Cx}
def Ig(n:Nat)(k:Int):Prop:=-(2 ^ 62)<=k/\k < 2 ^ 62/\n * k.toNat<=lim
instance {n k}:Decidable (Ig n k):=AH _
def n9:f7
 | .ref l,.int n,st=>match st[l]? with
  | some (.lst ws)=>if Ig ws.length n then .ok (.ref st.length) (st++[.lst (aY n.toNat ws).flatten]) else .bad
  | _=> .bad
 | x,y,st=>FT x y st
theorem qc{K:PySem.W.Frag}{m:Mp}{H:Hp}{ws:List Wv}{xs:List V}(r:af K m H ws xs):∀n:Nat,af K m H (aY n ws).flatten (aY n xs).flatten
 | 0=>af.nil
 | n+1=>by
  rw[gv,nK,gv,nK]
  exact r.append (qc r n)
theorem Et:kq X (UX .Mult) n9:=by
 obtain⟨r,h1,h2⟩:=Eh (X:=X)
 refine⟨_,fA.or G8 h1,λx y a b st H m Q S rx ry p=>?_⟩
 unfold n9 at p
 split at p
 ·rename_i l n
  unfold ah at rx
  obtain⟨a1,rfl,hl⟩:=rx
  cases aM ry
  cases e:st[l]? with
  | none=>rw[e] at p;exact aa p
  | some o=>
   cases o with
   | dct kvs=>rw[e] at p;exact aa p
   | zl kvs=>rw[e] at p;exact aa p
   | yi kvs=>rw[e] at p;exact aa p
   | zm kvs=>rw[e] at p;exact aa p
   | zV kvs=>rw[e] at p;exact aa p
   | ic ns=>rw[e] at p;exact aa p
   | lst ws=>
    rw[e] at p
    dsimp only at p
    by_cases c:Ig ws.length n
    ·rw[if_pos c] at p
     obtain⟨xs,q1,q2⟩:=S.nQ hl e
     refine .inl ⟨a1,n,xs,rfl,rfl,q1,by have:=c.1;omega,by have:=c.2.1;omega,by rw[<-q2.length];exact dF c.2.2,λq hq=>?_⟩
     exact jf p Ext.refl S (qc q2 n.toNat) q hq
    ·rw[if_neg c] at p;exact aa p
 ·exact .inr (h2 x y a b st H m Q S rx ry p)
def mI:List Wv->Option (List Bool)
 | []=>some []
 | .bl b::r=>(match mI r with | some l=>some (b::l) | none=>none)
 | _=>none
def yx:List Wv->Hs->Re Wv
 | [.ref l],st=>match ak st l with
  | some ws=>(match mI ws with | some bs=> .ok (.bl (bs.all id)) st | none=> .bad)
  | none=> .bad
 | _,_=> .bad
theorem qd{K:PySem.W.Frag}{m:Mp}{H:Hp}:∀{ws:List Wv}{xs:List V}{bs:List Bool},af K m H ws xs->mI ws=some bs->xs=bs.map V.bl
 | [],xs,bs,r,h=>by
  unfold af at r
  cases h
  exact r
 | w::ws,xs,bs,r,h=>by
  unfold af at r
  obtain⟨x,t,rfl,r1,r2⟩:=r
  cases w with
  | bl b=>
   unfold mI at h
   cases e:mI ws with
   | none=>rw[e] at h;cases h
   | some l=>
    rw[e] at h
    cases h
    unfold ah at r1
    rw[r1,qd r2 e]
    rfl
  | _=>cases h
theorem wY:∀{bs:List Bool}{its:List UT},Vals (bs.map V.bl) its->its=bs.map mY
 | [],its,r=>by cases r;rfl
 | b::bs,its,r=>by
  cases r with
  | cons h t=>
   cases h
   rw[aI,wY t]
theorem all_range:∀(bs:List Bool),(av bs.length).all (λi=>bs.getD i true)=bs.all id
 | []=>rfl
 | b::bs=>by
  rw[cM,wZ,bT,List.all_map,bT,<-all_range bs]
  rfl
theorem yy(hc:X.calm=true):dg X (.builtin "all") (λxs H Q=>∃(p:UN)(bs:List Bool),xs=[.ref p]/\j9 X.K H p (bs.map V.bl)/\Q (.bl (bs.all id)) H):=by
 intro pins s σ H xs us Q I r h
 obtain⟨p,bs,rfl,hq,q⟩:=h
 obtain⟨u,rfl,rx⟩:=vals1 r
 cases rx
 obtain⟨its,r',pl,hz⟩:=I.list hq
 have hb:=wY r'
 subst hb
 have hl:=pl.isList
 have hlt:p < s.heap.objs.size:=by obtain⟨_,e,_⟩:=hl;exact aE e
 refine call_all_walk (wpAny_pyIter_list hl ?_)
 refine⟨_,_,_,_,_,_,λi=>bs.getD i true,rfl,Walks.list (A:=X.A.in1) (I.ok.hd hc) _ p (a6 hlt) (bs.map mY).toArray,⟨⟨_,cO _ rfl,rfl,rfl⟩,hl.push _⟩,?_,λh' tk hk=>?_⟩
 ·intro i v s' Q' E' hP hQ
  have LP:(bs.map mY).toArray[i]? =some v:=hP
  rw[Eu,cU] at LP
  cases e:bs[i]? with
  | none=>rw[e] at LP;cases LP
  | some b=>
   rw[e] at LP
   cases LP
   have:(bs.getD i true)=b:=by rw[A7,e];rfl
   dsimp only at hQ
   rw[this] at hQ
   exact Vc hQ
 ·have hk':∀b o,s.heap.get? b=some o->h'.get? b=some o:=old_kept hk
  refine⟨.bl _,H,I.kept (t':=tk) hk',?_,q⟩
  rw[<-all_range bs]
  simp only[aH,bV]
  rfl
theorem Ih(hc:X.calm=true):f9 X (.builtin "all") yx:=⟨_,yy hc,λws vs st H m Q S rs p=>by
 match ws,rs,p with
 | [],rs,p=>exact aa p
 | x::y::t,rs,p=>cases x<;>exact aa p
 | [x],rs,p=>
  obtain⟨v,rfl,r1⟩:=kc rs
  cases x with
  | ref l=>
   unfold yx at p
   unfold ah at r1
   obtain⟨a,rfl,hl⟩:=r1
   cases e:ak st l with
   | none=>simp only[e] at p;exact aa p
   | some ws=>
    simp only[e] at p
    cases e2:mI ws with
    | none=>simp only[e2] at p;exact aa p
    | some bs=>
     simp only[e2] at p
     obtain⟨xs,q1,q2⟩:=S.read hl e
     have q3:=qd q2 e2
     subst q3
     exact⟨a,bs,rfl,q1,p _ m H Ext.refl S j_⟩
  | _=>exact aa p⟩
end
end J
namespace JL
open PySem PyProof.Rows
def q_:Bool->Vd->Array Vd->Nat->Nat->Nat->StateT Ve Sem (Option Nat):=sortPriv% PySem.Builtin.gallop
def n_:Array Vd->Array Vd->StateT Ve Sem (Array Vd):=sortPriv% PySem.Builtin.mergeLo
def oa:Array Vd->Array Vd->StateT Ve Sem (Array Vd):=sortPriv% PySem.Builtin.mergeHi
def Ik(p:Vd):Prop:=∃n t,p.1=kM n t
def kn(p:Vd):Int:=numOf p.1
section
variable {prog:UR} {w:UU} {A:UO} {E:UT->US->Prop} {s:US}
theorem jl{st:Ve}{x y:Vd}{Q:Option Bool->Ve->Prop}(hk:kindOf st=Vf)(hx:Ik x)(hy:Ik y)(h:Q (some (decide (kn x < kn y))) st):wpS (model prog w) A E s (lt' x y) Q st:=by
 obtain⟨a,t,ea⟩:=hx
 obtain⟨b,u,eb⟩:=hy
 unfold kn at h
 rw[ea,eb] at h
 rw[lt'_eq]
 refine Vg (wpS_get ?_)
 rw[hk,keyLt'_oneType,ea,eb]
 refine Vg (wpS_lift (wpAny_attempt (oneLt_int ⟨rfl,?_⟩)))
 exact Vj h
theorem ar{st:Ve}{a:Array Vd}{i:Nat}{p:Vd}{Q:Vd->Ve->Prop}(hp:a[i]? =some p)(h:Q p st):wpS (model prog w) A E s (elem' a i) Q st:=by
 rw[elem'_eq,hp]
 exact Vj h
def gp(left:Bool)(key:Vd)(arr:Array Vd)(base i:Nat):Bool:=if left then decide (K arr (base+i) < kn key) else !decide (kn key < K arr (base+i))
theorem cV{st:Ve}{left:Bool}{key:Vd}{arr:Array Vd}{base n i:Nat}{Q:Option Bool->Ve->Prop}(hk:kindOf st=Vf)(hkey:Ik key)
  (hb:base+n<=arr.size)(ha:∀p∈arr.toList,Ik p)(hi:i < n)(h:Q (some (gp left key arr base i)) st) :
  wpS (model prog w) A E s (do
   let x <-elem' arr (base+i)
   if left=true then lt' x key else do
    let r <-lt' key x
    pure (r.map (!·))) Q st:=by
 have lt:base+i < arr.size:=by omega
 have e:arr[base+i]? =some arr[base+i]:=jm lt
 have ik:Ik arr[base+i]:=ha _ (by simp)
 have ek:K arr (base+i)=kn arr[base+i]:=by unfold K kn;rw[e]
 unfold gp at h
 rw[ek] at h
 refine Vg (ar e ?_)
 cases left
 ·rw[if_neg (by decide)] at h ⊢
  exact Vg (jl hk hkey ik (Vj h))
 ·rw[if_pos rfl] at h ⊢
  exact jl hk ik hkey h
def lp(left:Bool)(key:Vd)(arr:Array Vd)(base n:Nat)(l0 h0:Nat):StateT Ve Sem (Option Nat):=do
 let mut lo:=l0
 let mut hi:=h0
 for _ in [0:n] do
  if lo >= hi then break
  let some b <-(do
   let x <-elem' arr (base+(lo+(hi - lo) / 2))
   if left=true then lt' x key else do
    let r <-lt' key x
    pure (r.map (!·)):StateT Ve Sem (Option Bool)) | return none
  if b then lo:=lo+(hi - lo) / 2+1 else hi:=lo+(hi - lo) / 2
 return some hi
theorem jn{st:Ve}{left:Bool}{key:Vd}{arr:Array Vd}{base n l0 h0:Nat}{Q:Option Nat->Ve->Prop}(hk:kindOf st=Vf)(hkey:Ik key)
  (hb:base+n<=arr.size)(ha:∀p∈arr.toList,Ik p)(dn:∀i j,i<=j->j < n->gp left key arr base j=true->gp left key arr base i=true)(l1:l0<=h0)(h1:h0<=n)
  (hl:∀i,i < l0->gp left key arr base i=true)(hh:∀i,h0<=i->i < n->gp left key arr base i=false)
  (h:∀k,k<=n->(∀i,i < k->gp left key arr base i=true)->(∀i,k<=i->i < n->gp left key arr base i=false)->Q (some k) st):wpS (model prog w) A E s (lp left key arr base n l0 h0) Q st:=by
 unfold lp
 refine Vg (Vi (Vh (I:=λx c st'=>st'=st/\∃l r,c=(none,l,r)/\l<=r/\r<=n/\r - l<=n - x/\(∀i,i < l->gp left key arr base i=true)/\(∀i,r<=i->i < n->gp left key arr base i=false))
  (Q:=λc st'=>st'=st/\∃r,c=(none,r,r)/\r<=n/\(∀i,i < r->gp left key arr base i=true)/\(∀i,r<=i->i < n->gp left key arr base i=false)) ?a ?b ?c) ?d)
 case c=>exact⟨rfl,l0,h0,rfl,l1,h1,by omega,hl,hh⟩
 case b=>
  rintro c st' ⟨rfl,l,r,rfl,g1,g2,g3,g4,g5⟩
  have:l=r:=by omega
  subst this
  exact⟨rfl,l,rfl,g2,g4,g5⟩
 case d=>
  rintro c st' ⟨rfl,r,rfl,g2,g4,g5⟩
  exact Vj (h r g2 g4 g5)
 case a=>
  rintro x c st' _ hx ⟨rfl,l,r,rfl,g1,g2,g3,g4,g5⟩
  dsimp only
  by_cases c:l >= r
  ·rw[if_pos c]
   have:l=r:=by exact iA ‹_› ‹_›
   subst this
   exact Vj ⟨rfl,l,rfl,g2,g4,g5⟩
  ·rw[if_neg c]
   refine Vg (cV hk hkey hb ha (by omega) ?_)
   cases q:gp left key arr base (l+(r - l) / 2)
   ·refine Vj ⟨rfl,l,l+(r - l) / 2,rfl,by exact aQ _ _,by omega,by omega,g4,λi i1 i2=>?_⟩
    cases q':gp left key arr base i
    ·rfl
    ·rw[dn _ _ i1 i2 q'] at q;cases q
   ·exact Vj ⟨rfl,l+(r - l) / 2+1,r,rfl,by omega,by assumption,by omega,λi i1=>dn _ _ (by exact cn ‹_›) (by omega) q,g5⟩
theorem bD{st:Ve}{left:Bool}{key:Vd}{arr:Array Vd}{base n hint:Nat}{Q:Option Nat->Ve->Prop}(hk:kindOf st=Vf)(hkey:Ik key)
  (hb:base+n<=arr.size)(ha:∀p∈arr.toList,Ik p)(hh:hint < n)(mono:∀i j,i<=j->j < n->K arr (base+i)<=K arr (base+j))
  (h:∀k,k<=n->(∀i,i < k->gp left key arr base i=true)->(∀i,k<=i->i < n->gp left key arr base i=false)->Q (some k) st):wpS (model prog w) A E s (q_ left key arr base n hint) Q st:=by
 have dn:∀i j,i<=j->j < n->gp left key arr base j=true->gp left key arr base i=true:=λi j h1 h2 h3=>by
  have:=mono i j h1 h2
  unfold gp at h3 ⊢
  cases left
  ·simp at h3 ⊢;exact cP ‹_› ‹_›
  ·simp at h3 ⊢;omega
 have up:∀i j,i<=j->j < n->gp left key arr base i=false->gp left key arr base j=false:=λi j h1 h2 h3=>by
  cases q:gp left key arr base j
  ·rfl
  ·rw[dn i j h1 h2 q] at h3;cases h3
 refine Vg (cV hk hkey hb ha hh ?_)
 cases q:gp left key arr base hint
 ·refine Vg (Vi (Vh (I:=λx c st'=>st'=st/\∃l o,c=(none,l,o)/\l < o/\l<=hint/\x+1<=o/\gp left key arr base (hint - l)=false)
   (Q:=λc st'=>st'=st/\∃l o,c=(none,l,o)/\l < o/\l<=hint/\gp left key arr base (hint - l)=false/\(hint+1<=o\/gp left key arr base (hint - o)=true)) ?a ?b ?c) ?d)
  case c=>exact⟨rfl,0,1,rfl,by exact ai _,by exact aA _,by exact ai _,q⟩
  case b=>
   rintro c st' ⟨rfl,l,o,rfl,g1,g2,g3,g4⟩
   exact⟨rfl,l,o,rfl,g1,g2,g4,.inl (by exact du ‹_› ‹_›)⟩
  case d=>
   rintro c st' ⟨rfl,l,o,rfl,g1,g2,g4,g5⟩
   refine(jn (base:=base) (l0:=hint+1 - min o (hint+1)) (h0:=hint - l) hk hkey hb ha dn (by omega) (by omega) (λi hi=>?_) (λi i1 i2=>up _ _ i1 i2 g4) h:wpS _ _ _ _ (lp left key arr base n _ _) Q _)
   rcases g5 with g5 | g5
   ·omega
   ·exact dn _ _ (by omega) (by omega) g5
  case a=>
   rintro x c st' _ hx ⟨rfl,l,o,rfl,g1,g2,g3,g4⟩
   dsimp only
   by_cases c:o >= hint+1
   ·rw[if_pos c]
    exact Vj ⟨rfl,l,o,rfl,g1,g2,g4,.inl c⟩
   ·rw[if_neg c]
    refine Vg (cV hk hkey hb ha (by omega) ?_)
    cases q':gp left key arr base (hint - o)
    ·exact Vj ⟨rfl,o,2 * o+1,rfl,by omega,by exact wG ‹_›,by omega,q'⟩
    ·exact Vj ⟨rfl,l,o,rfl,g1,g2,g4,.inr q'⟩
 ·refine Vg (Vi (Vh (I:=λx c st'=>st'=st/\∃l o,c=(none,l,o)/\l < o/\hint+l < n/\x+1<=o/\gp left key arr base (hint+l)=true)
   (Q:=λc st'=>st'=st/\∃l o,c=(none,l,o)/\l < o/\hint+l < n/\gp left key arr base (hint+l)=true/\(n - hint<=o\/(hint+o < n/\gp left key arr base (hint+o)=false))) ?a ?b ?c) ?d)
  case c=>exact⟨rfl,0,1,rfl,by exact ai _,by assumption,by exact ai _,q⟩
  case b=>
   rintro c st' ⟨rfl,l,o,rfl,g1,g2,g3,g4⟩
   exact⟨rfl,l,o,rfl,g1,g2,g4,.inl (by omega)⟩
  case d=>
   rintro c st' ⟨rfl,l,o,rfl,g1,g2,g4,g5⟩
   refine(jn (base:=base) (l0:=hint+l+1) (h0:=hint+min o (n - hint)) hk hkey hb ha dn (by omega) (by omega) (λi hi=>dn _ _ (by exact cn ‹_›) g2 g4) (λi i1 i2=>?_) h:wpS _ _ _ _ (lp left key arr base n _ _) Q _)
   rcases g5 with g5 | g5
   ·omega
   ·exact up _ _ (by omega) i2 g5.2
  case a=>
   rintro x c st' _ hx ⟨rfl,l,o,rfl,g1,g2,g3,g4⟩
   dsimp only
   by_cases c:o >= n - hint
   ·rw[if_pos c]
    exact Vj ⟨rfl,l,o,rfl,g1,g2,g4,.inl c⟩
   ·rw[if_neg c]
    refine Vg (cV hk hkey hb ha (by omega) ?_)
    cases q':gp left key arr base (hint+o)
    ·exact Vj ⟨rfl,l,o,rfl,g1,g2,g4,.inr ⟨by omega,q'⟩⟩
    ·exact Vj ⟨rfl,o,2 * o+1,rfl,by omega,by omega,by omega,q'⟩
end
section
variable {α:Type} {f:α->Int} {A B:List α}
structure Mg(f:α->Int)(A B out:List α)(ia ib:Nat):Prop where
 pm:out.Perm (A.take ia++B.take ib)
 so:out.Pairwise (f · <=f ·)
 la:∀p∈out,∀q∈A.drop ia,f p<=f q
 lb:∀p∈out,∀q∈B.drop ib,f p<=f q
theorem Mg.swap{out:List α}{ia ib:Nat}(h:Mg f A B out ia ib):Mg f B A out ib ia:=⟨h.pm.trans gA,h.so,h.lb,h.la⟩
theorem Mg.iB{out:List α}{ia ib:Nat}(h:Mg f A B out ia ib)(sa:A.Pairwise (f · <=f ·))(k:Nat)(hk:∀p∈(A.drop ia).take k,∀q∈B.drop ib,f p<=f q):Mg f A B (out++(A.drop ia).take k) (ia+k) ib:=by
 have sd:((A.drop ia).take k++(A.drop ia).drop k).Pairwise (f · <=f ·):=by rw[br];exact sa.sublist (eI _ _)
 rw[bu] at sd
 have e:A.take (ia+k)=A.take ia++(A.drop ia).take k:=List.take_add
 have mT:∀p∈(A.drop ia).take k,p∈A.drop ia:=λp hp=>(dm _ _).mem hp
 have mD:∀p∈(A.drop ia).drop k,p∈A.drop ia:=λp hp=>(eI _ _).mem hp
 refine⟨?_,?_,?_,?_⟩
 ·rw[e]
  refine(h.pm.append_right _).trans ?_
  rw[bp,bp]
  exact List.perm_append_comm.append_left _
 ·rw[bu]
  exact⟨h.so,sd.1,λp hp q hq=>h.la p hp q (mT q hq)⟩
 ·intro p hp q hq
  rw[<-List.drop_drop] at hq
  rcases List.mem_append.mp hp with z | z
  ·exact h.la p z q (mD q hq)
  ·exact sd.2.2 p z q hq
 ·intro p hp q hq
  rcases List.mem_append.mp hp with z | z
  ·exact h.lb p z q hq
  ·exact hk p z q hq
theorem Mg.og{out:List α}{ia ib:Nat}(h:Mg f A B out ia ib)(sb:B.Pairwise (f · <=f ·))(k:Nat)(hk:∀q∈(B.drop ib).take k,∀p∈A.drop ia,f q<=f p):Mg f A B (out++(B.drop ib).take k) ia (ib+k) :=
 (h.swap.iB sb k hk).swap
theorem Mg.g_{out:List α}{ia ib:Nat}{p:α}(h:Mg f A B out ia ib)(sa:A.Pairwise (f · <=f ·))(e:A[ia]? =some p)(hk:∀q∈B.drop ib,f p<=f q):Mg f A B (out++[p]) (ia+1) ib:=by
 have t1:(A.drop ia).take 1=[p]:=by
  have:=(List.getElem?_eq_some_iff.mp e)
  obtain⟨lt,rfl⟩:=this
  rw[ji lt]
  rfl
 have:=h.iB sa 1 (by rw[t1];intro q hq;rw[List.mem_singleton.mp hq];exact hk)
 rw[t1] at this
 exact this
theorem Mg.jo{out:List α}{ia ib:Nat}{p:α}(h:Mg f A B out ia ib)(sb:B.Pairwise (f · <=f ·))(e:B[ib]? =some p)(hk:∀q∈A.drop ia,f p<=f q):Mg f A B (out++[p]) ia (ib+1) :=
 (h.swap.g_ sb e hk).swap
theorem Mg.fin{out:List α}{ia ib:Nat}(h:Mg f A B out ia ib)(sa:A.Pairwise (f · <=f ·))(sb:B.Pairwise (f · <=f ·))(hk:∀p∈A.drop ia,∀q∈B.drop ib,f p<=f q):(out++A.drop ia++B.drop ib).Perm (A++B)/\(out++A.drop ia++B.drop ib).Pairwise (f · <=f ·):=by
 have tA:(A.drop ia).take A.length=A.drop ia:=bO (by rw[bL];exact iC _ _)
 have tB:(B.drop ib).take B.length=B.drop ib:=bO (by rw[bL];exact iC _ _)
 have h1:=h.iB sa A.length (by rw[tA];exact hk)
 have nA:A.drop (ia+A.length)=[]:=eJ (by exact dW _ _)
 have h2:=h1.og sb B.length (by rw[nA];intro _ _ _ z;cases z)
 rw[tA,tB] at h2
 have k1:A.take (ia+A.length)=A:=bO (by exact dW _ _)
 have k2:B.take (ib+B.length)=B:=bO (by exact dW _ _)
 have pm:=h2.pm
 rw[k1,k2] at pm
 exact⟨pm,h2.so⟩
theorem Mg.vp{out:List α}{ia ib:Nat}(h:Mg f A B out ia ib)(sa:A.Pairwise (f · <=f ·))(sb:B.Pairwise (f · <=f ·))(hk:∀q∈B.drop ib,∀p∈A.drop ia,f q<=f p):(out++B.drop ib++A.drop ia).Perm (A++B)/\(out++B.drop ib++A.drop ia).Pairwise (f · <=f ·):=by
 obtain⟨h1,h2⟩:=h.swap.fin sb sa hk
 exact⟨h1.trans gA,h2⟩
end
abbrev fG(st:Ve)(g:Nat):Ve:=ao (kindOf st) (arrOf st) (pendingOf st) g (failedOf st)
def Up(l:List Vd):Prop:=l.Pairwise (kn · <=kn ·)
def Fin'(a b:List Vd)(r:Array Vd):Prop:=r.toList.Perm (a++b)/\Up r.toList
theorem ax{a:Array Vd}{i:Nat}{p:Vd}(e:a[i]? =some p):K a i=kn p:=by unfold K;rw[e];rfl
theorem at_of{a:Array Vd}{i:Nat}(h:i < a.size):∃p,a[i]? =some p/\a.toList[i]? =some p/\p∈a.toList:=⟨a[i],jm h,by simp[h],by simp⟩
theorem aJ{a:Array Vd}{i:Nat}{p:Vd}(h:p∈a.toList.drop i):∃j,i<=j/\j < a.size/\a[j]? =some p:=by
 obtain⟨j,e⟩:=cu h
 rw[eK] at e
 have lt:=(List.getElem?_eq_some_iff.mp e).1
 exact⟨i+j,by exact aQ _ _,by simpa using lt,by rw[<-fc];exact e⟩
theorem iD{a:Array Vd}{i k:Nat}{p:Vd}(h:p∈(a.toList.drop i).take k):∃j,j < k/\i+j < a.size/\a[i+j]? =some p:=by
 obtain⟨j,e⟩:=cu h
 have lk:j < k:=by
  have:=(List.getElem?_eq_some_iff.mp e).1
  rw[aD] at this
  omega
 rw[cL lk,eK] at e
 have lt:=(List.getElem?_eq_some_iff.mp e).1
 exact⟨j,lk,by simpa using lt,by rw[<-fc];exact e⟩
theorem fi{a:Array Vd}(h:Up a.toList){i j:Nat}(hij:i<=j)(hj:j < a.size):K a i<=K a j:=by
 obtain⟨p,e1,e2,_⟩:=at_of (lq hij hj)
 obtain⟨q,e3,e4,_⟩:=at_of hj
 rw[ax e1,ax e3]
 by_cases c:i=j
 ·subst c
  rw[e1] at e3
  cases e3
  exact cw _
 ·have l1:=List.getElem?_eq_some_iff.mp e2
  have l2:=List.getElem?_eq_some_iff.mp e4
  obtain⟨x1,rfl⟩:=l1
  obtain⟨x2,rfl⟩:=l2
  exact List.pairwise_iff_getElem.mp h i j x1 x2 (by exact bP ‹_› ‹_›)
theorem fH{a:Array Vd}(i:Nat):(a.extract i a.size).toList=a.toList.drop i:=by
 rw[gN,gO]
 exact bO (by rw[bL];simp)
theorem lu{a:Array Vd}(i k:Nat):(a.extract i (i+k)).toList=(a.toList.drop i).take k:=by
 rw[gN,gO,fI]
section
variable {prog:UR} {w:UU} {A:UO} {E:UT->US->Prop} {s:US}
structure Lo(a b out:Array Vd)(ia ib:Nat):Prop where
 mg:Mg kn a.toList b.toList out.toList ia ib
 ha:ia+1 < a.size
 hb:ib < b.size
structure Ii(a b:Array Vd):Prop where
 ka:∀p∈a.toList,Ik p
 kb:∀p∈b.toList,Ik p
 sa:Up a.toList
 sb:Up b.toList
 last:∀j,j < b.size->K b j<=K a (a.size - 1)
theorem dX{a b out:Array Vd}{ia ib:Nat}(H:Ii a b)(m:Mg kn a.toList b.toList out.toList ia ib)(h:∀p∈a.toList.drop ia,∀q∈b.toList.drop ib,kn p<=kn q):Fin' a.toList b.toList (out++a.extract ia a.size++b.extract ib b.size):=by
 unfold Fin' Up
 rw[bH,bH,fH,fH]
 exact m.fin H.sa H.sb h
theorem fJ{a b out:Array Vd}{ia ib:Nat}(H:Ii a b)(m:Mg kn a.toList b.toList out.toList ia ib)(h:ia+1=a.size):Fin' a.toList b.toList (out++b.extract ib b.size++a.extract ia a.size):=by
 unfold Fin' Up
 rw[bH,bH,fH,fH]
 refine m.vp H.sa H.sb λq hq p hp=>?_
 obtain⟨j,j1,j2,j3⟩:=aJ hp
 obtain⟨l,l1,l2,l3⟩:=aJ hq
 have:j=a.size - 1:=by omega
 rw[<-ax j3,<-ax l3,this]
 exact H.last l l2
theorem dY{b:Array Vd}{ib:Nat}(h:ib=b.size):∀q:Vd,q∉b.toList.drop ib:=λq hq=>by
 obtain⟨l,l1,l2,l3⟩:=aJ hq
 omega
abbrev Ot:=Option (Array Vd)×Array Vd×Nat×Nat×Nat×Nat×Nat
def oh(a b:Array Vd)(st:Ve)(n:Nat)(r:ForInStep Ot)(st':Ve):Prop :=
 (∃g,st'=fG st g)/\match r with
 | .done c=>(∃r t,c=(some r,t)/\Fin' a.toList b.toList r)\/∃out ia ib mg ac bc,c=(none,out,ia,ib,mg,ac,bc)/\n<=ia+ib/\Lo a b out ia ib
 | .yield c=>∃out ia ib mg ac bc,c=(none,out,ia,ib,mg,ac,bc)/\n<=ia+ib/\Lo a b out ia ib
theorem oh.fin{a b:Array Vd}{st:Ve}{n g:Nat}{r:Array Vd}{t:Array Vd×Nat×Nat×Nat×Nat×Nat}(h:Fin' a.toList b.toList r):oh a b st n (.done (some r,t)) (fG st g):=⟨⟨g,rfl⟩,.inl ⟨r,t,rfl,h⟩⟩
theorem kv{st:Ve}{a b:Array Vd}{Q:Array Vd->Ve->Prop}(H:Ii a b)(na:1<=a.size)(nb:1<=b.size)(hk:kindOf st=Vf)(first:∀i,i < a.size->K b 0<=K a i)
  (h:∀r g,Fin' a.toList b.toList r->Q r (fG st g)):wpS (model prog w) A E s (n_ a b) Q st:=by
 refine Vg (wpS_lift (wpAny_rule ⟨rfl,?_⟩))
 obtain⟨b0,Ew,Ij,Su⟩:=at_of (a:=b) (i:=0) (by assumption)
 refine Vg (ar Ew ?_)
 dsimp -zeta only
 extract_lets out ia ib
 have m0:Mg kn a.toList b.toList out.toList 0 1:=by
  have z:Mg kn a.toList b.toList ([]:List Vd) 0 0:=⟨by simp,.nil,(λ_ z=>by cases z),(λ_ z=>by cases z)⟩
  refine z.jo H.sb Ij λq hq=>?_
  obtain⟨l,l1,l2,l3⟩:=aJ hq
  rw[<-ax Ew,<-ax l3]
  exact first l l2
 clear_value out
 subst ia ib
 by_cases c1:1=b.size
 ·rw[if_pos (by rw[<-c1];rfl)]
  exact Vj (h _ _ (dX H m0 λ_ _ q hq=>(dY c1 q hq).elim))
 rw[if_neg (by simpa using c1)]
 by_cases c2:0+1=a.size
 ·rw[if_pos (by rw[<-c2];rfl)]
  exact Vj (h _ _ (fJ H m0 c2))
 rw[if_neg (by simpa using c2)]
 refine Vg (wpS_get ?_)
 refine Vg (Vi (Vh (I:=λx c st'=>(∃g,st'=fG st g)/\∃out ia ib mg,c=(none,out,ia,ib,mg)/\x+1<=ia+ib/\Lo a b out ia ib)
  (Q:=λc st'=>(∃g,st'=fG st g)/\∃r t,c=(some r,t)/\Fin' a.toList b.toList r) ?a ?b ?c) ?d)
 case c=>exact⟨⟨_,rfl⟩,out,0,1,_,rfl,by exact ai _,m0,by exact bP ‹_› ‹_›,by exact bP ‹_› ‹_›⟩
 case d=>
  rintro c st' ⟨⟨g,rfl⟩,r,t,rfl,hf⟩
  exact Vj (h _ _ hf)
 case b=>
  rintro c st' ⟨_,out,ia,ib,mg,_,h1,h2,h3,h4⟩
  omega
 case a=>
  rintro x c st' _ hx ⟨⟨g,rfl⟩,out,Il,Im,mg,rfl,h1,L0⟩
  dsimp -zeta only
  refine Vg (Vi (Vh (I:=λx c st'=>st'=fG st g/\∃out ia ib ac bc,c=(none,out,ia,ib,ac,bc)/\Il+Im+x<=ia+ib/\Lo a b out ia ib)
   (Q:=λc st'=>st'=fG st g/\((∃r t,c=(some r,t)/\Fin' a.toList b.toList r)\/∃out ia ib ac bc,c=(none,out,ia,ib,ac,bc)/\Il+Im+1<=ia+ib/\Lo a b out ia ib)) ?e ?f ?g) ?i)
  case g=>exact⟨rfl,out,Il,Im,0,0,rfl,by exact ai _,L0⟩
  case f=>
   rintro c st' ⟨rfl,out,ia,ib,ac,bc,rfl,h1,L⟩
   have:=L.ha
   have:=L.hb
   exact⟨rfl,.inr ⟨out,ia,ib,ac,bc,rfl,by omega,L⟩⟩
  case e=>
   rintro x c st' _ hx ⟨rfl,out,ia,ib,ac,bc,rfl,h1,L⟩
   dsimp only
   obtain⟨p,ep,qx,mp⟩:=at_of (a:=a) (i:=ia) (by have:=L.ha;exact bq ‹_›)
   obtain⟨q,eq,eq',mq⟩:=at_of (a:=b) (i:=ib) L.hb
   refine Vg (ar eq (Vg (ar ep (Vg (jl (x:=q) (y:=p) hk (H.kb _ mq) (H.ka _ mp) ?_)))))
   by_cases lt:kn q < kn p
   ·rw[decide_eq_true lt]
    dsimp only
    rw[if_pos rfl]
    refine Vg (ar eq ?_)
    have m':Mg kn a.toList b.toList (out.push q).toList ia (ib+1):=by
     rw[f_]
     refine L.mg.jo H.sb eq' λy hy=>?_
     obtain⟨l,l1,l2,l3⟩:=aJ hy
     have:=fi H.sa l1 l2
     rw[ax ep,ax l3] at this
     omega
    by_cases c3:ib+1=b.size
    ·rw[if_pos (by rw[<-c3];simp)]
     exact Vj ⟨rfl,.inl ⟨_,_,rfl,dX H m' λ_ _ y hy=>(dY c3 y hy).elim⟩⟩
    ·rw[if_neg (by simpa using c3)]
     have L':Lo a b (out.push q) ia (ib+1):=⟨m',L.ha,by have:=L.hb;exact bP ‹_› ‹_›⟩
     by_cases c4:bc+1 >= mg
     ·rw[if_pos c4]
      exact Vj ⟨rfl,.inr ⟨_,_,_,_,_,rfl,by omega,L'⟩⟩
     ·rw[if_neg c4]
      exact Vj ⟨rfl,_,_,_,_,_,rfl,by exact ij ‹_›,L'⟩
   ·rw[decide_eq_false lt]
    dsimp only
    rw[if_neg (by decide)]
    refine Vg (ar ep ?_)
    have m':Mg kn a.toList b.toList (out.push p).toList (ia+1) ib:=by
     rw[f_]
     refine L.mg.g_ H.sa qx λy hy=>?_
     obtain⟨l,l1,l2,l3⟩:=aJ hy
     have:=fi H.sb l1 l2
     rw[ax eq,ax l3] at this
     omega
    by_cases c3:ia+1+1=a.size
    ·rw[if_pos (by rw[<-c3];simp)]
     exact Vj ⟨rfl,.inl ⟨_,_,rfl,fJ H m' c3⟩⟩
    ·rw[if_neg (by simpa using c3)]
     have L':Lo a b (out.push p) (ia+1) ib:=⟨m',by have:=L.ha;exact bP ‹_› ‹_›,L.hb⟩
     by_cases c4:ac+1 >= mg
     ·rw[if_pos c4]
      exact Vj ⟨rfl,.inr ⟨_,_,_,_,_,rfl,by omega,L'⟩⟩
     ·rw[if_neg c4]
      exact Vj ⟨rfl,_,_,_,_,_,rfl,by omega,L'⟩
  case i=>
   rintro c st' ⟨rfl,⟨r,⟨o,i1,i2,i3,i4⟩,rfl,hf⟩ | ⟨out,kx,kz,ac,bc,rfl,h2,L0⟩⟩
   ·exact Vj ⟨⟨g,rfl⟩,r,_,rfl,hf⟩
   dsimp -zeta only
   refine Vg (wpS_lift (wpAny_rule ⟨rfl,?_⟩))
   refine Vg (Vi (Vh (I:=λx c st'=>(∃g,st'=fG st g)/\∃out ia ib mg ac bc,c=(none,out,ia,ib,mg,ac,bc)/\kx+kz<=ia+ib/\Lo a b out ia ib)
    (Q:=λc st'=>(∃g,st'=fG st g)/\((∃r t,c=(some r,t)/\Fin' a.toList b.toList r)\/∃out ia ib mg ac bc,c=(none,out,ia,ib,mg,ac,bc)/\kx+kz<=ia+ib/\Lo a b out ia ib)) ?j ?k ?l) ?m)
   case l=>exact⟨⟨_,rfl⟩,out,kx,kz,_,ac,bc,rfl,by exact ai _,L0⟩
   case k=>
    rintro c st' ⟨hg,out,ia,ib,mg,ac,bc,rfl,h1,L⟩
    exact⟨hg,.inr ⟨out,ia,ib,mg,ac,bc,rfl,by assumption,L⟩⟩
   case m=>
    rintro c st' ⟨⟨g,rfl⟩,⟨r,⟨o,i1,i2,i3,i4,i5⟩,rfl,hf⟩ | ⟨out,ia,ib,mg,ac,bc,rfl,h3,L⟩⟩
    ·exact Vj ⟨⟨g,rfl⟩,r,_,rfl,hf⟩
    ·dsimp only
     exact Vg (wpS_modify (Vj ⟨⟨_,rfl⟩,_,_,_,_,rfl,by omega,L⟩))
   case j=>
    rintro x c st' _ hx ⟨⟨g,rfl⟩,out,ia,ib,mg,ac,bc,rfl,h1,L⟩
    refine Vi (Q:=oh a b st (kx+kz)) ?_ λr st' h=>by cases r<;>exact h
    have Sv:=L.ha
    have hib:=L.hb
    obtain⟨q,eq,eq',mq⟩:=at_of (a:=b) (i:=ib) hib
    dsimp -zeta only
    extract_lets z1 z2 z3 z4 z5 z6 z7 z8 z9 A8 Io Ip jp Iq
    subst Iq Ip Io A8 z9 z8 z7 z6 z5 z4 z3 z2 z1
    have key:∀m g,wpS (model prog w) A E s (jp () m) (oh a b st (kx+kz)) (fG st g):=by
     intro m g
     dsimp -zeta only[jp]
     refine Vg (wpS_modify ?_)
     refine Vg (ar eq ?_)
     refine Vg (bD hk (H.kb _ mq) (by omega) H.ka (by omega) (λi j h1 h2=>fi H.sa (by omega) (by omega)) λk k1 k2 k3=>?_)
     dsimp -zeta only
     clear jp
     extract_lets ac' jp o1 o2
     subst o2 o1 ac'
     have key:∀out' lY,ia+ib<=lY+ib->Mg kn a.toList b.toList out'.toList lY ib->lY+1 < a.size->(∀p∈a.toList.drop lY,kn q<=kn p)->wpS (model prog w) A E s (jp () out' lY) (oh a b st (kx+kz)) (fG st m):=by
      intro out' lY hs m1 Ou hq
      dsimp -zeta only[jp]
      refine Vg (ar eq ?_)
      have m2:Mg kn a.toList b.toList (out'.push q).toList lY (ib+1):=by
       rw[f_]
       exact m1.jo H.sb eq' hq
      by_cases c3:ib+1=b.size
      ·rw[if_pos (by rw[<-c3];simp)]
       exact Vj (oh.fin (dX H m2 λ_ _ y hy=>(dY c3 y hy).elim))
      rw[if_neg (by simpa using c3)]
      obtain⟨p,ep,qx,mp⟩:=at_of (a:=a) (i:=lY) (by exact bq ‹_›)
      refine Vg (ar ep ?_)
      refine Vg (bD hk (H.ka _ mp) (by omega) H.kb (by omega) (λi j h1 h2=>fi H.sb (by omega) (by omega)) λk k1 k2 k3=>?_)
      dsimp -zeta only
      clear jp
      extract_lets Ir Ov jp o1 o2
      subst o2 o1 Ov Ir
      have key:∀f' tL,ib+1<=tL->Mg kn a.toList b.toList f'.toList lY tL->tL < b.size->(∀y∈b.toList.drop tL,kn p<=kn y)->wpS (model prog w) A E s (jp () f' tL) (oh a b st (kx+kz)) (fG st m):=by
       intro f' tL hs' m3 Iu hp
       dsimp -zeta only[jp]
       refine Vg (ar ep ?_)
       have m4:Mg kn a.toList b.toList (f'.push p).toList (lY+1) tL:=by
        rw[f_]
        exact m3.g_ H.sa qx hp
       by_cases c4:lY+1+1=a.size
       ·rw[if_pos (by rw[<-c4];simp)]
        exact Vj (oh.fin (fJ H m4 c4))
       rw[if_neg (by simpa using c4)]
       have L':Lo a b (f'.push p) (lY+1) tL:=⟨m4,by exact bP ‹_› ‹_›,Iu⟩
       split
       ·exact Vj ⟨⟨m,rfl⟩,.inr ⟨_,_,_,_,_,_,rfl,by omega,L'⟩⟩
       ·exact Vj ⟨⟨m,rfl⟩,_,_,_,_,_,_,rfl,by omega,L'⟩
      by_cases c5:k > 0
      ·rw[if_pos c5]
       have m3:Mg kn a.toList b.toList (out'.push q++b.extract (ib+1) (ib+1+k)).toList lY (ib+1+k):=by
        rw[bH,lu]
        refine m2.og H.sb k λy hy x hx=>?_
        obtain⟨j,j1,j2,j3⟩:=iD hy
        obtain⟨l,l1,l2,l3⟩:=aJ hx
        have g1:=k2 j j1
        have g2:=fi H.sa l1 l2
        rw[ax ep,ax l3] at g2
        unfold gp at g1
        rw[if_pos rfl,ax j3] at g1
        have:=of_decide_eq_true g1
        omega
       by_cases c6:ib+1+k=b.size
       ·rw[if_pos (by rw[<-c6];simp)]
        exact Vj (oh.fin (dX H m3 λ_ _ y hy=>(dY c6 y hy).elim))
       ·rw[if_neg (by simpa using c6)]
        refine key _ _ (by exact aQ _ _) m3 (by omega) λy hy=>?_
        obtain⟨l,l1,l2,l3⟩:=aJ hy
        have g1:=k3 (l - (ib+1)) (by omega) (by omega)
        unfold gp at g1
        rw[if_pos rfl,show ib+1+(l - (ib+1))=l by omega,ax l3] at g1
        have:=of_decide_eq_false g1
        exact Int.not_lt.mp ‹_›
      ·rw[if_neg c5]
       refine key _ _ (by exact ai _) m2 (by exact bP ‹_› ‹_›) λy hy=>?_
       obtain⟨l,l1,l2,l3⟩:=aJ hy
       have g1:=k3 (l - (ib+1)) (by omega) (by omega)
       unfold gp at g1
       rw[if_pos rfl,show ib+1+(l - (ib+1))=l by omega,ax l3] at g1
       have:=of_decide_eq_false g1
       exact Int.not_lt.mp ‹_›
     have after:∀p∈a.toList.drop (ia+k),kn q<=kn p:=λp hp=>by
      obtain⟨l,l1,l2,l3⟩:=aJ hp
      have g1:=k3 (l - ia) (by omega) (by omega)
      unfold gp at g1
      rw[if_neg (by decide),show ia+(l - ia)=l by omega,ax l3] at g1
      have:kn q < kn p:=by simpa using g1
      exact dI ‹_›
     by_cases c5:k > 0
     ·rw[if_pos c5]
      have m3:Mg kn a.toList b.toList (out++a.extract ia (ia+k)).toList (ia+k) ib:=by
       rw[bH,lu]
       refine L.mg.iB H.sa k λy hy x hx=>?_
       obtain⟨j,j1,j2,j3⟩:=iD hy
       obtain⟨l,l1,l2,l3⟩:=aJ hx
       have g1:=k2 j j1
       have g2:=fi H.sb l1 l2
       rw[ax eq,ax l3] at g2
       unfold gp at g1
       rw[if_neg (by decide),ax j3] at g1
       have:¬kn q < kn y:=by simpa using g1
       omega
      by_cases c6:ia+k+1=a.size
      ·rw[if_pos (by rw[<-c6];simp)]
       exact Vj (oh.fin (fJ H m3 c6))
      rw[if_neg (by simpa using c6)]
      by_cases c7:ia+k=a.size
      ·rw[if_pos (by rw[<-c7];simp)]
       exact Vj (oh.fin (dX H m3 λy hy=>(dY c7 y hy).elim))
      ·rw[if_neg (by simpa using c7)]
       exact key _ _ (by omega) m3 (by omega) after
     ·rw[if_neg c5]
      have:k=0:=by omega
      subst this
      exact key _ _ (by exact ai _) L.mg (by assumption) after
    split<;>exact key _ _
end
section
variable {α:Type} {f:α->Int} {A B:List α}
structure Mh(f:α->Int)(A B R:List α)(na nb:Nat):Prop where
 pm:R.Perm (A.drop na++B.drop nb)
 so:R.Pairwise (f · <=f ·)
 la:∀q∈A.take na,∀p∈R,f q<=f p
 lb:∀q∈B.take nb,∀p∈R,f q<=f p
theorem Mh.swap{R:List α}{na nb:Nat}(h:Mh f A B R na nb):Mh f B A R nb na:=⟨h.pm.trans gA,h.so,h.lb,h.la⟩
theorem take_take{i n:Nat}(h:i<=n):A.take n=A.take i++(A.take n).drop i:=by
 have:=br i (A.take n)
 rw[List.take_take,iE h] at this
 exact this.symm
theorem drop_take{i n:Nat}(h:i<=n):A.drop i=(A.take n).drop i++A.drop n:=by
 have h1:=br n A
 have h2:=congrArg (List.drop i) h1
 rw[kA] at h2
 rw[<-h2]
 by_cases c:n<=A.length
 ·rw[aD,iE c,Ex h,cK]
 ·rw[eJ (show A.length<=n by exact Nat.le_of_not_le ‹_›),List.drop_nil]
theorem Mh.iB{R:List α}{na nb:Nat}(h:Mh f A B R na nb)(sa:A.Pairwise (f · <=f ·))(k:Nat)(k1:k<=na)(hk:∀p∈(A.take na).drop k,∀q∈B.take nb,f q<=f p):Mh f A B ((A.take na).drop k++R) k nb:=by
 have e:=take_take (A:=A) k1
 have st:(A.take na).Pairwise (f · <=f ·):=sa.sublist (dm _ _)
 rw[e,bu] at st
 have mT:∀p∈(A.take na).drop k,p∈A.take na:=λp hp=>(eI _ _).mem hp
 have mD:∀p∈A.take k,p∈A.take na:=λp hp=>by rw[e];exact fz _ hp
 refine⟨?_,?_,?_,?_⟩
 ·rw[drop_take (A:=A) k1,bp]
  exact h.pm.append_left _
 ·rw[bu]
  exact⟨st.2.1,h.so,λp hp q hq=>h.la p (mT p hp) q hq⟩
 ·intro q hq p hp
  rcases List.mem_append.mp hp with z | z
  ·exact st.2.2 q hq p z
  ·exact h.la q (mD q hq) p z
 ·intro q hq p hp
  rcases List.mem_append.mp hp with z | z
  ·exact hk p z q hq
  ·exact h.lb q hq p z
theorem Mh.og{R:List α}{na nb:Nat}(h:Mh f A B R na nb)(sb:B.Pairwise (f · <=f ·))(k:Nat)(k1:k<=nb)(hk:∀p∈(B.take nb).drop k,∀q∈A.take na,f q<=f p):Mh f A B ((B.take nb).drop k++R) na k :=
 (h.swap.iB sb k k1 hk).swap
theorem oi{n:Nat}{p:α}(e:A[n]? =some p):(A.take (n+1)).drop n=[p]:=by
 obtain⟨lt,rfl⟩:=List.getElem?_eq_some_iff.mp e
 rw[rf lt,kA,eJ (by rw[aD];exact Nat.min_le_left ..),aD,iE (by exact bq ‹_›),kU]
 rfl
theorem Mh.g_{R:List α}{na nb:Nat}{p:α}(h:Mh f A B R (na+1) nb)(sa:A.Pairwise (f · <=f ·))(e:A[na]? =some p)(hk:∀q∈B.take nb,f q<=f p):Mh f A B (p::R) na nb:=by
 have t1:=oi e
 have:=h.iB sa na (by exact fD _) (by rw[t1];intro q hq;rw[List.mem_singleton.mp hq];exact hk)
 rw[t1] at this
 exact this
theorem Mh.jo{R:List α}{na nb:Nat}{p:α}(h:Mh f A B R na (nb+1))(sb:B.Pairwise (f · <=f ·))(e:B[nb]? =some p)(hk:∀q∈A.take na,f q<=f p):Mh f A B (p::R) na nb :=
 (h.swap.g_ sb e hk).swap
theorem Mh.fin{R:List α}{na nb:Nat}(h:Mh f A B R na nb)(sa:A.Pairwise (f · <=f ·))(sb:B.Pairwise (f · <=f ·))(hk:∀p∈B.take nb,∀q∈A.take na,f q<=f p):(A.take na++B.take nb++R).Perm (A++B)/\(A.take na++B.take nb++R).Pairwise (f · <=f ·):=by
 have h1:=h.og sb 0 (aA _) (by rw[cK];exact hk)
 have h2:=h1.iB sa 0 (aA _) (by intro _ _ _ z;cases z)
 have pm:=h2.pm
 have so:=h2.so
 rw[cK,cK,<-bp] at so
 rw[cK,cK,cK,cK,<-bp] at pm
 exact⟨pm,so⟩
theorem Mh.vp{R:List α}{na nb:Nat}(h:Mh f A B R na nb)(sa:A.Pairwise (f · <=f ·))(sb:B.Pairwise (f · <=f ·))(hk:∀p∈A.take na,∀q∈B.take nb,f q<=f p):(B.take nb++A.take na++R).Perm (A++B)/\(B.take nb++A.take na++R).Pairwise (f · <=f ·):=by
 obtain⟨h1,h2⟩:=h.swap.fin sb sa hk
 exact⟨h1.trans gA,h2⟩
end
theorem a8{a:Array Vd}{n:Nat}{p:Vd}(h:p∈a.toList.take n):∃j,j < n/\j < a.size/\a[j]? =some p:=by
 have:=iD (a:=a) (i:=0) (k:=n) (p:=p) h
 obtain⟨j,h1,h2,h3⟩:=this
 rw[bw] at h2 h3
 exact⟨j,h1,h2,h3⟩
theorem mem_mid{a:Array Vd}{i n:Nat}{p:Vd}(h:p∈(a.toList.take n).drop i):∃j,i<=j/\j < n/\j < a.size/\a[j]? =some p:=by
 obtain⟨j,e⟩:=cu h
 rw[eK] at e
 have lt:=(List.getElem?_eq_some_iff.mp e).1
 rw[aD] at lt
 rw[cL (by omega)] at e
 have:a.toList.length=a.size:=rfl
 exact⟨i+j,by exact aQ _ _,by omega,by omega,by rw[<-fc];exact e⟩
theorem cW{a:Array Vd}(n:Nat):(a.extract 0 n).toList=a.toList.take n:=by
 rw[gN,gO]
 rfl
theorem iF{a:Array Vd}(i n:Nat):(a.extract i n).toList=(a.toList.take n).drop i:=by
 rw[gN,gO,vq]
structure vr(a b:Array Vd):Prop where
 ka:∀p∈a.toList,Ik p
 kb:∀p∈b.toList,Ik p
 sa:Up a.toList
 sb:Up b.toList
 first:∀i,i < a.size->K b 0<=K a i
abbrev fj(a b out:Array Vd)(na nb:Nat):Prop:=Mh kn a.toList b.toList out.toList.reverse na nb
theorem dZ{a b out:Array Vd}{na nb:Nat}(H:vr a b)(m:fj a b out na nb)(h:∀p∈b.toList.take nb,∀q∈a.toList.take na,kn q<=kn p):Fin' a.toList b.toList (a.extract 0 na++b.extract 0 nb++out.reverse):=by
 unfold Fin' Up
 rw[bH,bH,cW,cW,kC]
 exact m.fin H.sa H.sb h
theorem d_{a b out:Array Vd}{na:Nat}(H:vr a b)(m:fj a b out na 1):Fin' a.toList b.toList (b.extract 0 1++a.extract 0 na++out.reverse):=by
 unfold Fin' Up
 rw[bH,bH,cW,cW,kC]
 refine m.vp H.sa H.sb λp hp q hq=>?_
 obtain⟨j,j1,j2,j3⟩:=a8 hp
 obtain⟨l,l1,l2,l3⟩:=a8 hq
 have:l=0:=by omega
 rw[<-ax j3,<-ax l3,this]
 exact H.first j j2
theorem gf{a b out:Array Vd}{na nb:Nat}{p:Vd}(H:vr a b)(m:fj a b out (na+1) nb)(e:a.toList[na]? =some p)(hk:∀q∈b.toList.take nb,kn q<=kn p):fj a b (out.push p) na nb:=by
 unfold fj
 rw[f_,fK]
 exact m.g_ H.sa e hk
theorem jq{a b out:Array Vd}{na nb:Nat}{p:Vd}(H:vr a b)(m:fj a b out na (nb+1))(e:b.toList[nb]? =some p)(hk:∀q∈a.toList.take na,kn q<=kn p):fj a b (out.push p) na nb:=by
 unfold fj
 rw[f_,fK]
 exact m.jo H.sb e hk
theorem rh{a b out:Array Vd}{na nb:Nat}(H:vr a b)(m:fj a b out na nb)(k:Nat)(k1:k<=na)(hk:∀p∈(a.toList.take na).drop k,∀q∈b.toList.take nb,kn q<=kn p):fj a b (out++(a.extract k na).reverse) k nb:=by
 unfold fj
 rw[bH,kC,fK,rj,iF]
 exact m.iB H.sa k k1 hk
theorem rk{a b out:Array Vd}{na nb:Nat}(H:vr a b)(m:fj a b out na nb)(k:Nat)(k1:k<=nb)(hk:∀p∈(b.toList.take nb).drop k,∀q∈a.toList.take na,kn q<=kn p):fj a b (out++(b.extract k nb).reverse) na k:=by
 unfold fj
 rw[bH,kC,fK,rj,iF]
 exact m.og H.sb k k1 hk
structure Hi(a b out:Array Vd)(na nb:Nat):Prop where
 mg:fj a b out na nb
 a0:1<=na
 a1:na<=a.size
 b0:2<=nb
 b1:nb<=b.size
section
variable {prog:UR} {w:UU} {A:UO} {E:UT->US->Prop} {s:US}
abbrev Ow:=Option (Array Vd)×Nat×Nat×Array Vd×Nat×Nat×Nat
def oj(a b:Array Vd)(st:Ve)(n:Nat)(r:ForInStep Ow)(st':Ve):Prop :=
 (∃g,st'=fG st g)/\match r with
 | .done c=>(∃r t,c=(some r,t)/\Fin' a.toList b.toList r)\/∃na nb out mg ac bc,c=(none,na,nb,out,mg,ac,bc)/\na+nb<=n/\Hi a b out na nb
 | .yield c=>∃na nb out mg ac bc,c=(none,na,nb,out,mg,ac,bc)/\na+nb<=n/\Hi a b out na nb
theorem oj.fin{a b:Array Vd}{st:Ve}{n g:Nat}{r:Array Vd}{t:Nat×Nat×Array Vd×Nat×Nat×Nat}(h:Fin' a.toList b.toList r):oj a b st n (.done (some r,t)) (fG st g):=⟨⟨g,rfl⟩,.inl ⟨r,t,rfl,h⟩⟩
theorem eh{b:Array Vd}:∀q:Vd,q∉b.toList.take 0:=λq hq=>by cases hq
theorem kD{st:Ve}{a b:Array Vd}{Q:Array Vd->Ve->Prop}(H:vr a b)(tM:1<=a.size)(tN:1<=b.size)(hk:kindOf st=Vf)(last:∀j,j < b.size->K b j<=K a (a.size - 1))
  (h:∀r g,Fin' a.toList b.toList r->Q r (fG st g)):wpS (model prog w) A E s (oa a b) Q st:=by
 refine Vg (wpS_lift (wpAny_rule ⟨rfl,?_⟩))
 obtain⟨a0,LQ,Iv,Sw⟩:=at_of (a:=a) (i:=a.size - 1) (by omega)
 refine Vg (ar LQ ?_)
 have m0:fj a b #[a0] (a.size - 1) b.size:=by
  have z:fj a b #[] (a.size - 1+1) b.size:=⟨by
   have l1:a.toList.length=a.size:=rfl
   have l2:b.toList.length=b.size:=rfl
   rw[eJ (by omega),eJ (by exact ai _)]
   exact .nil,.nil,(λ_ _ _ z=>by cases z),(λ_ _ _ z=>by cases z)⟩
  refine gf H z Iv λq hq=>?_
  obtain⟨l,l1,l2,l3⟩:=a8 hq
  rw[<-ax LQ,<-ax l3]
  exact last l l2
 dsimp -zeta only
 extract_lets out
 subst out
 by_cases c1:a.size - 1=0
 ·rw[if_pos (by rw[c1];rfl)]
  rw[c1] at m0 ⊢
  exact Vj (h _ _ (dZ H m0 λ_ _ q hq=>(eh q hq).elim))
 rw[if_neg (by simpa using c1)]
 by_cases c2:b.size=1
 ·rw[if_pos (by rw[c2];rfl)]
  rw[c2] at m0 ⊢
  exact Vj (h _ _ (d_ H m0))
 rw[if_neg (by simpa using c2)]
 refine Vg (wpS_get ?_)
 refine Vg (Vi (Vh (I:=λx c st'=>(∃g,st'=fG st g)/\∃na nb out mg,c=(none,na,nb,out,mg)/\na+nb+x+1<=a.size+b.size/\Hi a b out na nb)
  (Q:=λc st'=>(∃g,st'=fG st g)/\∃r t,c=(some r,t)/\Fin' a.toList b.toList r) ?a ?b ?c) ?d)
 case c=>exact⟨⟨_,rfl⟩,_,_,_,_,rfl,by omega,m0,by exact fL ‹_›,by exact iC _ _,by omega,by exact ai _⟩
 case d=>
  rintro c st' ⟨⟨g,rfl⟩,r,t,rfl,hf⟩
  exact Vj (h _ _ hf)
 case b=>
  rintro c st' ⟨_,na,nb,out,mg,_,h1,h2,h3,h4⟩
  omega
 case a=>
  rintro x c st' _ hx ⟨⟨g,rfl⟩,Iw,Iy,out,mg,rfl,h1,L0⟩
  dsimp -zeta only
  refine Vg (Vi (Vh (I:=λx c st'=>st'=fG st g/\∃na nb out ac bc,c=(none,na,nb,out,ac,bc)/\na+nb+x<=Iw+Iy/\Hi a b out na nb)
   (Q:=λc st'=>st'=fG st g/\((∃r t,c=(some r,t)/\Fin' a.toList b.toList r)\/∃na nb out ac bc,c=(none,na,nb,out,ac,bc)/\na+nb+1<=Iw+Iy/\Hi a b out na nb)) ?e ?f ?g) ?i)
  case g=>exact⟨rfl,Iw,Iy,out,0,0,rfl,by exact ai _,L0⟩
  case f=>
   rintro c st' ⟨rfl,na,nb,out,ac,bc,rfl,h1,L⟩
   have:=L.a0
   have:=L.b0
   exact⟨rfl,.inr ⟨na,nb,out,ac,bc,rfl,by omega,L⟩⟩
  case e=>
   rintro x c st' _ hx ⟨rfl,na,nb,out,ac,bc,rfl,h1,L⟩
   dsimp only
   have l1:=L.a0
   have l2:=L.a1
   have l3:=L.b0
   have l4:=L.b1
   obtain⟨n,rfl⟩:∃n,na=n+1:=⟨na - 1,by omega⟩
   obtain⟨m,rfl⟩:∃m,nb=m+1:=⟨nb - 1,by omega⟩
   rw[fM,fM]
   obtain⟨p,ep,qx,mp⟩:=at_of (a:=a) (i:=n) (by assumption)
   obtain⟨q,eq,eq',mq⟩:=at_of (a:=b) (i:=m) (by assumption)
   refine Vg (ar eq (Vg (ar ep (Vg (jl (x:=q) (y:=p) hk (H.kb _ mq) (H.ka _ mp) ?_)))))
   by_cases lt:kn q < kn p
   ·rw[decide_eq_true lt]
    dsimp only
    rw[if_pos rfl]
    refine Vg (ar ep ?_)
    have m':fj a b (out.push p) n (m+1):=gf H L.mg qx λy hy=>by
     obtain⟨l,l1,l2,l3⟩:=a8 hy
     have:=fi H.sb (show l<=m by exact cn ‹_›) (by assumption)
     rw[ax eq,ax l3] at this
     omega
    by_cases c3:n=0
    ·rw[if_pos (by rw[c3];rfl)]
     rw[c3] at m' ⊢
     exact Vj ⟨rfl,.inl ⟨_,_,rfl,dZ H m' λ_ _ y hy=>(eh y hy).elim⟩⟩
    ·rw[if_neg (by simpa using c3)]
     have L':Hi a b (out.push p) n (m+1):=⟨m',by exact fL ‹_›,by exact bq ‹_›,by assumption,by assumption⟩
     by_cases c4:ac+1 >= mg
     ·rw[if_pos c4]
      exact Vj ⟨rfl,.inr ⟨_,_,_,_,_,rfl,by omega,L'⟩⟩
     ·rw[if_neg c4]
      exact Vj ⟨rfl,_,_,_,_,_,rfl,by omega,L'⟩
   ·rw[decide_eq_false lt]
    dsimp only
    rw[if_neg (by decide)]
    refine Vg (ar eq ?_)
    have m':fj a b (out.push q) (n+1) m:=jq H L.mg eq' λy hy=>by
     obtain⟨l,l1,l2,l3⟩:=a8 hy
     have:=fi H.sa (show l<=n by exact cn ‹_›) (by assumption)
     rw[ax ep,ax l3] at this
     omega
    by_cases c3:m=1
    ·rw[if_pos (by rw[c3];rfl)]
     rw[c3] at m' ⊢
     exact Vj ⟨rfl,.inl ⟨_,_,rfl,d_ H m'⟩⟩
    ·rw[if_neg (by simpa using c3)]
     have L':Hi a b (out.push q) (n+1) m:=⟨m',by assumption,by assumption,by omega,by exact bq ‹_›⟩
     by_cases c4:bc+1 >= mg
     ·rw[if_pos c4]
      exact Vj ⟨rfl,.inr ⟨_,_,_,_,_,rfl,by omega,L'⟩⟩
     ·rw[if_neg c4]
      exact Vj ⟨rfl,_,_,_,_,_,rfl,by omega,L'⟩
  case i=>
   rintro c st' ⟨rfl,⟨r,⟨o,i1,i2,i3,i4⟩,rfl,hf⟩ | ⟨tM,tN,out,ac,bc,rfl,h2,L0⟩⟩
   ·exact Vj ⟨⟨g,rfl⟩,r,_,rfl,hf⟩
   dsimp -zeta only
   refine Vg (wpS_lift (wpAny_rule ⟨rfl,?_⟩))
   refine Vg (Vi (Vh (I:=λx c st'=>(∃g,st'=fG st g)/\∃na nb out mg ac bc,c=(none,na,nb,out,mg,ac,bc)/\na+nb<=tM+tN/\Hi a b out na nb)
    (Q:=λc st'=>(∃g,st'=fG st g)/\((∃r t,c=(some r,t)/\Fin' a.toList b.toList r)\/∃na nb out mg ac bc,c=(none,na,nb,out,mg,ac,bc)/\na+nb<=tM+tN/\Hi a b out na nb)) ?j ?k ?l) ?mm)
   case l=>exact⟨⟨_,rfl⟩,tM,tN,out,_,ac,bc,rfl,by exact ai _,L0⟩
   case k=>
    rintro c st' ⟨hg,na,nb,out,mg,ac,bc,rfl,h1,L⟩
    exact⟨hg,.inr ⟨na,nb,out,mg,ac,bc,rfl,by assumption,L⟩⟩
   case mm=>
    rintro c st' ⟨⟨g,rfl⟩,⟨r,⟨o,i1,i2,i3,i4,i5⟩,rfl,hf⟩ | ⟨na,nb,out,mg,ac,bc,rfl,h3,L⟩⟩
    ·exact Vj ⟨⟨g,rfl⟩,r,_,rfl,hf⟩
    ·dsimp only
     exact Vg (wpS_modify (Vj ⟨⟨_,rfl⟩,_,_,_,_,rfl,by omega,L⟩))
   case j=>
    rintro x c st' _ hx ⟨⟨g,rfl⟩,na,nb,out,mg,ac,bc,rfl,h1,L⟩
    refine Vi (Q:=oj a b st (tM+tN)) ?_ λr st' h=>by cases r<;>exact h
    have l1:=L.a0
    have l2:=L.a1
    have l3:=L.b0
    have l4:=L.b1
    obtain⟨m,rfl⟩:∃m,nb=m+1:=⟨nb - 1,by omega⟩
    obtain⟨q,eq,eq',mq⟩:=at_of (a:=b) (i:=m) (by assumption)
    dsimp -zeta only
    extract_lets z1 z2 z3 z4 z5 z6 z7 z8 z9 A8 Io Ip jp Iq
    subst Iq Ip Io A8 z9 z8 z7 z6 z5 z4 z3 z2 z1
    have key:∀mg g,wpS (model prog w) A E s (jp () mg) (oj a b st (tM+tN)) (fG st g):=by
     intro mg g
     dsimp -zeta only[jp]
     rw[fM]
     refine Vg (wpS_modify ?_)
     refine Vg (ar eq ?_)
     refine Vg (bD hk (H.kb _ mq) (by omega) H.ka (by omega) (λi j h1 h2=>fi H.sa (by omega) (by omega)) λk k1 k2 k3=>?_)
     have upto:∀p∈a.toList.take k,kn p<=kn q:=λp hp=>by
      obtain⟨l,l1,l2,l3⟩:=a8 hp
      have g1:=k2 l l1
      unfold gp at g1
      rw[if_neg (by decide),bw,ax l3] at g1
      have:¬kn q < kn p:=by simpa using g1
      exact Int.not_lt.mp ‹_›
     dsimp -zeta only
     clear jp
     extract_lets o0 ac' jp o1 o2
     subst o2 o1 ac' o0
     have key:∀out' rl,1<=rl->rl<=na->fj a b out' rl (m+1)->(∀p∈a.toList.take rl,kn p<=kn q)->wpS (model prog w) A E s (jp () rl out') (oj a b st (tM+tN)) (fG st mg):=by
      intro out' rl n1 n2 m1 hq
      dsimp -zeta only[jp]
      refine Vg (ar eq ?_)
      have m2:fj a b (out'.push q) rl m:=jq H m1 eq' hq
      by_cases c3:m=1
      ·rw[if_pos (by rw[c3];rfl)]
       rw[c3] at m2 ⊢
       exact Vj (oj.fin (d_ H m2))
      rw[if_neg (by simpa using c3)]
      obtain⟨n,rfl⟩:∃n,rl=n+1:=⟨rl - 1,by omega⟩
      obtain⟨p,ep,qx,mp⟩:=at_of (a:=a) (i:=n) (by exact aL ‹_ < _› ‹_<=_›)
      rw[fM]
      refine Vg (ar ep ?_)
      refine Vg (bD hk (H.ka _ mp) (by omega) H.kb (by omega) (λi j h1 h2=>fi H.sb (by omega) (by omega)) λk k1 k2 k3=>?_)
      have upto:∀y∈b.toList.take k,kn y<=kn p:=λy hy=>by
       obtain⟨l,l1,l2,l3⟩:=a8 hy
       have g1:=k2 l l1
       unfold gp at g1
       rw[if_pos rfl,bw,ax l3] at g1
       have:=of_decide_eq_true g1
       exact dI ‹_›
      dsimp -zeta only
      clear jp
      extract_lets o0 Ir n' jp o1 o2
      subst o2 o1 n' Ir o0
      have key:∀f' tO,2<=tO->tO<=m->fj a b f' (n+1) tO->(∀y∈b.toList.take tO,kn y<=kn p)->wpS (model prog w) A E s (jp () tO f') (oj a b st (tM+tN)) (fG st mg):=by
       intro f' tO b1 b2 m3 hp
       dsimp -zeta only[jp]
       refine Vg (ar ep ?_)
       have m4:fj a b (f'.push p) n tO:=gf H m3 qx hp
       by_cases c4:n=0
       ·rw[if_pos (by rw[c4];rfl)]
        rw[c4] at m4 ⊢
        exact Vj (oj.fin (dZ H m4 λ_ _ y hy=>(eh y hy).elim))
       rw[if_neg (by simpa using c4)]
       have L':Hi a b (f'.push p) n tO:=⟨m4,by exact fL ‹_›,by omega,by assumption,by omega⟩
       split
       ·exact Vj ⟨⟨mg,rfl⟩,.inr ⟨_,_,_,_,_,_,rfl,by omega,L'⟩⟩
       ·exact Vj ⟨⟨mg,rfl⟩,_,_,_,_,_,_,rfl,by omega,L'⟩
      by_cases c5:m - k > 0
      ·rw[if_pos c5]
       have m3:fj a b (out'.push q++(b.extract k m).reverse) (n+1) k:=by
        refine rk H m2 k (by assumption) λy hy x hx=>?_
        obtain⟨j,j0,j1,j2,j3⟩:=mem_mid hy
        obtain⟨l,l1,l2,l3⟩:=a8 hx
        have g1:=k3 j j0 j1
        have g2:=fi H.sa (show l<=n by exact cn ‹_›) (by exact aL ‹_ < _› ‹_<=_›)
        rw[ax ep,ax l3] at g2
        unfold gp at g1
        rw[if_pos rfl,bw,ax j3] at g1
        have:=of_decide_eq_false g1
        omega
       by_cases c6:k=1
       ·rw[if_pos (by rw[c6];rfl)]
        rw[c6] at m3 ⊢
        exact Vj (oj.fin (d_ H m3))
       rw[if_neg (by simpa using c6)]
       by_cases c7:k=0
       ·rw[if_pos (by rw[c7];rfl)]
        rw[c7] at m3 ⊢
        exact Vj (oj.fin (dZ H m3 λy hy=>(eh y hy).elim))
       ·rw[if_neg (by simpa using c7)]
        exact key _ _ (by omega) (by assumption) m3 upto
      ·rw[if_neg c5]
       have:k=m:=by omega
       subst this
       exact key _ _ (by omega) (by assumption) m2 upto
     by_cases c5:na - k > 0
     ·rw[if_pos c5]
      have m3:fj a b (out++(a.extract k na).reverse) k (m+1):=by
       refine rh H L.mg k (by assumption) λy hy x hx=>?_
       obtain⟨j,j0,j1,j2,j3⟩:=mem_mid hy
       obtain⟨l,l1,l2,l3⟩:=a8 hx
       have g1:=k3 j j0 j1
       have g2:=fi H.sb (show l<=m by exact cn ‹_›) (by assumption)
       rw[ax eq,ax l3] at g2
       unfold gp at g1
       rw[if_neg (by decide),bw,ax j3] at g1
       have:kn q < kn y:=by simpa using g1
       omega
      by_cases c6:k=0
      ·rw[if_pos (by rw[c6];rfl)]
       rw[c6] at m3 ⊢
       exact Vj (oj.fin (dZ H m3 λ_ _ y hy=>(eh y hy).elim))
      ·rw[if_neg (by simpa using c6)]
       exact key _ _ (by exact fL ‹_›) (by assumption) m3 upto
     ·rw[if_neg c5]
      have:k=na:=by omega
      subst this
      exact key _ _ (by assumption) (by assumption) L.mg upto
    split<;>exact key _ _
end
theorem lx(b:Nat):∀(l:List Vd)(k:Nat)(xs:Array Vd),b+k+l.length<=xs.size->((l.zipIdx k).foldl (λ(a:Array Vd)(q:Vd×Nat)=>a.setIfInBounds (b+q.2) q.1) xs).toList=xs.toList.take (b+k)++l++xs.toList.drop (b+k+l.length)
 | [],k,xs,h=>by simp
 | p::l,k,xs,h=>by
  rw[List.zipIdx_cons,nL]
  rw[cM] at h
  have ih:=lx b l (k+1) (xs.setIfInBounds (b+k) p) (by rw[Iz];omega)
  refine ih.trans ?_
  have lt:b+k < xs.toList.length:=by show b+k < xs.size;omega
  have e1:(xs.toList.set (b+k) p).take (b+(k+1))=xs.toList.take (b+k)++[p]:=by
   rw[<-eS,rf (by rw[wC];exact lt),List.take_set_of_le (ai _),Ey]
  have e2:(xs.toList.set (b+k) p).drop (b+(k+1)+l.length)=xs.toList.drop (b+(k+1)+l.length):=List.drop_set_of_lt (by exact aQ _ _)
  rw[rn,e1,e2,cM,show b+(k+1)+l.length=b+k+(l.length+1) by omega]
  simp
theorem seg_at{xs:Array Vd}{L A R:List Vd}(e:xs.toList=L++A++R){i:Nat}(h:i < A.length):xs[L.length+i]? =A[i]?:=by
 rw[<-fc,e,bp,jb (by exact aQ _ _),fg (by omega)]
 congr 1
 exact fI ..
theorem om{xs:Array Vd}{L A R:List Vd}(e:xs.toList=L++A++R)(u:Up A){i j:Nat}(h1:i<=j)(h2:j < A.length):K xs (L.length+i)<=K xs (L.length+j):=by
 have q1:=seg_at e (i:=i) (by exact lq ‹_<=_› ‹_ < _›)
 have q2:=seg_at e h2
 rw[cm (by omega)] at q1 q2
 rw[ax q1,ax q2]
 by_cases c:i=j
 ·subst c
  exact cw _
 ·exact List.pairwise_iff_getElem.mp u i j (by exact lq ‹_<=_› ‹_ < _›) (by assumption) (by exact bP ‹_› ‹_›)
theorem lC{xs:Array Vd}{L A R:List Vd}(e:xs.toList=L++A++R){i j:Nat}(h1:i<=j)(h2:j<=A.length):(xs.extract (L.length+i) (L.length+j)).toList=(A.take j).drop i:=by
 rw[gN,gO,e,bp,kA,eJ (by exact aQ _ _),ir,fI,show L.length+j - (L.length+i)=j - i by omega,vq,vt (by exact bt ‹_<=_› ‹_<=_›),rp (by rw[bL];omega)]
section
variable {prog:UR} {w:UU} {A₀:UO} {E:UT->US->Prop} {s:US}
theorem rA{σ:Type}{M:Model}{Q:PUnit->σ->Prop}{st x:σ}(h:Q ⟨⟩ x):wpS M A₀ E s (set x:StateT σ Sem PUnit) Q st:=by
 unfold wpS
 rw[StateT.run_set]
 exact Vb ⟨rfl,h⟩
theorem kE{xs:Array Vd}{g0 sa na pw sb nb p2:Nat}{pre post:List (Nat×Nat×Nat)}{L A B S:List Vd}{Q:Bool->Ve->Prop}
  (e:xs.toList=L++A++(B++S))(hI:∀p∈xs.toList,Ik p)(e1:L.length=sa)(e2:A.length=na)(e3:B.length=nb)(e4:sb=sa+na)(n1:1<=na)(n2:1<=nb)(uA:Up A)(uB:Up B)
  (h:∀C ys g,C.Perm (A++B)->Up C->ys.toList=L++C++S->Q true (ao Vf ys (pre++(sa,na+nb,pw)::post).toArray g none)) :
  wpS (model prog w) A₀ E s (mergeAt' pre.length) Q (ao Vf xs (pre++(sa,na,pw)::(sb,nb,p2)::post).toArray g0 none):=by
 refine Vg (wpS_get ?_)
 have g1:(pre++(sa,na,pw)::(sb,nb,p2)::post).toArray[pre.length]? =some (sa,na,pw):=by simp
 have g2:(pre++(sa,na,pw)::(sb,nb,p2)::post).toArray[pre.length+1]? =some (sb,nb,p2):=by simp
 have g3:((pre++(sa,na,pw)::(sb,nb,p2)::post).toArray.setIfInBounds pre.length (sa,na+nb,pw)).eraseIdxIfInBounds (pre.length+1)=(pre++(sa,na+nb,pw)::post).toArray:=by
  apply Array.toList_inj.mp
  rw[IA,rn]
  simp[IB]
 dsimp -zeta only
 rw[g1,g2]
 dsimp -zeta only
 refine Vg (rA ?_)
 rw[g3]
 clear g1 g2 g3
 subst e1 e2 e3 e4
 obtain⟨b0,rB,eb⟩:∃b0 rB,B=b0::rB:=by cases B with | nil=>simp at n2 | cons x y=>exact⟨x,y,rfl⟩
 have eB:xs.toList=(L++A)++B++S:=by rw[e];simp
 have A9:(L++A).length=L.length+A.length:=aP
 have sz:xs.size=L.length+A.length+(B.length+S.length):=by
  have:=congrArg fB e
  simpa [eS,wF,Nat.add_left_comm] using this
 have Ew:xs[L.length+A.length]? =some b0:=by
  have:=seg_at eB (i:=0) (by assumption)
  rw[A9,eb] at this
  exact this
 have Ox:Ik b0:=hI b0 (by rw[e,eb];simp)
 refine Vg (ar Ew ?_)
 refine Vg (bD rfl Ox (by omega) hI (by assumption) (λi j h1 h2=>om e uA h1 h2) λk k1 k2 k3=>?_)
 have lo1:∀p∈A.take k,kn p<=kn b0:=λp hp=>by
  obtain⟨i,ei⟩:=cu hp
  have li:=(List.getElem?_eq_some_iff.mp ei).1
  rw[aD] at li
  rw[cL (by omega)] at ei
  have g1:=k2 i (by omega)
  unfold gp at g1
  rw[if_neg (by decide),ax ((seg_at e (by omega)).trans ei)] at g1
  have:¬kn b0 < kn p:=by simpa using g1
  exact Int.not_lt.mp ‹_›
 have hi1:∀p∈A.drop k,kn b0<=kn p:=λp hp=>by
  obtain⟨i,ei⟩:=cu hp
  rw[eK] at ei
  have li:=(List.getElem?_eq_some_iff.mp ei).1
  have g1:=k3 (k+i) (by exact aQ _ _) li
  unfold gp at g1
  rw[if_neg (by decide),ax ((seg_at e li).trans ei)] at g1
  have:kn b0 < kn p:=by simpa using g1
  exact dI ‹_›
 have A_:∀q∈B,kn b0<=kn q:=λq hq=>by
  rw[eb] at hq uB
  rcases List.mem_cons.mp hq with z | z
  ·rw[z];exact cw _
  ·exact(List.pairwise_cons.mp uB).1 q z
 dsimp -zeta only
 by_cases c1:A.length - k=0
 ·rw[if_pos (by rw[c1];rfl)]
  have ek:A.take k=A:=bO (by omega)
  rw[ek] at lo1
  refine Vj (h (A++B) xs g0 (.refl _) ?_ (by rw[e];simp))
  unfold Up
  rw[bu]
  exact⟨uA,uB,λp hp q hq=>cP (lo1 p hp) (A_ q hq)⟩
 rw[if_neg (by simpa using c1),show L.length+k+(A.length - k) - 1=L.length+(A.length - 1) by omega]
 obtain⟨a1,IC⟩:∃a1,A[A.length - 1]? =some a1:=⟨_,cm (by omega)⟩
 have Ba:=(seg_at e (i:=A.length - 1) (by omega)).trans IC
 have Oy:a1∈A.drop k:=by
  refine jN (i:=A.length - 1 - k) ?_
  rw[eK,show k+(A.length - 1 - k)=A.length - 1 by omega]
  exact IC
 have Oz:Ik a1:=hI a1 (by rw[e];exact fz _ (cg _ ((eI _ _).mem Oy)))
 refine Vg (ar Ba ?_)
 refine Vg (bD (base:=L.length+A.length) rfl Oz (by omega) hI (by omega) (λi j h1 h2=>by rw[<-A9];exact om eB uB h1 h2) λm m1 m2 m3=>?_)
 have vw:∀p∈A,kn p<=kn a1:=λp hp=>by
  obtain⟨i,ei⟩:=cu hp
  have li:=(List.getElem?_eq_some_iff.mp ei).1
  have:=om e uA (i:=i) (j:=A.length - 1) (by omega) (by omega)
  rw[ax ((seg_at e li).trans ei),ax Ba] at this
  exact this
 have lo2:∀q∈B.take m,kn q<=kn a1:=λp hp=>by
  obtain⟨i,ei⟩:=cu hp
  have li:=(List.getElem?_eq_some_iff.mp ei).1
  rw[aD] at li
  rw[cL (by omega)] at ei
  have g1:=m2 i (by omega)
  unfold gp at g1
  rw[if_pos rfl,<-A9,ax ((seg_at eB (by omega)).trans ei)] at g1
  have:=of_decide_eq_true g1
  exact dI ‹_›
 have hi2:∀q∈B.drop m,kn a1<=kn q:=λp hp=>by
  obtain⟨i,ei⟩:=cu hp
  rw[eK] at ei
  have li:=(List.getElem?_eq_some_iff.mp ei).1
  have g1:=m3 (m+i) (by exact aQ _ _) li
  unfold gp at g1
  rw[if_pos rfl,<-A9,ax ((seg_at eB li).trans ei)] at g1
  have:=of_decide_eq_false g1
  exact Int.not_lt.mp ‹_›
 dsimp -zeta only
 by_cases c2:m=0
 ·rw[if_pos (by rw[c2];rfl)]
  rw[c2,cK] at hi2
  refine Vj (h (A++B) xs g0 (.refl _) ?_ (by rw[e];simp))
  unfold Up
  rw[bu]
  exact⟨uA,uB,λp hp q hq=>cP (vw p hp) (hi2 q hq)⟩
 rw[if_neg (by simpa using c2)]
 have ex:(xs.extract (L.length+k) (L.length+A.length)).toList=A.drop k:=by
  rw[lC e (by assumption) (ai _),bO (ai _)]
 have ey:(xs.extract (L.length+A.length) (L.length+A.length+m)).toList=B.take m:=by
  have:=lC eB (i:=0) (j:=m) (by exact aA _) (by assumption)
  rw[A9] at this
  exact this
 generalize xs.extract (L.length+k) (L.length+A.length)=X at ex
 generalize xs.extract (L.length+A.length) (L.length+A.length+m)=Y at ey
 extract_lets x y jp
 subst x y
 have key:∀r g,Fin' X.toList Y.toList r->wpS (model prog w) A₀ E s (jp r) Q (ao Vf xs (pre++(L.length,A.length+B.length,pw)::post).toArray g none):=by
  intro r g hr
  dsimp -zeta only[jp]
  refine Vg (wpS_modify (Vg (wpS_get (Vj ?_))))
  obtain⟨pm,up⟩:=hr
  rw[ex,ey] at pm
  have lr:=pm.length_eq
  rw[aP,bL,aD,iE m1] at lr
  refine h (A.take k++r.toList++B.drop m) _ g ?_ ?_ ?_
  ·refine((pm.append_left (A.take k)).append_right (B.drop m)).trans ?_
   rw[<-bp,br,bp,br]
  ·unfold Up
   rw[bu,bu]
   have Ez:=uA
   have EA:=uB
   unfold Up at Ez EA
   rw[<-br k A,bu] at Ez
   rw[<-br m B,bu] at EA
   refine⟨⟨Ez.1,up,λp hp q hq=>?_⟩,EA.2.1,λp hp q hq=>?_⟩
   ·rcases List.mem_append.mp (pm.mem_iff.mp hq) with z | z
    ·exact Ez.2.2 p hp q z
    ·exact cP (lo1 p hp) (A_ q ((dm _ _).mem z))
   ·rcases List.mem_append.mp hp with z | z
    ·exact cP (vw p ((dm _ _).mem z)) (hi2 q hq)
    ·rcases List.mem_append.mp (pm.mem_iff.mp z) with z | z
     ·exact cP (vw p ((eI _ _).mem z)) (hi2 q hq)
     ·exact EA.2.2 p z q hq
  ·have:=lx (L.length+k) r.toList 0 xs (by omega)
   refine this.trans ?_
   rw[lr,e,lD,show L.length+k+(A.length - k+m)=(L++A).length+m by omega,kA,eJ (by exact aQ _ _),ir,fI,vt m1,
    bp L A,List.take_append,bO (by exact aQ _ _),fI,rp k1]
   simp
 have sX:X.size=A.length - k:=by rw[<-gq,ex,bL]
 have sY:Y.size=m:=by rw[<-gq,ey,aD];omega
 have OA:∀p∈X.toList,p∈A:=λp hp=>by rw[ex] at hp;exact(eI _ _).mem hp
 have OB:∀p∈Y.toList,p∈B:=λp hp=>by rw[ey] at hp;exact(dm _ _).mem hp
 have kX:∀p∈X.toList,Ik p:=λp hp=>hI p (by rw[e];exact fz _ (cg _ (OA p hp)))
 have kY:∀p∈Y.toList,Ik p:=λp hp=>hI p (by rw[e];exact cg _ (fz _ (OB p hp)))
 have uX:Up X.toList:=by rw[ex];exact uA.sublist (eI _ _)
 have uY:Up Y.toList:=by rw[ey];exact uB.sublist (dm _ _)
 have last:∀j,j < Y.size->K Y j<=K X (X.size - 1):=λj hj=>by
  obtain⟨q,q1,q2,q3⟩:=at_of hj
  have e1:X[X.size - 1]? =some a1:=by
   rw[<-fc,ex,eK,sX,show k+(A.length - k - 1)=A.length - 1 by omega]
   exact IC
  rw[ax q1,ax e1]
  exact lo2 q (by rw[<-ey];exact q3)
 have first:∀i,i < X.size->K Y 0<=K X i:=λi hi=>by
  obtain⟨q,q1,q2,q3⟩:=at_of hi
  have e1:Y[0]? =some b0:=by
   rw[<-fc,ey,cL (by exact fL ‹_›),eb]
   rfl
  rw[ax q1,ax e1]
  exact hi1 q (by rw[<-ex];exact q3)
 split
 ·exact Vg (kv ⟨kX,kY,uX,uY,last⟩ (by omega) (by omega) rfl first λr g hr=>key r g hr)
 ·exact Vg (kD ⟨kX,kY,uX,uY,first⟩ (by omega) (by omega) rfl last λr g hr=>key r g hr)
end
def Sm(lo:Nat)(xs ys:Array Vd):Prop:=ys.Perm xs/\∀i,i < lo->ys[i]? =xs[i]?
theorem Sm.refl{lo:Nat}{xs:Array Vd}:Sm lo xs xs:=⟨.refl _,λ_ _=>rfl⟩
theorem Sm.trans{lo:Nat}{xs ys zs:Array Vd}(h1:Sm lo xs ys)(h2:Sm lo ys zs):Sm lo xs zs:=⟨h2.1.trans h1.1,λi hi=>(h2.2 i hi).trans (h1.2 i hi)⟩
theorem Sm.size{lo:Nat}{xs ys:Array Vd}(h:Sm lo xs ys):ys.size=xs.size:=h.1.size_eq
theorem Sm.ik{lo:Nat}{xs ys:Array Vd}(h:Sm lo xs ys)(hI:∀p∈xs.toList,Ik p):∀p∈ys.toList,Ik p:=λp hp=>hI p ((Array.perm_iff_toList_perm.mp h.1).mem_iff.mp hp)
theorem Sm.mirror{lo i j:Nat}{xs:Array Vd}(h:lo<=i)(hj:j<=xs.size):Sm lo xs (mirror xs i j ((j - i) / 2)) :=
 ⟨mirror_perm _ _ _ _,λk hk=>by rw[getElem?_mirror_all hj,if_neg (by omega)]⟩
def hG(xs:Array Vd)(lo n:Nat):Prop:=∀i j,i<=j->j < n->K xs (lo+i)<=K xs (lo+j)
def ng(xs:Array Vd)(lo n:Nat):Prop:=∀i j,i<=j->j < n->K xs (lo+j)<=K xs (lo+i)
theorem hG.step{xs:Array Vd}{lo n:Nat}(h:hG xs lo n)(h1:1<=n)(c:¬K xs (lo+n) < K xs (lo+n - 1)):hG xs lo (n+1):=λi j hij hj=>by
 by_cases z:j < n
 ·exact h i j hij z
 ·have:j=n:=by omega
  subst this
  by_cases y:i=j
  ·subst y;exact cw _
  ·have:=h i (j - 1) (by omega) (by omega)
   rw[show lo+(j - 1)=lo+j - 1 by omega] at this
   omega
theorem ng.step{xs:Array Vd}{lo n:Nat}(h:ng xs lo n)(h1:1<=n)(c:K xs (lo+n)<=K xs (lo+n - 1)):ng xs lo (n+1):=λi j hij hj=>by
 by_cases z:j < n
 ·exact h i j hij z
 ·have:j=n:=by omega
  subst this
  by_cases y:i=j
  ·subst y;exact cw _
  ·have:=h i (j - 1) (by omega) (by omega)
   rw[show lo+(j - 1)=lo+j - 1 by omega] at this
   exact cP ‹_› ‹_›
theorem hG.one{xs:Array Vd}{lo:Nat}:hG xs lo 1:=λi j h1 h2=>by
 have:i=j:=by omega
 subst this;exact cw _
theorem hG.turn{xs:Array Vd}{lo n:Nat}(h:ng xs lo n)(hn:lo+n<=xs.size):hG (mirror xs lo (lo+n) ((lo+n - lo) / 2)) lo n:=λi j h1 h2=>by
 rw[K_mirror hn,K_mirror hn,if_pos (by omega),if_pos (by omega)]
 have:=h (n - 1 - j) (n - 1 - i) (by omega) (by omega)
 rw[show lo+(lo+n) - 1 - (lo+i)=lo+(n - 1 - i) by omega,show lo+(lo+n) - 1 - (lo+j)=lo+(n - 1 - j) by omega]
 exact this
section
variable {prog:UR} {w:UU} {A:UO} {E:UT->US->Prop} {s:US} {P:Array (Nat×Nat×Nat)} {g:Nat}
theorem jr{xs:Array Vd}{i j:Nat}{Q:Option Bool->Ve->Prop}(hI:∀p∈xs.toList,Ik p)(hi:i < xs.size)(hj:j < xs.size)(h:Q (some (decide (K xs i < K xs j))) (ao Vf xs P g none)) :
  wpS (model prog w) A E s (ltAt' i j) Q (ao Vf xs P g none):=by
 obtain⟨p,p1,_,p2⟩:=at_of hi
 obtain⟨q,q1,_,q2⟩:=at_of hj
 rw[ax p1,ax q1] at h
 refine Vg (wpS_get ?_)
 refine Vg (ar p1 (Vg (ar q1 ?_)))
 exact jl rfl (hI p p2) (hI q q2) h
theorem iG{xs:Array Vd}{i j:Nat}{Q:Unit->Ve->Prop}(h:Q () (ao Vf (mirror xs i j ((j - i) / 2)) P g none)):wpS (model prog w) A E s (reverseSlice' i j) Q (ao Vf xs P g none):=by
 rw[reverseSlice'_eq]
 exact wpS_modify h
def Bb(lo a m:Nat):StateT Ve Sem AscSt :=
 forIn [a:m] ((none,a):AscSt) λ_ c=>do
  match(<-ltAt' (lo+c.2) (lo+c.2 - 1)) with
  | some b=>if b=true then pure (.done (none,c.2)) else pure (.yield (none,c.2+1))
  | _=>pure (.done (some none,c.2))
theorem lE{xs:Array Vd}{lo a m:Nat}{Q:AscSt->Ve->Prop}(hI:∀p∈xs.toList,Ik p)(hm:lo+m<=xs.size)(h1:1<=a)(h2:a<=m)(hs:hG xs lo a)
  (h:∀n,a<=n->n<=m->hG xs lo n->(n=m\/K xs (lo+n) < K xs (lo+n - 1))->Q (none,n) (ao Vf xs P g none)):wpS (model prog w) A E s (Bb lo a m) Q (ao Vf xs P g none):=by
 unfold Bb
 refine Vh (I:=λx c st=>st=ao Vf xs P g none/\c=(none,x)/\hG xs lo x) ?_ ?_ ⟨rfl,rfl,hs⟩
 ·rintro x c st k1 k2 ⟨rfl,rfl,k3⟩
  dsimp only
  refine Vg (jr hI (by omega) (by omega) ?_)
  by_cases c:K xs (lo+x) < K xs (lo+x - 1)
  ·rw[decide_eq_true c]
   exact Vj (h x k1 (by exact bq ‹_›) k3 (.inr c))
  ·rw[decide_eq_false c]
   exact Vj ⟨rfl,rfl,k3.step (by exact aL ‹_ < _› ‹_<=_›) c⟩
 ·rintro c st ⟨rfl,rfl,k3⟩
  rw[show max a m=m by omega] at k3 ⊢
  exact h m h2 (ai _) k3 (.inl rfl)
theorem ju{xs:Array Vd}{lo m:Nat}{Q:Option Nat->Ve->Prop}(hI:∀p∈xs.toList,Ik p)(hm:lo+m<=xs.size)(h1:1<=m)
  (h:∀n ys,1<=n->n<=m->Sm lo xs ys->hG ys lo n->Q (some n) (ao Vf ys P g none)):wpS (model prog w) A E s (countRun' lo m) Q (ao Vf xs P g none):=by
 refine Vg (lE hI hm (ai _) h1 hG.one λn n1 n2 as nd=>?_)
 dsimp -zeta only
 extract_lets+onlyGivenNames r' n'
 subst n' r'
 dsimp -zeta only
 by_cases c1:n=m
 ·rw[if_pos (by rw[c1];simp)]
  exact Vj (h n xs n1 n2 .refl as)
 rw[if_neg (by simpa using c1)]
 have lt:=nd.resolve_left c1
 extract_lets+onlyGivenNames n' q' jp
 subst q' n'
 have key:∀ys,Sm lo xs ys->(∀i,K ys i=K xs i)->ng xs lo n->wpS (model prog w) A E s (jp ()) Q (ao Vf ys P g none):=by
  intro ys sm ke dn
  have OC:ng ys lo (n+1):=(show ng ys lo n from λi j a b=>by rw[ke,ke];exact dn i j a b).step n1 (by rw[ke,ke];exact dI ‹_›)
  have ly:=sm.size
  have hI':=sm.ik hI
  dsimp -zeta only[jp]
  refine Vg (wpS_lift (wpAny_rule ⟨rfl,?_⟩))
  refine Vg (Vi (Vh (I:=λx c st=>∃ys q,st=ao Vf ys P g none/\c=(none,x,q)/\Sm lo xs ys/\ng ys lo x/\q+1<=x/\(∀i,lo+x - (q+1)<=i->i < lo+x->K ys i=K ys (lo+x - 1)))
   (Q:=λc st=>∃ys x q,st=ao Vf ys P g none/\c=(none,x,q)/\n+1<=x/\x<=m/\Sm lo xs ys/\ng ys lo x/\q+1<=x/\(∀i,lo+x - (q+1)<=i->i < lo+x->K ys i=K ys (lo+x - 1))) ?a ?b ?c) ?d)
  case c=>exact⟨ys,0,rfl,rfl,sm,OC,by exact dW _ _,λi a b=>by congr 1;omega⟩
  case b=>
   rintro c st ⟨ys,q,rfl,rfl,k1,k2,k3,k4⟩
   rw[show max (n+1) m=m by omega] at k2 k3 k4 ⊢
   exact⟨ys,m,q,rfl,rfl,by exact bP ‹_› ‹_›,by exact ai _,k1,k2,k3,k4⟩
  case a=>
   rintro x c st x1 x2 ⟨ys,q,rfl,rfl,k1,k2,k3,k4⟩
   have ly:=k1.size
   dsimp only
   refine Vg (jr (k1.ik hI) (by omega) (by omega) ?_)
   by_cases c:K ys (lo+x) < K ys (lo+x - 1)
   ·rw[decide_eq_true c]
    dsimp only
    rw[if_pos rfl]
    by_cases c2:q > 0
    ·rw[if_pos c2]
     have vx:=K_mirror_equal (xs:=ys) (i:=lo+x - (q+1)) (j:=lo+x) (by omega) k4
     refine Vg (iG (Vj ⟨_,0,rfl,rfl,k1.trans (Sm.mirror (by omega) (by omega)),?_,by exact dW _ _,λi a b=>by congr 1;omega⟩))
     refine(show ng _ lo x from λi j a b=>by rw[vx,vx];exact k2 i j a b).step (by exact du ‹_› ‹_›) (by rw[vx,vx];exact dI ‹_›)
    ·rw[if_neg c2]
     exact Vj ⟨ys,0,rfl,rfl,k1,k2.step (by exact du ‹_› ‹_›) (by exact dI ‹_›),by exact dW _ _,λi a b=>by congr 1;omega⟩
   ·rw[decide_eq_false c]
    dsimp only
    rw[if_neg (by decide)]
    refine Vg (jr (k1.ik hI) (by omega) (by omega) ?_)
    by_cases c2:K ys (lo+x - 1) < K ys (lo+x)
    ·rw[decide_eq_true c2]
     exact Vj ⟨ys,x,q,rfl,rfl,x1,by exact bq ‹_›,k1,k2,k3,k4⟩
    ·rw[decide_eq_false c2]
     have ex:K ys (lo+x)=K ys (lo+x - 1):=by omega
     refine Vj ⟨ys,q+1,rfl,rfl,k1,k2.step (by exact du ‹_› ‹_›) (by exact Int.not_lt.mp ‹_›),by exact ij ‹_›,λi a b=>?_⟩
     rw[show lo+(x+1) - 1=lo+x by rfl]
     by_cases z:i=lo+x
     ·rw[z]
     ·rw[ex];exact k4 i (by omega) (by omega)
  case d=>
   rintro c st ⟨ys,x,q,rfl,rfl,x1,x2,k1,k2,k3,k4⟩
   have ly:=k1.size
   dsimp -zeta only
   clear jp
   extract_lets+onlyGivenNames r' c' n' q'
   subst q' n' c' r'
   dsimp -zeta only
   extract_lets+onlyGivenNames jp
   have key:∀zs,Sm lo xs zs->ng zs lo x->wpS (model prog w) A E s (jp ()) Q (ao Vf zs P g none):=by
    intro zs sm dz
    have lz:=sm.size
    dsimp -zeta only[jp]
    have Bc:=sm.trans (Sm.mirror (xs:=zs) (lo:=lo) (i:=lo) (j:=lo+x) (ai _) (by omega))
    have l2:=Bc.size
    refine Vg (iG (Vg (lE (Bc.ik hI) (by omega) (by exact du ‹_› ‹_›) x2 (hG.turn dz (by omega)) λn n1 n2 as _=>?_)))
    exact Vj (h n _ (by omega) n2 Bc as)
   by_cases c2:q > 0
   ·rw[if_pos c2]
    have vx:=K_mirror_equal (xs:=ys) (i:=lo+x - (q+1)) (j:=lo+x) (by omega) k4
    exact Vg (iG (key _ (k1.trans (Sm.mirror (by omega) (by omega))) λi j a b=>by rw[vx,vx];exact k2 i j a b))
   ·rw[if_neg c2]
    exact key _ k1 k2
 by_cases c2:n > 1
 ·rw[if_pos c2]
  refine Vg (jr hI (by omega) (by omega) ?_)
  by_cases c3:K xs lo < K xs (lo+n - 1)
  ·rw[decide_eq_true c3]
   exact Vj (h n xs n1 n2 .refl as)
  ·rw[decide_eq_false c3]
   have all:∀k,lo<=k->k < lo+n->K xs k=K xs (lo+n - 1):=λk q1 q2=>by
    have a1:=as 0 (k - lo) (by exact aA _) (by omega)
    have a2:=as (k - lo) (n - 1) (by omega) (by omega)
    rw[lD,show lo+(k - lo)=k by omega] at a1
    rw[show lo+(k - lo)=k by omega,show lo+(n - 1)=lo+n - 1 by omega] at a2
    omega
   exact Vg (iG (key _ (Sm.mirror (ai _) (by omega)) (K_mirror_equal (by omega) all) λi j a b=>by rw[all _ (by exact aQ _ _) (by omega),all (lo+i) (by exact aQ _ _) (by omega)];exact cw _))
 ·rw[if_neg c2]
  have:n=1:=by omega
  subst this
  exact key xs .refl (λ_=>rfl) λi j a b=>by
   have:i=j:=by omega
   subst this
   exact cw _
end
section
variable {prog:UR} {w:UU} {A:UO} {E:UT->US->Prop} {s:US} {P:Array (Nat×Nat×Nat)} {g:Nat}
theorem vy{xs:Array Vd}{lo n ok:Nat}{Q:Bool->Ve->Prop}(hI:∀p∈xs.toList,Ik p)(hn:lo+n<=xs.size)(hok:ok<=n)(as:hG xs lo ok)
  (h:∀ys,Sm lo xs ys->hG ys lo n->Q true (ao Vf ys P g none)):wpS (model prog w) A E s (binarySort' lo n ok) Q (ao Vf xs P g none):=by
 refine Vg (Vi (Vh (I:=λk c st=>∃ys,st=ao Vf ys P g none/\c=(none,())/\Sm lo xs ys/\hG ys lo (min k n))
  (Q:=λc st=>∃ys,st=ao Vf ys P g none/\c=(none,())/\Sm lo xs ys/\hG ys lo n) ?a ?b ?c) ?d)
 case d=>
  rintro c st ⟨ys,rfl,rfl,k1,k2⟩
  exact Vj (h ys k1 k2)
 case c=>
  refine⟨xs,rfl,rfl,.refl,λi j hij hj=>?_⟩
  by_cases z:ok=0
  ·have:i=j:=by omega
   subst this;exact cw _
  ·exact as i j hij (by omega)
 case b=>
  rintro c st ⟨ys,rfl,rfl,k1,k2⟩
  rw[show min (max (max ok 1) n) n=n by omega] at k2
  exact⟨ys,rfl,rfl,k1,k2⟩
 case a=>
  rintro k c st kk Sx ⟨ys,rfl,rfl,k1,k2⟩
  rw[show min k n=k by omega] at k2
  have ly:=k1.size
  refine Vg (Vi (Vh (I:=λx c st=>st=ao Vf ys P g none/\∃l r,c=(none,l,r)/\l<=r/\r<=k/\r - l<=k - x/\(∀i,i < l->K ys (lo+i)<=K ys (lo+k))/\(∀i,r<=i->i < k->K ys (lo+k) < K ys (lo+i)))
   (Q:=λc st=>st=ao Vf ys P g none/\∃l,c=(none,l,l)/\l<=k/\(∀i,i < l->K ys (lo+i)<=K ys (lo+k))/\(∀i,l<=i->i < k->K ys (lo+k) < K ys (lo+i))) ?e ?f ?g) ?h)
  case g=>exact⟨rfl,0,k,rfl,by exact aA _,by exact ai _,by exact ai _,λi hi=>by omega,λi a b=>by omega⟩
  case f=>
   rintro c st ⟨rfl,l,r,rfl,q1,q2,q3,q4,q5⟩
   have:l=r:=by omega
   subst this
   exact⟨rfl,l,rfl,q2,q4,q5⟩
  case e=>
   rintro x c st _ xk ⟨rfl,l,r,rfl,q1,q2,q3,q4,q5⟩
   dsimp only
   by_cases c:l >= r
   ·rw[if_pos c]
    have:l=r:=by exact iA ‹_› ‹_›
    subst this
    exact Vj ⟨rfl,l,rfl,q2,q4,q5⟩
   ·rw[if_neg c]
    refine Vg (jr (k1.ik hI) (by omega) (by omega) ?_)
    by_cases c2:K ys (lo+k) < K ys (lo+(l+r) / 2)
    ·rw[decide_eq_true c2]
     refine Vj ⟨rfl,l,(l+r) / 2,rfl,by omega,by omega,by omega,q4,λi a b=>?_⟩
     exact Int.lt_of_lt_of_le c2 (k2 _ _ a b)
    ·rw[decide_eq_false c2]
     refine Vj ⟨rfl,(l+r) / 2+1,r,rfl,by omega,by assumption,by omega,λi a=>?_,q5⟩
     exact cP (k2 i ((l+r) / 2) (by exact cn ‹_›) (by omega)) (Int.not_lt.mp c2)
  case h=>
   rintro c st ⟨rfl,l,rfl,q2,q4,q5⟩
   show wpS _ _ _ _ (do moveDown' (lo+k) (lo+l);pure (i7 (none,()))) _ _
   rw[moveDown'_eq]
   have bs:lo+k < ys.size:=by omega
   have bd:lo+k - (lo+l)<=lo+k:=by exact iC _ _
   refine Vg (wpS_modify (Vj ⟨_,rfl,rfl,k1.trans ⟨bubble_perm _ _ _,λi hi=>?_⟩,?_⟩))
   ·rw[getElem?_bubble bs _ bd,if_neg (by omega),if_neg (by omega)]
   ·rw[show min (k+1) n=k+1 by omega]
    intro i j hij hj
    have val:∀i,i<=k->K (bubble ys (lo+k) (lo+k - (lo+l))) (lo+i)=if i=l then K ys (lo+k) else if l < i then K ys (lo+(i - 1)) else K ys (lo+i):=λi hi=>by
     rw[K_bubble bs bd,show lo+k - (lo+k - (lo+l))=lo+l by omega]
     by_cases c1:i=l
     ·rw[if_pos (by omega),if_pos c1]
     ·rw[if_neg (by omega),if_neg c1]
      by_cases c2:l < i
      ·rw[if_pos (by omega),if_pos c2,show lo+i - 1=lo+(i - 1) by omega]
      ·rw[if_neg (by omega),if_neg c2]
    show K (bubble ys (lo+k) (lo+k - (lo+l))) (lo+i)<=K (bubble ys (lo+k) (lo+k - (lo+l))) (lo+j)
    rw[val i (by omega),val j (by exact cn ‹_›)]
    repeat' split
    all_goals first | (exfalso;omega) | exact cw _ | exact q4 _ (by omega) | exact dI (q5 _ (by omega) (by omega)) | exact k2 _ _ (by omega) (by omega)
end
inductive Rn:Nat->List (Nat×Nat×Nat)->List Vd->Prop
 | nil {s:Nat}:Rn s [] []
 | cons {s n p:Nat} {P:List (Nat×Nat×Nat)} {A X:List Vd}:A.length=n->1<=n->Up A->Rn (s+n) P X->Rn s ((s,n,p)::P) (A++X)
theorem Rn.split:∀{pre r:List (Nat×Nat×Nat)}{s:Nat}{X:List Vd},Rn s (pre++r) X->∃X1 X2,X=X1++X2/\Rn s pre X1/\Rn (s+X1.length) r X2
 | [],r,s,X,h=>⟨[],X,rfl,.nil,h⟩
 | a::pre,r,s,X,h=>by
  cases h with
  | cons h1 h2 h3 h4=>
   obtain⟨X1,X2,rfl,k1,k2⟩:=h4.split
   refine⟨_++X1,X2,(bp _ _ _).symm,.cons h1 h2 h3 k1,?_⟩
   rw[aP,h1,<-eS]
   exact k2
theorem Rn.join:∀{pre r:List (Nat×Nat×Nat)}{s:Nat}{X1 X2:List Vd},Rn s pre X1->Rn (s+X1.length) r X2->Rn s (pre++r) (X1++X2)
 | [],r,s,X1,X2,h,k=>by cases h;exact k
 | a::pre,r,s,X1,X2,h,k=>by
  cases h with
  | cons h1 h2 h3 h4=>
   rw[bp]
   refine .cons h1 h2 h3 (h4.join ?_)
   rw[aP,h1,<-eS] at k
   exact k
theorem Rn.len:∀{P:List (Nat×Nat×Nat)}{s:Nat}{X:List Vd},Rn s P X->P.length<=X.length
 | [],s,X,h=>aA _
 | a::P,s,X,h=>by
  cases h with
  | cons h1 h2 h3 h4=>
   have:=h4.len
   rw[aP,cM]
   omega
theorem Rn.few{P:List (Nat×Nat×Nat)}{s:Nat}{X:List Vd}(h:Rn s P X)(l:P.length<=1):Up X:=by
 cases h with
 | nil=>exact .nil
 | cons h1 h2 h3 h4=>
  cases h4 with
  | nil=>rw[dE];exact h3
  | cons _ _ _ _=>simp at l
section
variable {prog:UR} {w:UU} {A₀:UO} {E:UT->US->Prop} {s:US}
theorem hJ{xs:Array Vd}{g0 i:Nat}{P:List (Nat×Nat×Nat)}{X Y:List Vd}{Q:Bool->Ve->Prop}(hi:i+1 < P.length)(hR:Rn 0 P X)(e:xs.toList=X++Y)(hI:∀p∈xs.toList,Ik p)
  (h:∀P' X' ys g,P'.length+1=P.length->Rn 0 P' X'->X'.Perm X->ys.toList=X'++Y->Q true (ao Vf ys P'.toArray g none)) :
  wpS (model prog w) A₀ E s (mergeAt' i) Q (ao Vf xs P.toArray g0 none):=by
 obtain⟨⟨sa,na,pw⟩,⟨sb,nb,p2⟩,post,eP⟩:∃a b post,P=P.take i++a::b::post:=by
  refine⟨P[i],P[i+1],P.drop (i+2),?_⟩
  rw[<-ji hi,<-ji (by exact bq ‹_›),br]
 have li:(P.take i).length=i:=by rw[aD];omega
 generalize P.take i=pre at eP li
 subst eP li
 obtain⟨X1,X2,rfl,k1,k2⟩:=hR.split
 rw[bw] at k2
 cases k2 with
 | cons a1 a2 a3 a4=>
  cases a4 with
  | cons b1 b2 b3 b4=>
   rename_i A B' X2
   refine kE (L:=X1) (A:=A) (B:=B') (S:=X2++Y) (by rw[e];simp) hI rfl a1 b1 rfl a2 b2 a3 b3 λC ys g c1 c2 c3=>?_
   refine h _ (X1++(C++X2)) ys g (by simp;rfl) (k1.join ?_) ((c1.append_right X2).trans (by rw[bp]) |>.append_left X1) (by rw[c3];simp)
   rw[bw]
   refine .cons (by rw[c1.length_eq,aP,a1,b1]) (by omega) c2 ?_
   rw[<-eS]
   exact b4
end
section
variable {prog:UR} {w:UU} {A₀:UO} {E:UT->US->Prop} {s:US}
theorem Rn.power{pw:Nat}:∀{P:List (Nat×Nat×Nat)}{i s:Nat}{X:List Vd},Rn s P X->Rn s (P.modify i λx=>(x.1,x.2.1,pw)) X
 | [],i,s,X,h=>by rw[List.modify_nil];exact h
 | a::P,0,s,X,h=>by
  cases h with
  | cons h1 h2 h3 h4=>exact .cons h1 h2 h3 h4
 | a::P,i+1,s,X,h=>by
  cases h with
  | cons h1 h2 h3 h4=>exact .cons h1 h2 h3 h4.power
def Wt(xs:Array Vd)(lo:Nat)(Z:List Vd)(st:Ve):Prop:=∃ys P X g,st=ao Vf ys (eC P) g none/\ys.Perm xs/\ys.toList=X++Z/\X.length=lo/\Rn 0 P X
def ID(xs:Array Vd)(x:Nat)(r:ForInStep (Option Unit×Nat))(st:Ve):Prop:=match r with
 | .done c=>c=(none,xs.size)/\∃Z,Wt xs xs.size Z st
 | .yield c=>∃lo,c=(none,lo)/\x+1<=lo/\lo<=xs.size/\∃Z,Wt xs lo Z st
def OD(xs:Array Vd)(x:Nat)(r:ForInStep (Option Unit×Unit))(st:Ve):Prop:=match r with
 | .done c=>c=(none,())/\∃ys P X g,st=ao Vf ys (eC P) g none/\ys.Perm xs/\ys.toList=X++[]/\Rn 0 P X/\P.length<=1
 | .yield c=>c=(none,())/\∃ys P X g,st=ao Vf ys (eC P) g none/\ys.Perm xs/\ys.toList=X++[]/\Rn 0 P X/\(P.length<=1\/P.length+(x+1)<=xs.size)
theorem Sm.lists{lo:Nat}{ys zs:Array Vd}{X Y:List Vd}(sm:Sm lo ys zs)(e:ys.toList=X++Y)(l:X.length=lo):zs.toList=X++zs.toList.drop lo:=by
 have:zs.toList.take lo=X:=by
  have e1:ys.toList.take lo=X:=by rw[e,<-l,List.take_left'];rfl
  rw[<-e1]
  apply List.ext_getElem?
  intro i
  by_cases c:i < lo
  ·rw[cL c,cL c,fc,fc]
   exact sm.2 i c
  ·rw[rC (by rw[aD];omega),rC (by rw[aD];omega)]
 exact(br lo zs.toList).symm.trans (by rw[this])
theorem hG.up{zs:Array Vd}{lo n:Nat}(as:hG zs lo n)(h:lo+n<=zs.size):Up ((zs.toList.drop lo).take n):=by
 unfold Up
 rw[EB]
 intro i j hi hj hij
 rw[aD,bL] at hi hj
 have hz:zs.toList.length=zs.size:=rfl
 have:=as i j (by exact bq ‹_›) (by omega)
 rw[ax (jm (by omega)),ax (jm (by omega))] at this
 simpa using this
theorem mJ{xs:Array Vd}{Q:Unit->Ve->Prop}(hI:∀p∈xs.toList,Ik p)
  (h:∀ys P g,ys.Perm xs->Up ys.toList->Q () (ao Vf ys P g none)):wpS (model prog w) A₀ E s sortRuns' Q (ao Vf xs #[] 7 none):=by
 have IE:∀{ys:Array Vd},ys.Perm xs->∀p∈ys.toList,Ik p:=λk p hp=>hI p ((Array.perm_iff_toList_perm.mp k).mem_iff.mp hp)
 refine Vg (wpS_get ?_)
 dsimp -zeta only
 extract_lets+onlyGivenNames size oo lo
 have hsize:size=xs.size:=rfl
 clear_value size oo
 subst hsize lo
 refine Vg (Vi (Vh (I:=λx c st=>∃lo,c=(none,lo)/\x<=lo/\lo<=xs.size/\∃Z,Wt xs lo Z st)
  (Q:=λc st=>c=(none,xs.size)/\∃Z,Wt xs xs.size Z st) ?a ?b ?c) ?d)
 case c=>exact⟨0,rfl,ai _,aA _,xs.toList,xs,[],[],7,rfl,.refl _,rfl,rfl,.nil⟩
 case b=>
  rintro c st ⟨lo,rfl,k1,k2,k3⟩
  have:lo=xs.size:=by exact iA ‹_› ‹_›
  subst this
  exact⟨rfl,k3⟩
 case d=>
  rintro c st ⟨rfl,Y,ys,P,X,g,rfl,k1,k2,k3,k4⟩
  have:Y=[]:=by
   have:=congrArg fB k2
   rw[aP,gq,k1.size_eq] at this
   exact List.length_eq_zero_iff.mp (by omega)
  subst this
  have pl:=k4.len
  dsimp only
  refine Vg (Vi (Vh (I:=λx c st=>c=(none,())/\∃ys P X g,st=ao Vf ys (eC P) g none/\ys.Perm xs/\ys.toList=X++[]/\Rn 0 P X/\(P.length<=1\/P.length+x<=xs.size))
   (Q:=λc st=>c=(none,())/\∃ys P X g,st=ao Vf ys (eC P) g none/\ys.Perm xs/\ys.toList=X++[]/\Rn 0 P X/\P.length<=1) ?e ?f ?g) ?h)
  case g=>exact⟨rfl,ys,P,X,g,rfl,k1,k2,k4,.inr (by omega)⟩
  case f=>
   rintro c st ⟨rfl,ys,P,X,g,rfl,k1,k2,k3,k4⟩
   exact⟨rfl,ys,P,X,g,rfl,k1,k2,k3,by omega⟩
  case h=>
   rintro c st ⟨rfl,ys,P,X,g,rfl,k1,k2,k3,k4⟩
   refine Vj (h ys _ g k1 ?_)
   rw[k2,dE]
   exact k3.few k4
  case e=>
   rintro x c st _ hx ⟨rfl,ys,P,X,g,rfl,k1,k2,k3,k4⟩
   refine Vg (wpS_get ?_)
   dsimp only
   by_cases c1:P.toArray.size<=1
   ·rw[if_pos c1]
    exact Vj ⟨rfl,ys,P,X,g,rfl,k1,k2,k3,c1⟩
   rw[if_neg c1]
   have Sy:¬P.length<=1:=c1
   refine Vi (Q:=OD xs x) ?_ λr st' h=>by cases r<;>exact h
   have sz:P.toArray.size=P.length:=rfl
   refine Vg (hJ ?_ k3 k2 (IE k1) λP' X' zs g' l1 l2 l3 l4=>?_)
   ·repeat' split
    all_goals omega
   ·rw[if_neg (by decide)]
    refine Vj ⟨rfl,zs,P',X',g',rfl,?_,l4,l2,.inr (by omega)⟩
    refine Bd (Array.perm_iff_toList_perm.mpr ?_) k1
    rw[l4,k2]
    exact l3.append_right _
 case a=>
  rintro x c st _ hx ⟨lo,rfl,k1,k2,Y,ys,P,X,g,rfl,k3,k4,k5,k6⟩
  have hI':=IE k3
  dsimp -zeta only
  by_cases c1:lo >= xs.size
  ·rw[if_pos c1]
   have:lo=xs.size:=by exact iA ‹_› ‹_›
   subst this
   exact Vj ⟨rfl,Y,ys,P,X,g,rfl,k3,k4,k5,k6⟩
  rw[if_neg c1]
  refine Vi (Q:=ID xs x) ?_ λr st' h=>by cases r<;>exact h
  have sy:=k3.size_eq
  refine Vg (ju hI' (by omega) (by omega) λn zs n1 n2 sm as=>?_)
  dsimp -zeta only
  extract_lets+onlyGivenNames n' jp
  subst n'
  have key:∀n zs,1<=n->lo+n<=xs.size->Sm lo ys zs->hG zs lo n->wpS (model prog w) A₀ E s (jp () n) (ID xs x) (ao Vf zs P.toArray g none):=by
   intro n zs n1 n2 sm as
   dsimp -zeta only[jp]
   clear jp
   refine Vg (wpS_get ?_)
   have sz:=sm.size
   have up:=as.up (by omega)
   have ez:=sm.lists k4 k5
   have lA:((zs.toList.drop lo).take n).length=n:=by
    rw[aD,bL,gq]
    omega
   rw[<-br n (zs.toList.drop lo)] at ez
   generalize (zs.toList.drop lo).take n=A at ez up lA
   generalize (zs.toList.drop lo).drop n=Z at ez
   extract_lets+onlyGivenNames lo' jp
   subst lo'
   have key:∀us P X g,Be us xs->us.toList=X++(A++Z)->X.length=lo->Rn 0 P X->wpS (model prog w) A₀ E s (jp ()) (ID xs x) (ao Vf us (eC P) g none):=by
    intro us P X g l1 l2 l3 l4
    dsimp -zeta only[jp]
    refine Vg (wpS_modify (Vj ⟨lo+n,rfl,by omega,by assumption,Z,us,P++[(lo,n,0)],X++A,g,?_,l1,by rw[l2];simp,by rw[aP];omega,?_⟩))
    ·show ao _ _ (P.toArray.push (lo,n,0)) _ _=_
     rw[List.push_toArray]
    ·refine l4.join ?_
     rw[bw,l3]
     have:=Rn.cons (p:=0) lA n1 up (Rn.nil (s:=lo+n))
     rw[dE] at this
     exact this
   have z1:Be zs xs:=sm.1.trans k3
   clear_value jp
   dsimp -zeta only
   split
   ·rename_i s1 Sz _ _
    extract_lets+onlyGivenNames pw
    clear_value pw
    refine Vg (Vi (Vh (I:=λx c st=>c=(none,())/\Wt xs lo (A++Z) st) (Q:=λc st=>c=(none,())/\Wt xs lo (A++Z) st) ?e ?f ?g) ?h)
    case g=>exact⟨rfl,zs,P,X,g,rfl,z1,ez,k5,k6⟩
    case f=>exact λ_ _ z=>z
    case h=>
     rintro c st ⟨rfl,us,P,X,g,rfl,l1,l2,l3,l4⟩
     dsimp only
     refine Vg (wpS_modify ?_)
     have:=key us (P.modify (P.length - 1) λx=>(x.1,x.2.1,pw)) X g l1 l2 l3 l4.power
     rw[<-List.modify_toArray] at this
     exact this
    case e=>
     rintro y c st _ hy ⟨rfl,us,P,X,g,rfl,l1,l2,l3,l4⟩
     refine Vg (wpS_get ?_)
     dsimp only
     split
     ·rename_i o1 o2 older oe
      by_cases c2:older<=pw
      ·rw[if_pos c2]
       exact Vj ⟨rfl,us,P,X,g,rfl,l1,l2,l3,l4⟩
      ·rw[if_neg c2]
       have hi:P.toArray.size - 2+1 < P.length:=by
        have sz:P.toArray.size=P.length:=rfl
        by_cases c3:P.toArray.size > 1
        ·omega
        ·rw[if_neg c3] at oe
         cases oe
       refine Vg (hJ hi l4 l2 (IE l1) λP' X' zs g' q1 q2 q3 q4=>?_)
       rw[if_neg (by decide)]
       refine Vj ⟨rfl,zs,P',X',g',rfl,Bd (Array.perm_iff_toList_perm.mpr ?_) l1,q4,by rw[q3.length_eq];exact l3,q2⟩
       rw[q4,l2]
       exact q3.append_right _
     ·exact Vj ⟨rfl,us,P,X,g,rfl,l1,l2,l3,l4⟩
   ·exact key zs P X g z1 ez k5 k6
  by_cases c2:n < oo
  ·rw[if_pos c2]
   have sz:=sm.size
   refine Vg (wpS_lift (wpAny_rule ⟨rfl,?_⟩))
   refine Vg (vy (sm.ik hI') (by omega) (by omega) as λus Bc OE=>?_)
   rw[if_neg (by decide)]
   exact key _ us (by omega) (by omega) (sm.trans Bc) OE
  ·rw[if_neg c2]
   exact key n zs n1 (by omega) sm as
end
section
variable {prog:UR} {w:UU} {A:UO} {E:UT->US->Prop} {s:US}
end
end JL
namespace J
open PySem PySem.Spec PyProof.Rows L2
section
variable {X:Cx}
def rD(ga gb:GE):GE:=λρ st=>match ga ρ st with
  | .bad=>gb ρ st
  | r=>r
theorem Bf{e:Expr}{ga gb:GE}(ha:JE X e ga)(hb:JE X e gb):JE X e (rD ga gb):=by
  intro ρ st σ H m Q S R p
  unfold rD at p
  cases e1:ga ρ st with
  | bad=>rw[e1] at p;exact hb ρ st σ H m Q S R p
  | ok w st'=>rw[e1] at p;exact ha ρ st σ H m Q S R (by rw[e1];exact p)
  | err c st'=>rw[e1] at p;exact ha ρ st σ H m Q S R (by rw[e1];exact p)
def intsOf:List Wv->Option (List Int)
  | []=>some []
  | .int b::r=>(match intsOf r with | some l=>some (b::l) | none=>none)
  | _=>none
theorem oq:∀ns:List Int,intsOf (ns.map Wv.int)=some ns
  | []=>rfl
  | n::r=>by rw[aI];unfold intsOf;rw[oq r]
theorem ou{K:PySem.W.Frag}{m:Mp}{H:Hp}:∀{ws:List Wv}{xs:List V}{bs:List Int},af K m H ws xs->intsOf ws=some bs->xs=bs.map V.int
  | [],xs,bs,r,h=>by
    unfold af at r
    cases h
    exact r
  | w::ws,xs,bs,r,h=>by
    unfold af at r
    obtain⟨x,t,rfl,r1,r2⟩:=r
    cases w with
    | int b=>
      unfold intsOf at h
      cases e:intsOf ws with
      | none=>rw[e] at h;cases h
      | some l=>
        rw[e] at h
        cases h
        unfold ah at r1
        rw[r1,ou r2 e]
        rfl
    | _=>cases h
theorem tP:∀{ns:List Int}{its:List UT},Vals (ns.map V.int) its->∃xs:List (Int×Tok),its=xs.map (λp=>kM p.1 p.2)/\xs.map (·.1)=ns
  | [],its,r=>by cases r;exact⟨[],rfl,rfl⟩
  | n::ns,its,r=>by
    cases r with
    | cons h t=>
      obtain⟨tk,rfl⟩:=h
      obtain⟨xs,e1,e2⟩:=tP t
      exact⟨(n,tk)::xs,by rw[e1];rfl,by rw[<-e2];rfl⟩
theorem yz(xs:List (Int×Tok))(i:Nat):numAt xs.toArray i=(xs.map (·.1)).getD i 0:=by
  unfold numAt
  rw[Eu,A7,cU]
theorem ow(xs:List (Int×Tok)):∀k,preSum (numAt xs.toArray) k=((xs.map (·.1)).take k).sum
  | 0=>by simp[preSum]
  | k+1=>by
    unfold preSum
    rw[ow xs k,yz]
    rw[PySem.sum_take_succ]
theorem yA(hc:X.calm=true):dg X (.builtin "sum") (λxs H Q=>∃(p:UN)(ns:List Int),xs=[.ref p]/\j9 X.K H p (ns.map V.int)/\Q (.int ns.sum) H):=by
  intro pins s σ H xs us Q I r h
  obtain⟨p,ns,rfl,hq,q⟩:=h
  obtain⟨u,rfl,rx⟩:=vals1 r
  cases rx
  obtain⟨its,r',pl,hz⟩:=I.list hq
  obtain⟨xs,rfl,rfl⟩:=tP r'
  have hl:=pl.isList
  have e:(xs.map λp=>kM p.1 p.2).toArray=intItems xs.toArray:=by unfold intItems;simp
  rw[e] at hl
  refine sum_intListG (I.ok.hd hc) hl λh' tk t' hk=>⟨.int _,H,I.kept hk,⟨t',?_⟩,q⟩
  rw[ow,bO (by simp)]
def yB:List Wv->Hs->Re Wv
  | [.ref l],st=>match ak st l with
    | some ws=>(match intsOf ws with | some ns=> .ok (.int ns.sum) st | none=> .bad)
    | none=> .bad
  | _,_=> .bad
theorem IF(hc:X.calm=true):f9 X (.builtin "sum") yB:=⟨_,yA hc,λws vs st H m Q S rs p=>by
  match ws,rs,p with
  | [],rs,p=>exact aa p
  | x::y::t,rs,p=>cases x<;>exact aa p
  | [x],rs,p=>
    obtain⟨v,rfl,r1⟩:=kc rs
    cases x with
    | ref l=>
      unfold yB at p
      unfold ah at r1
      obtain⟨a,rfl,hl⟩:=r1
      cases e:ak st l with
      | none=>simp only[e] at p;exact aa p
      | some ws=>
        simp only[e] at p
        cases e2:intsOf ws with
        | none=>simp only[e2] at p;exact aa p
        | some bs=>
          simp only[e2] at p
          obtain⟨xs,q1,q2⟩:=S.read hl e
          have q3:=ou q2 e2
          subst q3
          exact⟨a,bs,rfl,q1,p _ m H Ext.refl S mkInt⟩
    | _=>exact aa p⟩
def SD(n:Int)(r:List Int):Int:=r.foldl (λa b=>if b > a then b else a) n
def LR:List Wv->Hs->Re Wv
  | [.ref l],st=>match ak st l with
    | some ws=>(match intsOf ws with | some (n::r)=> .ok (.int (SD n r)) st | _=> .bad)
    | none=> .bad
  | ws,st=>Oe ws st
def oz:List Wv->Hs->Re Wv:=λws st=>LJ ws st
theorem EC(hc:X.calm=true):f9 X (.builtin "min") oz:=HZ hc
end
section
variable {X:Cx}
def dJ(mt:PySem.Str->List Wv->Hs->Re Wv)(go:GE)(ga:GA):GE:=λρ st=>(go ρ st).bind λo st1=>match o with
 | .str z=>(ga ρ st1).bind λws st2=>(mt z ws st2).jd
 | _=> .bad
def OF(X:Cx)(id:String)(mt:PySem.Str->List Wv->Hs->Re Wv):Prop:=∃r,DQ X id r/\∀(z:PySem.Str)(ws:List Wv)(vs:List V)(st:Hs)(H:Hp)(m:Mp)(Q:VK),aC z=true->bF X.K m st H->af X.K m H ws vs->cA X.K m H (mt z ws st) Q->r (.str z) vs H Q
theorem tQ{o:Expr}{name:Str}{id:String}{e:Expr}{es:List Expr}{go:GE}{ga:GA}{apos cpos:Pos}{mt:PySem.Str->List Wv->Hs->Re Wv}(hm:OF X id mt)(slot:Slot "str" name id)(hty:typeOf (.builtin id)=pure (.type "method_descriptor"))(ho:JE X o go)(ha:JA X (e::es) ga)
  (hbase:attributeBase o name X.env (eval o X.env)=eval o X.env)
  (hfew:((backTo cpos (U6 (e::es) X.env)).all (λx=> !x.1)&&(backToKw cpos (keywordEach [] X.env)).all (λx=>x.1.isSome)&&decide ((e::es).length+([]:List Keyword).length+(if([]:List Keyword).isEmpty then 0 else 1) < 30))=true)
  (hline:(apos.endLine == cpos.line)=true)(hs:U6 (e::es) X.env=(false,eval e X.env)::U6 es X.env)(hplain:(backTo cpos (U6 es X.env)).any (·.1)=false) :
  JE X (.Call (.Attribute o name apos) (e::es) [] cpos) (dJ mt go ga):=by
 obtain⟨r,h1,h2⟩:=hm
 refine JE.of (zO PySem.F.plainAttrs_str slot hty h1 a7 gX hbase hfew hline hs hplain) λρ st σ H m Q S R p=>?_
 refine ho.go S R (au.bind p) λo st1 v m1 H1 p1 e1 S1 ro=>?_
 cases o with
 | str z=>
  dsimp only at p1
  unfold ah at ro
  obtain⟨rfl,hz⟩:=ro
  refine⟨rfl,?_⟩
  refine ha.go S1 (R.mono e1) ((au.bind p1).imp e1 λ_ _ q=>q) λws st2 vs m2 H2 p2 e2 S2 rs=>?_
  exact h2 z ws vs st2 H2 m2 Q hz S2 rs (cA.shift (au.jd p2) (e1.trans e2))
 | _=>exact aa p1
theorem lZ{z:PySem.Str}:aC z=true↔∀c∈z.cps.toList,c < 1114112:=by
 unfold aC
 rw[FP]
 constructor
 ·intro h c hc
  simpa using h c (Array.mem_toList_iff.mp hc)
 ·intro h c hc
  simpa using h c (Array.mem_toList_iff.mpr hc)
end
section
variable {X:Cx}
theorem IG:C9 X (λx lo hi H Q=>∃z,x= .str z/\z.length<=U5/\Q (.str (fN z lo hi)) H):=by
 intro pins s σ H x v vl vu lo hi sl Q I rx hs pl pu h
 obtain⟨z,rfl,hz,q⟩:=h
 obtain⟨t,rfl⟩:=rx
 have fin:∀t' k,EP X pins σ Q (.str (fN z lo hi) t') { s with toks:=k }:=λt' k=>⟨.str _,H,I.tok k,⟨t',rfl⟩,q⟩
 refine⟨"str",_,PySem.F.slot_str_getitem.lookup,typeIs_str _ _ _,?_⟩
 have hl:=bt (Txt.slice_le z lo hi) hz
 cases pl with
 | none=>
  cases pu with
  | none=>exact wpAny_getItem_str_slice (l:=none) (u:=none) (st:=none) hs rfl (post_val_or_str ⟨hl,fin⟩)
  | int j tj=>exact wpAny_getItem_str_slice (l:=none) (u:=some (j,tj)) (st:=none) hs rfl (post_val_or_str ⟨hl,fin⟩)
 | int i ti=>
  cases pu with
  | none=>exact wpAny_getItem_str_slice (l:=some (i,ti)) (u:=none) (st:=none) hs rfl (post_val_or_str ⟨hl,fin⟩)
  | int j tj=>exact wpAny_getItem_str_slice (l:=some (i,ti)) (u:=some (j,tj)) (st:=none) hs rfl (post_val_or_str ⟨hl,fin⟩)
theorem yC{z:PySem.Str}{lo hi:Option Int}{c:Nat}(h:c∈(fN z lo hi).cps.toList):c∈z.cps.toList:=by
 unfold fN at h
 split at h
 ·exact h
 ·simp only[List.mem_filterMap] at h
  obtain⟨i,_,e⟩:=h
  rw[Array.getElem?_eq_some_iff] at e
  obtain⟨hi,rfl⟩:=e
  exact Array.mem_toList_iff.mpr (Array.getElem_mem hi)
theorem tR{z:PySem.Str}{lo hi:Option Int}(h:aC z=true):aC (fN z lo hi)=true:=by
 rw[lZ] at h ⊢
 exact λc hc=>h c (yC hc)
end
section
open HT
theorem pz{prog:UR}{w:UU}{A:UO}{E:UT->US->Prop}{s:US}{t sl:UN}{us:Array UT}{vl vu:UT}{lo hi:Option Int}{Q:UT->US->Prop}(ht:IsTup s.heap t us)(hs:s.heap.IsSliceOf sl vl vu .none)(pl:IsPart vl lo)(pu:IsPart vu hi)
  (hw:de us.size 0 lo=0/\de us.size us.size hi=us.size)(h:Q (.ref t) s):U7 (model prog w) A (getItem (.ref t) (.ref sl)) Q E s:=by
 obtain⟨os,o1,o2,o3⟩:=id hs
 have tys:s.TypeIs (.ref sl) "slice":=⟨os,o1,o2⟩
 unfold getItem;try with_reducible refine U9 ?_
 first | refine U8 (Vb ?_) | skip
 refine U8 (wpAny_sequenceKey ht.typeIs (by decide) ?_);refine U8 (wpAny_callSpecial?_slot (name:=wz "__getitem__") ht.typeIs qE (wpAny_call_entry qE ht.typeIs entry_tuple_getitem ?_ (args_tuple_getitem _ _)))
 show U7 _ _ (zu (.ref t) >>= _) _ _ _;refine U8 (tupleItemsOf_ ht ?_);refine U8 (wpAny_typeOf tys ?_)
 rw[if_pos (by decide)];refine U8 (gT hs pl pu ?_)
 rw[hw.1,hw.2]
 have yes:((((0:Nat):Int)) == 0&&(1:Int) == 1&&(us.size - 0) == us.size)=true:=by simp
 show U7 _ _ (if((((0:Nat):Int)) == 0&&(1:Int) == 1&&(us.size - 0) == us.size)=true then _ else _) _ _ s
 rw[if_pos yes]
 refine U8 (m:=IH _) ?_
 unfold IH
 refine U8 (wpAny_typeOf ht.typeIs (Vb ?_))
 rw[if_pos (by decide)]
 exact U8 (wpAny_rule (Vb ⟨_,rfl,Vb h⟩))
end
section
variable {X:Cx}
def OG(K:PySem.W.Frag):V->Option Int->Option Int->Hp->VK->Prop:=λx lo hi H Q=>∃a xs,x= .ref a/\fY K H a xs/\(HT.de xs.length 0 lo=0/\HT.de xs.length xs.length hi=xs.length)/\Q (.ref a) H
theorem Bg:C9 X (OG X.K):=by
 intro pins s σ H x v vl vu lo hi sl Q I rx hs pl pu h
 obtain⟨a,xs,rfl,hx,hw,q⟩:=h
 cases rx
 obtain⟨its,r,ht,hz⟩:=I.tuple hx
 have n:its.toArray.size=xs.length:=by rw[aH];exact r.length.symm
 exact⟨"tuple",_,PyProof.Rows.slot_tuple_getitem.lookup,ht.typeIs,pz ht hs pl pu (by rw[n];exact hw) ⟨.ref a,H,I,rfl,q⟩⟩
def oA(n:Nat)(lo hi:Option Int):Prop:=HT.de n 0 lo=0/\HT.de n n hi=n
instance {n:Nat}{lo hi:Option Int}:Decidable (oA n lo hi):=inferInstanceAs (Decidable (HT.de n 0 lo=0/\HT.de n n hi=n))
def pA(x:Wv)(lo hi:Option Int)(st:Hs):Re Wv:=match x with
 | .str z=>if z.length<=lim then .ok (.str (fN z lo hi)) st else .bad
 | .tup ws=>if oA ws.length lo hi then .ok (.tup ws) st else Kb (.tup ws) lo hi st
 | x=>Kb x lo hi st
def eD(ga:GE)(gl gh:GO):GE:=λρ st=>(ga ρ st).bind λx st1=>(gl ρ st1).bind λlo st2=>(gh ρ st2).bind λhi st3=>pA x lo hi st3
theorem yD{a:Expr}{lo hi:Option Expr}{ga:GE}{gl gh:GO}{pos p2:Pos}(ha:JE X a ga)(hl:JO X lo gl)(hh:JO X hi gh):JE X (.Subscript a (.Slice lo hi none p2) pos) (eD ga gl gh):=by
 have hS:JE X (.Subscript a (.Slice lo hi none p2) pos) (λρ st=>(ga ρ st).bind λx st1=>(gl ρ st1).bind λlo st2=>(gh ρ st2).bind λhi st3=>match x with | .str z=>if z.length<=lim then .ok (.str (fN z lo hi)) st3 else .bad | _=> .bad):=by
  refine JE.of (nH IG a7 pZ pZ) λρ st σ H m Q S R p=>?_
  refine ha.go S R (au.bind p) λx st1 v m1 H1 p1 e1 S1 rx=>?_
  refine hl.go S1 (R.mono e1) ((au.bind p1).imp e1 λ_ _ q=>q) λl st2 m2 H2 p2 e2 S2=>?_
  refine hh.go S2 (R.mono (e1.trans e2)) ((au.bind p2).imp (e1.trans e2) λ_ _ q=>q) λh st3 m3 H3 p3 e3 S3=>?_
  have zq:=e1.trans (e2.trans e3)
  cases x with
  | str z=>
   dsimp only at p3
   by_cases c:z.length<=lim
   ·rw[if_pos c] at p3
    unfold ah at rx
    obtain⟨rfl,hz⟩:=rx
    exact⟨z,rfl,dF c,p3 _ m3 H3 zq S3 (mkStr (tR hz))⟩
   ·rw[if_neg c] at p3;exact aa p3
  | _=>exact aa p3
 have hW:JE X (.Subscript a (.Slice lo hi none p2) pos) (λρ st=>(ga ρ st).bind λx st1=>(gl ρ st1).bind λlo st2=>(gh ρ st2).bind λhi st3=>match x with | .tup ws=>if oA ws.length lo hi then .ok (.tup ws) st3 else Kb (.tup ws) lo hi st3 | _=> .bad):=by
  refine JE.of (nH (C9.or Bg zN) a7 pZ pZ) λρ st σ H m Q S R p=>?_
  refine ha.go S R (au.bind p) λx st1 v m1 H1 p1 e1 S1 rx=>?_
  refine hl.go S1 (R.mono e1) ((au.bind p1).imp e1 λ_ _ q=>q) λl st2 m2 H2 p2 e2 S2=>?_
  refine hh.go S2 (R.mono (e1.trans e2)) ((au.bind p2).imp (e1.trans e2) λ_ _ q=>q) λh st3 m3 H3 p3 e3 S3=>?_
  have zq:=e1.trans (e2.trans e3)
  cases x with
  | tup ws=>
   dsimp only at p3
   have qV:=ah.mono (e2.trans e3) _ _ rx
   unfold ah at qV
   obtain⟨a',xs,rfl,f1,f2⟩:=qV
   by_cases c:oA ws.length l h
   ·rw[if_pos c] at p3
    unfold oA at c
    rw[f2.length] at c
    exact .inl ⟨a',xs,rfl,fY.of f1,c,p3 _ m3 H3 zq S3 (by unfold ah;exact⟨a',xs,rfl,f1,f2⟩)⟩
   ·rw[if_neg c] at p3
    unfold Kb at p3
    dsimp only at p3
    unfold oA at c
    rw[if_neg c] at p3
    rw[f2.length] at c
    refine .inr ⟨a',xs,rfl,fY.of f1,c,λq hq=>?_⟩
    have eU:Ext X.K m3 H3 m3 (L2.upd H3 q (.tup (pj xs l h))):=Ext.nP (.inl hq)
    exact p3 (.ref q) m3 _ (zq.trans eU) (S3.fresh hq) (by unfold ah;exact⟨q,_,rfl,L2.e8,af.mono eU _ _ (qU f2)⟩)
  | _=>exact aa p3
 intro ρ st σ H m Q S R p
 unfold eD at p
 cases e1:ga ρ st with
 | bad=>rw[e1] at p;exact aa p
 | err c st1=>rw[e1] at p;exact s_ ha hl hh ρ st σ H m Q S R (by unfold ve;rw[e1];exact p)
 | ok x st1=>
  rw[e1] at p
  cases x with
  | str z=>exact hS ρ st σ H m Q S R (by dsimp only;rw[e1];exact p)
  | tup ws=>exact hW ρ st σ H m Q S R (by dsimp only;rw[e1];exact p)
  | _=>exact s_ ha hl hh ρ st σ H m Q S R (by unfold ve;rw[e1];exact p)
def rE:f7
 | .str i,.str j,st=> .ok (.bl (!(gK j i 0 j.length 1).isEmpty)) st
 | x,y,st=>N6 x y st
theorem II:kq X (U1 .In) rE:=by
 obtain⟨r,h1,h2⟩:=Lu (X:=X)
 refine⟨_,fA.or x8 h1,λx y a b st H m Q S rx ry p=>?_⟩
 unfold rE at p
 split at p
 ·rename_i i j
  unfold ah at rx ry
  obtain⟨rfl,_⟩:=rx
  obtain⟨rfl,_⟩:=ry
  exact .inl ⟨i,j,rfl,rfl,p _ m H Ext.refl S j_⟩
 ·exact .inr (h2 x y a b st H m Q S rx ry p)
theorem Bh:DQ X "str.index" (λx xs H Q=>∃z y i r,x= .str z/\xs=[.str y]/\gK z y 0 z.length 1=i::r/\Q (.int (i:Nat)) H):=by
 intro pins s σ H x xs v us Q I rx rv h
 obtain⟨z,y,i,r,rfl,rfl,ho,q⟩:=h
 obtain⟨t,rfl⟩:=rx
 obtain⟨u,rfl,t',rfl⟩:=vals1 rv
 exact SC.index ho ⟨.int _,H,I.tok _,⟨_,rfl⟩,q⟩
def jv(z:PySem.Str):List Wv->Hs->Re Wv
 | [.str y],st=>(match gK z y 0 z.length 1 with | i::_=> .ok (.int (i:Nat)) st | []=> .bad)
 | _,_=> .bad
theorem Bi:OF X "str.index" jv:=⟨_,Bh,λz ws vs st H m Q hz S rs p=>by
 match ws,rs,p with
 | [],rs,p=>exact aa p
 | x::y::t,rs,p=>cases x<;>exact aa p
 | [x],rs,p=>
  obtain⟨v,rfl,r1⟩:=kc rs
  cases x with
  | str y=>
   unfold ah at r1
   obtain⟨rfl,_⟩:=r1
   unfold jv at p
   dsimp only at p
   cases e:gK z y 0 z.length 1 with
   | nil=>rw[e] at p;exact aa p
   | cons i r=>rw[e] at p;exact⟨z,y,i,r,rfl,rfl,e,p _ m H Ext.refl S mkInt⟩
  | _=>exact aa p⟩
end
open PySem PySem.Spec PyProof.Rows L2 PySem.W
section
variable {X:Cx}
end
section
variable {X:Cx}
end
section
variable {X:Cx}
end
def LS(x:Str):It:=⟨λi _=>i < x.cps.size,λi H v H'=>H'=H/\∃c,x.cps[i]? =some c/\v= .str ⟨#[c]⟩,λi _=>x.cps.size<=i⟩
theorem vz{P:UR}{w:UU}{K:PySem.W.Frag}{tg:Expr}(x:Str)(t:Tok)(it:UN):Turn P w K tg (LS x) [it] it (λi h=>h.IsStrIter it "str_ascii_iterator" x t i) where
 mem:=List.mem_singleton.mpr rfl
 obj:=λi h st b hb=>by
  cases List.mem_singleton.mp hb
  obtain⟨o,e,c,d⟩:=st
  exact⟨o,e,λv z=>by rw[d] at z;cases z⟩
 keep:=λi h h' st k=>let ⟨o,e,r⟩:=st;⟨o,k it (List.mem_singleton.mpr rfl) o e,r⟩
 item:=by
  intro X hP hw hK hc i pins s σ H E I hf st hg
  subst hP;subst hw;subst hK
  obtain⟨f0,f1,f2,f3,f4,f5⟩:=hf it (List.mem_singleton.mpr rfl)
  have hi:i < x.cps.size:=hg
  refine wpAny_pyNext_ascii_item st (c:=x.cps[i]) (by simp[hi]) λh' st' sb=>?_
  have I1:L2.Inv X pins σ H { s with heap:=h',toks:=s.toks+1 }:=I.turned (t':=s.toks+1) (λb o hb e=>sb.extBut b o hb e) f0 f1 f3 f4 f5
  obtain⟨o,e,c,d⟩:=id st'
  exact⟨_,rfl,sL (s:={ s with heap:=h',toks:=s.toks+1 }) e c d (by decide) ⟨.str ⟨#[x.cps[i]]⟩,H,I1,⟨_,rfl⟩,⟨rfl,_,by simp[hi],rfl⟩,st',λb hb=>(hf b hb).1⟩⟩
 done:=by
  intro X hP hw hK hc i pins s σ H E I hf st hg
  subst hP;subst hw;subst hK
  obtain⟨f0,f1,f2,f3,f4,f5⟩:=hf it (List.mem_singleton.mpr rfl)
  have hi:x.cps.size<=i:=hg
  exact wpAny_pyNext_ascii_end (I.ok.hd hc) st (by simp[hi]) λh' eb=>⟨rfl,I.turned (t':=s.toks) (λb o hb e=>eb b o hb e) f0 f1 f3 f4 f5⟩
 self:=λ_ _ _ _ _ st h=>wpAny_pyIter_striter_ascii st h
theorem yE{P:UR}{w:UU}{K:PySem.W.Frag}{tg:Expr}(x:Str)(t:Tok)(it:UN):Turn P w K tg (LS x) [it] it (λi h=>h.IsStrIter it "str_iterator" x t i) where
 mem:=List.mem_singleton.mpr rfl
 obj:=λi h st b hb=>by
  cases List.mem_singleton.mp hb
  obtain⟨o,e,c,d⟩:=st
  exact⟨o,e,λv z=>by rw[d] at z;cases z⟩
 keep:=λi h h' st k=>let ⟨o,e,r⟩:=st;⟨o,k it (List.mem_singleton.mpr rfl) o e,r⟩
 item:=by
  intro X hP hw hK hc i pins s σ H E I hf st hg
  subst hP;subst hw;subst hK
  obtain⟨f0,f1,f2,f3,f4,f5⟩:=hf it (List.mem_singleton.mpr rfl)
  have hi:i < x.cps.size:=hg
  refine wpAny_pyNext_wide_item st (c:=x.cps[i]) (by simp[hi]) λh' st' sb=>?_
  have I1:L2.Inv X pins σ H { s with heap:=h',toks:=s.toks+1 }:=I.turned (t':=s.toks+1) (λb o hb e=>sb.extBut b o hb e) f0 f1 f3 f4 f5
  obtain⟨o,e,c,d⟩:=id st'
  exact⟨_,rfl,sL (s:={ s with heap:=h',toks:=s.toks+1 }) e c d (by decide) ⟨.str ⟨#[x.cps[i]]⟩,H,I1,⟨_,rfl⟩,⟨rfl,_,by simp[hi],rfl⟩,st',λb hb=>(hf b hb).1⟩⟩
 done:=by
  intro X hP hw hK hc i pins s σ H E I hf st hg
  subst hP;subst hw;subst hK
  obtain⟨f0,f1,f2,f3,f4,f5⟩:=hf it (List.mem_singleton.mpr rfl)
  have hi:x.cps.size<=i:=hg
  exact wpAny_pyNext_wide_end (I.ok.hd hc) st (by simp[hi]) λh' eb=>⟨rfl,I.turned (t':=s.toks) (λb o hb e=>eb b o hb e) f0 f1 f3 f4 f5⟩
 self:=λ_ _ _ _ _ st h=>wpAny_pyIter_striter_wide st h
section
variable {X:Cx}
theorem IJ{tg l:Expr}{tl:TE}(hl:PE X l tl):PI X tg l (λσ H R=>tl σ H λv H1=>∃z,v= .str z/\R (LS z) H1):=by
 intro pins s σ H R I h
 refine bI (hl pins s σ H _ I h) λv s1 ⟨x,H1,I1,r1,z,e,q⟩=>?_
 subst e
 obtain⟨t,rfl⟩:=r1
 have frs:∀b∈[s1.heap.objs.size],gj X pins H1 b:=λb hb=>by
  cases List.mem_singleton.mp hb
  exact I1.DD (ai _) (I1.hok.fresh (ai _))
 cases ha:z.cps.all (· < 128)
 ·exact wpAny_pyIter_wide ha ⟨s1.heap.objs.size,[s1.heap.objs.size],_,_,H1,rfl,I1.kept (t':=s1.toks) λb o e=>aU _ e,yE z t _,⟨_,cO _ rfl,rfl,rfl⟩,frs,q⟩
 ·exact wpAny_pyIter_ascii ha ⟨s1.heap.objs.size,[s1.heap.objs.size],_,_,H1,rfl,I1.kept (t':=s1.toks) λb o e=>aU _ e,vz z t _,⟨_,cO _ rfl,rfl,rfl⟩,frs,q⟩
def cx(z:PySem.Str):List Wv:=z.cps.toList.map λc=>Wv.str ⟨#[c]⟩
def qe(w:Wv)(st:Hs):Re Wk:=match w with
 | .str z=> .ok (none,cx z) st
 | w=>Ib w st
def iH(g:GE):GI:=λρ st=>(g ρ st).bind qe
theorem IK{z:PySem.Str}{m1:Mp}{H1:Hp}(hz:aC z=true):tK X (none,cx z) m1 H1 (LS z) where
 go:=λk H m' st _ _ _ hk=>by
  have:k < z.cps.size:=by simpa [cx] using hk
  exact this
 stop:=λk H m' st _ _ _ hk=>by
  have:k=z.cps.size:=by simpa [cx] using hk
  exact qN this.symm
 zi:=λk hk H v H' m' st _ _ _ y=>by
  obtain⟨rfl,c,hc,rfl⟩:=y
  refine⟨rfl,?_⟩
  have hk':k < z.cps.size:=by simpa [cx] using hk
  have e:∀h:k < (cx z).length,(cx z)[k]'h= .str ⟨#[z.cps[k]]⟩:=by intro h;simp[cx]
  have hc':z.cps[k]=c:=by simpa [hk'] using hc
  show ah X.K m' H' ((cx z)[k]'hk) _
  rw[e hk,hc']
  refine mkStr ?_
  rw[lZ] at hz ⊢
  intro d hd
  simp at hd
  rw[hd,<-hc']
  exact hz _ (by simp)
theorem rF{tg iter:Expr}{g:GE}(h:JE X iter g):JI X tg iter (iH g):=by
 obtain⟨w1,h1,k1⟩:=Ie (tg:=tg) h
 refine⟨λσ H R=>w1 σ H R\/(SE X iter σ H λv H1=>∃z,v= .str z/\R (LS z) H1),λpins s σ H R I q=>?_,λρ st σ H m R S RR p=>?_⟩
 ·rcases q with q | q
  ·exact h1 pins s σ H R I q
  ·exact IJ a7 pins s σ H R I q
 ·unfold iH at p
  cases e:g ρ st with
  | bad=>rw[e] at p;exact aa p
  | err c st'=>rw[e] at p;exact .inl (k1 ρ st σ H m R S RR (by unfold A3;rw[e];exact p))
  | ok w st'=>
   rw[e] at p
   cases w with
   | str z=>
    refine .inr ?_
    refine h.go (ok:=λw st1=>w= .str z/\st1=st') S RR (by rw[e];exact⟨rfl,rfl⟩) λw st1 v m1 H1 q e1 S1 r1=>?_
    obtain⟨rfl,rfl⟩:=q
    unfold ah at r1
    obtain⟨rfl,hz⟩:=r1
    exact⟨z,rfl,p m1 H1 _ e1 S1 trivial (IK hz)⟩
   | _=>exact .inl (k1 ρ st σ H m R S RR (by unfold A3;rw[e];exact p))
theorem rG:dg X (.type "int") (λxs H Q=>∃z n,xs=[.str z]/\PySem.intText? z=some n/\z.length<=640/\Q (.int n) H):=by
 intro pins s σ H xs us Q I r h
 obtain⟨z,n,rfl,hn,hl,q⟩:=h
 obtain⟨u,rfl,t,rfl⟩:=vals1 r
 exact PySem.W.KIN.call_text hn hl ⟨.int n,H,I.tok _,⟨_,rfl⟩,q⟩
def qf:List Wv->Hs->Re Wv
 | [.str z],st=>(match PySem.intText? z with | some n=>if z.length<=640 then .ok (.int n) st else .bad | none=> .bad)
 | ws,st=>LI ws st
theorem ED:f9 X (.type "int") qf:=by
 obtain⟨r,h1,h2⟩:=HY (X:=X)
 refine⟨_,rG.or h1,λws vs st H m Q S rs p=>?_⟩
 unfold qf at p
 split at p
 ·rename_i z
  obtain⟨v,rfl,r1⟩:=kc rs
  unfold ah at r1
  obtain⟨rfl,_⟩:=r1
  cases e:PySem.intText? z with
  | none=>rw[e] at p;exact aa p
  | some n=>
   rw[e] at p
   dsimp only at p
   by_cases c:z.length<=640
   ·rw[if_pos c] at p
    exact .inl ⟨z,n,rfl,e,c,p _ m H Ext.refl S mkInt⟩
   ·rw[if_neg c] at p;exact aa p
 ·exact .inr (h2 _ vs st H m Q S rs p)
theorem Bj:DQ X "str.split" (λx xs H Q=>∃z y,x= .str z/\xs=[.str y]/\(y.length == 0)=false/\z.length+2<=U5/\∀l,H l=none->Q (.ref l) (upd H l (.lst ((bW z y).map V.str)))):=by
 intro pins s σ H x xs v us Q I rx rv h
 obtain⟨z,y,rfl,rfl,hy,hz,q⟩:=h
 obtain⟨t,rfl⟩:=rx
 obtain⟨u,rfl,t',rfl⟩:=vals1 rv
 have vv:∀l:List (Str×Tok),Vals ((l.map (·.1)).map V.str) (strValues l):=by
  intro l
  induction l with
  | nil=>exact .nil
  | cons p r ih=>exact .cons ⟨p.2,rfl⟩ ih
 have hn:(Bk z (gK z y 0 z.length (z.length+1)) y.length).length<=U5:=by
  have e1:=StrLaws.occ_length_le z y 0 z.length (z.length+1)
  rw[length_partsBetween]
  omega
 have fin:∀(l:List (Str×Tok))(k:Nat),l.map (·.1)=bW z y->l.length<=U5->EP X pins σ Q (.ref s.heap.objs.size) { s with toks:=k,heap:=s.heap.push { cls:=.type "list",data:=.seq (strValues l).toArray } }:=by
  intro l k hl hlen
  rw[<-hl] at q
  refine⟨.ref s.heap.objs.size,_,I.laid (t':=k) (λb o e=>aU _ e) (ai _) (show e_ X.prog X.w _ _ _ (.lst _) from⟨by simpa using hlen,strValues l,0,vv l,cO _ rfl⟩),rfl,q _ (I.hok.fresh (ai _))⟩
 have e0:bW z y=bW z y:=rfl
 unfold bW at e0
 cases h1:(decide (z.length < y.length)||decide (IL z < IL y)) with
 | true=>
  refine call_meets PySem.F.slot_str_split (typeIs_str _ _ _) PySem.F.entry_str_split (PySem.F.args_str_split_2 _ _) (meets_str_split_cannot_occur z y t t' h1) (fin [(z,t)] s.toks ?_ (by show 1<=U5;decide))
  unfold bW
  rw[if_pos h1];rfl
 | false=>
  cases hf:(gK z y 0 z.length (z.length+1)).isEmpty with
  | true=>
   refine call_meets PySem.F.slot_str_split (typeIs_str _ _ _) PySem.F.entry_str_split (PySem.F.args_str_split_2 _ _) (meets_str_split_not_found z y t t' h1 hy hf) (fin [(z,t)] s.toks ?_ (by show 1<=U5;decide))
   unfold bW
   rw[if_neg (ne_true_of_eq_false h1),if_pos hf];rfl
  | false=>
   refine call_meets PySem.F.slot_str_split (typeIs_str _ _ _) PySem.F.entry_str_split (PySem.F.args_str_split_2 _ _) (meets_str_split_sep z y t t' h1 hy hf (by omega) hn) ?_
   show wants _ _ _ _
   rw[strsFrom_eq]
   refine fin (numbered s.toks _) _ ?_ ?_
   ·rw[numbered_texts]
    unfold bW
    rw[if_neg (ne_true_of_eq_false h1),if_neg (ne_true_of_eq_false hf)]
   ·have:=congrArg fB (numbered_texts s.toks (Bk z (gK z y 0 z.length (z.length+1)) y.length))
    rw[bV] at this
    omega
theorem EE{z:PySem.Str}{i j c:Nat}(h:c∈(IM z i j).cps.toList):c∈z.cps.toList:=by
 unfold IM at h
 simp only[gN,gO] at h
 exact List.mem_of_mem_drop (List.mem_of_mem_take h)
theorem tS{z y:PySem.Str}(h:aC z=true):∀b∈bW z y,aC b=true:=by
 intro b hb
 have one:∀c∈b.cps.toList,c∈z.cps.toList:=by
  intro c hc
  unfold bW at hb
  split at hb
  ·simp at hb;rw[hb] at hc;exact hc
  ·split at hb
   ·simp at hb;rw[hb] at hc;exact hc
   ·unfold Bk at hb
    obtain⟨p,_,rfl⟩:=List.mem_map.mp hb
    exact EE hc
 rw[lZ] at h ⊢
 exact λc hc=>h c (one c hc)
def eL(z:PySem.Str):List Wv->Hs->Re Wv
 | [.str y],st=>if(y.length == 0)=false/\z.length<=lim then .ok (.ref st.length) (st++[.lst ((bW z y).map Wv.str)]) else .bad
 | _,_=> .bad
theorem tT{K:PySem.W.Frag}{m:Mp}{H:Hp}:∀(ys:List PySem.Str),(∀b∈ys,aC b=true)->af K m H (ys.map Wv.str) (ys.map V.str)
 | [],_=>af.nil
 | y::r,h=>af.cons (by unfold ah;exact⟨rfl,h y aX⟩) (tT r λb hb=>h b (aN _ hb))
theorem Bl:OF X "str.split" eL:=⟨_,Bj,λz ws vs st H m Q hz S rs p=>by
 match ws,rs,p with
 | [],rs,p=>exact aa p
 | x::y::t,rs,p=>cases x<;>exact aa p
 | [x],rs,p=>
  obtain⟨v,rfl,r1⟩:=kc rs
  cases x with
  | str y=>
   unfold ah at r1
   obtain⟨rfl,_⟩:=r1
   unfold eL at p
   dsimp only at p
   by_cases c:(y.length == 0)=false/\z.length<=lim
   ·rw[if_pos c] at p
    refine⟨z,y,rfl,rfl,c.1,?_,λl hl=>jf p Ext.refl S (tT _ (tS hz)) l hl⟩
    have:=c.2
    unfold lim at this
    rw[sizeLine_eq]
    omega
   ·rw[if_neg c] at p;exact aa p
  | _=>exact aa p⟩
end
section
variable {X:Cx}
theorem oB{x:V}:∀{xs:List V}{us:List UT},Vals xs us->xs.all eG=true->us.countP (u6 x)=xs.countP λy=>sP y x
 | _,_,.nil,_=>rfl
 | y::xs,u::us,.cons r t,f=>by
  rw[bT,bf] at f
  rw[vA,vA,nJ r f.1,oB t f.2]
theorem yF:DQ X "list.count" (λx xs H Q=>∃(p:UN)(ys:List V)(y:V),x= .ref p/\xs=[y]/\j9 X.K H p ys/\eG y=true/\ys.all eG=true/\Q (.int (ys.countP λz=>sP z y:Nat)) H):=by
 intro pins s σ H x xs v us Q I rx rv h
 obtain⟨p,ys,y,rfl,rfl,hq,fy,fs,q⟩:=h
 cases rx
 obtain⟨u,rfl,ru⟩:=vals1 rv
 obtain⟨its,r,pl,hz⟩:=I.list hq
 obtain⟨⟨cls,dd,data,sl⟩,ho,hc,n,hd⟩:=pl.isList
 simp only at hc hd
 subst hc;subst hd
 refine call_meets PySem.F.slot_list_count ⟨_,ho,rfl⟩ PySem.F.entry_list_count (PySem.F.args_list_count_2 _ _) (SeqAt.list_countAt p its.toArray n dd sl u (u6 y)) ⟨ho,λw hw=>gU ru fy r fs w (by simpa using hw),?_⟩
 refine⟨.int _,H,I.tok _,⟨s.toks,?_⟩,q⟩
 rw[List.toList_toArray,oB r fs]
theorem yG:DQ X "list.index" (λx xs H Q=>∃(p:UN)(ys:List V)(y:V)(j:Nat),x= .ref p/\xs=[y]/\j9 X.K H p ys/\eG y=true/\ys.all eG=true/\ys.findIdx? (λz=>sP z y)=some j/\Q (.int (j:Nat)) H):=by
 intro pins s σ H x xs v us Q I rx rv h
 obtain⟨p,ys,y,j,rfl,rfl,hq,fy,fs,hj,q⟩:=h
 cases rx
 obtain⟨u,rfl,ru⟩:=vals1 rv
 obtain⟨its,r,pl,hz⟩:=I.list hq
 have hlen:=r.length
 obtain⟨⟨cls,dd,data,sl⟩,ho,hc,n,hd⟩:=pl.isList
 simp only at hc hd
 subst hc;subst hd
 rw[IP] at hj
 obtain⟨hj1,hj2,OH⟩:=hj
 have at':∀(k:Nat)(h:k < ys.length)(h':k < its.length),u6 y its[k]=sP ys[k] y:=by
  intro k h h'
  obtain⟨w,hw,rw'⟩:=r.get (cm h)
  rw[cm h'] at hw
  cases hw
  exact nJ rw' (List.all_eq_true.mp fs _ (List.getElem_mem h))
 have hs:U5=16777216:=sizeLine_eq
 refine call_meets PySem.F.slot_list_index ⟨_,ho,rfl⟩ PySem.F.entry_list_index (PySem.F.args_list_index_2 _ _) (SeqAt.list_indexAt p its.toArray n dd sl u (u6 y) j (by simp;omega) (by omega) ?_ ?_) ⟨ho,λw hw=>gU ru fy r fs w (by simpa using hw),⟨.int _,H,I.tok _,⟨_,rfl⟩,q⟩⟩
 ·rw[rH,at' j hj1 (by omega)];exact hj2
 ·intro m hm hlt
  rw[rH,at' m (by omega) (by omega)]
  simpa using OH m hlt
def rJ(o v:Wv)(st:Hs):Re Wv:=match o with
 | .ref l=>(match ak st l with
  | some ws=>if b_ v=true/\ws.all b_=true then .ok (.int (ws.countP λz=>Aj z v:Nat)) st else .bad
  | none=> .bad)
 | _=> .bad
def nh(o v:Wv)(st:Hs):Re Wv:=match o with
 | .ref l=>(match ak st l with
  | some ws=>if b_ v=true/\ws.all b_=true then(match ws.findIdx? (λz=>Aj z v) with | some j=> .ok (.int (j:Nat)) st | none=> .bad) else .bad
  | none=> .bad)
 | _=> .bad
theorem iI{m:Mp}{H:Hp}:∀{ws:List Wv}{xs:List V},af X.K m H ws xs->ws.all b_=true->xs.all eG=true
 | [],xs,r,_=>by unfold af at r;subst r;rfl
 | w::ws,xs,r,f=>by
  unfold af at r
  obtain⟨x,t,rfl,r1,r2⟩:=r
  rw[bT,bf] at f ⊢
  exact⟨gY r1 f.1,iI r2 f.2⟩
theorem qg{m:Mp}{H:Hp}{v:Wv}{y:V}(rv:ah X.K m H v y)(fv:b_ v=true):∀{ws:List Wv}{xs:List V},af X.K m H ws xs->ws.all b_=true->(xs.countP λz=>sP z y)=ws.countP λz=>Aj z v
 | [],xs,r,_=>by unfold af at r;subst r;rfl
 | w::ws,xs,r,f=>by
  unfold af at r
  obtain⟨x,t,rfl,r1,r2⟩:=r
  rw[bT,bf] at f
  rw[vA,vA,qg rv fv r2 f.2,qS r1 rv f.1 fv]
theorem oC{m:Mp}{H:Hp}{v:Wv}{y:V}(rv:ah X.K m H v y)(fv:b_ v=true):∀{ws:List Wv}{xs:List V},af X.K m H ws xs->ws.all b_=true->xs.findIdx? (λz=>sP z y)=ws.findIdx? λz=>Aj z v
 | [],xs,r,_=>by unfold af at r;subst r;rfl
 | w::ws,xs,r,f=>by
  unfold af at r
  obtain⟨x,t,rfl,r1,r2⟩:=r
  rw[bT,bf] at f
  rw[List.findIdx?_cons,List.findIdx?_cons,oC rv fv r2 f.2,qS r1 rv f.1 fv]
theorem yH:FU X "list.count" rJ:=⟨_,yF,λo w x v st H m Q S ro rw' p=>by
 cases o with
 | ref l=>
  unfold ah at ro
  obtain⟨a,rfl,ha⟩:=ro
  unfold rJ at p
  cases e:ak st l with
  | none=>simp only[e] at p;exact aa p
  | some ws=>
   simp only[e] at p
   by_cases c:b_ w=true/\ws.all b_=true
   ·rw[if_pos c] at p
    obtain⟨xs,q1,q2⟩:=S.read ha e
    refine⟨a,xs,v,rfl,rfl,q1,gY rw' c.1,iI q2 c.2,?_⟩
    rw[qg rw' c.1 q2 c.2]
    exact p _ m H Ext.refl S mkInt
   ·rw[if_neg c] at p;exact aa p
 | _=>exact aa p⟩
theorem yI:FU X "list.index" nh:=⟨_,yG,λo w x v st H m Q S ro rw' p=>by
 cases o with
 | ref l=>
  unfold ah at ro
  obtain⟨a,rfl,ha⟩:=ro
  unfold nh at p
  cases e:ak st l with
  | none=>simp only[e] at p;exact aa p
  | some ws=>
   simp only[e] at p
   by_cases c:b_ w=true/\ws.all b_=true
   ·rw[if_pos c] at p
    obtain⟨xs,q1,q2⟩:=S.read ha e
    cases ej:ws.findIdx? (λz=>Aj z w) with
    | none=>rw[ej] at p;exact aa p
    | some j=>
     rw[ej] at p
     exact⟨a,xs,v,j,rfl,rfl,q1,gY rw' c.1,iI q2 c.2,by rw[oC rw' c.1 q2 c.2];exact ej,p _ m H Ext.refl S mkInt⟩
   ·rw[if_neg c] at p;exact aa p
 | _=>exact aa p⟩
end
def keyOf:Wv->Option L2.Key
 | .int i=>some (.inl i)
 | .str x=>some (.inr x)
 | .bS=>some .bS
 | _=>none
theorem yJ{K:PySem.W.Frag}{m:Mp}{H:Hp}{w:Wv}{v:V}{k:L2.Key}(r:ah K m H w v)(e:keyOf w=some k):v=kV k:=by
 cases w with
 | int i=>cases e;unfold ah at r;rw[r];rfl
 | str x=>cases e;unfold ah at r;rw[r.1];rfl
 | bS=>cases e;unfold ah at r;rw[r];rfl
 | _=>cases e
def EF{κ:Type}[DecidableEq κ](kvs:List (κ×Wv))(k:κ):Option Wv:=match kvs with
 | []=>none
 | p::r=>if p.1=k then some p.2 else EF r k
section
variable {K:PySem.W.Frag} {m:Mp} {H:Hp} {κ:Type}
variable [DecidableEq κ]
end
section
variable {K:PySem.W.Frag} {m:Mp} {H:Hp}
end
section
variable {X:Cx}
end
def w4:Wv->UT->Prop
 | .int i,u=>∃t,u= .int i t
 | .str x,u=>(∃t,u= .str x t)/\aC x=true
 | _,_=>False
abbrev Dc:=List (PySem.Str×Wv)
def rK(w:UU):Dc->List DictEntry->Prop
 | [],[]=>True
 | (k,v)::r,e::t=>(e.hash=hashStr w k/\(∃tk,e.key= .str k tk)/\w4 v e.val)/\rK w r t
 | _,_=>False
def yK(K:PySem.W.Frag)(w:UU)(mg:Str->Option UT)(x:Str)(kvs:Dc):Prop :=
 ∃(a:UN)(es:Array DictEntry)(ep:Nat),mg x=some (.ref a)/\K.lookup a=some ⟨.type "dict",none,.dict es ep,#[]⟩/\(a == sysModules)=false/\rK w kvs es.toList/\(kvs.map (·.1)).Nodup
theorem lF{P:UR}{w:UU}:∀{kvs:Dc}{l:List DictEntry},rK w kvs l->∃vs:List (PySem.Str×UT),vs.map (·.1)=kvs.map (·.1)/\Pairs (PySem.strKind P w) l vs/\(∀e∈l,∃k,(PySem.strKind P w).is k e.key=true/\e.hash=(PySem.strKind P w).hash k)/\
  ∀k,(kvs.lookup k=none->valueAt vs k=none)/\∀v,kvs.lookup k=some v->∃u,valueAt vs k=some u/\w4 v u
 | [],[],_=>⟨[],rfl,.nil,(λ_ z=>by cases z),λk=>⟨λ_=>rfl,(λv z=>by cases z)⟩⟩
 | (k,v)::r,e::t,h=>by
  obtain⟨⟨h1,⟨tk,h2⟩,h3⟩,h4⟩:=h
  obtain⟨vs,i1,i2,i3,i4⟩:=lF (P:=P) h4
  have his:(PySem.strKind P w).is k e.key=true:=by rw[h2];exact strKind_is P w k tk
  refine⟨(k,e.val)::vs,by simp[i1],.cons his rfl i2,λe' he=>?_,λk'=>?_⟩
  ·rcases List.mem_cons.mp he with z | z
   ·subst z;exact⟨k,his,h1⟩
   ·exact i3 e' z
  ·rw[dU]
   unfold valueAt
   rw[List.find?_cons]
   by_cases ek:k=k'
   ·subst ek
    have b1:(k == k)=true:=by simp
    rw[b1]
    simp only[decide_true,k_]
    exact⟨(λz=>by cases z),λv' z=>⟨e.val,rfl,by cases z;exact h3⟩⟩
   ·have b1:(k' == k)=false:=beq_eq_false_iff_ne.mpr λz=>ek z.symm
    rw[b1]
    simp only[ek,decide_false]
    exact i4 k'
 | [],_::_,h=>aa h
 | _::_,[],h=>aa h
theorem EG{P:UR}{w:UU}{K:PySem.W.Frag}{h:Heap}{a:UN}{es:Array DictEntry}{ep:Nat}{kvs:Dc}(KX:K.In h)(hl:K.lookup a=some ⟨.type "dict",none,.dict es ep,#[]⟩)(he:rK w kvs es.toList)(nd:(kvs.map (·.1)).Nodup) :
  ∃vs:List (PySem.Str×UT),h.DictOf (PySem.strKind P w) a vs/\∀k,(kvs.lookup k=none->valueAt vs k=none)/\∀v,kvs.lookup k=some v->∃u,valueAt vs k=some u/\w4 v u:=by
 obtain⟨vs,i1,i2,i3,i4⟩:=lF (P:=P) he
 exact⟨vs,⟨_,es,ep,KX a _ hl,⟨rfl,rfl,rfl⟩,rfl,λe hm=>i3 e (by simpa using hm),i2,by rw[i1];exact nd⟩,i4⟩
section
variable {X:Cx}
def FW(kvs:Dc)(ga:GE):GE:=λρ st=>(ga ρ st).bind λa st1=>match a with
 | .str k=>(match kvs.lookup k with | some w=> .ok w st1 | none=> .bad)
 | _=> .bad
def LU(kvs:Dc)(ty:TE):TE:=λσ H Q=>ty σ H λy H1=>∃z w v,y= .str z/\kvs.lookup z=some w/\(∀u,w4 w u->RelV v u)/\Q v H1
theorem EH{b:Expr}{ty:TE}{x:Str}{p pos:Pos}{kvs:Dc}(hb:PE X b ty)(hs:Hf b)(hg:Gl X x)(hd:(x == ("__debug__":Str))=false)(D:yK X.K X.w X.mg x kvs):PE X (.Subscript (.Name x p) b pos) (LU kvs ty):=by
 intro pins s σ H Q I h
 obtain⟨a,es,ep,g1,g2,g3,g4,g5⟩:=D
 refine DW PySem.F.slot_dict_getitem.lookup hs (bI (jM (v:=.ref a) hg g1 rfl hd pins s σ H (λv H2=>v= .ref a/\H2=H) I ⟨rfl,rfl⟩) λu s1 ⟨v,H1,I1,rv,ev,eH⟩=>?_)
 subst ev eH
 obtain rfl:u=bg a:=rv
 refine bI (hb pins s1 σ H1 _ I1 h) λiv s2 ⟨y,H2,I2,ry,z,w,v,ey,ew,ev,q⟩=>?_
 subst ey
 obtain⟨t,rfl⟩:=(show ∃t,iv=mW z t from ry)
 obtain⟨vs,dd,look⟩:=EG (P:=X.prog) (w:=X.w) I2.Dv g2 g4 g5
 obtain⟨u,e1,e2⟩:=(look z).2 w ew
 exact⟨dd.typeIs,wpAny_getItem_of (strKind_is X.prog X.w z t) dd.mapOf e1 ⟨v,H2,I2.tok _,ev u e2,q⟩⟩
theorem EI{b:Expr}{gb:GE}{x:Str}{p pos:Pos}{kvs:Dc}(hb:JE X b gb)(hs:Hf b)(hg:Gl X x)(hd:(x == ("__debug__":Str))=false)(D:yK X.K X.w X.mg x kvs):JE X (.Subscript (.Name x p) b pos) (FW kvs gb) :=
 JE.of (EH a7 hs hg hd D) λρ st σ H m Q S R p=>by
  refine hb.go S R (au.bind p) λw st1 v m1 H1 p1 e1 S1 r1=>?_
  cases w with
  | str k=>
   dsimp only at p1
   cases e:kvs.lookup k with
   | none=>rw[e] at p1;exact aa p1
   | some u=>
    rw[e] at p1
    unfold ah at r1
    cases u with
    | int i=>exact⟨k,.int i,.int i,r1.1,e,λu h=>h,p1 _ m1 H1 e1 S1 (by unfold ah;rfl)⟩
    | str y=>
     by_cases hy:aC y=true
     ·exact⟨k,.str y,.str y,r1.1,e,λu h=>h.1,p1 _ m1 H1 e1 S1 (by unfold ah;exact⟨rfl,hy⟩)⟩
     ·obtain⟨a,es,ep,_,_,_,g4,_⟩:=D
      obtain⟨vs,_,_,_,i4⟩:=lF (P:=X.prog) g4
      obtain⟨u,_,e2⟩:=(i4 k).2 _ e
      exact absurd e2.2 hy
    | _=>
     obtain⟨a,es,ep,_,_,_,g4,_⟩:=D
     obtain⟨vs,_,_,_,i4⟩:=lF (P:=X.prog) g4
     obtain⟨u,_,e2⟩:=(i4 k).2 _ e
     exact aa e2
  | _=>exact aa p1
end
open PySem PySem.Spec PyProof.Rows PySem.W L2
section
variable (lt:Nat->Nat->Bool) (N:Nat)
end
section
variable {lt:Nat->Nat->Bool} {N:Nat}
abbrev at_(p:Array Nat)(i:Nat):Nat:=p.getD i 0
def Up(lt:Nat->Nat->Bool)(p:Array Nat)(k:Nat):Prop:=∀i j,i<=j->j < k->lt (at_ p j) (at_ p i)=false
end
def pB(a b:Int×Int):Bool:=decide (a.1 < b.1)||(decide (a.1=b.1)&&decide (a.2 < b.2))
theorem IQ{a b:Int×Int}(h:pB a b=true):pB b a=false:=by
 unfold pB at h ⊢
 simp at h ⊢
 omega
theorem IS{a b c:Int×Int}(h:pB a b=false)(k:pB b c=false):pB a c=false:=by
 unfold pB at h k ⊢
 simp at h k ⊢
 omega
theorem IT{a b:Int×Int}(h:pB a b=false)(k:pB b a=false):a=b:=by
 unfold pB at h k
 simp at h k
 exact qD (by omega) (by omega)
def vB(n:Int×Int):List (Int×Int)->List (Int×Int)
 | []=>[n]
 | a::r=>if pB a n=true then a::vB n r else n::a::r
def l8:List (Int×Int)->List (Int×Int)
 | []=>[]
 | a::r=>vB a (l8 r)
theorem l9(n:Int×Int):∀l,(vB n l).Perm (n::l)
 | []=> .refl _
 | a::r=>by
  unfold vB
  split
  ·exact((l9 n r).cons a).trans (.swap n a r)
  ·exact .refl _
theorem jT:∀l,(l8 l).Perm l
 | []=> .nil
 | a::r=>(l9 a (l8 r)).trans ((jT r).cons a)
abbrev Bm(l:List (Int×Int)):Prop:=l.Pairwise λa b=>pB b a=false
theorem w5(n:Int×Int):∀l,Bm l->Bm (vB n l)
 | [],_=>by simp[vB]
 | a::r,h=>by
  unfold vB
  rw[Bm,rL] at h
  split
  ·rename_i c
   rw[Bm,rL]
   refine⟨λb hb=>?_,w5 n r h.2⟩
   rcases List.mem_cons.mp ((l9 n r).mem_iff.mp hb) with z | z
   ·rw[z];exact IQ c
   ·exact h.1 b z
  ·rename_i c
   have c':pB a n=false:=by simpa using c
   rw[Bm,rL,rL]
   refine⟨λb hb=>?_,h⟩
   rcases List.mem_cons.mp hb with z | z
   ·rw[z];exact c'
   ·exact IS (h.1 b z) c'
theorem ni:∀l,Bm (l8 l)
 | []=> .nil
 | a::r=>w5 a _ (ni r)
theorem oD{a b:List (Int×Int)}(h:a.Perm b)(ha:Bm a)(hb:Bm b):a=b :=
 List.Perm.eq_of_pairwise (λ_ _ _ _ h1 h2=>IT h2 h1) ha hb h
theorem EJ{a:List (Int×Int)}(h:Bm a):l8 a=a:=oD (jT a) (ni a) h
section
variable {prog:UR} {w:UU} {A:UO} {E:UT->US->Prop} {s:US}
theorem EK{x y:UN}{ox oy:Obj}{a1 a2 b1 b2:Int}{t1 t2 u1 u2:Tok}{n k:Nat}{Q:Bool->US->Prop}(hx:s.heap.get? x=some ox)(dx:ox.data= .seq #[.int a1 t1,.int a2 t2] n)(hy:s.heap.get? y=some oy)(dy:oy.data= .seq #[.int b1 u1,.int b2 u2] k)
  (h:Q (pB (a1,a2) (b1,b2)) s):U7 (model prog w) A (keyLt' (tuples' true) (.ref x) (.ref y)) Q E s:=by
 have hq:∀b,b=pB (a1,a2) (b1,b2)->Q b s:=λb e=>by rw[e];exact h
 refine kat_lt hx dx hy dy ?_
 refine kat_cons (wpAny_eqBool_int (kat_go (λe=>kat_yes ?_) (λe=>kat_no ?_)))
 ·refine kat_cons (wpAny_eqBool_int (kat_go (λe2=>kat_yes ?_) (λe2=>kat_no ?_)))
  ·refine kat_nil (hq _ ?_)
   have z1:a1=b1:=by simpa using e
   have z2:a2=b2:=by simpa using e2
   subst z1 z2
   simp[pB]
  ·refine kat_one _ _ (PyProof.Rows.lt_int ?_)
   show Q (decide (a2 < b2)) s
   refine hq _ ?_
   have z1:a1=b1:=by simpa using e
   subst z1
   simp[pB]
 ·refine oneLt_int (hq _ ?_)
  have z1:¬a1=b1:=by simpa using e
  simp[pB,z1]
end
def TupAt(h:Heap)(v:UT)(q:Int×Int):Prop:=∃(a:UN)(o:Obj)(t u:Tok)(n:Nat),v= .ref a/\h.get? a=some o/\o.cls= .type "tuple"/\o.data= .seq #[.int q.1 t,.int q.2 u] n
abbrev LV(H:Hp):List V->List (Int×Int)->Prop:=Paired λv q=>∃a,v= .ref a/\H a=some (.tup [.int q.1,.int q.2])
theorem yL{x y:Int}{its:List UT}(h:Vals [.int x,.int y] its):∃t u,its=[.int x t,.int y u]:=by
 cases h with
 | cons h1 h2=>
  cases h2 with
  | cons h3 h4=>
   cases h4
   obtain⟨t,rfl⟩:=h1
   obtain⟨u,rfl⟩:=h3
   exact⟨t,u,rfl⟩
section
variable {X:Cx} {pins:List (UN×Obj)} {σ:St} {H:Hp} {s:US}
theorem vC(I:Inv X pins σ H s):∀{vs:List V}{ps:List (Int×Int)}{its:List UT},LV H vs ps->Vals vs its->Paired (TupAt s.heap) its ps
 | _,_,_,.nil,.nil=> .nil
 | _,_,_,.cons h t,.cons r rs=>by
  obtain⟨a,rfl,hT⟩:=h
  cases r
  obtain⟨its,rv,⟨o,g1,g2,n,g3⟩,_⟩:=I.tuple (fY.of hT)
  obtain⟨t1,u1,rfl⟩:=yL rv
  exact .cons ⟨a,o,t1,u1,n,rfl,g1,g2,g3⟩ (vC I t rs)
end
theorem tU{h:Heap}:∀{its:List UT}{ps:List (Int×Int)},Paired (TupAt h) its ps->∃fs:List UT,KatTups h its fs/\fs.length=ps.length/\∀v∈fs,∃i t,v= .int i t
 | _,_,.nil=>⟨[],.nil,rfl,(λ_ z=>by cases z)⟩
 | _,_,.cons (b:=q) hd tl=>by
  obtain⟨fs,k1,k2,k3⟩:=tU tl
  obtain⟨a,o,t,u,n,rfl,g1,g2,g3⟩:=hd
  refine⟨.int q.1 t::fs,.cons g1 g2 g3 rfl k1,by simp[k2],λv hv=>?_⟩
  rcases List.mem_cons.mp hv with z | z
  ·exact⟨_,_,z⟩
  ·exact k3 v z
theorem qh{h h':Heap}(k:∀a o its n,h.get? a=some o->o.data= .seq its n->h'.get? a=some o):∀{its:List UT}{ps:List (Int×Int)},Paired (TupAt h) its ps->Paired (TupAt h') its ps
 | _,_,.nil=> .nil
 | _,_,.cons hd tl=>by
  obtain⟨a,o,t,u,n,e,g1,g2,g3⟩:=hd
  exact .cons ⟨a,o,t,u,n,e,k a o _ _ g1 g3,g2,g3⟩ (qh k tl)
section
variable {X:Cx}
end
section
variable {prog:UR} {w:UU} {A:UO} {E:UT->US->Prop} {s:US}
theorem yM{a:UN}{its:List UT}{n:Nat}{P:PySem.Fin->US->Prop}(h2:its.length < 2)(ho:s.heap.get? a=some (seqObj "list" its.toArray n))(k:P (.done (.ret .none)) { s with heap:=sortedHeap s.heap a its its.toArray }):U7 (model prog w) A (Builtin.«list.sort» ⟨[.ref a],[]⟩) P E s:=by
 obtain⟨c,hc⟩:∃c,(s.heap.update a (bM λ_=>(#[]:Array UT))).get? a=some (seqObj "list" #[] c):=⟨_,get?_update_seq ho λ_=>#[]⟩
 have big:(((s.heap.update a (bM λ_=>(#[]:Array UT))).push (seqObj "tuple" its.toArray 0)).push (seqObj "list" #[] 0)).get? a=some (seqObj "list" #[] c):=aU _ (aU _ hc)
 rw[list_sort_plain]
 refine U8 (listItems_at ho rfl (U8 (listUpdate_at ho rfl (U8 (seqEpoch_at hc rfl (U8 (wpAny_newTuple (U8 (U' (U9 ?_))))))))))
 show U7 (model prog w) A _ P E { s with heap:=((s.heap.update a (bM λ_=>(#[]:Array UT))).push (seqObj "tuple" its.toArray 0)).push (seqObj "list" #[] 0) }
 have few:its.toArray.size < 2:=by simpa using h2
 dsimp only
 rw[if_pos few,if_pos few]
 refine U8 (Vb (U8 ?_))
 rw[StateT.run_pure]
 refine Vb ?_
 have mp:Array.map (λx:Vd=>x.2) (arrOf (ao general' (its.toArray.zip its.toArray) #[] 7 none))=its.toArray:=by
  show Array.map (λx:Vd=>x.2) (its.toArray.zip its.toArray)=its.toArray
  match its,h2 with
  | [],_=>simp
  | [v],_=>simp
 dsimp only
 simp only[mp]
 refine U8 (seqEpoch_at big rfl (U8 (listUpdate_at big rfl ?_)))
 simp only[bne_self_eq_false,i9,if_false]
 exact Vb k
theorem vD{l:UN}{its:List UT}{Q:UT->US->Prop}(h2:its.length < 2)(hl:s.heap.IsList l its.toArray)(k:Q (.ref (s.heap.objs.size+1)) { s with heap:=sortedAll s.heap its its.toArray }):U7 (model prog w) A (call (.builtin "sorted") [.ref l]) Q E s:=by
 have zz:((s.heap.push (seqObj "list" #[] 0)).update s.heap.objs.size (bM (· ++its.toArray))).objs.size=s.heap.objs.size+1:=(vE ..).trans (size_push' ..)
 have hh:(((s.heap.push (seqObj "list" #[] 0)).update s.heap.objs.size (bM (· ++its.toArray))).push (seqObj "list" its.toArray 0)).get? (s.heap.objs.size+1)=some (seqObj "list" its.toArray 0):=zz ▸ cO _ rfl
 refine IU kind_sorted plain_sorted entry_sorted (args_sorted1 _) ?_
 unfold Builtin.«sorted»
 refine U8 (m:=checkCount "sorted" 1 1 _) (Vb (U8 (collect_list hl (U8 (U' ?_)))))
 show U7 _ _ _ _ _ { s with heap:=((s.heap.push (seqObj "list" #[] 0)).update s.heap.objs.size (bM (· ++its.toArray))).push (seqObj "list" its.toArray 0) }
 rw[zz]
 exact U8 (U9 (wpAny_call_entry slot_list_sort ⟨_,hh,rfl⟩ entry_list_sort (yM h2 hh ⟨_,rfl,Vb ⟨_,rfl,k⟩⟩) (args_list_sort _)))
end
section
variable {X:Cx}
theorem yN:dg X (.builtin "sorted") (λxs H Q=>∃(p:UN)(vs:List V),xs=[.ref p]/\j9 X.K H p vs/\vs.length < 2/\∀l,H l=none->Q (.ref l) (upd H l (.lst vs))):=by
 intro pins s σ H xs us Q I r h
 obtain⟨p,v,rfl,hq,h2,q⟩:=h
 obtain⟨u,rfl,rx⟩:=vals1 r
 cases rx
 obtain⟨its,r',pl,hz⟩:=I.list hq
 obtain⟨n,hat⟩:=sortedAll_at s.heap its its.toArray
 refine vD (by rw[<-r'.length];exact h2) pl.isList ⟨.ref (s.heap.objs.size+1),_,I.laid (t':=s.toks) (λ_ _=>sortedAll_old) (fD _) (show e_ X.prog X.w _ _ _ (.lst _) from⟨hz,its,n,r',?_⟩),rfl,q _ (I.hok.fresh (fD _))⟩
 rw[hat]
def iJ:List Wv->Option (List (Int×Int))
 | []=>some []
 | .tup [.int a,.int b]::r=>(match iJ r with | some l=>some ((a,b)::l) | none=>none)
 | _=>none
abbrev pw(p:Int×Int):Wv:=.tup [.int p.1,.int p.2]
theorem oE{K:PySem.W.Frag}{m:Mp}{H:Hp}:∀{ws:List Wv}{vs:List V}{ps:List (Int×Int)},af K m H ws vs->iJ ws=some ps->LV H vs ps
 | [],vs,ps,r,e=>by
  unfold af at r
  subst r
  cases e
  exact .nil
 | w::ws,vs,ps,r,e=>by
  unfold af at r
  obtain⟨x,t,rfl,r1,r2⟩:=r
  unfold iJ at e
  split at e
  ·cases ‹_::_=[]›
  ·rename_i a b r' he
   cases he
   cases q:iJ ws with
   | none=>rw[q] at e;cases e
   | some l=>
    rw[q] at e
    cases e
    unfold ah at r1
    obtain⟨ad,xs,rfl,hT,rx⟩:=r1
    unfold af at rx
    obtain⟨y1,z1,rfl,QK,rx⟩:=rx
    unfold af at rx
    obtain⟨y2,z2,rfl,QL,rx⟩:=rx
    unfold af at rx
    subst rx
    unfold ah at QK QL
    subst QK QL
    exact .cons ⟨ad,rfl,hT⟩ (oE r2 q)
  ·cases e
theorem oF{K:PySem.W.Frag}{m:Mp}{H:Hp}:∀{vs:List V}{ps:List (Int×Int)},LV H vs ps->af K m H (ps.map pw) vs
 | _,_,.nil=>af.nil
 | _,_,.cons h t=>by
  obtain⟨a,rfl,hT⟩:=h
  refine af.cons ?_ (oF t)
  unfold ah
  exact⟨a,_,rfl,hT,af.cons (by unfold ah;rfl) (af.cons (by unfold ah;rfl) af.nil)⟩
end
def keysOf:List Wv->Option (List L2.Key)
 | []=>some []
 | w::r=>(match keyOf w,keysOf r with | some k,some l=>some (k::l) | _,_=>none)
def oG:Wv->Option (List L2.Key)
 | .tup ws=>keysOf ws
 | _=>none
theorem oH{K:PySem.W.Frag}{m:Mp}{H:Hp}:∀{ws:List Wv}{xs:List V}{ks:List L2.Key},af K m H ws xs->keysOf ws=some ks->xs=ks.map kV
 | [],xs,ks,r,e=>by unfold af at r;subst r;cases e;rfl
 | w::ws,xs,ks,r,e=>by
  unfold af at r
  obtain⟨x,t,rfl,r1,r2⟩:=r
  unfold keysOf at e
  cases e1:keyOf w with
  | none=>rw[e1] at e;cases e
  | some k=>
   cases e2:keysOf ws with
   | none=>rw[e1,e2] at e;cases e
   | some l=>
    rw[e1,e2] at e
    cases e
    rw[yJ r1 e1,oH r2 e2]
    rfl
theorem Bn{K:PySem.W.Frag}{m:Mp}{H:Hp}{w:Wv}{v:V}{ks:List L2.Key}(r:ah K m H w v)(e:oG w=some ks):∃b,v= .ref b/\H b=some (.tup (ks.map kV)):=by
 cases w with
 | tup ws=>
  unfold ah at r
  obtain⟨a,xs,rfl,h1,h2⟩:=r
  rw[oH h2 e] at h1
  exact⟨a,rfl,h1⟩
 | _=>cases e
section
variable {X:Cx}
end
section
variable {prog:UR} {w:UU} {A:UO} {E:UT->US->Prop} {s:US} {d it:UN} {es:Array DictEntry} {ep i:Nat}
end
abbrev OI(H:Hp):List V->List (List L2.Key)->Prop:=Paired λv k=>∃b,v= .ref b/\H b=some (.tup (k.map kV))
section
variable {X:Cx}
end
def vF:List L2.Key->Option (List Int)
 | []=>some []
 | .inl i::r=>(match vF r with | some l=>some (i::l) | none=>none)
 | _=>none
section
variable {X:Cx}
end
open PySem L2 PyProof.Rows
section
open PySem.SeqAt PySem.MeetsSeq PySem.MeetsSeq2 PySem.MeetsSeq3
end
variable {X:Cx}
def oLe:f7:=λx y st=>Lg x y st
theorem IV(hu:X.A.units+64 < cLine):kq X (U1 .LtE) oLe:=Lj
def LW:f7:=λx y st=>Lf x y st
theorem IW(hu:X.A.units+64 < cLine):kq X (U1 .Lt) LW:=Li
structure qi(k:Nat)(A:UO):Prop where
 d:A.depth+3 * k+5 < recursionLimit
 u:A.units+16 * k+200 < cLine
theorem qi.of{k:Nat}{A:UO}(r:ja k A):qi k A:=⟨r.dp,r.un⟩
structure LX(P:UR)(w:UU)(K:PySem.W.Frag)(mg:Str->Option UT)(base:Heap)(k:Nat)(f:UN)(fd:UP)(ps:List Str)(sp:Sp):Prop where
 n:∀vs H Q E,sp vs H Q E->vs.length=ps.length
 go:∀(A:UO)(outer:List Env)(s:US)(H:Hp)(args:Args)(us:List UT)(vs:List V)(Q:VK)(E:XK),qi k A->yv A H->zI P w K mg base A outer s H->
  BindsTo s fd args (ps.zip us)->Vals vs us->sp vs H Q E->UZ (model P w) A (.call (.ref f) args) (CR (CXJ P w) outer P w H s Q E) s
section
variable {P:UR} {w:UU} {K:PySem.W.Frag} {mg:Str->Option UT} {base:Heap}
end
section
variable {X:Cx}
end
def IX(P:UR)(w:UU)(K:PySem.W.Frag)(mg:Str->Option UT)(base:Heap)(k:Nat)(x:Str)(n:Nat)(F:List Wv->Hs->Re Wv):Prop :=
 ∃f fd ps,LX P w K mg base k f fd ps (spW K n F)/\mg x=some (.ref f)/\PySem.W.keepIn K (.ref f)=true/\Binds K fd ps []
section
variable {X:Cx}
end
section
variable {X:Cx}
end
section
variable {X:Cx}
end
open Classical in
section
variable {X:Cx}
end
open Classical in
section
variable {X:Cx} {pins:List (UN×Obj)} {σ:St} {H:Hp} {s:US} {scope:Scope} {x:Str} {xr:List Str} {cs:gk}
end
section
variable {prog:UR} {w:UU} {A:UO} {R:Result->US->Prop} {s:US}
end
section
variable {X:Cx}
end
section
variable {X:Cx}
end
section
open PySem.SeqAt PySem.MeetsSeq PySem.MeetsSeq2 PySem.MeetsSeq3
theorem tV(p:UN)(its:Array UT)(n:Nat)(dd:Option UN)(sl:Array (Option UT))(x:UT)(e:UT->Bool)(j:Nat)(hj:j < its.size)(hit:e its[j]=true)(hno:∀m (hm:m < its.size),m < j->e its[m]=false) :
  Meets (Builtin.«tuple.index» ⟨[.ref p,x],[]⟩)
   (λA R s=>s.heap.get? p=some { cls:=.type "tuple",dict:=dd,data:=.seq its n,slots:=sl }/\(∀y,y∈its->EqAt A.in1 s y x (e y))/\R (.ok (.ret (.int j s.toks))) { s with toks:=s.toks+1 }) :=
 .of_wp λprog w A R s hh=>by
  obtain⟨hp,g,d,tk,os⟩:=s
  obtain⟨gp,he,hr⟩:=hh
  have sb:=IY
  wp_walk using PySem.AutoSeq1.wpAny_loadPart' gp
  rw[Nat.min_self]
  show U7 (model prog w) A.in1 (forIn [:its.size] (none,()) (λ(i:Nat)(__s:Option PySem.Fin×Unit)=>match its[i]? with
      | some y=>do
       let __do_lift <-eqBool y x
       if __do_lift=true then do
         let __do_lift <-retInt i
         pure (ForInStep.done (some __do_lift,()))
        else pure (i7 (none,()))
      | x=>pure (i7 (none,())))) _ _ _
  rw[Std.Legacy.Range.forIn_eq_forIn_range']
  simp only[Std.Legacy.Range.size,Nat.sub_zero,fM,Nat.div_one]
  refine wpAny_forIn_list _ (λrest b s'=>b.1=none/\s'=⟨hp,g,d,tk,os⟩/\∃i,i<=j/\rest=List.range' i (its.size - i)) _ ?_ ?_ _ _ ⟨rfl,rfl,0,aA _,by simp⟩
  ·rintro y rest b s' ⟨e0,rfl,i,hi,er⟩
   have hlt:i < its.size:=by omega
   obtain⟨rfl,SF⟩:y=i/\rest=List.range' (i+1) (its.size - (i+1)):=by
    have q:its.size - i=(its.size - (i+1))+1:=by omega
    rw[q,List.range'_succ] at er
    injection er with h1 h2
    exact⟨h1,h2⟩
   rw[jm hlt]
   dsimp only
   refine U8 (he _ (Array.getElem_mem hlt) prog w _ _ ?_)
   by_cases cj:y=j
   ·subst cj
    rw[hit,if_pos rfl]
    wp_walk
    exact⟨_,rfl,hr⟩
   ·rw[hno y hlt (by omega),if_neg bG]
    exact Vb ⟨rfl,rfl,y+1,by omega,SF⟩
  ·rintro b s' ⟨e0,rfl,i,hi,er⟩
   exfalso
   have:its.size - i=0:=by
    have:=congrArg fB er
    simpa using this.symm
   omega
end
section
variable {X:Cx}
def vG(mt:Wv->Wv->Hs->Re Wv)(go ga:GE):GE:=λρ st=>(go ρ st).bind λo st1=>match o with
 | .tup us=>(ga ρ st1).bind λv st2=>(mt (.tup us) v st2).jd
 | _=> .bad
theorem Bo{ob:Expr}{name:Str}{id:String}{e:Expr}{go ga:GE}{apos cpos:Pos}{mt:Wv->Wv->Hs->Re Wv}(hm:FU X id mt)(slot:Slot "tuple" name id)(hty:typeOf (.builtin id)=pure (.type "method_descriptor"))(hbase:attributeBase ob name X.env (eval ob X.env)=eval ob X.env)(ho:JE X ob go)(ha:JE X e ga)
  (hst:U6 [e] X.env=[(false,eval e X.env)])(hline:(apos.endLine == cpos.line)=true):JE X (.Call (.Attribute ob name apos) [e] [] cpos) (vG mt go ga):=by
 obtain⟨r,h1,h2⟩:=hm
 have hfew:((backTo cpos (U6 [e] X.env)).all (λx=> !x.1)&&(backToKw cpos (keywordEach [] X.env)).all (λx=>x.1.isSome)&&decide ([e].length+([]:List Keyword).length+(if([]:List Keyword).isEmpty then 0 else 1) < 30))=true:=by
  rw[hst];rfl
 refine JE.of (zO PySem.F.plainAttrs_tuple slot hty h1 a7 gX hbase hfew hline hst rfl) λρ st σ H m Q S R p=>?_
 refine ho.go S R (au.bind p) λo st1 v m1 H1 p1 e1 S1 ro=>?_
 cases o with
 | tup us=>
   dsimp only at p1
   have LH:=ro
   unfold ah at LH
   obtain⟨a,xs,rfl,hq,_⟩:=LH
   refine⟨.inr (.inl ⟨rfl,.inr ⟨xs,hq⟩⟩),?_⟩
   refine(qQ ha vd hst).go S1 (R.mono e1) (ok:=λws st2=>au X σ m H (match ws with | [w]=>(mt (.tup us) w st2).jd | _=> .bad) (J_ X.K m H Q)) ?_ λws st2 vs m2 H2 p2 e2 S2 rs=>?_
   ·have p3:=(au.bind p1).imp e1 (λ_ _ q=>q)
    show au X σ m1 H1 ((ga ρ st1).bind λx st1=>(aq ρ st1).bind λxs st2=> .ok (x::xs) st2) _
    cases eg:ga ρ st1 with
    | ok w st2=>rw[eg] at p3;exact p3
    | err c st2=>rw[eg] at p3;exact p3
    | bad=>rw[eg] at p3;exact p3
   ·match ws,rs,p2 with
    | [],rs,p2=>exact aa p2
    | [w],rs,p2=>
     obtain⟨v2,rfl,Oc⟩:=kc rs
     exact h2 (.tup us) w (.ref a) v2 st2 H2 m2 Q S2 (ah.mono e2 _ _ ro) Oc (cA.shift (au.jd p2) (e1.trans e2))
    | _::_::_,rs,p2=>exact aa p2
 | _=>exact aa p1
theorem yO:DQ X "tuple.index" (λx xs H Q=>∃(p:UN)(ys:List V)(y:V)(j:Nat),x= .ref p/\xs=[y]/\fY X.K H p ys/\eG y=true/\ys.all eG=true/\ys.findIdx? (λz=>sP z y)=some j/\Q (.int (j:Nat)) H):=by
 intro pins s σ H x xs v us Q I rx rv h
 obtain⟨p,ys,y,j,rfl,rfl,hq,fy,fs,hj,q⟩:=h
 cases rx
 obtain⟨u,rfl,ru⟩:=vals1 rv
 obtain⟨its,r,pl,hz⟩:=I.tuple hq
 have hlen:=r.length
 obtain⟨⟨cl,dd,dt,sl⟩,ho,hc,n,hd⟩:=pl
 dsimp only at hc hd
 subst hc;subst hd
 rw[IP] at hj
 obtain⟨hj1,hj2,OH⟩:=hj
 have at':∀(k:Nat)(h:k < ys.length)(h':k < its.length),u6 y its[k]=sP ys[k] y:=by
  intro k h h'
  obtain⟨w,hw,rw'⟩:=r.get (cm h)
  rw[cm h'] at hw
  cases hw
  exact nJ rw' (List.all_eq_true.mp fs _ (List.getElem_mem h))
 refine call_meets PySem.F.slot_tuple_index ⟨_,ho,rfl⟩ PySem.F.entry_tuple_index (PySem.F.args_tuple_index_2 _ _) (tV p its.toArray n dd sl u (u6 y) j (by simp;omega) ?_ ?_) ⟨ho,λw hw=>gU ru fy r fs w (by simpa using hw),⟨.int _,H,I.tok _,⟨_,rfl⟩,q⟩⟩
 ·rw[rH,at' j hj1 (by omega)];exact hj2
 ·intro m hm hlt
  rw[rH,at' m (by omega) (by omega)]
  simpa using OH m hlt
def nj(o v:Wv)(st:Hs):Re Wv:=match o with
 | .tup ws=>if b_ v=true/\ws.all b_=true then(match ws.findIdx? (λz=>Aj z v) with | some j=> .ok (.int (j:Nat)) st | none=> .bad) else .bad
 | _=> .bad
theorem yP:FU X "tuple.index" nj:=⟨_,yO,λo w x v st H m Q S ro rw' p=>by
 cases o with
 | tup ws=>
  unfold ah at ro
  obtain⟨a,xs,rfl,q1,q2⟩:=ro
  unfold nj at p
  dsimp only at p
  by_cases c:b_ w=true/\ws.all b_=true
  ·rw[if_pos c] at p
   cases ej:ws.findIdx? (λz=>Aj z w) with
   | none=>rw[ej] at p;exact aa p
   | some j=>
    rw[ej] at p
    exact⟨a,xs,v,j,rfl,rfl,fY.of q1,gY rw' c.1,iI q2 c.2,by rw[oC rw' c.1 q2 c.2];exact ej,p _ m H Ext.refl S mkInt⟩
  ·rw[if_neg c] at p;exact aa p
 | _=>exact aa p⟩
end
section
variable {X:Cx}
end
section
variable {X:Cx}
end
section
variable {X:Cx}
theorem Bp:fA X (UX .Mult) (λx y H Q=>∃z n,x= .str z/\y= .int n/\(n=0\/n=1)/\Q (.str (if n=0 then PySem.Str.empty else z)) H):=by
 intro pins s σ H x y v u Q I rx ry h
 obtain⟨z,n,rfl,rfl,hn,q⟩:=h
 obtain⟨t,rfl⟩:=rx
 obtain⟨t',rfl⟩:=ry
 rcases hn with rfl | rfl
 ·exact PySem.P.mul_str_none (by omega) (by omega) ⟨.str PySem.Str.empty,H,I.tok _,⟨_,rfl⟩,q⟩
 ·refine PySem.P.mul_str (by decide) (λ_ h=>by cases h) (λ_ h=>by cases h) ?_
  rw[if_neg (by omega),if_pos (by rfl)]
  exact⟨.str z,H,I,⟨t,rfl⟩,q⟩
def di:f7:=λx y st=>match x,y with
 | .str z,.int n=>if n=0\/n=1 then .ok (.str (if n=0 then PySem.Str.empty else z)) st else n9 (.str z) (.int n) st
 | x,y=>n9 x y st
theorem Bq:kq X (UX .Mult) di:=by
 obtain⟨r,h1,h2⟩:=Et (X:=X)
 refine⟨_,fA.or Bp h1,λx y a b st H m Q S rx ry p=>?_⟩
 cases x with
 | str z=>
  cases y with
  | int n=>
   have p':cA X.K m H (if n=0\/n=1 then .ok (.str (if n=0 then PySem.Str.empty else z)) st else n9 (.str z) (.int n) st) Q:=p
   by_cases c:n=0\/n=1
   ·rw[if_pos c] at p'
    obtain⟨rfl,ok⟩:=dQ rx
    refine .inl ⟨z,n,rfl,aM ry,c,p' _ m H Ext.refl S (mkStr ?_)⟩
    by_cases c0:n=0
    ·rw[if_pos c0];decide+kernel
    ·rw[if_neg c0];exact ok
   ·rw[if_neg c] at p'
    exact .inr (h2 _ _ _ _ st H m Q S rx ry p')
  | _=>exact .inr (h2 _ _ _ _ st H m Q S rx ry p)
 | _=>exact .inr (h2 _ _ _ _ st H m Q S rx ry p)
end
abbrev LF:=List Wv->List Wv->Hs->Re Wv
section
variable {X:Cx} {pins:List (UN×Obj)} {σ:St} {H:Hp} {s:US}
end
def SG(K:PySem.W.Frag)(n:Nat)(p:Lm)(L:LF):Sp:=λvs H Q E=>∃m st ws caps,bF K m st H/\af K m H ws vs/\af K m H caps p.xs/\H p.c=some (.ext (zX p.c p.q))/\ws.length=n/\FQ K m H (L caps ws st) Q E
def IZ(P:UR)(w:UU)(K:PySem.W.Frag)(mg:Str->Option UT)(base:Heap)(k:Nat)(p:Lm)(n:Nat)(L:LF):Prop :=
 ∃fd ps ob,FnOk P w K mg base (CXJ P w) k p.a fd ps (SG K n p L)/\base.get? p.a=some ob/\ob.data= .func fd/\Binds K fd ps []
open Classical in
section
variable {X:Cx}
end
section
variable {P:UR} {w:UU} {K:PySem.W.Frag} {mg:Str->Option UT} {base:Heap} {p:Lm} {scope:Scope} {x1 x2 x3 y:Str} {cy:UN}
end
structure FX(X:Cx)(q:Str)(P:UN):Prop where
 code:∃c,X.env.code= .ref c/\PySem.W.CodeHd X.base c P
 qual:X.env.qual=q++".<locals>."
 tab:iu X.K q=some P
 mem:q∈dq
 uniq:∀q',q'∈dq->iu X.K q'=some P->q'=q
 bm:∃bm ob,X.mg "__builtins__"=some (.ref bm)/\bm≠builtinsNs/\bm≠U4/\X.base.get? bm=some ob/\ob.cls= .type "module"/\ob.dict=some builtinsNs/\ob.data= .plain
section
variable {X:Cx} {pins:List (UN×Obj)} {σ:St} {H:Hp} {s:US} {q:Str} {P:UN}
end
abbrev QM:=Lm->LF->List Wv->Hs->Re Wv
def OJ(mg:Str->Option UT)(base:Heap):Prop:=∃bm ob,mg "__builtins__"=some (.ref bm)/\bm≠builtinsNs/\bm≠U4/\base.get? bm=some ob/\ob.cls= .type "module"/\ob.dict=some builtinsNs/\ob.data= .plain
def Br(K:PySem.W.Frag)(mg:Str->Option UT)(base:Heap):Prop:=Mod K mg base/\OJ mg base
def QN(P:UR)(w:UU)(K:PySem.W.Frag)(mg:Str->Option UT)(k j:Nat)(x:Str)(FL:QM):Prop :=
 (∃f,mg x=some (.ref f)/\PySem.W.keepIn K (.ref f)=true)/\∀(base:Heap)(p:Lm)(L:LF),Br K mg base->IZ P w K mg base (j+1) p 3 L->jR P w K mg base k x 2 (FL p L)
section
variable {X:Cx}
end
section
variable {P:UR} {w:UU} {A:UO} {E:UT->US->Prop} {s:US}
end
section
variable {P:UR} {w:UU} {A:UO} {E:UT->US->Prop} {s:US}
end
section
variable {P:UR} {w:UU} {A:UO} {E:UT->US->Prop} {s:US}
end
section
variable {X:Cx}
end
def QO(a b c:Int):Prop:=0<=a/\a < 2 ^ 30/\0<=b/\b < 2 ^ 30/\1<=c/\c < 2 ^ 30
instance {a b c}:Decidable (QO a b c):=AH _
def LY(a b c:Int):Nat:=(if a < b then(b - a - 1) / c+1 else 0).toNat
section
variable {X:Cx} {tg:Expr}
def OK(lo c:Int)(n:Nat):List Wv:=(av n).map λk:Nat=>Wv.int (lo+k * c)
end
section
variable {X:Cx}
end
section
variable {X:Cx}
end
theorem EL(l:UN)(items:Array UT)(n:Nat)(b:UN)(items2:Array UT)(n2:Nat)(dd:Option UN)(sl:Array (Option UT))(hs0:¬(!items.isEmpty&&nN (items.size+items2.size))=true)(hs1:items.size<=U5)(hs2:items.size+items2.size<=U5+1) :
  Meets (Builtin.«list.extend» ⟨[.ref l,.ref b],[]⟩) (λ_ R s=>s.heap.get? l=some { cls:=.type "list",dict:=none,data:=.seq items n,slots:=#[] }/\s.heap.get? b=some ⟨.type "tuple",dd,.seq items2 n2,sl⟩/\R (.ok (.ret dk)) { s with heap:=s.heap.update l (bM λx=>x++items2),toks:=s.toks }) :=
 .of_wp λprog w A R s h=>by
  obtain⟨hp,g,d,tk,os⟩:=s;obtain⟨hl,hb,h⟩:=h;have f1:=AutoSeq1.idx_int;have f2:=IY;have f3:=AutoSeq1.sub_list_list;have f4:=AutoSeq1.sub_tuple_list;have f5:=AutoSeq1.sub_list_tuple;
  have hz':(items++items2).size<=U5+1:=by rw[Array.size_append];exact hs2
  wp_walk using (wpAny_updateSeq hl rfl (hz:=hs1) (_hz':=hz')),wpAny_loadPart' hl,wpAny_loadPart' hb;exact⟨_,rfl,h⟩
def tW(K:PySem.W.Frag):V->List V->Hp->VK->Prop:=λx vs H Q=>∃l b xs zs,x= .ref l/\vs=[.ref b]/\H l=some (.lst xs)/\fY K H b zs/\xs.length+zs.length<=U5/\Q .bS (upd H l (.lst (xs++zs)))
section
variable {X:Cx}
theorem vH:NY X "list.extend" (tW X.K):=by
 intro pins s σ H x vs v us Q I rx rv h
 obtain⟨l,b,xs,zs,rfl,rfl,hH,hB,hz,q⟩:=h
 cases rx
 obtain⟨u,rfl,ru⟩:=rv.one
 cases ru
 obtain⟨z,its,n,r,hl,e⟩:=I.zQ hH
 obtain⟨its2,r2,⟨o,e2,oc,n2,od⟩,z2⟩:=I.tuple hB
 obtain⟨Ux,dd,od',sl⟩:=o
 dsimp only at oc od
 subst oc od
 have l1:xs.length=its.length:=r.length
 have l2:zs.length=its2.length:=r2.length
 have hsz:its.toArray.size+its2.toArray.size<=U5:=by rw[aH,aH];omega
 have sQ:¬(!its.toArray.isEmpty&&nN (its.toArray.size+its2.toArray.size))=true:=by
  rw[nM hsz,zR]
  exact bG
 refine call_meets F.slot_list_extend ⟨_,e,rfl⟩ F.entry_list_extend (F.args_list_extend_2 _ _)
  (EL l its.toArray n b its2.toArray n2 dd sl sQ (by rw[aH];omega) (by omega)) ⟨e,e2,?_⟩
 refine⟨.bS,_,I.G6 (its':=its++its2) hH e (by simp) (r.append r2) ?_,rfl,q⟩
 rw[aP]
 omega
def tX(o v:Wv)(st:Hs):Re Wv:=match v with
 | .tup zs=>(match o with
  | .ref l=>(match st[l]? with
   | some (.lst ws)=>if ws.length+zs.length<=lim then .ok .bS (st.set l (.lst (ws++zs))) else .bad
   | _=> .bad)
  | _=> .bad)
 | v=>HW o v st
theorem EM:FU X "list.extend" tX:=by
 obtain⟨r0,m0,h0⟩:=HX (X:=X)
 refine⟨λx vs H Q=>r0 x vs H Q\/tW X.K x vs H Q,?_,λo w x v st H m Q S ro rw' p=>?_⟩
 ·intro pins s σ H x vs v us Q I rx rv h
  rcases h with h | h
  ·exact m0 pins s σ H x vs v us Q I rx rv h
  ·exact vH pins s σ H x vs v us Q I rx rv h
 ·cases w with
  | tup zs=>
   refine .inr ?_
   cases o with
   | ref l=>
    unfold ah at ro rw'
    obtain⟨a,rfl,ha⟩:=ro
    obtain⟨b,ys,rfl,hb,g2⟩:=rw'
    have p':cA X.K m H (match st[l]? with | some (.lst ws)=>if ws.length+zs.length<=lim then .ok .bS (st.set l (.lst (ws++zs))) else .bad | _=> .bad) Q:=p
    cases e:st[l]? with
    | none=>rw[e] at p';exact aa p'
    | some ob=>
     cases ob with
     | dct kvs=>rw[e] at p';exact aa p'
     | zl kvs=>rw[e] at p';exact aa p'
     | yi kvs=>rw[e] at p';exact aa p'
     | zm kvs=>rw[e] at p';exact aa p'
     | zV kvs=>rw[e] at p';exact aa p'
     | ic ns=>rw[e] at p';exact aa p'
     | lst ws=>
      rw[e] at p'
      dsimp only at p'
      by_cases c:ws.length+zs.length<=lim
      ·rw[if_pos c] at p'
       obtain⟨xs,h1,h2⟩:=S.nQ ha e
       have e4:Ext X.K m H m (upd H a (.lst (xs++ys))):=Ext.upd (.inr ⟨xs,h1⟩)
       exact⟨a,b,xs,ys,rfl,rfl,h1,fY.of hb,by rw[<-h2.length,<-g2.length];exact dF c,p' _ m _ e4 (S.write ha e (h2.append g2)) wL⟩
      ·rw[if_neg c] at p';exact aa p'
   | _=>exact aa p
  | _=>exact .inl (h0 o _ x v st H m Q S ro rw' p)
end
def mU(neg:Bool):f7:=λx y st=>match aT st 20 y,aT st 20 x with
 | some (.list ds),some d=> .ok (.bl ((ds.any λz=>aZ z d) != neg)) st
 | some (.tuple ds),some d=> .ok (.bl ((ds.any λz=>aZ z d) != neg)) st
 | _,_=> .bad
section
variable {X:Cx}
def I0(K:PySem.W.Frag)(neg:Bool):R2:=λa b H Q=>∃m st x y d ds c,bF K m st H/\ah K m H x a/\ah K m H y b/\aT st 20 y=some c/\(c= .list ds\/c= .tuple ds)/\aT st 20 x=some d/\Q (.bl ((ds.any λz=>aZ z d) != neg)) H
theorem w6{ds:List PyData}{c:PyData}(h:c= .list ds\/c= .tuple ds)(k:c.canLay0=true):mX ds=true:=by
 rcases h with rfl | rfl<;>exact k
theorem I_(hu:X.A.units+64 < cLine):fA X (U1 .In) (I0 X.K false):=by
 intro pins s σ H a b v u Q I rx ry h
 obtain⟨m,st,x,y,d,ds,c,S,h1,h2,e1,hc,e2,q⟩:=h
 obtain⟨as,q1,q2,q3⟩:=fb I S 20 x a v d h1 rx e2
 obtain⟨bs,p1,p2,p3⟩:=fb I S 20 y b u c h2 ry e1
 have hd:X.A.units+1+min (ig ds) d.depth < cLine:=by
  have:=wu (ig ds) d.depth
  omega
 have e:∀t:Bool,(t != false)=t:=by decide
 rw[e] at q
 have ca:=w6 hc p2
 rcases hc with rfl | rfl
 ·exact SeqAt.in_list_reads p1 q1 ca q2 hd ⟨.bl _,H,I,rfl,q⟩
 ·exact SeqAt.in_tuple_reads p1 q1 ca q2 hd ⟨.bl _,H,I,rfl,q⟩
theorem yQ(hu:X.A.units+64 < cLine):fA X (U1 .NotIn) (I0 X.K true):=by
 intro pins s σ H a b v u Q I rx ry h
 obtain⟨m,st,x,y,d,ds,c,S,h1,h2,e1,hc,e2,q⟩:=h
 obtain⟨as,q1,q2,q3⟩:=fb I S 20 x a v d h1 rx e2
 obtain⟨bs,p1,p2,p3⟩:=fb I S 20 y b u c h2 ry e1
 have hd:X.A.units+1+min (ig ds) d.depth < cLine:=by
  have:=wu (ig ds) d.depth
  omega
 have e:∀t:Bool,(t != true)= !t:=by decide
 rw[e] at q
 have ca:=w6 hc p2
 rcases hc with rfl | rfl
 ·exact SeqAt.notIn_list_reads p1 q1 ca q2 hd ⟨.bl _,H,I,rfl,q⟩
 ·exact SeqAt.notIn_tuple_reads p1 q1 ca q2 hd ⟨.bl _,H,I,rfl,q⟩
theorem Bs{neg:Bool}{x y:Wv}{a b:V}{st:Hs}{H:Hp}{m:Mp}{Q:VK}(S:bF X.K m st H)(rx:ah X.K m H x a)(ry:ah X.K m H y b)(p:cA X.K m H (mU neg x y st) Q):I0 X.K neg a b H Q:=by
 unfold mU at p
 split at p
 ·rename_i ds d e1 e2
  exact⟨m,st,x,y,d,ds,_,S,rx,ry,e1,.inl rfl,e2,p _ m H Ext.refl S j_⟩
 ·rename_i ds d e1 e2
  exact⟨m,st,x,y,d,ds,_,S,rx,ry,e1,.inr rfl,e2,p _ m H Ext.refl S j_⟩
 ·exact aa p
theorem Bt(hu:X.A.units+64 < cLine):kq X (U1 .In) (mU false):=⟨_,I_ hu,λx y a b st H m Q S rx ry p=>Bs S rx ry p⟩
theorem qj(hu:X.A.units+64 < cLine):kq X (U1 .NotIn) (mU true):=⟨_,yQ hu,λx y a b st H m Q S rx ry p=>Bs S rx ry p⟩
end
section
variable {prog:UR} {w:UU} {A:UO} {E:UT->US->Prop} {s:US}
end
section
variable {X:Cx} {tg:Expr}
end
section
variable {X:Cx} {a b c d:Expr} {pos:Pos}
end
section
variable {X:Cx} {pins:List (UN×Obj)} {σ:St} {E:UT->US->Prop} {p:UN}
end
section
variable {X:Cx} {pos:Pos}
end
def getD(d k:Wv)(st:Hs):Option Wv:=match d with
 | .ref l=>(match st[l]? with
  | some (.dct kvs)=>(match keyOf k with | some kk=>EF kvs kk | none=>none)
  | some (.zl kvs)=>(match oG k with | some kk=>EF kvs kk | none=>none)
  | some (.yi kvs)=>(match oG k with | some kk=>EF kvs kk | none=>none)
  | _=>none)
 | _=>none
section
variable {X:Cx}
end
section
variable {X:Cx} {pins:List (UN×Obj)} {σ:St} {H:Hp} {s:US} {a:UN} {xs:List (List L2.Key×V)}
end
section
variable {K:PySem.W.Frag} {m:Mp} {st:Hs} {H:Hp}
end
section
variable {X:Cx}
end
section
variable {X:Cx} {tg:Expr}
end
section
variable {prog:UR} {w:UU} {A:UO} {E:UT->US->Prop} {s:US} {d:UN} {es:Array DictEntry} {ep:Nat}
end
section
variable {prog:UR} {w:UU} {K:Type} [DecidableEq K] {knd:HeapKind prog w K} {A:UO} {E:UT->US->Prop} {s:US} {d a:UN} {xs:List (K×UN×UT)} {k:K}
end
section
variable {prog:UR} {w:UU} {A:UO} {E:UT->US->Prop} {s:US}
end
section
variable {prog:UR} {w:UU} {A:UO} {E:UT->US->Prop} {s:US} {d it:UN} {i:Nat} {es:Array DictEntry} {ep:Nat} {ok ov:UT}
end
section
variable {X:Cx}
def w8(ns:List Int):Int:=reduceHash (uM (ns.map hashInt))
def mK:List (List L2.Key)->Option (List (List Int))
 | []=>some []
 | k::r=>(match vF k,mK r with | some ns,some l=>some (ns::l) | _,_=>none)
theorem tY:∀{ks:List L2.Key}{ns:List Int},vF ks=some ns->ks=ns.map L2.Key.inl
 | [],ns,e=>by cases e;rfl
 | .inl i::r,ns,e=>by
  unfold vF at e
  cases q:vF r with
  | none=>rw[q] at e;cases e
  | some l=>rw[q] at e;cases e;rw[aI,<-tY q]
theorem Bu{P:UR}{w:UU}{ks:List L2.Key}{ns:List Int}(h:vF ks=some ns):(tupleKind (aW P w)).hash ks=w8 ns:=by
 rw[tY h]
 show reduceHash (uM ((ns.map L2.Key.inl).map (aW P w).hash))=_
 rw[cz]
 rfl
theorem oI{P:UR}{w:UU}:∀{QP:List (List L2.Key)}{nss:List (List Int)},mK QP=some nss->QP.map (tupleKind (aW P w)).hash=nss.map w8
 | [],nss,e=>by cases e;rfl
 | k::r,nss,e=>by
  unfold mK at e
  cases q1:vF k with
  | none=>rw[q1] at e;cases e
  | some ns=>
   cases q2:mK r with
   | none=>rw[q1,q2] at e;cases e
   | some l=>rw[q1,q2] at e;cases e;rw[aI,aI,Bu q1,oI q2]
def kF(ks:List (List L2.Key)):Bool:=match mK ks with
 | some nss=>decide ((nss.map w8).Nodup)
 | none=>false
end
section
variable {X:Cx} {o e f:Expr} {apos cpos:Pos} {td ty tx:TE}
end
section
variable {X:Cx} {es':List Expr} {kt:Nat} {pt:Pos}
end
section
variable {X:Cx}
end
section
variable {prog:UR} {w:UU} {K:Type} [DecidableEq K] {knd:HeapKind prog w K} {A:UO} {E:UT->US->Prop} {s:US} {a b:UN} {xs ys:List (K×UN×UT)}
end
section
variable {prog:UR} {w:UU} {K:Type} [DecidableEq K] {knd:HeapKind prog w K} {A:UO} {E:UT->US->Prop} {s:US} {a b:UN} {xs ys:List (K×UN×UT)}
end
section
variable {X:Cx}
end
section
variable {X:Cx}
end
section
variable {prog:UR} {w:UU} {K:Type} [DecidableEq K] {knd:HeapKind prog w K} {A:UO} {E:UT->US->Prop} {s:US} {d:UN} {xs:List (K×UN×UT)}
end
section
variable {X:Cx}
end
section
variable {X:Cx}
end
section
variable {X:Cx}
open Classical in
end
section
variable {X:Cx}
end
section
variable {prog:UR} {w:UU} {K:Type} [DecidableEq K] {knd:HeapKind prog w K} {A:UO} {E:UT->US->Prop} {s:US} {d a:UN} {k:K} {xs:List (K×UN×UT)}
end
section
variable {X:Cx} {o e:Expr} {apos cpos:Pos} {td ty:TE}
end
section
variable {X:Cx} {o e f:Expr} {apos cpos:Pos} {to te tf:TE}
end
section
variable {X:Cx}
end
section
variable {prog:UR} {w:UU} {A:UO} {E:UT->US->Prop} {s:US}
end
section
variable {X:Cx}
end
section
variable {X:Cx}
def FY(ws:List Wv)(st:Hs):Re Wk:=match ws with
 | [.int a,.int b,.int c]=>if QO a b c then .ok (none,OK a c (LY a b c)) st else .bad
 | _=> .bad
def OL(g:GA):GI:=λρ st=>(g ρ st).bind FY
end
def w9:List Str->Nat
 | []=>0
 | x::r=>if x∈r then w9 r else w9 r+1
theorem Bv:∀l:List Str,w9 l<=l.length
 | []=>ai _
 | x::r=>by
  have:=Bv r
  unfold w9
  split<;>simp<;>omega
section
variable {prog:UR} {w:UU} {A:UO} {R:Result->US->Prop} {I:UN} {fp wr:List UN} {n:Nat} {P:Nat->UT->Prop} {St:Nat->Heap->Prop}
abbrev EN(prog:UR)(w:UU)(h:Heap)(S:UN)(l:List Str):Prop:=h.SetOf (PySem.strKind prog w) S (λq=>decide (q∈l)) (w9 l)
theorem EN.keep{h h':Heap}{S:UN}{l:List Str}(z:EN prog w h S l)(k:∀o,h.get? S=some o->h'.get? S=some o):EN prog w h' S l:=by
 obtain⟨o,es,ep,t,ho,rest⟩:=z
 exact⟨o,es,ep,t,k o ho,rest⟩
end
section
variable {prog:UR} {w:UU} {A:UO} {E:UT->US->Prop} {s:US}
abbrev jw(led:Bool):Obj:={ cls:=.type "set",dict:=none,data:=.set #[] 0 (.fresh 0 0 led) }
end
section
variable {X:Cx}
theorem yR:UY "set"=some (.type "set"):=by decide+kernel
theorem EO{zs:List Str}{its:List UT}(r:Vals (zs.map V.str) its)(i:Nat)(v:UT)(h:its.toArray[i]? =some v):∃x t,zs[i]? =some x/\v=mW x t:=by
 induction zs generalizing its i with
 | nil=>cases r;simp at h
 | cons z zs ih=>
  cases r with
  | cons a b=>
   cases i with
   | zero=>
    obtain⟨t,rfl⟩:=a
    simp at h
    exact⟨z,t,rfl,h.symm⟩
   | succ i=>
    have:=ih b i (by simpa using h)
    simpa using this
def jx:List Wv->Option (List Str)
 | []=>some []
 | .str x::r=>(match jx r with | some l=>some (x::l) | none=>none)
 | _=>none
theorem qk{K:PySem.W.Frag}{m:Mp}{H:Hp}:∀{ws:List Wv}{xs:List V}{zs:List Str},af K m H ws xs->jx ws=some zs->xs=zs.map V.str
 | [],xs,zs,r,h=>by
  unfold af at r
  cases h
  exact r
 | w::ws,xs,zs,r,h=>by
  unfold af at r
  obtain⟨x,t,rfl,r1,r2⟩:=r
  cases w with
  | str b=>
   unfold jx at h
   cases e:jx ws with
   | none=>rw[e] at h;cases h
   | some l=>
    rw[e] at h
    cases h
    unfold ah at r1
    rw[r1.1,qk r2 e]
    rfl
  | _=>cases h
end
section
variable {lt:Nat->Nat->Bool} {N:Nat}
def SH(lt:Nat->Nat->Bool)(a b:Nat):Prop:=lt b a=false/\(lt a b=false->a < b)
structure ng(lt:Nat->Nat->Bool)(p:Array Nat)(a n:Nat):Prop where
 d:∀i j,i < j->j < a->SH lt (at_ p j) (at_ p i)
 s:∀i j,i < a->a<=j->j < n->lt (at_ p j) (at_ p i)=true
 l:∀i j,a<=i->i < j->j < n->lt (at_ p i) (at_ p j)=false/\lt (at_ p j) (at_ p i)=false/\at_ p i < at_ p j
end
section
variable {P:UR} {w:UU} {K:PySem.W.Frag} {mg:Str->Option UT} {base:Heap} {p:Lm} {scope:Scope} {x y:Str} {cy:UN}
end
abbrev Kw:=Int×(Int ⊕ Str)
section
variable {prog:UR} {w:UU} {A:UO} {E:UT->US->Prop} {s:US}
end
section
variable {X:Cx} {pins:List (UN×Obj)} {σ:L2.St} {H:Hp} {s:US} {m:Mp}
end
def kd:Kw:=(0,.inl 0)
section
variable {X:Cx} {pins:List (UN×Obj)} {σ:L2.St} {base:Heap} {m0 m m':Mp} {H0 H H':Hp} {st:Hs} {D kS:UN} {e1:Nat} {s s':US}
end
section
variable {X:Cx} {pins:List (UN×Obj)} {σ:L2.St} {base:Heap} {m0 m m':Mp} {H0 H H':Hp} {st:Hs} {D kS:UN} {e1:Nat} {s s':US}
end
section
variable {X:Cx} {pins:List (UN×Obj)} {σ:L2.St} {base:Heap} {m:Mp} {H:Hp} {st:Hs} {s:US}
end
open Classical in
section
variable {X:Cx}
end
section
variable {X:Cx}
end
section
variable {X:Cx}
end
section
variable {prog:UR} {w:UU} {A:UO} {E:UT->US->Prop} {s:US}
end
section
variable {X:Cx}
end
section
variable {X:Cx}
end
section
open PySem.SeqAt PySem.MeetsSeq PySem.MeetsSeq2 PySem.MeetsSeq3
end
variable {X:Cx}
def oLt:f7:=λx y st=>LW x y st
theorem Ja(hu:X.A.units+64 < cLine):kq X (U1 .Lt) oLt:=IW hu
section
variable {X:Cx}
theorem ER:fA X (U1 .IsNot) (λx y H Q=>∃a b,x= .bl a/\y= .bl b/\Q (.bl (a != b)) H):=by
 intro pins s σ H x y v u Q I rx ry h
 obtain⟨a,b,rfl,rfl,q⟩:=h
 cases rx
 cases ry
 exact isnot_bool ⟨.bl (a != b),H,I,rfl,q⟩
def FZ:f7:=λx y st=>match x,y with
 | .bl a,.bl b=> .ok (.bl (a != b)) st
 | x,y=>Ag x y st
theorem ES:kq X (U1 .IsNot) FZ:=by
 obtain⟨r,h1,h2⟩:=Ah (X:=X)
 refine⟨_,fA.or h1 ER,λx y a b st H m Q S rx ry p=>?_⟩
 cases x with
 | bl c=>
  cases y with
  | bl d=>
   have e1:a= .bl c:=by unfold ah at rx;exact rx
   have e2:b= .bl d:=by unfold ah at ry;exact ry
   exact .inr ⟨c,d,e1,e2,p _ m H Ext.refl S j_⟩
  | _=>exact .inl (h2 _ _ _ _ st H m Q S rx ry p)
 | _=>exact .inl (h2 _ _ _ _ st H m Q S rx ry p)
end
section
variable {X:Cx} {o e f:Expr} {apos cpos:Pos} {td ty tx:TE}
end
section
variable {X:Cx} {pins:List (UN×Obj)} {σ:L2.St} {m:Mp} {H:Hp} {st:Hs} {s:US}
end
section
variable {X:Cx}
end
section
variable {X:Cx} {es':List Expr} {kt:Nat} {pt:Pos}
end
section
variable {prog:UR} {w:UU} {A:UO}
end
section
variable {X:Cx}
end
section
variable {X:Cx}
end
section
variable {X:Cx}
end
section
variable {prog:UR} {w:UU} {A:UO} {E:UT->US->Prop} {s:US} {d it:UN} {es:Array DictEntry} {ep i:Nat}
end
section
variable {X:Cx} {o e f:Expr} {pos apos cpos:Pos} {td ty tx:TE}
end
section
variable {X:Cx}
end
section
variable {X:Cx} {o e f:Expr} {apos cpos:Pos}
end
section
variable {X:Cx}
end
end J
namespace TB
open PySem PySem.SetTable
def stp(M i:Nat):Nat:=(i * 5+1) % M
def ET(M:Nat):Nat->Nat->Nat
 | 0,i=>i
 | n+1,i=>ET M n (stp M i)
def Jb(M:Nat):Nat->Nat->List Nat
 | 0,_=>[]
 | n+1,i=>i::Jb M n (stp M i)
def Jc(M:Nat):Bool:=((av M).all λb=>(Jb M M 0).contains b)&&ET M M 0 == 0
theorem nq(M:Nat):∀(m n i:Nat),ET M (m+n) i=ET M n (ET M m i)
 | 0,n,i=>by rw[bw];rfl
 | m+1,n,i=>by
  rw[show m+1+n=(m+n)+1 from by omega]
  exact nq M m n (stp M i)
theorem rM{M b:Nat}:∀{n i:Nat},b∈Jb M n i->∃k,k < n/\ET M k i=b
 | 0,i,h=>by cases h
 | n+1,i,h=>by
  rcases List.mem_cons.mp h with e | e
  ·exact⟨0,by omega,e.symm⟩
  ·obtain⟨k,h1,h2⟩:=rM e
   exact⟨k+1,by omega,h2⟩
theorem SI{M:Nat}(hc:Jc M=true){a b:Nat}(ha:a < M)(hb:b < M):∃m,m < M/\ET M m a=b:=by
 unfold Jc at hc
 rw[bf,vI] at hc
 obtain⟨h1,h2⟩:=hc
 have h2:ET M M 0=0:=by simpa using h2
 obtain⟨u,u1,u2⟩:=rM (M:=M) (n:=M) (i:=0) (by simpa using h1 a (List.mem_range.mpr ha))
 obtain⟨v,v1,v2⟩:=rM (M:=M) (n:=M) (i:=0) (by simpa using h1 b (List.mem_range.mpr hb))
 by_cases c:u<=v
 ·refine⟨v - u,by omega,?_⟩
  rw[<-u2,<-nq,show u+(v - u)=v from by omega,v2]
 ·refine⟨M - u+v,by omega,?_⟩
  rw[<-u2,<-nq,show u+(M - u+v)=M+v from by omega,nq,h2,v2]
def Lp(mask:Nat):Nat->Nat->Nat->Nat×Nat
 | 0,i,p=>(i,p)
 | n+1,i,p=>Lp mask n (leap mask i p).1 (leap mask i p).2
theorem w_(mask:Nat):∀(n i:Nat),Lp mask n i 0=(ET (mask+1) n i,0)
 | 0,i=>rfl
 | n+1,i=>by
  show Lp mask n ((i * 5+1+0 / 32) % (mask+1)) (0 / 32)=_
  rw[Nat.zero_div,lD]
  exact w_ mask n _
theorem Bw(mask:Nat):∀(m n i p:Nat),Lp mask (m+n) i p=Lp mask n (Lp mask m i p).1 (Lp mask m i p).2
 | 0,n,i,p=>by rw[bw];rfl
 | m+1,n,i,p=>by
  rw[show m+1+n=(m+n)+1 from by omega]
  exact Bw mask m n _ _
theorem Bx(mask:Nat):∀(n i p:Nat),(Lp mask n i p).2=p / 32 ^ n
 | 0,i,p=>by rw[Nat.pow_zero,Nat.div_one];rfl
 | n+1,i,p=>by
  show(Lp mask n _ (p / 32)).2=_
  rw[Bx mask n,Nat.div_div_eq_div_mul,Nat.pow_succ,Nat.mul_comm]
theorem F0(mask:Nat):∀(n i p:Nat),i < mask+1->(Lp mask n i p).1 < mask+1
 | 0,i,p,h=>h
 | n+1,i,p,h=>F0 mask n _ _ (Nat.mod_lt _ (by omega))
theorem xa{mask:Nat}(hc:Jc (mask+1)=true){i p b:Nat}(hi:i < mask+1)(hp:p < 2 ^ 64)(hb:b < mask+1):∃n,n<=mask+13/\(Lp mask n i p).1=b:=by
 have e:(Lp mask 13 i p).2=0:=by
  rw[Bx]
  exact Nat.div_eq_of_lt (du hp (by decide))
 obtain⟨m,m1,m2⟩:=SI hc (F0 mask 13 i p hi) hb
 refine⟨13+m,by omega,?_⟩
 rw[Bw,e,w_]
 exact m2
section
variable {t:SetTable} {hashAt:Nat->Int} {h:Int}
theorem LZ(fuel:Nat)(p:Probe):probe.go t hashAt h (fuel+1) p=(match t.slot p.j with
   | .empty=>some (.empty p.j p.dummy)
   | .dummy=>probe.go t hashAt h fuel (t.advance { p with dummy:=some p.j })
   | .live i=>if hashAt i == h then some (.candidate p.j i (t.advance p)) else probe.go t hashAt h fuel (t.advance p)):=rfl
def OM(t:SetTable)(i p:Nat):Probe:=⟨i,runEnd t.mask i - i,i,p,none⟩
theorem By(hl:∀j i,t.slot j= .live i->(hashAt i == h)=false)(hd:∀j,t.slot j≠.dummy)(i p:Nat):∀(more j fuel:Nat),(∃j',probe.go t hashAt h (fuel+more+1) ⟨j,more,i,p,none⟩=some (.empty j' none))\/probe.go t hashAt h (fuel+more+1) ⟨j,more,i,p,none⟩=probe.go t hashAt h fuel (OM t (leap t.mask i p).1 (leap t.mask i p).2)
 | 0,j,fuel=>by
  rw[lD]
  rw[LZ]
  dsimp only
  cases e:t.slot j with
  | empty=>exact .inl ⟨j,rfl⟩
  | dummy=>exact absurd e (hd j)
  | live k=>
   dsimp only
   rw[hl j k e,if_neg bG]
   exact .inr rfl
 | more+1,j,fuel=>by
  rw[show fuel+(more+1)+1=(fuel+more+1)+1 from by omega]
  rw[LZ]
  dsimp only
  cases e:t.slot j with
  | empty=>exact .inl ⟨j,rfl⟩
  | dummy=>exact absurd e (hd j)
  | live k=>
   dsimp only
   rw[hl j k e,if_neg bG]
   exact By hl hd i p more (j+1) fuel
theorem Jd(mask i:Nat):runEnd mask i - i<=9:=by
 unfold runEnd
 split<;>omega
theorem Bz(hl:∀j i,t.slot j= .live i->(hashAt i == h)=false)(hd:∀j,t.slot j≠.dummy):∀(n fuel i p:Nat),10 * (n+1)<=fuel->t.slot (Lp t.mask n i p).1= .empty->∃j',probe.go t hashAt h fuel (OM t i p)=some (.empty j' none)
 | 0,fuel,i,p,hf,hs=>by
  obtain⟨f,rfl⟩:∃f,fuel=f+1:=⟨fuel - 1,by omega⟩
  refine⟨i,?_⟩
  have hs:t.slot i= .empty:=hs
  unfold probe.go OM
  dsimp only
  rw[hs]
 | n+1,fuel,i,p,hf,hs=>by
  have r:=Jd t.mask i
  obtain⟨f,hf',hf2⟩:∃f,fuel=f+(runEnd t.mask i - i)+1/\10 * (n+1)<=f:=⟨fuel - (runEnd t.mask i - i) - 1,by omega,by omega⟩
  rw[hf']
  rcases By hl hd i p (runEnd t.mask i - i) i f with q | q
  ·exact q
  ·show ∃j',probe.go t hashAt h _ ⟨i,runEnd t.mask i - i,i,p,none⟩=_
   rw[q]
   exact Bz hl hd n f _ _ hf2 hs
end
theorem xb(h:Int):bits h < 2 ^ 64:=by
 unfold bits
 have h1:=Int.emod_nonneg h (show(2 ^ 64:Int)≠0 from by decide)
 have h2:=Int.emod_lt_of_pos h (show(0:Int) < 2 ^ 64 from by decide)
 omega
theorem BA:∀(n:Nat)(l:List Nat),(∀j,j < n->j∈l)->n<=l.length
 | 0,l,_=>aA _
 | n+1,l,h=>by
  have hm:=h n (by omega)
  have:=BA n (l.erase n) λj hj=>(List.mem_erase_of_ne (by omega)).mpr (h j (by omega))
  rw[List.length_erase_of_mem hm] at this
  have:=List.length_pos_of_mem hm
  omega
theorem gap{l:List Nat}{n:Nat}(h:l.length < n):∃j,j < n/\j∉l:=by
 apply BB
 intro c
 have:=BA n l λj hj=>BB λk=>c ⟨j,hj,k⟩
 omega
theorem rN{t:SetTable}(hd:t.dummies=#[])(j:Nat):t.slot j≠.dummy/\(j∉t.place.toList->t.slot j= .empty)/\∀i,t.slot j= .live i->i < t.place.size:=by
 have e:has t.dummies j=false:=by
  rw[hd]
  unfold has
  simp
 unfold slot
 dsimp only
 rw[e]
 by_cases c:(t.place[below t.place j]? == some j)=true
 ·rw[if_pos c]
  have c':t.place[below t.place j]? =some j:=by simpa using c
  refine⟨nofun,λz=>absurd ?_ z,λi q=>?_⟩
  ·exact Array.mem_toList_iff.mpr (L3 c')
  ·cases q
   exact(Array.getElem?_eq_some_iff.mp c').1
 ·rw[if_neg c]
  refine⟨by simp,λ_=>by simp,λi q=>by simp at q⟩
theorem vJ{t:SetTable}{es:Array (Int×UT)}{h:Int}(hc:Jc (t.mask+1)=true)(hd:t.dummies=#[])(hs:t.place.size=es.size)(hm:es.size<=t.mask)(hn:∀(i:Nat)(v:Int×UT),es[i]? =some v->v.1≠h) :
  ∃j,t.probe (λi=>(es[i]?.map (·.1)).getD 0) h (t.probeStart h)=some (.empty j none):=by
 obtain⟨j0,j1,j2⟩:=gap (l:=t.place.toList) (n:=t.mask+1) (by simp;omega)
 obtain⟨n,n1,n2⟩:=xa hc (i:=bits h % (t.mask+1)) (p:=bits h) (Nat.mod_lt _ (by omega)) (xb h) j1
 refine Bz (t:=t) (λj i e=>?_) (λj=>(rN hd j).1) n _ _ _ ?_ ?_
 ·have hi:=(rN hd j).2.2 i e
  rw[hs] at hi
  rw[jm hi]
  have:=hn i _ (jm hi)
  simpa using this
 ·show 10 * (n+1)<=10 * (t.mask+15)
  omega
 ·rw[n2]
  exact(rN hd j0).2.1 j2
theorem tZ{k:Nat}:∀{l:List (Option Nat)}{j:Nat},l[j]? =some none->((l.set j (some k)).filterMap id).Perm (k::l.filterMap id)
 | [],j,h=>by cases h
 | x::r,0,h=>by
  simp at h
  subst h
  simp
 | x::r,j+1,h=>by
  have ih:=tZ (k:=k) (l:=r) (j:=j) (by simpa using h)
  rw[List.set_cons_succ]
  cases x with
  | none=>simpa using ih
  | some y=>
   simp
   exact(ih.cons y).trans (.swap _ _ _)
theorem t_:∀{l:List (Option Nat)},none∉l->(l.filterMap id).length=l.length
 | [],_=>rfl
 | none::r,h=>absurd aX h
 | some y::r,h=>by
  have:=t_ (l:=r) λz=>h (aN _ z)
  show((y::r.filterMap id:List Nat)).length=_
  rw[cM,cM,this]
theorem ua{mask:Nat}{owner:Array (Option Nat)}:∀(n fuel i p:Nat),n < fuel->(owner.getD (Lp mask n i p).1 (some 0)).isNone=true->∃j,layClean.free mask owner fuel i p=some j/\(owner.getD j (some 0)).isNone=true
 | n,0,i,p,h,_=>by omega
 | n,fuel+1,i,p,h,hs=>by
  unfold layClean.free
  cases e:(av (runEnd mask i+1 - i)).find? λk=>(owner.getD (i+k) (some 0)).isNone with
  | some k=>exact⟨i+k,rfl,by simpa using List.find?_some e⟩
  | none=>
   dsimp only
   cases n with
   | zero=>
    have:=List.find?_eq_none.mp e 0 (List.mem_range.mpr (by unfold runEnd;split<;>omega))
    exact absurd hs this
   | succ n=>exact ua n fuel _ _ (by omega) hs
theorem xc{mask:Nat}(hc:Jc (mask+1)=true):∀(hs:List Int)(owner:Array (Option Nat))(k:Nat),owner.size=mask+1->(owner.toList.filterMap id).Perm (av k)->k+hs.length<=mask->
  ∃owner',hs.foldl (init:=some (owner,k)) (λacc h=>do
   let (owner,k) <-acc
   let j <-layClean.free mask owner (turns mask) (bits h % (mask+1)) (bits h)
   pure (owner.setIfInBounds j (some k),k+1))=some (owner',k+hs.length)/\owner'.size=mask+1/\(owner'.toList.filterMap id).Perm (av (k+hs.length))
 | [],owner,k,h1,h2,_=>⟨owner,rfl,h1,h2⟩
 | h::hs,owner,k,h1,h2,h3=>by
  have hn:none∈owner.toList:=BB λc=>by
   have e:=t_ c
   have:=h2.length_eq
   simp at e this
   simp at h3
   omega
  obtain⟨j0,g0,g1⟩:=xf hn
  have SJ:j0 < mask+1:=by simpa [h1] using g0
  obtain⟨n,n1,n2⟩:=xa hc (i:=bits h % (mask+1)) (p:=bits h) (Nat.mod_lt _ (by omega)) (xb h) SJ
  obtain⟨j,e1,e2⟩:=ua (mask:=mask) (owner:=owner) n (turns mask) (bits h % (mask+1)) (bits h) (by unfold turns;omega) (by
   rw[n2,F1,jm (by omega)]
   have:owner[j0]'(by omega)=none:=by simpa using g1
   rw[this]
   rfl)
  have ej:owner.toList[j]? =some none:=by
   rw[F1] at e2
   rw[fc]
   cases q:owner[j]? with
   | none=>rw[q] at e2;cases e2
   | some x=>
    rw[q] at e2
    cases x with
    | none=>rfl
    | some y=>cases e2
  have hp:((owner.setIfInBounds j (some k)).toList.filterMap id).Perm (av (k+1)):=by
   rw[rn]
   refine(tZ ej).trans ?_
   rw[xg]
   exact(h2.cons k).trans (gA (l₁:=[k]) (l₂:=av k))
  obtain⟨o',f1,f2,f3⟩:=xc hc hs (owner.setIfInBounds j (some k)) (k+1) (by simpa using h1) hp (by simp at h3;omega)
  refine⟨o',?_,f2,?_⟩
  ·rw[nL]
   have e3:(do
    let (owner,k) <-some (owner,k)
    let j <-layClean.free mask owner (turns mask) (bits h % (mask+1)) (bits h)
    pure (owner.setIfInBounds j (some k),k+1))=some (owner.setIfInBounds j (some k),k+1):=by
    show(layClean.free mask owner (turns mask) (bits h % (mask+1)) (bits h)).bind _=_
    rw[e1]
    rfl
   rw[e3,f1]
   simp
   omega
  ·rw[cM,show k+(hs.length+1)=k+1+hs.length from by omega]
   exact f3
theorem ub{α β:Type}{f g:α->Option β}:∀{l:List α},(∀x∈l,f x=g x)->l.filterMap f=l.filterMap g
 | [],_=>rfl
 | x::r,h=>by rw[i_,i_,h x aX,ub (l:=r) λy hy=>h y (aN _ hy)]
theorem ql:∀(l:List (Option Nat)),(av l.length).filterMap (λj=>l.getD j none)=l.filterMap id
 | []=>rfl
 | x::r=>by
  rw[cM,wZ,i_,zM]
  have e:(av r.length).filterMap ((λj=>(x::r).getD j none) ∘ Nat.succ)=r.filterMap id:=by
   rw[<-ql r]
   rfl
  rw[e]
  cases x<;>rfl
theorem EU{mask finger moves:Nat}{led plain:Bool}{hashes:Array Int}(hc:Jc (mask+1)=true)(hn:hashes.size<=mask) :
  ∃t order,laid mask finger moves led plain hashes=some (t,order)/\t.mask=mask/\t.dummies=#[]/\t.place.size=hashes.size/\order.toList.Perm (av hashes.size):=by
 obtain⟨o,e,h1,h2⟩:=xc hc hashes.toList (Array.replicate (mask+1) none) 0 (by simp) (by simp[List.filterMap_replicate]) (by simpa using hn)
 have lc:layClean mask hashes=some o:=by
  unfold layClean
  rw[<-Array.foldl_toList,e]
  rfl
 have key:((av (mask+1)).filterMap λj=>(o.getD j none).map (j,·)).map (·.2)=o.toList.filterMap id:=by
  rw[List.map_filterMap,<-ql]
  have:o.toList.length=mask+1:=by simpa using h1
  rw[this]
  refine ub λj _=>?_
  have:o.toList.getD j none=o.getD j none:=by simp[F1,A7]
  rw[this]
  cases o.getD j none<;>rfl
 have pm:(((av (mask+1)).filterMap λj=>(o.getD j none).map (j,·)).map (·.2)).Perm (av hashes.size):=by
  rw[key]
  simpa using h2
 refine⟨_,_,by unfold laid;rw[lc];rfl,rfl,rfl,?_,by simpa using pm⟩
 have:=pm.length_eq
 simpa using this
theorem BC{m:Nat}(h:m=7\/m=31\/m=127\/m=511):Jc (m+1)=true:=by
 rcases h with rfl | rfl | rfl | rfl<;>decide+kernel
def mR(h:Heap)(a:UN)(l:List (Int×UT)):Prop:=∃o es ep t,h.get? a=some o/\o.ExactSet/\o.data= .set es ep t/\es.toList.Perm l/\t.place.size=es.size/\t.dummies=#[]/\(t.mask=7\/t.mask=31\/t.mask=127\/t.mask=511)/\es.size * 5 < t.mask * 3
theorem oJ{xs:Array Nat}{j:Nat}:∀(fuel lo hi:Nat),lo<=hi->below.go xs j fuel lo hi<=hi
 | 0,lo,hi,h=>h
 | fuel+1,lo,hi,h=>by
  unfold below.go
  by_cases c:lo < hi
  ·rw[if_pos c]
   dsimp only
   split
   ·exact oJ fuel _ _ (by omega)
   ·exact bt (oJ fuel lo _ (by omega)) (by omega)
  ·rw[if_neg c];exact h
theorem ud(xs:Array Nat)(j:Nat):below xs j<=xs.size:=oJ _ _ _ (aA _)
theorem mL{α:Type}{xs:Array α}{p:Nat}{x:α}(h:p<=xs.size):(insertAt xs p x).toList.Perm (x::xs.toList):=by
 unfold insertAt
 have e:((xs.extract 0 p).push x++xs.extract p xs.size).toList=xs.toList.take p++x::xs.toList.drop p:=by
  simp
  exact bO (by simp)
 rw[e]
 exact List.perm_middle.trans (by rw[br])
theorem mM{α:Type}{xs:Array α}{p:Nat}{x:α}(h:p<=xs.size):(insertAt xs p x).size=xs.size+1:=by
 have:=(mL (x:=x) h).length_eq
 simpa using this
theorem fits_of{t:SetTable}{n:Nat}(h1:t.place.size=n)(h2:t.dummies=#[])(h3:n<=t.mask):t.fits n=true:=by
 unfold fits fill
 rw[h2,h1]
 simp
 exact h3
theorem vK{α:Type}{es:Array α}{order:Array Nat}(h:order.toList.Perm (av es.size)):(order.filterMap (es[·]?)).toList.Perm es.toList:=by
 rw[Array.toList_filterMap]
 refine(h.filterMap _).trans ?_
 have:∀l:List α,(av l.length).filterMap (λi=>l[i]?)=l:=by
  intro l
  induction l with
  | nil=>rfl
  | cons x r ih=>
   rw[cM,wZ,i_,zM]
   show x::(av r.length).filterMap ((λi=>(x::r)[i]?) ∘ Nat.succ)=_
   rw[show((λi=>(x::r)[i]?) ∘ Nat.succ)=λi=>r[i]? from by funext i;simp,ih]
 have e:=this es.toList
 rw[gq] at e
 rw[show(λx=>es[x]?)=λi=>es.toList[i]? from by funext i;simp]
 rw[e]
section
variable {prog:UR} {w:UU} {A:UO} {E:UT->US->Prop} {s:US}
theorem grow{n m:Nat}(hm:m=7\/m=31\/m=127\/m=511)(h1:n * 5 < m * 3)(h2:(n+1) * 5 >= m * 3)(h3:n<=300):∃m',(m'=7\/m'=31\/m'=127\/m'=511)/\sizeAbove (grown (n+1))=m'+1/\(n+1) * 5 < m' * 3:=by
 rcases hm with rfl | rfl | rfl | rfl
 ·obtain rfl:n=4:=by omega
  exact⟨31,.inr (.inl rfl),by decide+kernel,by decide⟩
 ·obtain rfl:n=18:=by omega
  exact⟨127,.inr (.inr (.inl rfl)),by decide+kernel,by decide⟩
 ·obtain rfl:n=76:=by omega
  exact⟨511,.inr (.inr (.inr rfl)),by decide+kernel,by decide⟩
 ·omega
theorem ue{S:UN}{o:Obj}{es es1:Array (Int×UT)}{ep n:Nat}{t t1:SetTable}{l:List (Int×UT)}{Q:Bool->US->Prop}(ho:s.heap.get? S=some o)(hex:o.ExactSet)(hd:o.data= .set es ep t)
  (hp:es1.toList.Perm l)(hn:es1.size=n+1)(hps:t1.place.size=es1.size)(De:t1.dummies=#[])(hm:t1.mask=7\/t1.mask=31\/t1.mask=127\/t1.mask=511)(h5:n * 5 < t1.mask * 3)(hl:n<=300)
  (hq:∀h',lS S s.heap h'->mR h' S l->Q true { s with heap:=h' }) :
  U7 (model prog w) A (do storeSet S es1 t1;if(!false&&t1.tooFull)=true then do { setRelay S (grown (n+1));pure true } else pure true) Q E s:=by
 have hsl:U5=16777216:=sizeLine_eq
 have hf:t1.fits es1.size=true:=fits_of hps De (by omega)
 have g1:(s.heap.update S (nr es1 t1)).get? S=some { o with data:=.set es1 (ep+1) t1 }:=by
  have:=qG (nr es1 t1) ho (by rw[putSet_of es1 t1 hd];rfl)
  rw[putSet_of es1 t1 hd] at this;exact this
 refine U8 (wpAny_storeSet_of ho hd ?_ (by omega))
 have hfill:t1.fill=n+1:=by unfold fill;rw[De,hps,hn];rfl
 by_cases c:t1.tooFull=true
 ·rw[c]
  simp only[Bool.not_false,Bool.and_self,if_true]
  unfold tooFull at c
  rw[hfill] at c
  obtain⟨m',k1,k2,k3⟩:=grow hm h5 (by simpa using c) hl
  refine U8 ?_
  unfold setRelay
  refine U8 (wpAny_setState_of g1 rfl hf ?_)
  dsimp only
  rw[k2]
  rw[if_neg (by omega)]
  obtain⟨t2,order,e2,a1,a2,a3,a4⟩:=EU (mask:=m') (finger:=t1.finger) (moves:=t1.movedTo m') (led:=t1.led) (plain:=t1.plain) (hashes:=es1.map (·.1)) (BC k1) (by simp;omega)
  have er:t1.relaid (es1.map (·.1)) (grown (n+1))=some (t2,order):=by
   unfold relaid
   rw[k2,fM]
   exact e2
  have pm:=vK (es:=es1) (order:=order) (by simpa using a4)
  have sz:(order.filterMap (es1[·]?)).size=es1.size:=by have:=pm.length_eq;rw[gq,gq] at this;exact this
  refine U8 (show U7 _ _ (match t1.relaid (es1.map (·.1)) (grown (n+1)) with
   | some (t,order)=>(if((order.filterMap (es1[·]?)).size != es1.size)=true then(do { let y <-unsupported "internal:set-table-lost-an-element";pure (order.filterMap (es1[·]?),t) }) else pure (order.filterMap (es1[·]?),t))
   | _=>unsupported "internal:set-table-without-room") _ _ _ from ?_)
  rw[er]
  dsimp only
  rw[if_neg (by rw[sz];simp)]
  refine Vb ?_
  dsimp only
  refine wpAny_storeSet_of g1 rfl ?_ (by rw[sz];omega)
  have g2:((s.heap.update S (nr es1 t1)).update S (nr (order.filterMap (es1[·]?)) t2)).get? S=some { o with data:=.set (order.filterMap (es1[·]?)) (ep+1+1) t2 }:=by
   have:=qG (nr (order.filterMap (es1[·]?)) t2) g1 (by rw[putSet_of _ t2 rfl];rfl)
   rw[putSet_of _ t2 rfl] at this;exact this
  refine Vb (hq _ ((BD _ S _).trans (BD _ S _)) ⟨_,_,_,_,g2,hex,rfl,pm.trans hp,by rw[a3,sz];simp,a2,by rw[a1];exact k1,by rw[sz,a1,hn];exact k3⟩)
 ·have c':t1.tooFull=false:=by simpa using c
  rw[c']
  simp only[zR,i9,if_false]
  refine Vb (hq _ (BD _ S _) ⟨_,_,_,_,g1,hex,rfl,hp,hps,De,hm,?_⟩)
  rw[hn]
  unfold tooFull at c'
  rw[hfill] at c'
  simpa using c'
theorem EV{S b:UN}{hsh:Int}{l:List (Int×UT)}{Q:Bool->US->Prop}(hs:mR s.heap S l)(hn:∀e∈l,e.1≠hsh)(hl:l.length<=300)
  (hv:∀Q':Bool->US->Prop,(∀b,Q' b s)->U7 (model prog w) A (hashByValue 8 (.ref b)) Q' E s)
  (hq:∀h',lS S s.heap h'->mR h' S ((hsh,.ref b)::l)->Q true { s with heap:=h' }):U7 (model prog w) A (setAddHashed S (.ref b) hsh) Q E s:=by
 obtain⟨o,es,ep,t,ho,hex,hd,hp,hps,De,hm,h5⟩:=hs
 have hz:es.size=l.length:=by have:=hp.length_eq;simpa using this
 have hle:es.size<=t.mask:=by omega
 have hf:=fits_of hps De hle
 unfold setAddHashed setAddHashedIn
 refine U9 (U8 (wpAny_setState_of ho hd hf ?_))
 dsimp only
 rw[show byScan (.ref b) es=false from rfl]
 simp only[i9,if_false]
 refine U8 ?_
 unfold setSearch setSearchFrom
 refine U8 (wpAny_setState_of ho hd hf ?_)
 dsimp only
 have gw:t.gaveWay=false:=by
  unfold gaveWay
  rcases hm with e | e | e | e<;>rw[e]<;>rfl
 rw[gw]
 simp only[i9,if_false]
 obtain⟨j,ej⟩:=vJ (es:=es) (h:=hsh) (BC hm) De hps hle (λi v e=>hn v (hp.mem_iff.mp (Array.mem_toList_iff.mpr (L3 e))))
 split
 ·rename_i met em
  have e2:met= .empty j none:=Option.some.inj (em.symm.trans ej)
  subst e2
  dsimp only
  refine Vb ?_
  dsimp only
  refine U8 (wpAny_setState_of ho hd hf ?_)
  dsimp only
  have QQ:below t.place j<=es.size:=by rw[<-hps];exact ud _ _
  have pe:(t.put j).2=below t.place j:=rfl
  have ON:(insertAt es (t.put j).2 (hsh,bg b)).toList.Perm ((hsh,bg b)::l):=(mL (by rw[pe];exact QQ)).trans (hp.cons _)
  have L4:(insertAt es (t.put j).2 (hsh,bg b)).size=es.size+1:=mM (by rw[pe];exact QQ)
  have ps1:(t.put j).1.place.size=es.size+1:=by
   show(insertAt t.place (below t.place j) j).size=_
   rw[mM (ud _ _),hps]
  have OO:(t.put j).1.dummies=#[]:=by
   show(if has t.dummies j then eraseAt t.dummies (below t.dummies j) else t.dummies)=_
   have:has t.dummies j=false:=by
    rw[De]
    unfold has
    simp
   rw[this,if_neg bG,De]
  have mk1:(t.put j).1.mask=t.mask:=rfl
  generalize t.put j=tp at ON L4 ps1 OO mk1
  have fin:∀bv:Bool,U7 (model prog w) A (do storeSet S (insertAt es tp.2 (hsh,bg b)) (if bv=true then tp.1 else{ tp.1 with plain:=false });if(!false&&(if bv=true then tp.1 else{ tp.1 with plain:=false }).tooFull)=true then do { setRelay S (grown (es.size+1));pure true } else pure true) Q E s:=λbv=>by
   cases bv
   ·exact ue ho hex hd ON L4 (by rw[L4];exact ps1) OO (show tp.1.mask=7\/tp.1.mask=31\/tp.1.mask=127\/tp.1.mask=511 from by rw[mk1];exact hm) (by show es.size * 5 < tp.1.mask * 3;rw[mk1];exact h5) (by omega) hq
   ·exact ue ho hex hd ON L4 (by rw[L4];exact ps1) OO (show tp.1.mask=7\/tp.1.mask=31\/tp.1.mask=127\/tp.1.mask=511 from by rw[mk1];exact hm) (by show es.size * 5 < tp.1.mask * 3;rw[mk1];exact h5) (by omega) hq
  split
  ·exact U8 (hv _ λbv=>fin bv)
  ·exact U8 (Vb (fin true))
 ·rename_i em
  exact absurd ej (em _)
end
end TB
namespace J
open PySem PySem.Spec PyProof.Rows L2 TB
section
variable {prog:UR} {w:UU} {A:UO} {R:Result->US->Prop} {I:UN} {fp wr:List UN} {n:Nat} {P:Nat->UT->Prop} {St:Nat->Heap->Prop}
def BE(prog:UR)(w:UU)(A:UO)(S:UN)(P:Nat->UT->Prop)(SP:Nat->Heap->Prop):Prop:=∀(i:Nat)(v:UT)(E:UT->US->Prop)(s:US)(Q:Bool->US->Prop),P i v->SP i s.heap->(∀b h' tk,lS S s.heap h'->SP (i+1) h'->Q b { s with heap:=h',toks:=tk })->U7 (model prog w) A (setAdd S v) Q E s
theorem qm(W:Walks prog w A.in1 I fp wr n P St)(S:UN)(hf:S∉fp){SP:Nat->Heap->Prop}(keep:∀i h h',SP i h->(∀b o,b∉wr->h.get? b=some o->h'.get? b=some o)->SP i h')(step:BE prog w A.in1 S P SP) :
  ∀(k i:Nat)(s:US),n - i=k->i<=n->St i s.heap->SP i s.heap->
   (∀h' tk,(∀b o,b∉S::wr->s.heap.get? b=some o->h'.get? b=some o)->SP n h'->R (.ok (.ret .none)) { s with heap:=h',toks:=tk })->
   UZ (model prog w) A (.builtin "set.update.loop" ⟨[.ref S,.ref I],[]⟩) R s
 | 0,i,s,hk,hi,st,z,q=>by
  have e:i=n:=by omega
  subst e
  refine codeAny_builtin Je ?_
  rw[L5 BF _]
  refine U8 (m:=pyNext (.ref I)) (W.done s _ _ st λh' tk kp=>?_)
  exact Vb (q h' tk (λb o nb eo=>kp b o (λm=>nb (aN _ m)) eo) (keep _ _ _ z λb o nb eo=>kp b o nb eo))
 | k+1,i,s,hk,hi,st,z,q=>by
  refine codeAny_builtin Je ?_
  rw[L5 BF _]
  refine U8 (m:=pyNext (.ref I)) (W.item i s _ _ (by omega) st λv h1 tk hP st1 kp=>?_)
  refine U8 (m:=holding [v] (setAdd S v)) (U9 (step i v _ _ _ hP (keep _ _ _ z λb o nb eo=>kp b o nb eo) λbb h2 QR sb z2=>?_))
  refine Vb ⟨plainId_quiet BF _,qm W S hf keep step k (i+1) _ (by omega) (by omega) (W.frame _ h1 _ st1 λb hb o eo=>?_) z2 λh' tk' SK z'=>?_⟩
  ·rw[sb.2 b (λy:b=S=>hf (y ▸ hb))];exact eo
  ·refine q h' tk' (λb o nb eo=>SK b o nb ?_) z'
   have nS:b≠S:=λy=>nb (by rw[y];exact aX)
   show h2.get? b=some o
   rw[sb.2 b nS]
   exact kp b o (λm=>nb (aN _ m)) eo
end
section
variable {prog:UR} {w:UU} {A:UO} {E:UT->US->Prop} {s:US}
theorem qo{l:UN}{items:Array UT}{Q:UT->US->Prop}{SP:Nat->Heap->Prop}(hh:A.handled=none)(hl:s.heap.IsList l items)
  (keep:∀i h h',SP i h->(∀b o,b≠s.heap.objs.size+1->h.get? b=some o->h'.get? b=some o)->SP i h')(step:BE prog w A.in1.in1.in1 s.heap.objs.size (λi v=>items[i]? =some v) SP)
  (init:∀h led,h.get? s.heap.objs.size=some (jw led)->(∀b o,s.heap.get? b=some o->h.get? b=some o)->SP 0 h)
  (h:∀h' tk,SP items.size h'->(∀b o,b < s.heap.objs.size->s.heap.get? b=some o->h'.get? b=some o)->Q (.ref s.heap.objs.size) { s with heap:=h',toks:=tk }) :
  U7 (model prog w) A (call (.type "set") [.ref l]) Q E s:=by
 have hmade:=F.called_set.made
 have hsub:=F.called_set.sub
 have h1:=F.called_set.notType
 have h2:=F.called_set.canCreate
 have hct:=F.typeCall_set_1 (.ref l)
 obtain⟨c,tl,SM⟩:=F.called_set.mro
 refine wpAny_call (codeAny_of_tree (show U7 _ _ (callAny (.type "set") _) _ _ _ from Vb ⟨Code.quiet_builtin _ (by decide+kernel),codeAny_builtin F.entry_type_call ?_⟩))
 rw[Around.under_plain (weight_type_call_type "set" [bg l] []) rfl]
 repeat (any_goals (first | assumption | wp_step))
 refine codeAny_mono (code_set_new_1 (bg l) (E:=E) (Q₁:=λv t=>∃led,v= .ref s.heap.objs.size/\t={ s with heap:=s.heap.push (jw led) }) λled=>⟨led,rfl,rfl⟩) λr t hr=>?_
 cases r with
 | error e=>exact hr
 | ok fl=>
  cases fl with
  | ret obj=>
   obtain⟨led,rfl,rfl⟩:=hr
   have hS:(s.heap.push (jw led)).get? s.heap.objs.size=some (jw led):=cO _ rfl
   have hT:Shared.TypeIs { s with heap:=s.heap.push (jw led) } (.ref s.heap.objs.size) "set":=⟨_,hS,rfl⟩
   have hli:=F.called_set.init.lookup
   have hbi:=F.called_set.init.bind (bg s.heap.objs.size)
   repeat (any_goals (first | assumption | wp_step))
   refine codeAny_mono (codeAny_call_builtin (R:=wants (λr t=>r= .none/\∃h' tk,t={ s with heap:=h',toks:=tk }/\SP items.size h'/\∀b o,b < s.heap.objs.size->s.heap.get? b=some o->h'.get? b=some o) E) F.called_set.init.plain F.entry_set_init (check_set_init_1 hT ?_)) λr₂ s₂ BG=>?_
   ·obtain⟨ol,QS,hcl,nl,hdl⟩:=hl
    obtain⟨SN,L6,QT,Jf⟩:=ol
    simp only at hcl hdl
    subst hcl;subst hdl
    have OP:(s.heap.push (jw led)).get? l=some { cls:=.type "list",dict:=L6,data:=.seq items nl,slots:=Jf }:=aU _ QS
    have n1:=F.sub_list_set
    have n2:=F.sub_list_frozenset
    have n3:(jL "list" == jL "dict")=false:=by decide
    have ht:(s.heap.push (jw led)).IsList l items:=⟨_,OP,rfl,nl,rfl⟩
    unfold Builtin.«set.__init__» noKeywords Builtin.Frozenset.updateFrom
    generalize SQ:pyIter=PI
    wp_walk
    subst SQ
    refine wpAny_pyIter_list ht (U8 (wpAny_runValue ?_))
    have lt:l < s.heap.objs.size:=aE QS
    have zp:(s.heap.push (jw led)).objs.size=s.heap.objs.size+1:=AW ..
    refine qm (Walks.list (by simp[hh]) _ l (by rw[zp];exact a6 (jS lt)) items) s.heap.objs.size ?nf (λi g g' z k=>keep i g g' z λb o nb e=>k b o (by rw[zp];simpa using nb) e) step (items.size - 0) 0 _ rfl (aA _) ⟨⟨_,cO _ rfl,rfl,rfl⟩,ht.push _⟩ ?z0 ?fin
    case nf=>
     rw[zp]
     simp only[xh,xi,or_false,not_or]
     exact⟨a6 (Nat.lt_succ_self _),qA lt⟩
    case z0=>exact init _ led (aU _ hS) λb o e=>aU _ (aU _ e)
    case fin=>
     intro h' tk kp z
     refine Vb (Vb ⟨rfl,h',tk,rfl,z,λb o b1 e=>kp b o ?_ (aU _ (aU _ e))⟩)
     rw[zp]
     simp only[xh,xi,or_false,not_or]
     exact⟨a6 b1,a6 (jS b1)⟩
   ·cases r₂ with
    | error e=>exact BG
    | ok L7=>
     cases L7 with
     | ret r=>
      obtain⟨rfl,h',tk,rfl,z,kp⟩:=BG
      repeat (any_goals (first | assumption | wp_step))
      exact h _ _ z kp
     | _=>exact aa BG
  | _=>exact aa hr
end
section
variable {prog:UR} {w:UU} {A:UO} {E:UT->US->Prop} {s:US}
theorem hbv{b:UN}{k:List L2.Key}(hk:IsTupleKey (aW prog w) s.heap k b){Q:Bool->US->Prop}(hq:∀bb,Q bb s):U7 (model prog w) A (hashByValue 8 (.ref b)) Q E s:=by
 obtain⟨o,items,n,h1,h2,h3,h4⟩:=hk
 have hT:s.TypeIs (.ref b) "tuple":=⟨o,h1,h2⟩
 unfold hashByValue
 refine U8 (wpAny_specialOf hT PySem.F.slot_tuple_hash.lookup ?_)
 dsimp only
 show U7 _ _ (seqItems? (bg b) >>= _) _ _ s
 refine U8 (wpAny_seqItems h1 h3 ?_)
 refine U8 ?_
 show U7 _ _ (forIn items _ _) _ _ s
 rw[<-Fz]
 have all:∀v∈items.toList,v.scannable=true:=by
  clear hT h1 h2 h3
  generalize items.toList=vs at h4
  induction h4 with
  | nil=>intro v hv;cases hv
  | @cons k v ks vs hk _ ih=>
   intro u hu
   rcases List.mem_cons.mp hu with e | hu
   ·subst e
    rcases b9 hk with ⟨i,t,rfl,rfl⟩ | ⟨x,t,rfl,rfl⟩ | ⟨rfl,rfl⟩<;>rfl
   ·exact ih u hu
 refine wpAny_forIn_list _ (λrest r s'=>s'=s/\∀v∈rest,v.scannable=true) _ ?_ ?_ _ _ ⟨rfl,all⟩
 ·rintro v rest r s' ⟨rfl,hall⟩
  rw[hashByValue_scannable 7 (hall v aX)]
  refine U8 (Vb ?_)
  split
  ·exact Vb (Vb (hq _))
  ·exact Vb ⟨rfl,λu hu=>hall u (aN _ hu)⟩
 ·rintro⟨r1,r2⟩ s' ⟨rfl,_⟩
  dsimp only
  split<;>exact Vb (hq _)
def oK(prog:UR)(w:UU)(ks:List (List L2.Key))(bs:List UN):List (Int×UT):=(ks.zip bs).map λp=>((tupleKind (aW prog w)).hash p.1,bg p.2)
theorem uf{ks:List (List L2.Key)}{bs:List UN}(h:ks.length=bs.length):(oK prog w ks bs).length=bs.length:=by simp[oK,h]
def QU(prog:UR)(w:UU)(S:UN)(ks:List (List L2.Key))(bs:List UN)(i:Nat)(h:Heap):Prop:=mR h S ((oK prog w ks bs).take i).reverse/\∀(j:Nat)(b:UN)(k:List L2.Key),bs[j]? =some b->ks[j]? =some k->IsTupleKey (aW prog w) h k b
theorem mR.at'{h h':Heap}{S:UN}{l:List (Int×UT)}(x:mR h S l)(k:∀o,h.get? S=some o->h'.get? S=some o):mR h' S l:=by
 obtain⟨o,es,ep,t,ho,r⟩:=x
 exact⟨o,es,ep,t,k o ho,r⟩
theorem rO{h h':Heap}{b:UN}{k:List L2.Key}(x:IsTupleKey (aW prog w) h k b)(kp:∀o,h.get? b=some o->h'.get? b=some o):IsTupleKey (aW prog w) h' k b:=by
 obtain⟨o,it,n,h1,r⟩:=x
 exact⟨o,it,n,kp o h1,r⟩
theorem vL{S:UN}{items:Array UT}{ks:List (List L2.Key)}{bs:List UN}(hu:A.units < cLine)(hk:ks.length=bs.length)(hi:items.toList=bs.map bg)(hb:∀b∈bs,b≠S)(hn:((ks.map (tupleKind (aW prog w)).hash)).Nodup)(hl:bs.length<=300) :
  BE prog w A S (λi v=>items[i]? =some v) (QU prog w S ks bs):=by
 intro i v E s Q hv hs hq
 obtain⟨ts,keys⟩:=hs
 have hb':∃b,bs[i]? =some b/\v= .ref b:=by
  rw[<-fc,hi,cU] at hv
  cases e:bs[i]? with
  | none=>rw[e] at hv;cases hv
  | some b=>rw[e] at hv;cases hv;exact⟨b,rfl,rfl⟩
 obtain⟨b,eb,rfl⟩:=hb'
 have hib:i < bs.length:=(List.getElem?_eq_some_iff.mp eb).1
 obtain⟨k,ek⟩:∃k,ks[i]? =some k:=⟨ks[i]'(by omega),cm (by omega)⟩
 have key:=keys i b k eb ek
 have ei:(oK prog w ks bs)[i]? =some ((tupleKind (aW prog w)).hash k,bg b):=by
  unfold oK
  have:(ks.zip bs)[i]? =some (k,b):=List.getElem?_zip_eq_some.mpr ⟨ek,eb⟩
  rw[cU,this]
  rfl
 have el:=uf (prog:=prog) (w:=w) hk
 have nd:(((oK prog w ks bs)).map (·.1)).Nodup:=by
  have:(oK prog w ks bs).map (·.1)=ks.map (tupleKind (aW prog w)).hash:=by
   unfold oK
   rw[cz]
   have e:=List.map_fst_zip (l₁:=ks) (l₂:=bs) (by omega)
   conv=>rhs;rw[<-e,cz]
   rfl
  rw[this]
  exact hn
 unfold setAdd
 refine U9 (U8 ((tupleKind (aW prog w)).pyHash (k:=k) hu key ?_))
 refine EV (s:={ s with toks:=s.toks+(tupleKind (aW prog w)).draws k }) ts (λe he=>?_) (by simp;omega) (λQ' hq'=>hbv (s:={ s with toks:=s.toks+(tupleKind (aW prog w)).draws k }) key hq') λh' sb z=>?_
 ·have he:=List.mem_reverse.mp he
  obtain⟨j,hj,ej⟩:=xf he
  have hj':j < i:=by simp at hj;omega
  have SR:(oK prog w ks bs)[j]? =some e:=by
   rw[<-ej,List.getElem_take]
   exact cm _
  intro ee
  have a1:((oK prog w ks bs).map (·.1))[j]? =some e.1:=by rw[cU,SR];rfl
  have a2:((oK prog w ks bs).map (·.1))[i]? =some ((tupleKind (aW prog w)).hash k):=by rw[cU,ei];rfl
  rw[ee] at a1
  have:=(List.getElem?_inj (by simp;omega) nd).mp (a1.trans a2.symm)
  omega
 ·refine hq true h' _ sb ⟨?_,λj c q e1 e2=>rO (keys j c q e1 e2) λo eo=>by rw[sb.2 c (hb c (jN e1))];exact eo⟩
  rw[List.take_add_one,ei,EW,fK]
  exact z
end
theorem BH{H:Hp}:∀{vs:List V}{ks:List (List L2.Key)},OI H vs ks->∃bs:List UN,vs=bs.map V.ref/\ks.length=bs.length/\∀(j:Nat)(b:UN)(k:List L2.Key),bs[j]? =some b->ks[j]? =some k->H b=some (.tup (k.map kV))
 | _,_,.nil=>⟨[],rfl,rfl,λj b k e=>by cases e⟩
 | _,_,.cons h t=>by
  obtain⟨b,rfl,hb⟩:=h
  obtain⟨bs,rfl,h1,h2⟩:=BH t
  refine⟨b::bs,rfl,by simp[h1],λj c k e1 e2=>?_⟩
  cases j with
  | zero=>cases e1;cases e2;exact hb
  | succ j=>exact h2 j c k e1 e2
theorem xj:∀{bs:List UN}{its:List UT},Vals (bs.map V.ref) its->its=bs.map bg
 | [],_,.nil=>rfl
 | b::bs,_,.cons h t=>by
  rw[xj t,show _=bg b from h]
  rfl
section
variable {X:Cx}
def L8(X:Cx)(t:TA):TE:=λσ H Q=>t σ H λvs H1=>∃(p:UN)(xs:List V),vs=[.ref p]/\j9 X.K H1 p xs/\
 ((∃zs:List Str,xs=zs.map V.str/\zs.length < 1000/\Q (.int (w9 zs.reverse:Nat)) H1)\/∃ks,OI H1 xs ks/\(ks.map (tupleKind (aW X.prog X.w)).hash).Nodup/\xs.length<=300/\Q (.int (xs.length:Nat)) H1)
theorem EY{e:Expr}{t:TA}{p1 q1 p2 q2:Pos}(hu:X.A.units+64 < cLine)(hc:X.calm=true)(Kg:Gl X "len")(hm1:X.mg "len"=none)(OQ:Gl X "set")(hm2:X.mg "set"=none)(ha:PA X [e] t)(he:U6 [e] X.env=[(false,eval e X.env)]) :
  PE X (.Call (.Name "len" p1) [.Call (.Name "set" p2) [e] [] q2] [] q1) (L8 X t):=by
 intro pins s σ H Q I h
 refine wpAny_Call_Name_kw (kl I Kg hm1 p8 ?_ (by decide) (by decide))
 refine DJ ?_ rfl rfl
 show U7 _ _ (spliced ((false,eval (.Call (.Name "set" p2) [e] [] q2) X.env)::[])) _ _ s
 refine Calls.spliced_cons (wpAny_Call_Name_kw (kl I OQ hm2 yR ?_ (by decide) (by decide)))
 refine qB (bI (ha q2 pins s σ H _ I h) λus s1 ⟨vs,H1,I1,r1,p,xs,ev,hq,L9⟩=>?_) he rfl
 subst ev
 obtain⟨u,rfl,rx⟩:=vals1 r1
 cases rx
 obtain⟨its,r',pl,hz⟩:=I1.list hq
 have hi:s1.heap.IsList p its.toArray:=pl.isList
 rcases L9 with ⟨zs,rfl,hl,q⟩ | ⟨ks,ky,hn,hl,q⟩
 ·have hn:zs.length=its.toArray.size:=by have:=r'.length;simpa using this
  refine qo (SP:=λi h=>EN X.prog X.w h s1.heap.objs.size (zs.take i).reverse) (I1.ok.hd hc) hi (λi g g' z k=>z.keep λo eo=>k _ o (by omega) eo) ?_ ?_ λh' tk z kp=>?_
  ·intro i v E s Q hv z hq'
   obtain⟨x,t,hx,rfl⟩:=EO r' i v hv
   unfold setAdd
   have room:w9 (zs.take i).reverse+1 < scanBound:=by
    have:=Bv (zs.take i).reverse
    simp only[List.length_reverse,aD] at this
    unfold scanBound
    omega
   have hk1:(PySem.strKind X.prog X.w).is x (.str x t)=true:=by
    show qt x (.str x t)=true
    simp[qt]
   refine U9 (U8 ((PySem.strKind X.prog X.w).pyHash (k:=x) hk1 ?_))
   refine wpAny_setAddHashed_of (knd:=PySem.strKind X.prog X.w) hk1 rfl z room λh2 sb z2=>?_
   refine hq' _ h2 _ sb ?_
   have e:(zs.take (i+1)).reverse=x::(zs.take i).reverse:=by
    rw[List.take_add_one,hx,EW,fK]
    rfl
   refine SetOf_congr z2 (λy=>?_) ?_
   ·rw[e];simp[Bool.or_comm]
   ·rw[e]
    show _=if x∈(zs.take i).reverse then w9 (zs.take i).reverse else w9 (zs.take i).reverse+1
    simp only[decide_eq_true_eq]
  ·intro g led hg _
   exact SetOf_congr ((setObjOf_fresh (knd:=PySem.strKind X.prog X.w) led).setOf hg (by unfold scanBound;omega)) (λ_=>by simp) rfl
  ·refine zH ?_
   rw[<-hn,List.take_length] at z
   obtain⟨o,es,ep,tb,ho,hex,hd,hel,hmem,hb,hf,hN⟩:=z
   refine call_len_set ho hex hd hf (by unfold scanBound at hb;omega) ?_
   rw[hN]
   exact⟨.int _,H1,I1.kept (t':=tk+1+1) (λb o e=>kp b o (aE e) e),⟨_,rfl⟩,q⟩
 ·obtain⟨bs,rfl,hkb,QV⟩:=BH ky
  have SU:=xj r'
  subst SU
  have hlb:bs.length<=300:=by simpa using hl
  have lt:∀b∈bs,b < s1.heap.objs.size:=λb hb=>by
   obtain⟨j,hj,ej⟩:=xf hb
   obtain⟨u,eu⟩:=yq (I1.hok b _ (QV j b (ks[j]'(by omega)) (by rw[<-ej];exact cm hj) (cm _)))
   exact aE eu
  have hsz:(bs.map bg).toArray.size=bs.length:=by simp
  refine qo (SP:=QU X.prog X.w s1.heap.objs.size ks bs) (I1.ok.hd hc) hi (λi g g' z k=>⟨mR.at' z.1 λo eo=>k _ o (by omega) eo,λj b kk e1 e2=>rO (z.2 j b kk e1 e2) λo eo=>k b o (a6 (jS (lt b (jN e1)))) eo⟩) (vL (by simp only[Around.in1_units];omega) hkb rfl (λb hb=>a6 (lt b hb)) hn hlb) ?_ λh' tk z kp=>?_
  ·intro g led hg kp
   refine⟨⟨_,_,_,_,hg,⟨rfl,rfl,rfl⟩,rfl,.refl _,rfl,rfl,.inl rfl,(show(0:Nat) * 5 < 7 * 3 from by decide)⟩,λj b k e1 e2=>?_⟩
   exact rO (Hd I1.hok (QV j b k e1 e2)) λo eo=>kp b o eo
  ·refine zH ?_
   obtain⟨⟨o,es,ep,tb,ho,hex,hd,hp,hps,De,hm,h5⟩,_⟩:=z
   have en:es.size=bs.length:=by
    have:=hp.length_eq
    rw[List.length_reverse,aD,uf hkb,hsz,gq] at this
    omega
   refine call_len_set ho hex hd (fits_of hps De (by omega)) (by omega) ?_
   rw[en]
   rw[bV] at q
   exact⟨.int _,H1,I1.kept (t':=tk+1+1) (λb o e=>kp b o (aE e) e),⟨_,rfl⟩,q⟩
def lG:List Wv->Hs->Re Wv
 | [.ref l],st=>(match ak st l with
  | some ws=>(match jx ws with
   | some zs=>if zs.length < 1000 then .ok (.int (w9 zs.reverse:Nat)) st else .bad
   | none=>(match dR oG ws with | some ks=>if kF ks=true/\ws.length<=300 then .ok (.int (ws.length:Nat)) st else .bad | none=> .bad))
  | none=> .bad)
 | _,_=> .bad
theorem BI{K:PySem.W.Frag}{m:Mp}{H:Hp}:∀{ws:List Wv}{xs:List V}{ks:List (List L2.Key)},af K m H ws xs->dR oG ws=some ks->OI H xs ks
 | [],xs,ks,r,h=>by
  unfold af at r
  subst r
  cases h
  exact .nil
 | w::ws,xs,ks,r,h=>by
  unfold af at r
  obtain⟨x,t,rfl,r1,r2⟩:=r
  unfold dR at h
  cases e1:oG w with
  | none=>rw[e1] at h;cases h
  | some k=>
   cases e2:dR oG ws with
   | none=>rw[e1,e2] at h;cases h
   | some kr=>
    rw[e1,e2] at h
    cases h
    exact .cons (Bn r1 e1) (BI r2 e2)
theorem EZ{e:Expr}{g:GA}{p1 q1 p2 q2:Pos}(hu:X.A.units+64 < cLine)(hc:X.calm=true)(Kg:Gl X "len")(hm1:X.mg "len"=none)(OQ:Gl X "set")(hm2:X.mg "set"=none)(ha:JA X [e] g)(he:U6 [e] X.env=[(false,eval e X.env)]) :
  JE X (.Call (.Name "len" p1) [.Call (.Name "set" p2) [e] [] q2] [] q1) (aV lG g):=by
 refine JE.of (EY hu hc Kg hm1 OQ hm2 gX he) λρ st σ H m Q S R p=>?_
 refine ha.go S R (au.bind p) λws st1 vs m1 H1 p1 e1 S1 rs=>?_
 have p2:=cA.shift (au.jd p1) e1
 unfold lG at p2
 split at p2
 ·rename_i l
  obtain⟨v,rfl,r1⟩:=kc rs
  unfold ah at r1
  obtain⟨a,rfl,ha⟩:=r1
  cases e0:ak st1 l with
  | none=>rw[e0] at p2;exact aa p2
  | some ws=>
   rw[e0] at p2
   dsimp only at p2
   obtain⟨xs,hq,rx⟩:=S1.read ha e0
   refine⟨a,xs,rfl,hq,?_⟩
   cases e2:jx ws with
   | some zs=>
    rw[e2] at p2
    dsimp only at p2
    by_cases c:zs.length < 1000
    ·rw[if_pos c] at p2
     exact .inl ⟨zs,qk rx e2,c,p2 _ m1 H1 Ext.refl S1 mkInt⟩
    ·rw[if_neg c] at p2;exact aa p2
   | none=>
    rw[e2] at p2
    dsimp only at p2
    cases e3:dR oG ws with
    | none=>rw[e3] at p2;exact aa p2
    | some ks=>
     rw[e3] at p2
     dsimp only at p2
     by_cases c:kF ks=true/\ws.length<=300
     ·rw[if_pos c] at p2
      refine .inr ⟨ks,BI rx e3,?_,by rw[<-rx.length];exact c.2,by rw[<-rx.length];exact p2 _ m1 H1 Ext.refl S1 mkInt⟩
      have c2:=c.1
      unfold kF at c2
      cases ek:mK ks with
      | none=>rw[ek] at c2;cases c2
      | some nss=>rw[ek] at c2;rw[oI ek];exact of_decide_eq_true c2
     ·rw[if_neg c] at p2;exact aa p2
 ·exact aa p2
end
end J
namespace JT
open PySem PyProof.Rows
def q_:Bool->Vd->Array Vd->Nat->Nat->Nat->StateT Ve Sem (Option Nat):=sortPriv% PySem.Builtin.gallop
def n_:Array Vd->Array Vd->StateT Ve Sem (Array Vd):=sortPriv% PySem.Builtin.mergeLo
def oa:Array Vd->Array Vd->StateT Ve Sem (Array Vd):=sortPriv% PySem.Builtin.mergeHi
class Od where
 kd:SortKind
 ik:Vd->Prop
 kn:Vd->Int
abbrev Kd[Od]:SortKind:=Od.kd
abbrev Ik[Od](p:Vd):Prop:=Od.ik p
def kn[Od](p:Vd):Int:=Od.kn p
def K[Od](xs:Array Vd)(i:Nat):Int:=match xs[i]? with
 | some p=>kn p
 | none=>0
class Oa [Od] (prog:UR) (w:UU) (A:UO) (E:UT->US->Prop) (s:US):Prop where
 lt:∀{st:Ve}{x y:Vd}{Q:Option Bool->Ve->Prop},kindOf st=Kd->Ik x->Ik y->Q (some (decide (kn x < kn y))) st->wpS (model prog w) A E s (lt' x y) Q st
theorem L_[Od]{xs ys:Array Vd}{i j:Nat}(h:ys[i]? =xs[j]?):K ys i=K xs j:=by
 show(match ys[i]? with | some p=>kn p | none=>0)=match xs[j]? with | some p=>kn p | none=>0
 rw[h]
theorem Jg[Od]{xs:Array Vd}{i j:Nat}(hj:j<=xs.size)(k:Nat):K (mirror xs i j ((j - i) / 2)) k=if i<=k/\k < j then K xs (i+j - 1 - k) else K xs k:=by
 have q:=getElem?_mirror_all (xs:=xs) (i:=i) (j:=j) hj k
 split
 ·rename_i c;rw[if_pos c] at q;exact L_ q
 ·rename_i c;rw[if_neg c] at q;exact L_ q
theorem BJ[Od]{xs:Array Vd}{i j:Nat}(hj:j<=xs.size)(h:∀k,i<=k->k < j->K xs k=K xs (j - 1))(k:Nat):K (mirror xs i j ((j - i) / 2)) k=K xs k:=by
 have q:=Jg (xs:=xs) (i:=i) (j:=j) hj k
 by_cases c:i<=k/\k < j
 ·rw[if_pos c] at q
  exact q.trans ((h _ (by omega) (by omega)).trans (h k c.1 c.2).symm)
 ·rw[if_neg c] at q;exact q
theorem OR[Od]{xs:Array Vd}{src d:Nat}(hs:src < xs.size)(hd:d<=src)(k:Nat):K (bubble xs src d) k=if k=src - d then K xs src else if src - d < k/\k<=src then K xs (k - 1) else K xs k:=by
 have q:=getElem?_bubble (xs:=xs) (src:=src) hs d hd k
 split
 ·rename_i c;rw[if_pos c] at q;exact L_ q
 ·rename_i c
  rw[if_neg c] at q
  split
  ·rename_i d;rw[if_pos d] at q;exact L_ q
  ·rename_i d;rw[if_neg d] at q;exact L_ q
section
variable [Od] {prog:UR} {w:UU} {A:UO} {E:UT->US->Prop} {s:US} [Oa prog w A E s]
theorem jl{st:Ve}{x y:Vd}{Q:Option Bool->Ve->Prop}(hk:kindOf st=Kd)(hx:Ik x)(hy:Ik y)(h:Q (some (decide (kn x < kn y))) st):wpS (model prog w) A E s (lt' x y) Q st:=Oa.lt hk hx hy h
theorem ar{st:Ve}{a:Array Vd}{i:Nat}{p:Vd}{Q:Vd->Ve->Prop}(hp:a[i]? =some p)(h:Q p st):wpS (model prog w) A E s (elem' a i) Q st:=by
 rw[elem'_eq,hp]
 exact Vj h
def gp(left:Bool)(key:Vd)(arr:Array Vd)(base i:Nat):Bool:=if left then decide (K arr (base+i) < kn key) else !decide (kn key < K arr (base+i))
theorem cV{st:Ve}{left:Bool}{key:Vd}{arr:Array Vd}{base n i:Nat}{Q:Option Bool->Ve->Prop}(hk:kindOf st=Kd)(hkey:Ik key)
  (hb:base+n<=arr.size)(ha:∀p∈arr.toList,Ik p)(hi:i < n)(h:Q (some (gp left key arr base i)) st) :
  wpS (model prog w) A E s (do
   let x <-elem' arr (base+i)
   if left=true then lt' x key else do
    let r <-lt' key x
    pure (r.map (!·))) Q st:=by
 have lt:base+i < arr.size:=by omega
 have e:arr[base+i]? =some arr[base+i]:=jm lt
 have ik:Ik arr[base+i]:=ha _ (by simp)
 have ek:K arr (base+i)=kn arr[base+i]:=by unfold K kn;rw[e]
 unfold gp at h
 rw[ek] at h
 refine Vg (ar e ?_)
 cases left
 ·rw[if_neg (by decide)] at h ⊢
  exact Vg (jl hk hkey ik (Vj h))
 ·rw[if_pos rfl] at h ⊢
  exact jl hk ik hkey h
def lp(left:Bool)(key:Vd)(arr:Array Vd)(base n:Nat)(l0 h0:Nat):StateT Ve Sem (Option Nat):=do
 let mut lo:=l0
 let mut hi:=h0
 for _ in [0:n] do
  if lo >= hi then break
  let some b <-(do
   let x <-elem' arr (base+(lo+(hi - lo) / 2))
   if left=true then lt' x key else do
    let r <-lt' key x
    pure (r.map (!·)):StateT Ve Sem (Option Bool)) | return none
  if b then lo:=lo+(hi - lo) / 2+1 else hi:=lo+(hi - lo) / 2
 return some hi
theorem jn{st:Ve}{left:Bool}{key:Vd}{arr:Array Vd}{base n l0 h0:Nat}{Q:Option Nat->Ve->Prop}(hk:kindOf st=Kd)(hkey:Ik key)
  (hb:base+n<=arr.size)(ha:∀p∈arr.toList,Ik p)(dn:∀i j,i<=j->j < n->gp left key arr base j=true->gp left key arr base i=true)(l1:l0<=h0)(h1:h0<=n)
  (hl:∀i,i < l0->gp left key arr base i=true)(hh:∀i,h0<=i->i < n->gp left key arr base i=false)
  (h:∀k,k<=n->(∀i,i < k->gp left key arr base i=true)->(∀i,k<=i->i < n->gp left key arr base i=false)->Q (some k) st):wpS (model prog w) A E s (lp left key arr base n l0 h0) Q st:=by
 unfold lp
 refine Vg (Vi (Vh (I:=λx c st'=>st'=st/\∃l r,c=(none,l,r)/\l<=r/\r<=n/\r - l<=n - x/\(∀i,i < l->gp left key arr base i=true)/\(∀i,r<=i->i < n->gp left key arr base i=false))
  (Q:=λc st'=>st'=st/\∃r,c=(none,r,r)/\r<=n/\(∀i,i < r->gp left key arr base i=true)/\(∀i,r<=i->i < n->gp left key arr base i=false)) ?a ?b ?c) ?d)
 case c=>exact⟨rfl,l0,h0,rfl,l1,h1,by omega,hl,hh⟩
 case b=>
  rintro c st' ⟨rfl,l,r,rfl,g1,g2,g3,g4,g5⟩
  have:l=r:=by omega
  subst this
  exact⟨rfl,l,rfl,g2,g4,g5⟩
 case d=>
  rintro c st' ⟨rfl,r,rfl,g2,g4,g5⟩
  exact Vj (h r g2 g4 g5)
 case a=>
  rintro x c st' _ hx ⟨rfl,l,r,rfl,g1,g2,g3,g4,g5⟩
  dsimp only
  by_cases c:l >= r
  ·rw[if_pos c]
   have:l=r:=by exact iA ‹_› ‹_›
   subst this
   exact Vj ⟨rfl,l,rfl,g2,g4,g5⟩
  ·rw[if_neg c]
   refine Vg (cV hk hkey hb ha (by omega) ?_)
   cases q:gp left key arr base (l+(r - l) / 2)
   ·refine Vj ⟨rfl,l,l+(r - l) / 2,rfl,by exact aQ _ _,by omega,by omega,g4,λi i1 i2=>?_⟩
    cases q':gp left key arr base i
    ·rfl
    ·rw[dn _ _ i1 i2 q'] at q;cases q
   ·exact Vj ⟨rfl,l+(r - l) / 2+1,r,rfl,by omega,by assumption,by omega,λi i1=>dn _ _ (by exact cn ‹_›) (by omega) q,g5⟩
theorem bD{st:Ve}{left:Bool}{key:Vd}{arr:Array Vd}{base n hint:Nat}{Q:Option Nat->Ve->Prop}(hk:kindOf st=Kd)(hkey:Ik key)
  (hb:base+n<=arr.size)(ha:∀p∈arr.toList,Ik p)(hh:hint < n)(mono:∀i j,i<=j->j < n->K arr (base+i)<=K arr (base+j))
  (h:∀k,k<=n->(∀i,i < k->gp left key arr base i=true)->(∀i,k<=i->i < n->gp left key arr base i=false)->Q (some k) st):wpS (model prog w) A E s (q_ left key arr base n hint) Q st:=by
 have dn:∀i j,i<=j->j < n->gp left key arr base j=true->gp left key arr base i=true:=λi j h1 h2 h3=>by
  have:=mono i j h1 h2
  unfold gp at h3 ⊢
  cases left
  ·simp at h3 ⊢;exact cP ‹_› ‹_›
  ·simp at h3 ⊢;omega
 have up:∀i j,i<=j->j < n->gp left key arr base i=false->gp left key arr base j=false:=λi j h1 h2 h3=>by
  cases q:gp left key arr base j
  ·rfl
  ·rw[dn i j h1 h2 q] at h3;cases h3
 refine Vg (cV hk hkey hb ha hh ?_)
 cases q:gp left key arr base hint
 ·refine Vg (Vi (Vh (I:=λx c st'=>st'=st/\∃l o,c=(none,l,o)/\l < o/\l<=hint/\x+1<=o/\gp left key arr base (hint - l)=false)
   (Q:=λc st'=>st'=st/\∃l o,c=(none,l,o)/\l < o/\l<=hint/\gp left key arr base (hint - l)=false/\(hint+1<=o\/gp left key arr base (hint - o)=true)) ?a ?b ?c) ?d)
  case c=>exact⟨rfl,0,1,rfl,by exact ai _,by exact aA _,by exact ai _,q⟩
  case b=>
   rintro c st' ⟨rfl,l,o,rfl,g1,g2,g3,g4⟩
   exact⟨rfl,l,o,rfl,g1,g2,g4,.inl (by exact du ‹_› ‹_›)⟩
  case d=>
   rintro c st' ⟨rfl,l,o,rfl,g1,g2,g4,g5⟩
   refine(jn (prog:=prog) (w:=w) (A:=A) (E:=E) (s:=s) (base:=base) (l0:=hint+1 - min o (hint+1)) (h0:=hint - l) hk hkey hb ha dn (by omega) (by omega) (λi hi=>?_) (λi i1 i2=>up _ _ i1 i2 g4) h:wpS _ _ _ _ (lp left key arr base n _ _) Q _)
   rcases g5 with g5 | g5
   ·omega
   ·exact dn _ _ (by omega) (by omega) g5
  case a=>
   rintro x c st' _ hx ⟨rfl,l,o,rfl,g1,g2,g3,g4⟩
   dsimp only
   by_cases c:o >= hint+1
   ·rw[if_pos c]
    exact Vj ⟨rfl,l,o,rfl,g1,g2,g4,.inl c⟩
   ·rw[if_neg c]
    refine Vg (cV hk hkey hb ha (by omega) ?_)
    cases q':gp left key arr base (hint - o)
    ·exact Vj ⟨rfl,o,2 * o+1,rfl,by omega,by exact wG ‹_›,by omega,q'⟩
    ·exact Vj ⟨rfl,l,o,rfl,g1,g2,g4,.inr q'⟩
 ·refine Vg (Vi (Vh (I:=λx c st'=>st'=st/\∃l o,c=(none,l,o)/\l < o/\hint+l < n/\x+1<=o/\gp left key arr base (hint+l)=true)
   (Q:=λc st'=>st'=st/\∃l o,c=(none,l,o)/\l < o/\hint+l < n/\gp left key arr base (hint+l)=true/\(n - hint<=o\/(hint+o < n/\gp left key arr base (hint+o)=false))) ?a ?b ?c) ?d)
  case c=>exact⟨rfl,0,1,rfl,by exact ai _,by assumption,by exact ai _,q⟩
  case b=>
   rintro c st' ⟨rfl,l,o,rfl,g1,g2,g3,g4⟩
   exact⟨rfl,l,o,rfl,g1,g2,g4,.inl (by omega)⟩
  case d=>
   rintro c st' ⟨rfl,l,o,rfl,g1,g2,g4,g5⟩
   refine(jn (prog:=prog) (w:=w) (A:=A) (E:=E) (s:=s) (base:=base) (l0:=hint+l+1) (h0:=hint+min o (n - hint)) hk hkey hb ha dn (by omega) (by omega) (λi hi=>dn _ _ (by exact cn ‹_›) g2 g4) (λi i1 i2=>?_) h:wpS _ _ _ _ (lp left key arr base n _ _) Q _)
   rcases g5 with g5 | g5
   ·omega
   ·exact up _ _ (by omega) i2 g5.2
  case a=>
   rintro x c st' _ hx ⟨rfl,l,o,rfl,g1,g2,g3,g4⟩
   dsimp only
   by_cases c:o >= n - hint
   ·rw[if_pos c]
    exact Vj ⟨rfl,l,o,rfl,g1,g2,g4,.inl c⟩
   ·rw[if_neg c]
    refine Vg (cV hk hkey hb ha (by omega) ?_)
    cases q':gp left key arr base (hint+o)
    ·exact Vj ⟨rfl,l,o,rfl,g1,g2,g4,.inr ⟨by omega,q'⟩⟩
    ·exact Vj ⟨rfl,o,2 * o+1,rfl,by omega,by omega,by omega,q'⟩
end
section
variable {α:Type} {f:α->Int} {A B:List α}
structure Mg(f:α->Int)(A B out:List α)(ia ib:Nat):Prop where
 pm:out.Perm (A.take ia++B.take ib)
 so:out.Pairwise (f · <=f ·)
 la:∀p∈out,∀q∈A.drop ia,f p<=f q
 lb:∀p∈out,∀q∈B.drop ib,f p<=f q
theorem Mg.swap{out:List α}{ia ib:Nat}(h:Mg f A B out ia ib):Mg f B A out ib ia:=⟨h.pm.trans gA,h.so,h.lb,h.la⟩
theorem Mg.iB{out:List α}{ia ib:Nat}(h:Mg f A B out ia ib)(sa:A.Pairwise (f · <=f ·))(k:Nat)(hk:∀p∈(A.drop ia).take k,∀q∈B.drop ib,f p<=f q):Mg f A B (out++(A.drop ia).take k) (ia+k) ib:=by
 have sd:((A.drop ia).take k++(A.drop ia).drop k).Pairwise (f · <=f ·):=by rw[br];exact sa.sublist (eI _ _)
 rw[bu] at sd
 have e:A.take (ia+k)=A.take ia++(A.drop ia).take k:=List.take_add
 have mT:∀p∈(A.drop ia).take k,p∈A.drop ia:=λp hp=>(dm _ _).mem hp
 have mD:∀p∈(A.drop ia).drop k,p∈A.drop ia:=λp hp=>(eI _ _).mem hp
 refine⟨?_,?_,?_,?_⟩
 ·rw[e]
  refine(h.pm.append_right _).trans ?_
  rw[bp,bp]
  exact List.perm_append_comm.append_left _
 ·rw[bu]
  exact⟨h.so,sd.1,λp hp q hq=>h.la p hp q (mT q hq)⟩
 ·intro p hp q hq
  rw[<-List.drop_drop] at hq
  rcases List.mem_append.mp hp with z | z
  ·exact h.la p z q (mD q hq)
  ·exact sd.2.2 p z q hq
 ·intro p hp q hq
  rcases List.mem_append.mp hp with z | z
  ·exact h.lb p z q hq
  ·exact hk p z q hq
theorem Mg.og{out:List α}{ia ib:Nat}(h:Mg f A B out ia ib)(sb:B.Pairwise (f · <=f ·))(k:Nat)(hk:∀q∈(B.drop ib).take k,∀p∈A.drop ia,f q<=f p):Mg f A B (out++(B.drop ib).take k) ia (ib+k) :=
 (h.swap.iB sb k hk).swap
theorem Mg.g_{out:List α}{ia ib:Nat}{p:α}(h:Mg f A B out ia ib)(sa:A.Pairwise (f · <=f ·))(e:A[ia]? =some p)(hk:∀q∈B.drop ib,f p<=f q):Mg f A B (out++[p]) (ia+1) ib:=by
 have t1:(A.drop ia).take 1=[p]:=by
  have:=(List.getElem?_eq_some_iff.mp e)
  obtain⟨lt,rfl⟩:=this
  rw[ji lt]
  rfl
 have:=h.iB sa 1 (by rw[t1];intro q hq;rw[List.mem_singleton.mp hq];exact hk)
 rw[t1] at this
 exact this
theorem Mg.jo{out:List α}{ia ib:Nat}{p:α}(h:Mg f A B out ia ib)(sb:B.Pairwise (f · <=f ·))(e:B[ib]? =some p)(hk:∀q∈A.drop ia,f p<=f q):Mg f A B (out++[p]) ia (ib+1) :=
 (h.swap.g_ sb e hk).swap
theorem Mg.fin{out:List α}{ia ib:Nat}(h:Mg f A B out ia ib)(sa:A.Pairwise (f · <=f ·))(sb:B.Pairwise (f · <=f ·))(hk:∀p∈A.drop ia,∀q∈B.drop ib,f p<=f q):(out++A.drop ia++B.drop ib).Perm (A++B)/\(out++A.drop ia++B.drop ib).Pairwise (f · <=f ·):=by
 have tA:(A.drop ia).take A.length=A.drop ia:=bO (by rw[bL];exact iC _ _)
 have tB:(B.drop ib).take B.length=B.drop ib:=bO (by rw[bL];exact iC _ _)
 have h1:=h.iB sa A.length (by rw[tA];exact hk)
 have nA:A.drop (ia+A.length)=[]:=eJ (by exact dW _ _)
 have h2:=h1.og sb B.length (by rw[nA];intro _ _ _ z;cases z)
 rw[tA,tB] at h2
 have k1:A.take (ia+A.length)=A:=bO (by exact dW _ _)
 have k2:B.take (ib+B.length)=B:=bO (by exact dW _ _)
 have pm:=h2.pm
 rw[k1,k2] at pm
 exact⟨pm,h2.so⟩
theorem Mg.vp{out:List α}{ia ib:Nat}(h:Mg f A B out ia ib)(sa:A.Pairwise (f · <=f ·))(sb:B.Pairwise (f · <=f ·))(hk:∀q∈B.drop ib,∀p∈A.drop ia,f q<=f p):(out++B.drop ib++A.drop ia).Perm (A++B)/\(out++B.drop ib++A.drop ia).Pairwise (f · <=f ·):=by
 obtain⟨h1,h2⟩:=h.swap.fin sb sa hk
 exact⟨h1.trans gA,h2⟩
end
section
variable [Od]
abbrev fG(st:Ve)(g:Nat):Ve:=ao (kindOf st) (arrOf st) (pendingOf st) g (failedOf st)
def Up(l:List Vd):Prop:=l.Pairwise (kn · <=kn ·)
def Fin'(a b:List Vd)(r:Array Vd):Prop:=r.toList.Perm (a++b)/\Up r.toList
theorem ax{a:Array Vd}{i:Nat}{p:Vd}(e:a[i]? =some p):K a i=kn p:=by unfold K;rw[e]
theorem at_of{a:Array Vd}{i:Nat}(h:i < a.size):∃p,a[i]? =some p/\a.toList[i]? =some p/\p∈a.toList:=⟨a[i],jm h,by simp[h],by simp⟩
theorem aJ{a:Array Vd}{i:Nat}{p:Vd}(h:p∈a.toList.drop i):∃j,i<=j/\j < a.size/\a[j]? =some p:=by
 obtain⟨j,e⟩:=cu h
 rw[eK] at e
 have lt:=(List.getElem?_eq_some_iff.mp e).1
 exact⟨i+j,by exact aQ _ _,by simpa using lt,by rw[<-fc];exact e⟩
theorem iD{a:Array Vd}{i k:Nat}{p:Vd}(h:p∈(a.toList.drop i).take k):∃j,j < k/\i+j < a.size/\a[i+j]? =some p:=by
 obtain⟨j,e⟩:=cu h
 have lk:j < k:=by
  have:=(List.getElem?_eq_some_iff.mp e).1
  rw[aD] at this
  omega
 rw[cL lk,eK] at e
 have lt:=(List.getElem?_eq_some_iff.mp e).1
 exact⟨j,lk,by simpa using lt,by rw[<-fc];exact e⟩
theorem fi{a:Array Vd}(h:Up a.toList){i j:Nat}(hij:i<=j)(hj:j < a.size):K a i<=K a j:=by
 obtain⟨p,e1,e2,_⟩:=at_of (lq hij hj)
 obtain⟨q,e3,e4,_⟩:=at_of hj
 rw[ax e1,ax e3]
 by_cases c:i=j
 ·subst c
  rw[e1] at e3
  cases e3
  exact cw _
 ·have l1:=List.getElem?_eq_some_iff.mp e2
  have l2:=List.getElem?_eq_some_iff.mp e4
  obtain⟨x1,rfl⟩:=l1
  obtain⟨x2,rfl⟩:=l2
  exact List.pairwise_iff_getElem.mp h i j x1 x2 (by exact bP ‹_› ‹_›)
theorem fH{a:Array Vd}(i:Nat):(a.extract i a.size).toList=a.toList.drop i:=by
 rw[gN,gO]
 exact bO (by rw[bL];simp)
theorem lu{a:Array Vd}(i k:Nat):(a.extract i (i+k)).toList=(a.toList.drop i).take k:=by
 rw[gN,gO,fI]
section
variable [Od] {prog:UR} {w:UU} {A:UO} {E:UT->US->Prop} {s:US} [Oa prog w A E s]
structure Lo(a b out:Array Vd)(ia ib:Nat):Prop where
 mg:Mg kn a.toList b.toList out.toList ia ib
 ha:ia+1 < a.size
 hb:ib < b.size
structure Ii(a b:Array Vd):Prop where
 ka:∀p∈a.toList,Ik p
 kb:∀p∈b.toList,Ik p
 sa:Up a.toList
 sb:Up b.toList
 last:∀j,j < b.size->K b j<=K a (a.size - 1)
theorem dX{a b out:Array Vd}{ia ib:Nat}(H:Ii a b)(m:Mg kn a.toList b.toList out.toList ia ib)(h:∀p∈a.toList.drop ia,∀q∈b.toList.drop ib,kn p<=kn q):Fin' a.toList b.toList (out++a.extract ia a.size++b.extract ib b.size):=by
 unfold Fin' Up
 rw[bH,bH,fH,fH]
 exact m.fin H.sa H.sb h
theorem fJ{a b out:Array Vd}{ia ib:Nat}(H:Ii a b)(m:Mg kn a.toList b.toList out.toList ia ib)(h:ia+1=a.size):Fin' a.toList b.toList (out++b.extract ib b.size++a.extract ia a.size):=by
 unfold Fin' Up
 rw[bH,bH,fH,fH]
 refine m.vp H.sa H.sb λq hq p hp=>?_
 obtain⟨j,j1,j2,j3⟩:=aJ hp
 obtain⟨l,l1,l2,l3⟩:=aJ hq
 have:j=a.size - 1:=by omega
 rw[<-ax j3,<-ax l3,this]
 exact H.last l l2
theorem dY{b:Array Vd}{ib:Nat}(h:ib=b.size):∀q:Vd,q∉b.toList.drop ib:=λq hq=>by
 obtain⟨l,l1,l2,l3⟩:=aJ hq
 omega
abbrev Ot:=Option (Array Vd)×Array Vd×Nat×Nat×Nat×Nat×Nat
def oh(a b:Array Vd)(st:Ve)(n:Nat)(r:ForInStep Ot)(st':Ve):Prop :=
 (∃g,st'=fG st g)/\match r with
 | .done c=>(∃r t,c=(some r,t)/\Fin' a.toList b.toList r)\/∃out ia ib mg ac bc,c=(none,out,ia,ib,mg,ac,bc)/\n<=ia+ib/\Lo a b out ia ib
 | .yield c=>∃out ia ib mg ac bc,c=(none,out,ia,ib,mg,ac,bc)/\n<=ia+ib/\Lo a b out ia ib
theorem oh.fin{a b:Array Vd}{st:Ve}{n g:Nat}{r:Array Vd}{t:Array Vd×Nat×Nat×Nat×Nat×Nat}(h:Fin' a.toList b.toList r):oh a b st n (.done (some r,t)) (fG st g):=⟨⟨g,rfl⟩,.inl ⟨r,t,rfl,h⟩⟩
theorem kv{st:Ve}{a b:Array Vd}{Q:Array Vd->Ve->Prop}(H:Ii a b)(na:1<=a.size)(nb:1<=b.size)(hk:kindOf st=Kd)(first:∀i,i < a.size->K b 0<=K a i)
  (h:∀r g,Fin' a.toList b.toList r->Q r (fG st g)):wpS (model prog w) A E s (n_ a b) Q st:=by
 refine Vg (wpS_lift (wpAny_rule ⟨rfl,?_⟩))
 obtain⟨b0,Ew,Ij,Su⟩:=at_of (a:=b) (i:=0) (by assumption)
 refine Vg (ar Ew ?_)
 dsimp -zeta only
 extract_lets out ia ib
 have m0:Mg kn a.toList b.toList out.toList 0 1:=by
  have z:Mg kn a.toList b.toList ([]:List Vd) 0 0:=⟨by simp,.nil,(λ_ z=>by cases z),(λ_ z=>by cases z)⟩
  refine z.jo H.sb Ij λq hq=>?_
  obtain⟨l,l1,l2,l3⟩:=aJ hq
  rw[<-ax Ew,<-ax l3]
  exact first l l2
 clear_value out
 subst ia ib
 by_cases c1:1=b.size
 ·rw[if_pos (by rw[<-c1];rfl)]
  exact Vj (h _ _ (dX H m0 λ_ _ q hq=>(dY c1 q hq).elim))
 rw[if_neg (by simpa using c1)]
 by_cases c2:0+1=a.size
 ·rw[if_pos (by rw[<-c2];rfl)]
  exact Vj (h _ _ (fJ H m0 c2))
 rw[if_neg (by simpa using c2)]
 refine Vg (wpS_get ?_)
 refine Vg (Vi (Vh (I:=λx c st'=>(∃g,st'=fG st g)/\∃out ia ib mg,c=(none,out,ia,ib,mg)/\x+1<=ia+ib/\Lo a b out ia ib)
  (Q:=λc st'=>(∃g,st'=fG st g)/\∃r t,c=(some r,t)/\Fin' a.toList b.toList r) ?a ?b ?c) ?d)
 case c=>exact⟨⟨_,rfl⟩,out,0,1,_,rfl,by exact ai _,m0,by exact bP ‹_› ‹_›,by exact bP ‹_› ‹_›⟩
 case d=>
  rintro c st' ⟨⟨g,rfl⟩,r,t,rfl,hf⟩
  exact Vj (h _ _ hf)
 case b=>
  rintro c st' ⟨_,out,ia,ib,mg,_,h1,h2,h3,h4⟩
  omega
 case a=>
  rintro x c st' _ hx ⟨⟨g,rfl⟩,out,Il,Im,mg,rfl,h1,L0⟩
  dsimp -zeta only
  refine Vg (Vi (Vh (I:=λx c st'=>st'=fG st g/\∃out ia ib ac bc,c=(none,out,ia,ib,ac,bc)/\Il+Im+x<=ia+ib/\Lo a b out ia ib)
   (Q:=λc st'=>st'=fG st g/\((∃r t,c=(some r,t)/\Fin' a.toList b.toList r)\/∃out ia ib ac bc,c=(none,out,ia,ib,ac,bc)/\Il+Im+1<=ia+ib/\Lo a b out ia ib)) ?e ?f ?g) ?i)
  case g=>exact⟨rfl,out,Il,Im,0,0,rfl,by exact ai _,L0⟩
  case f=>
   rintro c st' ⟨rfl,out,ia,ib,ac,bc,rfl,h1,L⟩
   have:=L.ha
   have:=L.hb
   exact⟨rfl,.inr ⟨out,ia,ib,ac,bc,rfl,by omega,L⟩⟩
  case e=>
   rintro x c st' _ hx ⟨rfl,out,ia,ib,ac,bc,rfl,h1,L⟩
   dsimp only
   obtain⟨p,ep,qx,mp⟩:=at_of (a:=a) (i:=ia) (by have:=L.ha;exact bq ‹_›)
   obtain⟨q,eq,eq',mq⟩:=at_of (a:=b) (i:=ib) L.hb
   refine Vg (ar eq (Vg (ar ep (Vg (jl (x:=q) (y:=p) hk (H.kb _ mq) (H.ka _ mp) ?_)))))
   by_cases lt:kn q < kn p
   ·rw[decide_eq_true lt]
    dsimp only
    rw[if_pos rfl]
    refine Vg (ar eq ?_)
    have m':Mg kn a.toList b.toList (out.push q).toList ia (ib+1):=by
     rw[f_]
     refine L.mg.jo H.sb eq' λy hy=>?_
     obtain⟨l,l1,l2,l3⟩:=aJ hy
     have:=fi H.sa l1 l2
     rw[ax ep,ax l3] at this
     omega
    by_cases c3:ib+1=b.size
    ·rw[if_pos (by rw[<-c3];simp)]
     exact Vj ⟨rfl,.inl ⟨_,_,rfl,dX H m' λ_ _ y hy=>(dY c3 y hy).elim⟩⟩
    ·rw[if_neg (by simpa using c3)]
     have L':Lo a b (out.push q) ia (ib+1):=⟨m',L.ha,by have:=L.hb;exact bP ‹_› ‹_›⟩
     by_cases c4:bc+1 >= mg
     ·rw[if_pos c4]
      exact Vj ⟨rfl,.inr ⟨_,_,_,_,_,rfl,by omega,L'⟩⟩
     ·rw[if_neg c4]
      exact Vj ⟨rfl,_,_,_,_,_,rfl,by exact ij ‹_›,L'⟩
   ·rw[decide_eq_false lt]
    dsimp only
    rw[if_neg (by decide)]
    refine Vg (ar ep ?_)
    have m':Mg kn a.toList b.toList (out.push p).toList (ia+1) ib:=by
     rw[f_]
     refine L.mg.g_ H.sa qx λy hy=>?_
     obtain⟨l,l1,l2,l3⟩:=aJ hy
     have:=fi H.sb l1 l2
     rw[ax eq,ax l3] at this
     omega
    by_cases c3:ia+1+1=a.size
    ·rw[if_pos (by rw[<-c3];simp)]
     exact Vj ⟨rfl,.inl ⟨_,_,rfl,fJ H m' c3⟩⟩
    ·rw[if_neg (by simpa using c3)]
     have L':Lo a b (out.push p) (ia+1) ib:=⟨m',by have:=L.ha;exact bP ‹_› ‹_›,L.hb⟩
     by_cases c4:ac+1 >= mg
     ·rw[if_pos c4]
      exact Vj ⟨rfl,.inr ⟨_,_,_,_,_,rfl,by omega,L'⟩⟩
     ·rw[if_neg c4]
      exact Vj ⟨rfl,_,_,_,_,_,rfl,by omega,L'⟩
  case i=>
   rintro c st' ⟨rfl,⟨r,⟨o,i1,i2,i3,i4⟩,rfl,hf⟩ | ⟨out,kx,kz,ac,bc,rfl,h2,L0⟩⟩
   ·exact Vj ⟨⟨g,rfl⟩,r,_,rfl,hf⟩
   dsimp -zeta only
   refine Vg (wpS_lift (wpAny_rule ⟨rfl,?_⟩))
   refine Vg (Vi (Vh (I:=λx c st'=>(∃g,st'=fG st g)/\∃out ia ib mg ac bc,c=(none,out,ia,ib,mg,ac,bc)/\kx+kz<=ia+ib/\Lo a b out ia ib)
    (Q:=λc st'=>(∃g,st'=fG st g)/\((∃r t,c=(some r,t)/\Fin' a.toList b.toList r)\/∃out ia ib mg ac bc,c=(none,out,ia,ib,mg,ac,bc)/\kx+kz<=ia+ib/\Lo a b out ia ib)) ?j ?k ?l) ?m)
   case l=>exact⟨⟨_,rfl⟩,out,kx,kz,_,ac,bc,rfl,by exact ai _,L0⟩
   case k=>
    rintro c st' ⟨hg,out,ia,ib,mg,ac,bc,rfl,h1,L⟩
    exact⟨hg,.inr ⟨out,ia,ib,mg,ac,bc,rfl,by assumption,L⟩⟩
   case m=>
    rintro c st' ⟨⟨g,rfl⟩,⟨r,⟨o,i1,i2,i3,i4,i5⟩,rfl,hf⟩ | ⟨out,ia,ib,mg,ac,bc,rfl,h3,L⟩⟩
    ·exact Vj ⟨⟨g,rfl⟩,r,_,rfl,hf⟩
    ·dsimp only
     exact Vg (wpS_modify (Vj ⟨⟨_,rfl⟩,_,_,_,_,rfl,by omega,L⟩))
   case j=>
    rintro x c st' _ hx ⟨⟨g,rfl⟩,out,ia,ib,mg,ac,bc,rfl,h1,L⟩
    refine Vi (Q:=oh a b st (kx+kz)) ?_ λr st' h=>by cases r<;>exact h
    have Sv:=L.ha
    have hib:=L.hb
    obtain⟨q,eq,eq',mq⟩:=at_of (a:=b) (i:=ib) hib
    dsimp -zeta only
    extract_lets z1 z2 z3 z4 z5 z6 z7 z8 z9 A8 Io Ip jp Iq
    subst Iq Ip Io A8 z9 z8 z7 z6 z5 z4 z3 z2 z1
    have key:∀m g,wpS (model prog w) A E s (jp () m) (oh a b st (kx+kz)) (fG st g):=by
     intro m g
     dsimp -zeta only[jp]
     refine Vg (wpS_modify ?_)
     refine Vg (ar eq ?_)
     refine Vg (bD hk (H.kb _ mq) (by omega) H.ka (by omega) (λi j h1 h2=>fi H.sa (by omega) (by omega)) λk k1 k2 k3=>?_)
     dsimp -zeta only
     clear jp
     extract_lets ac' jp o1 o2
     subst o2 o1 ac'
     have key:∀out' lY,ia+ib<=lY+ib->Mg kn a.toList b.toList out'.toList lY ib->lY+1 < a.size->(∀p∈a.toList.drop lY,kn q<=kn p)->wpS (model prog w) A E s (jp () out' lY) (oh a b st (kx+kz)) (fG st m):=by
      intro out' lY hs m1 Ou hq
      dsimp -zeta only[jp]
      refine Vg (ar eq ?_)
      have m2:Mg kn a.toList b.toList (out'.push q).toList lY (ib+1):=by
       rw[f_]
       exact m1.jo H.sb eq' hq
      by_cases c3:ib+1=b.size
      ·rw[if_pos (by rw[<-c3];simp)]
       exact Vj (oh.fin (dX H m2 λ_ _ y hy=>(dY c3 y hy).elim))
      rw[if_neg (by simpa using c3)]
      obtain⟨p,ep,qx,mp⟩:=at_of (a:=a) (i:=lY) (by exact bq ‹_›)
      refine Vg (ar ep ?_)
      refine Vg (bD hk (H.ka _ mp) (by omega) H.kb (by omega) (λi j h1 h2=>fi H.sb (by omega) (by omega)) λk k1 k2 k3=>?_)
      dsimp -zeta only
      clear jp
      extract_lets Ir Ov jp o1 o2
      subst o2 o1 Ov Ir
      have key:∀f' tL,ib+1<=tL->Mg kn a.toList b.toList f'.toList lY tL->tL < b.size->(∀y∈b.toList.drop tL,kn p<=kn y)->wpS (model prog w) A E s (jp () f' tL) (oh a b st (kx+kz)) (fG st m):=by
       intro f' tL hs' m3 Iu hp
       dsimp -zeta only[jp]
       refine Vg (ar ep ?_)
       have m4:Mg kn a.toList b.toList (f'.push p).toList (lY+1) tL:=by
        rw[f_]
        exact m3.g_ H.sa qx hp
       by_cases c4:lY+1+1=a.size
       ·rw[if_pos (by rw[<-c4];simp)]
        exact Vj (oh.fin (fJ H m4 c4))
       rw[if_neg (by simpa using c4)]
       have L':Lo a b (f'.push p) (lY+1) tL:=⟨m4,by exact bP ‹_› ‹_›,Iu⟩
       split
       ·exact Vj ⟨⟨m,rfl⟩,.inr ⟨_,_,_,_,_,_,rfl,by omega,L'⟩⟩
       ·exact Vj ⟨⟨m,rfl⟩,_,_,_,_,_,_,rfl,by omega,L'⟩
      by_cases c5:k > 0
      ·rw[if_pos c5]
       have m3:Mg kn a.toList b.toList (out'.push q++b.extract (ib+1) (ib+1+k)).toList lY (ib+1+k):=by
        rw[bH,lu]
        refine m2.og H.sb k λy hy x hx=>?_
        obtain⟨j,j1,j2,j3⟩:=iD hy
        obtain⟨l,l1,l2,l3⟩:=aJ hx
        have g1:=k2 j j1
        have g2:=fi H.sa l1 l2
        rw[ax ep,ax l3] at g2
        unfold gp at g1
        rw[if_pos rfl,ax j3] at g1
        have:=of_decide_eq_true g1
        omega
       by_cases c6:ib+1+k=b.size
       ·rw[if_pos (by rw[<-c6];simp)]
        exact Vj (oh.fin (dX H m3 λ_ _ y hy=>(dY c6 y hy).elim))
       ·rw[if_neg (by simpa using c6)]
        refine key _ _ (by exact aQ _ _) m3 (by omega) λy hy=>?_
        obtain⟨l,l1,l2,l3⟩:=aJ hy
        have g1:=k3 (l - (ib+1)) (by omega) (by omega)
        unfold gp at g1
        rw[if_pos rfl,show ib+1+(l - (ib+1))=l by omega,ax l3] at g1
        have:=of_decide_eq_false g1
        exact Int.not_lt.mp ‹_›
      ·rw[if_neg c5]
       refine key _ _ (by exact ai _) m2 (by exact bP ‹_› ‹_›) λy hy=>?_
       obtain⟨l,l1,l2,l3⟩:=aJ hy
       have g1:=k3 (l - (ib+1)) (by omega) (by omega)
       unfold gp at g1
       rw[if_pos rfl,show ib+1+(l - (ib+1))=l by omega,ax l3] at g1
       have:=of_decide_eq_false g1
       exact Int.not_lt.mp ‹_›
     have after:∀p∈a.toList.drop (ia+k),kn q<=kn p:=λp hp=>by
      obtain⟨l,l1,l2,l3⟩:=aJ hp
      have g1:=k3 (l - ia) (by omega) (by omega)
      unfold gp at g1
      rw[if_neg (by decide),show ia+(l - ia)=l by omega,ax l3] at g1
      have:kn q < kn p:=by simpa using g1
      exact dI ‹_›
     by_cases c5:k > 0
     ·rw[if_pos c5]
      have m3:Mg kn a.toList b.toList (out++a.extract ia (ia+k)).toList (ia+k) ib:=by
       rw[bH,lu]
       refine L.mg.iB H.sa k λy hy x hx=>?_
       obtain⟨j,j1,j2,j3⟩:=iD hy
       obtain⟨l,l1,l2,l3⟩:=aJ hx
       have g1:=k2 j j1
       have g2:=fi H.sb l1 l2
       rw[ax eq,ax l3] at g2
       unfold gp at g1
       rw[if_neg (by decide),ax j3] at g1
       have:¬kn q < kn y:=by simpa using g1
       omega
      by_cases c6:ia+k+1=a.size
      ·rw[if_pos (by rw[<-c6];simp)]
       exact Vj (oh.fin (fJ H m3 c6))
      rw[if_neg (by simpa using c6)]
      by_cases c7:ia+k=a.size
      ·rw[if_pos (by rw[<-c7];simp)]
       exact Vj (oh.fin (dX H m3 λy hy=>(dY c7 y hy).elim))
      ·rw[if_neg (by simpa using c7)]
       exact key _ _ (by omega) m3 (by omega) after
     ·rw[if_neg c5]
      have:k=0:=by omega
      subst this
      exact key _ _ (by exact ai _) L.mg (by assumption) after
    split<;>exact key _ _
end
section
variable {α:Type} {f:α->Int} {A B:List α}
structure Mh(f:α->Int)(A B R:List α)(na nb:Nat):Prop where
 pm:R.Perm (A.drop na++B.drop nb)
 so:R.Pairwise (f · <=f ·)
 la:∀q∈A.take na,∀p∈R,f q<=f p
 lb:∀q∈B.take nb,∀p∈R,f q<=f p
theorem Mh.swap{R:List α}{na nb:Nat}(h:Mh f A B R na nb):Mh f B A R nb na:=⟨h.pm.trans gA,h.so,h.lb,h.la⟩
theorem take_take{i n:Nat}(h:i<=n):A.take n=A.take i++(A.take n).drop i:=by
 have:=br i (A.take n)
 rw[List.take_take,iE h] at this
 exact this.symm
theorem drop_take{i n:Nat}(h:i<=n):A.drop i=(A.take n).drop i++A.drop n:=by
 have h1:=br n A
 have h2:=congrArg (List.drop i) h1
 rw[kA] at h2
 rw[<-h2]
 by_cases c:n<=A.length
 ·rw[aD,iE c,Ex h,cK]
 ·rw[eJ (show A.length<=n by exact Nat.le_of_not_le ‹_›),List.drop_nil]
theorem Mh.iB{R:List α}{na nb:Nat}(h:Mh f A B R na nb)(sa:A.Pairwise (f · <=f ·))(k:Nat)(k1:k<=na)(hk:∀p∈(A.take na).drop k,∀q∈B.take nb,f q<=f p):Mh f A B ((A.take na).drop k++R) k nb:=by
 have e:=take_take (A:=A) k1
 have st:(A.take na).Pairwise (f · <=f ·):=sa.sublist (dm _ _)
 rw[e,bu] at st
 have mT:∀p∈(A.take na).drop k,p∈A.take na:=λp hp=>(eI _ _).mem hp
 have mD:∀p∈A.take k,p∈A.take na:=λp hp=>by rw[e];exact fz _ hp
 refine⟨?_,?_,?_,?_⟩
 ·rw[drop_take (A:=A) k1,bp]
  exact h.pm.append_left _
 ·rw[bu]
  exact⟨st.2.1,h.so,λp hp q hq=>h.la p (mT p hp) q hq⟩
 ·intro q hq p hp
  rcases List.mem_append.mp hp with z | z
  ·exact st.2.2 q hq p z
  ·exact h.la q (mD q hq) p z
 ·intro q hq p hp
  rcases List.mem_append.mp hp with z | z
  ·exact hk p z q hq
  ·exact h.lb q hq p z
theorem Mh.og{R:List α}{na nb:Nat}(h:Mh f A B R na nb)(sb:B.Pairwise (f · <=f ·))(k:Nat)(k1:k<=nb)(hk:∀p∈(B.take nb).drop k,∀q∈A.take na,f q<=f p):Mh f A B ((B.take nb).drop k++R) na k :=
 (h.swap.iB sb k k1 hk).swap
theorem oi{n:Nat}{p:α}(e:A[n]? =some p):(A.take (n+1)).drop n=[p]:=by
 obtain⟨lt,rfl⟩:=List.getElem?_eq_some_iff.mp e
 rw[rf lt,kA,eJ (by rw[aD];exact Nat.min_le_left ..),aD,iE (by exact bq ‹_›),kU]
 rfl
theorem Mh.g_{R:List α}{na nb:Nat}{p:α}(h:Mh f A B R (na+1) nb)(sa:A.Pairwise (f · <=f ·))(e:A[na]? =some p)(hk:∀q∈B.take nb,f q<=f p):Mh f A B (p::R) na nb:=by
 have t1:=oi e
 have:=h.iB sa na (by exact fD _) (by rw[t1];intro q hq;rw[List.mem_singleton.mp hq];exact hk)
 rw[t1] at this
 exact this
theorem Mh.jo{R:List α}{na nb:Nat}{p:α}(h:Mh f A B R na (nb+1))(sb:B.Pairwise (f · <=f ·))(e:B[nb]? =some p)(hk:∀q∈A.take na,f q<=f p):Mh f A B (p::R) na nb :=
 (h.swap.g_ sb e hk).swap
theorem Mh.fin{R:List α}{na nb:Nat}(h:Mh f A B R na nb)(sa:A.Pairwise (f · <=f ·))(sb:B.Pairwise (f · <=f ·))(hk:∀p∈B.take nb,∀q∈A.take na,f q<=f p):(A.take na++B.take nb++R).Perm (A++B)/\(A.take na++B.take nb++R).Pairwise (f · <=f ·):=by
 have h1:=h.og sb 0 (aA _) (by rw[cK];exact hk)
 have h2:=h1.iB sa 0 (aA _) (by intro _ _ _ z;cases z)
 have pm:=h2.pm
 have so:=h2.so
 rw[cK,cK,<-bp] at so
 rw[cK,cK,cK,cK,<-bp] at pm
 exact⟨pm,so⟩
theorem Mh.vp{R:List α}{na nb:Nat}(h:Mh f A B R na nb)(sa:A.Pairwise (f · <=f ·))(sb:B.Pairwise (f · <=f ·))(hk:∀p∈A.take na,∀q∈B.take nb,f q<=f p):(B.take nb++A.take na++R).Perm (A++B)/\(B.take nb++A.take na++R).Pairwise (f · <=f ·):=by
 obtain⟨h1,h2⟩:=h.swap.fin sb sa hk
 exact⟨h1.trans gA,h2⟩
end
theorem a8{a:Array Vd}{n:Nat}{p:Vd}(h:p∈a.toList.take n):∃j,j < n/\j < a.size/\a[j]? =some p:=by
 have:=iD (a:=a) (i:=0) (k:=n) (p:=p) h
 obtain⟨j,h1,h2,h3⟩:=this
 rw[bw] at h2 h3
 exact⟨j,h1,h2,h3⟩
theorem mem_mid{a:Array Vd}{i n:Nat}{p:Vd}(h:p∈(a.toList.take n).drop i):∃j,i<=j/\j < n/\j < a.size/\a[j]? =some p:=by
 obtain⟨j,e⟩:=cu h
 rw[eK] at e
 have lt:=(List.getElem?_eq_some_iff.mp e).1
 rw[aD] at lt
 rw[cL (by omega)] at e
 have:a.toList.length=a.size:=rfl
 exact⟨i+j,by exact aQ _ _,by omega,by omega,by rw[<-fc];exact e⟩
theorem cW{a:Array Vd}(n:Nat):(a.extract 0 n).toList=a.toList.take n:=by
 rw[gN,gO]
 rfl
theorem iF{a:Array Vd}(i n:Nat):(a.extract i n).toList=(a.toList.take n).drop i:=by
 rw[gN,gO,vq]
structure vr(a b:Array Vd):Prop where
 ka:∀p∈a.toList,Ik p
 kb:∀p∈b.toList,Ik p
 sa:Up a.toList
 sb:Up b.toList
 first:∀i,i < a.size->K b 0<=K a i
abbrev fj(a b out:Array Vd)(na nb:Nat):Prop:=Mh kn a.toList b.toList out.toList.reverse na nb
theorem dZ{a b out:Array Vd}{na nb:Nat}(H:vr a b)(m:fj a b out na nb)(h:∀p∈b.toList.take nb,∀q∈a.toList.take na,kn q<=kn p):Fin' a.toList b.toList (a.extract 0 na++b.extract 0 nb++out.reverse):=by
 unfold Fin' Up
 rw[bH,bH,cW,cW,kC]
 exact m.fin H.sa H.sb h
theorem d_{a b out:Array Vd}{na:Nat}(H:vr a b)(m:fj a b out na 1):Fin' a.toList b.toList (b.extract 0 1++a.extract 0 na++out.reverse):=by
 unfold Fin' Up
 rw[bH,bH,cW,cW,kC]
 refine m.vp H.sa H.sb λp hp q hq=>?_
 obtain⟨j,j1,j2,j3⟩:=a8 hp
 obtain⟨l,l1,l2,l3⟩:=a8 hq
 have:l=0:=by omega
 rw[<-ax j3,<-ax l3,this]
 exact H.first j j2
theorem gf{a b out:Array Vd}{na nb:Nat}{p:Vd}(H:vr a b)(m:fj a b out (na+1) nb)(e:a.toList[na]? =some p)(hk:∀q∈b.toList.take nb,kn q<=kn p):fj a b (out.push p) na nb:=by
 unfold fj
 rw[f_,fK]
 exact m.g_ H.sa e hk
theorem jq{a b out:Array Vd}{na nb:Nat}{p:Vd}(H:vr a b)(m:fj a b out na (nb+1))(e:b.toList[nb]? =some p)(hk:∀q∈a.toList.take na,kn q<=kn p):fj a b (out.push p) na nb:=by
 unfold fj
 rw[f_,fK]
 exact m.jo H.sb e hk
theorem rh{a b out:Array Vd}{na nb:Nat}(H:vr a b)(m:fj a b out na nb)(k:Nat)(k1:k<=na)(hk:∀p∈(a.toList.take na).drop k,∀q∈b.toList.take nb,kn q<=kn p):fj a b (out++(a.extract k na).reverse) k nb:=by
 unfold fj
 rw[bH,kC,fK,rj,iF]
 exact m.iB H.sa k k1 hk
theorem rk{a b out:Array Vd}{na nb:Nat}(H:vr a b)(m:fj a b out na nb)(k:Nat)(k1:k<=nb)(hk:∀p∈(b.toList.take nb).drop k,∀q∈a.toList.take na,kn q<=kn p):fj a b (out++(b.extract k nb).reverse) na k:=by
 unfold fj
 rw[bH,kC,fK,rj,iF]
 exact m.og H.sb k k1 hk
structure Hi(a b out:Array Vd)(na nb:Nat):Prop where
 mg:fj a b out na nb
 a0:1<=na
 a1:na<=a.size
 b0:2<=nb
 b1:nb<=b.size
section
variable [Od] {prog:UR} {w:UU} {A:UO} {E:UT->US->Prop} {s:US} [Oa prog w A E s]
abbrev Ow:=Option (Array Vd)×Nat×Nat×Array Vd×Nat×Nat×Nat
def oj(a b:Array Vd)(st:Ve)(n:Nat)(r:ForInStep Ow)(st':Ve):Prop :=
 (∃g,st'=fG st g)/\match r with
 | .done c=>(∃r t,c=(some r,t)/\Fin' a.toList b.toList r)\/∃na nb out mg ac bc,c=(none,na,nb,out,mg,ac,bc)/\na+nb<=n/\Hi a b out na nb
 | .yield c=>∃na nb out mg ac bc,c=(none,na,nb,out,mg,ac,bc)/\na+nb<=n/\Hi a b out na nb
theorem oj.fin{a b:Array Vd}{st:Ve}{n g:Nat}{r:Array Vd}{t:Nat×Nat×Array Vd×Nat×Nat×Nat}(h:Fin' a.toList b.toList r):oj a b st n (.done (some r,t)) (fG st g):=⟨⟨g,rfl⟩,.inl ⟨r,t,rfl,h⟩⟩
theorem eh{b:Array Vd}:∀q:Vd,q∉b.toList.take 0:=λq hq=>by cases hq
theorem kD{st:Ve}{a b:Array Vd}{Q:Array Vd->Ve->Prop}(H:vr a b)(tM:1<=a.size)(tN:1<=b.size)(hk:kindOf st=Kd)(last:∀j,j < b.size->K b j<=K a (a.size - 1))
  (h:∀r g,Fin' a.toList b.toList r->Q r (fG st g)):wpS (model prog w) A E s (oa a b) Q st:=by
 refine Vg (wpS_lift (wpAny_rule ⟨rfl,?_⟩))
 obtain⟨a0,LQ,Iv,Sw⟩:=at_of (a:=a) (i:=a.size - 1) (by omega)
 refine Vg (ar LQ ?_)
 have m0:fj a b #[a0] (a.size - 1) b.size:=by
  have z:fj a b #[] (a.size - 1+1) b.size:=⟨by
   have l1:a.toList.length=a.size:=rfl
   have l2:b.toList.length=b.size:=rfl
   rw[eJ (by omega),eJ (by exact ai _)]
   exact .nil,.nil,(λ_ _ _ z=>by cases z),(λ_ _ _ z=>by cases z)⟩
  refine gf H z Iv λq hq=>?_
  obtain⟨l,l1,l2,l3⟩:=a8 hq
  rw[<-ax LQ,<-ax l3]
  exact last l l2
 dsimp -zeta only
 extract_lets out
 subst out
 by_cases c1:a.size - 1=0
 ·rw[if_pos (by rw[c1];rfl)]
  rw[c1] at m0 ⊢
  exact Vj (h _ _ (dZ H m0 λ_ _ q hq=>(eh q hq).elim))
 rw[if_neg (by simpa using c1)]
 by_cases c2:b.size=1
 ·rw[if_pos (by rw[c2];rfl)]
  rw[c2] at m0 ⊢
  exact Vj (h _ _ (d_ H m0))
 rw[if_neg (by simpa using c2)]
 refine Vg (wpS_get ?_)
 refine Vg (Vi (Vh (I:=λx c st'=>(∃g,st'=fG st g)/\∃na nb out mg,c=(none,na,nb,out,mg)/\na+nb+x+1<=a.size+b.size/\Hi a b out na nb)
  (Q:=λc st'=>(∃g,st'=fG st g)/\∃r t,c=(some r,t)/\Fin' a.toList b.toList r) ?a ?b ?c) ?d)
 case c=>exact⟨⟨_,rfl⟩,_,_,_,_,rfl,by omega,m0,by exact fL ‹_›,by exact iC _ _,by omega,by exact ai _⟩
 case d=>
  rintro c st' ⟨⟨g,rfl⟩,r,t,rfl,hf⟩
  exact Vj (h _ _ hf)
 case b=>
  rintro c st' ⟨_,na,nb,out,mg,_,h1,h2,h3,h4⟩
  omega
 case a=>
  rintro x c st' _ hx ⟨⟨g,rfl⟩,Iw,Iy,out,mg,rfl,h1,L0⟩
  dsimp -zeta only
  refine Vg (Vi (Vh (I:=λx c st'=>st'=fG st g/\∃na nb out ac bc,c=(none,na,nb,out,ac,bc)/\na+nb+x<=Iw+Iy/\Hi a b out na nb)
   (Q:=λc st'=>st'=fG st g/\((∃r t,c=(some r,t)/\Fin' a.toList b.toList r)\/∃na nb out ac bc,c=(none,na,nb,out,ac,bc)/\na+nb+1<=Iw+Iy/\Hi a b out na nb)) ?e ?f ?g) ?i)
  case g=>exact⟨rfl,Iw,Iy,out,0,0,rfl,by exact ai _,L0⟩
  case f=>
   rintro c st' ⟨rfl,na,nb,out,ac,bc,rfl,h1,L⟩
   have:=L.a0
   have:=L.b0
   exact⟨rfl,.inr ⟨na,nb,out,ac,bc,rfl,by omega,L⟩⟩
  case e=>
   rintro x c st' _ hx ⟨rfl,na,nb,out,ac,bc,rfl,h1,L⟩
   dsimp only
   have l1:=L.a0
   have l2:=L.a1
   have l3:=L.b0
   have l4:=L.b1
   obtain⟨n,rfl⟩:∃n,na=n+1:=⟨na - 1,by omega⟩
   obtain⟨m,rfl⟩:∃m,nb=m+1:=⟨nb - 1,by omega⟩
   rw[fM,fM]
   obtain⟨p,ep,qx,mp⟩:=at_of (a:=a) (i:=n) (by assumption)
   obtain⟨q,eq,eq',mq⟩:=at_of (a:=b) (i:=m) (by assumption)
   refine Vg (ar eq (Vg (ar ep (Vg (jl (x:=q) (y:=p) hk (H.kb _ mq) (H.ka _ mp) ?_)))))
   by_cases lt:kn q < kn p
   ·rw[decide_eq_true lt]
    dsimp only
    rw[if_pos rfl]
    refine Vg (ar ep ?_)
    have m':fj a b (out.push p) n (m+1):=gf H L.mg qx λy hy=>by
     obtain⟨l,l1,l2,l3⟩:=a8 hy
     have:=fi H.sb (show l<=m by exact cn ‹_›) (by assumption)
     rw[ax eq,ax l3] at this
     omega
    by_cases c3:n=0
    ·rw[if_pos (by rw[c3];rfl)]
     rw[c3] at m' ⊢
     exact Vj ⟨rfl,.inl ⟨_,_,rfl,dZ H m' λ_ _ y hy=>(eh y hy).elim⟩⟩
    ·rw[if_neg (by simpa using c3)]
     have L':Hi a b (out.push p) n (m+1):=⟨m',by exact fL ‹_›,by exact bq ‹_›,by assumption,by assumption⟩
     by_cases c4:ac+1 >= mg
     ·rw[if_pos c4]
      exact Vj ⟨rfl,.inr ⟨_,_,_,_,_,rfl,by omega,L'⟩⟩
     ·rw[if_neg c4]
      exact Vj ⟨rfl,_,_,_,_,_,rfl,by omega,L'⟩
   ·rw[decide_eq_false lt]
    dsimp only
    rw[if_neg (by decide)]
    refine Vg (ar eq ?_)
    have m':fj a b (out.push q) (n+1) m:=jq H L.mg eq' λy hy=>by
     obtain⟨l,l1,l2,l3⟩:=a8 hy
     have:=fi H.sa (show l<=n by exact cn ‹_›) (by assumption)
     rw[ax ep,ax l3] at this
     omega
    by_cases c3:m=1
    ·rw[if_pos (by rw[c3];rfl)]
     rw[c3] at m' ⊢
     exact Vj ⟨rfl,.inl ⟨_,_,rfl,d_ H m'⟩⟩
    ·rw[if_neg (by simpa using c3)]
     have L':Hi a b (out.push q) (n+1) m:=⟨m',by assumption,by assumption,by omega,by exact bq ‹_›⟩
     by_cases c4:bc+1 >= mg
     ·rw[if_pos c4]
      exact Vj ⟨rfl,.inr ⟨_,_,_,_,_,rfl,by omega,L'⟩⟩
     ·rw[if_neg c4]
      exact Vj ⟨rfl,_,_,_,_,_,rfl,by omega,L'⟩
  case i=>
   rintro c st' ⟨rfl,⟨r,⟨o,i1,i2,i3,i4⟩,rfl,hf⟩ | ⟨tM,tN,out,ac,bc,rfl,h2,L0⟩⟩
   ·exact Vj ⟨⟨g,rfl⟩,r,_,rfl,hf⟩
   dsimp -zeta only
   refine Vg (wpS_lift (wpAny_rule ⟨rfl,?_⟩))
   refine Vg (Vi (Vh (I:=λx c st'=>(∃g,st'=fG st g)/\∃na nb out mg ac bc,c=(none,na,nb,out,mg,ac,bc)/\na+nb<=tM+tN/\Hi a b out na nb)
    (Q:=λc st'=>(∃g,st'=fG st g)/\((∃r t,c=(some r,t)/\Fin' a.toList b.toList r)\/∃na nb out mg ac bc,c=(none,na,nb,out,mg,ac,bc)/\na+nb<=tM+tN/\Hi a b out na nb)) ?j ?k ?l) ?mm)
   case l=>exact⟨⟨_,rfl⟩,tM,tN,out,_,ac,bc,rfl,by exact ai _,L0⟩
   case k=>
    rintro c st' ⟨hg,na,nb,out,mg,ac,bc,rfl,h1,L⟩
    exact⟨hg,.inr ⟨na,nb,out,mg,ac,bc,rfl,by assumption,L⟩⟩
   case mm=>
    rintro c st' ⟨⟨g,rfl⟩,⟨r,⟨o,i1,i2,i3,i4,i5⟩,rfl,hf⟩ | ⟨na,nb,out,mg,ac,bc,rfl,h3,L⟩⟩
    ·exact Vj ⟨⟨g,rfl⟩,r,_,rfl,hf⟩
    ·dsimp only
     exact Vg (wpS_modify (Vj ⟨⟨_,rfl⟩,_,_,_,_,rfl,by omega,L⟩))
   case j=>
    rintro x c st' _ hx ⟨⟨g,rfl⟩,na,nb,out,mg,ac,bc,rfl,h1,L⟩
    refine Vi (Q:=oj a b st (tM+tN)) ?_ λr st' h=>by cases r<;>exact h
    have l1:=L.a0
    have l2:=L.a1
    have l3:=L.b0
    have l4:=L.b1
    obtain⟨m,rfl⟩:∃m,nb=m+1:=⟨nb - 1,by omega⟩
    obtain⟨q,eq,eq',mq⟩:=at_of (a:=b) (i:=m) (by assumption)
    dsimp -zeta only
    extract_lets z1 z2 z3 z4 z5 z6 z7 z8 z9 A8 Io Ip jp Iq
    subst Iq Ip Io A8 z9 z8 z7 z6 z5 z4 z3 z2 z1
    have key:∀mg g,wpS (model prog w) A E s (jp () mg) (oj a b st (tM+tN)) (fG st g):=by
     intro mg g
     dsimp -zeta only[jp]
     rw[fM]
     refine Vg (wpS_modify ?_)
     refine Vg (ar eq ?_)
     refine Vg (bD hk (H.kb _ mq) (by omega) H.ka (by omega) (λi j h1 h2=>fi H.sa (by omega) (by omega)) λk k1 k2 k3=>?_)
     have upto:∀p∈a.toList.take k,kn p<=kn q:=λp hp=>by
      obtain⟨l,l1,l2,l3⟩:=a8 hp
      have g1:=k2 l l1
      unfold gp at g1
      rw[if_neg (by decide),bw,ax l3] at g1
      have:¬kn q < kn p:=by simpa using g1
      exact Int.not_lt.mp ‹_›
     dsimp -zeta only
     clear jp
     extract_lets o0 ac' jp o1 o2
     subst o2 o1 ac' o0
     have key:∀out' rl,1<=rl->rl<=na->fj a b out' rl (m+1)->(∀p∈a.toList.take rl,kn p<=kn q)->wpS (model prog w) A E s (jp () rl out') (oj a b st (tM+tN)) (fG st mg):=by
      intro out' rl n1 n2 m1 hq
      dsimp -zeta only[jp]
      refine Vg (ar eq ?_)
      have m2:fj a b (out'.push q) rl m:=jq H m1 eq' hq
      by_cases c3:m=1
      ·rw[if_pos (by rw[c3];rfl)]
       rw[c3] at m2 ⊢
       exact Vj (oj.fin (d_ H m2))
      rw[if_neg (by simpa using c3)]
      obtain⟨n,rfl⟩:∃n,rl=n+1:=⟨rl - 1,by omega⟩
      obtain⟨p,ep,qx,mp⟩:=at_of (a:=a) (i:=n) (by exact aL ‹_ < _› ‹_<=_›)
      rw[fM]
      refine Vg (ar ep ?_)
      refine Vg (bD hk (H.ka _ mp) (by omega) H.kb (by omega) (λi j h1 h2=>fi H.sb (by omega) (by omega)) λk k1 k2 k3=>?_)
      have upto:∀y∈b.toList.take k,kn y<=kn p:=λy hy=>by
       obtain⟨l,l1,l2,l3⟩:=a8 hy
       have g1:=k2 l l1
       unfold gp at g1
       rw[if_pos rfl,bw,ax l3] at g1
       have:=of_decide_eq_true g1
       exact dI ‹_›
      dsimp -zeta only
      clear jp
      extract_lets o0 Ir n' jp o1 o2
      subst o2 o1 n' Ir o0
      have key:∀f' tO,2<=tO->tO<=m->fj a b f' (n+1) tO->(∀y∈b.toList.take tO,kn y<=kn p)->wpS (model prog w) A E s (jp () tO f') (oj a b st (tM+tN)) (fG st mg):=by
       intro f' tO b1 b2 m3 hp
       dsimp -zeta only[jp]
       refine Vg (ar ep ?_)
       have m4:fj a b (f'.push p) n tO:=gf H m3 qx hp
       by_cases c4:n=0
       ·rw[if_pos (by rw[c4];rfl)]
        rw[c4] at m4 ⊢
        exact Vj (oj.fin (dZ H m4 λ_ _ y hy=>(eh y hy).elim))
       rw[if_neg (by simpa using c4)]
       have L':Hi a b (f'.push p) n tO:=⟨m4,by exact fL ‹_›,by omega,by assumption,by omega⟩
       split
       ·exact Vj ⟨⟨mg,rfl⟩,.inr ⟨_,_,_,_,_,_,rfl,by omega,L'⟩⟩
       ·exact Vj ⟨⟨mg,rfl⟩,_,_,_,_,_,_,rfl,by omega,L'⟩
      by_cases c5:m - k > 0
      ·rw[if_pos c5]
       have m3:fj a b (out'.push q++(b.extract k m).reverse) (n+1) k:=by
        refine rk H m2 k (by assumption) λy hy x hx=>?_
        obtain⟨j,j0,j1,j2,j3⟩:=mem_mid hy
        obtain⟨l,l1,l2,l3⟩:=a8 hx
        have g1:=k3 j j0 j1
        have g2:=fi H.sa (show l<=n by exact cn ‹_›) (by exact aL ‹_ < _› ‹_<=_›)
        rw[ax ep,ax l3] at g2
        unfold gp at g1
        rw[if_pos rfl,bw,ax j3] at g1
        have:=of_decide_eq_false g1
        omega
       by_cases c6:k=1
       ·rw[if_pos (by rw[c6];rfl)]
        rw[c6] at m3 ⊢
        exact Vj (oj.fin (d_ H m3))
       rw[if_neg (by simpa using c6)]
       by_cases c7:k=0
       ·rw[if_pos (by rw[c7];rfl)]
        rw[c7] at m3 ⊢
        exact Vj (oj.fin (dZ H m3 λy hy=>(eh y hy).elim))
       ·rw[if_neg (by simpa using c7)]
        exact key _ _ (by omega) (by assumption) m3 upto
      ·rw[if_neg c5]
       have:k=m:=by omega
       subst this
       exact key _ _ (by omega) (by assumption) m2 upto
     by_cases c5:na - k > 0
     ·rw[if_pos c5]
      have m3:fj a b (out++(a.extract k na).reverse) k (m+1):=by
       refine rh H L.mg k (by assumption) λy hy x hx=>?_
       obtain⟨j,j0,j1,j2,j3⟩:=mem_mid hy
       obtain⟨l,l1,l2,l3⟩:=a8 hx
       have g1:=k3 j j0 j1
       have g2:=fi H.sb (show l<=m by exact cn ‹_›) (by assumption)
       rw[ax eq,ax l3] at g2
       unfold gp at g1
       rw[if_neg (by decide),bw,ax j3] at g1
       have:kn q < kn y:=by simpa using g1
       omega
      by_cases c6:k=0
      ·rw[if_pos (by rw[c6];rfl)]
       rw[c6] at m3 ⊢
       exact Vj (oj.fin (dZ H m3 λ_ _ y hy=>(eh y hy).elim))
      ·rw[if_neg (by simpa using c6)]
       exact key _ _ (by exact fL ‹_›) (by assumption) m3 upto
     ·rw[if_neg c5]
      have:k=na:=by omega
      subst this
      exact key _ _ (by assumption) (by assumption) L.mg upto
    split<;>exact key _ _
end
theorem lx(b:Nat):∀(l:List Vd)(k:Nat)(xs:Array Vd),b+k+l.length<=xs.size->((l.zipIdx k).foldl (λ(a:Array Vd)(q:Vd×Nat)=>a.setIfInBounds (b+q.2) q.1) xs).toList=xs.toList.take (b+k)++l++xs.toList.drop (b+k+l.length)
 | [],k,xs,h=>by simp
 | p::l,k,xs,h=>by
  rw[List.zipIdx_cons,nL]
  rw[cM] at h
  have ih:=lx b l (k+1) (xs.setIfInBounds (b+k) p) (by rw[Iz];omega)
  refine ih.trans ?_
  have lt:b+k < xs.toList.length:=by show b+k < xs.size;omega
  have e1:(xs.toList.set (b+k) p).take (b+(k+1))=xs.toList.take (b+k)++[p]:=by
   rw[<-eS,rf (by rw[wC];exact lt),List.take_set_of_le (ai _),Ey]
  have e2:(xs.toList.set (b+k) p).drop (b+(k+1)+l.length)=xs.toList.drop (b+(k+1)+l.length):=List.drop_set_of_lt (by exact aQ _ _)
  rw[rn,e1,e2,cM,show b+(k+1)+l.length=b+k+(l.length+1) by omega]
  simp
theorem seg_at{xs:Array Vd}{L A R:List Vd}(e:xs.toList=L++A++R){i:Nat}(h:i < A.length):xs[L.length+i]? =A[i]?:=by
 rw[<-fc,e,bp,jb (by exact aQ _ _),fg (by omega)]
 congr 1
 exact fI ..
theorem om{xs:Array Vd}{L A R:List Vd}(e:xs.toList=L++A++R)(u:Up A){i j:Nat}(h1:i<=j)(h2:j < A.length):K xs (L.length+i)<=K xs (L.length+j):=by
 have q1:=seg_at e (i:=i) (by exact lq ‹_<=_› ‹_ < _›)
 have q2:=seg_at e h2
 rw[cm (by omega)] at q1 q2
 rw[ax q1,ax q2]
 by_cases c:i=j
 ·subst c
  exact cw _
 ·exact List.pairwise_iff_getElem.mp u i j (by exact lq ‹_<=_› ‹_ < _›) (by assumption) (by exact bP ‹_› ‹_›)
theorem lC{xs:Array Vd}{L A R:List Vd}(e:xs.toList=L++A++R){i j:Nat}(h1:i<=j)(h2:j<=A.length):(xs.extract (L.length+i) (L.length+j)).toList=(A.take j).drop i:=by
 rw[gN,gO,e,bp,kA,eJ (by exact aQ _ _),ir,fI,show L.length+j - (L.length+i)=j - i by omega,vq,vt (by exact bt ‹_<=_› ‹_<=_›),rp (by rw[bL];omega)]
section
variable [Od] {prog:UR} {w:UU} {A₀:UO} {E:UT->US->Prop} {s:US} [Oa prog w A₀ E s]
theorem rA{σ:Type}{M:Model}{Q:PUnit->σ->Prop}{st x:σ}(h:Q ⟨⟩ x):wpS M A₀ E s (set x:StateT σ Sem PUnit) Q st:=by
 unfold wpS
 rw[StateT.run_set]
 exact Vb ⟨rfl,h⟩
theorem kE{xs:Array Vd}{g0 sa na pw sb nb p2:Nat}{pre post:List (Nat×Nat×Nat)}{L A B S:List Vd}{Q:Bool->Ve->Prop}
  (e:xs.toList=L++A++(B++S))(hI:∀p∈xs.toList,Ik p)(e1:L.length=sa)(e2:A.length=na)(e3:B.length=nb)(e4:sb=sa+na)(n1:1<=na)(n2:1<=nb)(uA:Up A)(uB:Up B)
  (h:∀C ys g,C.Perm (A++B)->Up C->ys.toList=L++C++S->Q true (ao Kd ys (pre++(sa,na+nb,pw)::post).toArray g none)) :
  wpS (model prog w) A₀ E s (mergeAt' pre.length) Q (ao Kd xs (pre++(sa,na,pw)::(sb,nb,p2)::post).toArray g0 none):=by
 refine Vg (wpS_get ?_)
 have g1:(pre++(sa,na,pw)::(sb,nb,p2)::post).toArray[pre.length]? =some (sa,na,pw):=by simp
 have g2:(pre++(sa,na,pw)::(sb,nb,p2)::post).toArray[pre.length+1]? =some (sb,nb,p2):=by simp
 have g3:((pre++(sa,na,pw)::(sb,nb,p2)::post).toArray.setIfInBounds pre.length (sa,na+nb,pw)).eraseIdxIfInBounds (pre.length+1)=(pre++(sa,na+nb,pw)::post).toArray:=by
  apply Array.toList_inj.mp
  rw[IA,rn]
  simp[IB]
 dsimp -zeta only
 rw[g1,g2]
 dsimp -zeta only
 refine Vg (rA ?_)
 rw[g3]
 clear g1 g2 g3
 subst e1 e2 e3 e4
 obtain⟨b0,rB,eb⟩:∃b0 rB,B=b0::rB:=by cases B with | nil=>simp at n2 | cons x y=>exact⟨x,y,rfl⟩
 have eB:xs.toList=(L++A)++B++S:=by rw[e];simp
 have A9:(L++A).length=L.length+A.length:=aP
 have sz:xs.size=L.length+A.length+(B.length+S.length):=by
  have:=congrArg fB e
  simpa [eS,wF,Nat.add_left_comm] using this
 have Ew:xs[L.length+A.length]? =some b0:=by
  have:=seg_at eB (i:=0) (by assumption)
  rw[A9,eb] at this
  exact this
 have Ox:Ik b0:=hI b0 (by rw[e,eb];simp)
 refine Vg (ar Ew ?_)
 refine Vg (bD rfl Ox (by omega) hI (by assumption) (λi j h1 h2=>om e uA h1 h2) λk k1 k2 k3=>?_)
 have lo1:∀p∈A.take k,kn p<=kn b0:=λp hp=>by
  obtain⟨i,ei⟩:=cu hp
  have li:=(List.getElem?_eq_some_iff.mp ei).1
  rw[aD] at li
  rw[cL (by omega)] at ei
  have g1:=k2 i (by omega)
  unfold gp at g1
  rw[if_neg (by decide),ax ((seg_at e (by omega)).trans ei)] at g1
  have:¬kn b0 < kn p:=by simpa using g1
  exact Int.not_lt.mp ‹_›
 have hi1:∀p∈A.drop k,kn b0<=kn p:=λp hp=>by
  obtain⟨i,ei⟩:=cu hp
  rw[eK] at ei
  have li:=(List.getElem?_eq_some_iff.mp ei).1
  have g1:=k3 (k+i) (by exact aQ _ _) li
  unfold gp at g1
  rw[if_neg (by decide),ax ((seg_at e li).trans ei)] at g1
  have:kn b0 < kn p:=by simpa using g1
  exact dI ‹_›
 have A_:∀q∈B,kn b0<=kn q:=λq hq=>by
  rw[eb] at hq uB
  rcases List.mem_cons.mp hq with z | z
  ·rw[z];exact cw _
  ·exact(List.pairwise_cons.mp uB).1 q z
 dsimp -zeta only
 by_cases c1:A.length - k=0
 ·rw[if_pos (by rw[c1];rfl)]
  have ek:A.take k=A:=bO (by omega)
  rw[ek] at lo1
  refine Vj (h (A++B) xs g0 (.refl _) ?_ (by rw[e];simp))
  unfold Up
  rw[bu]
  exact⟨uA,uB,λp hp q hq=>cP (lo1 p hp) (A_ q hq)⟩
 rw[if_neg (by simpa using c1),show L.length+k+(A.length - k) - 1=L.length+(A.length - 1) by omega]
 obtain⟨a1,IC⟩:∃a1,A[A.length - 1]? =some a1:=⟨_,cm (by omega)⟩
 have Ba:=(seg_at e (i:=A.length - 1) (by omega)).trans IC
 have Oy:a1∈A.drop k:=by
  refine jN (i:=A.length - 1 - k) ?_
  rw[eK,show k+(A.length - 1 - k)=A.length - 1 by omega]
  exact IC
 have Oz:Ik a1:=hI a1 (by rw[e];exact fz _ (cg _ ((eI _ _).mem Oy)))
 refine Vg (ar Ba ?_)
 refine Vg (bD (base:=L.length+A.length) rfl Oz (by omega) hI (by omega) (λi j h1 h2=>by rw[<-A9];exact om eB uB h1 h2) λm m1 m2 m3=>?_)
 have vw:∀p∈A,kn p<=kn a1:=λp hp=>by
  obtain⟨i,ei⟩:=cu hp
  have li:=(List.getElem?_eq_some_iff.mp ei).1
  have:=om e uA (i:=i) (j:=A.length - 1) (by omega) (by omega)
  rw[ax ((seg_at e li).trans ei),ax Ba] at this
  exact this
 have lo2:∀q∈B.take m,kn q<=kn a1:=λp hp=>by
  obtain⟨i,ei⟩:=cu hp
  have li:=(List.getElem?_eq_some_iff.mp ei).1
  rw[aD] at li
  rw[cL (by omega)] at ei
  have g1:=m2 i (by omega)
  unfold gp at g1
  rw[if_pos rfl,<-A9,ax ((seg_at eB (by omega)).trans ei)] at g1
  have:=of_decide_eq_true g1
  exact dI ‹_›
 have hi2:∀q∈B.drop m,kn a1<=kn q:=λp hp=>by
  obtain⟨i,ei⟩:=cu hp
  rw[eK] at ei
  have li:=(List.getElem?_eq_some_iff.mp ei).1
  have g1:=m3 (m+i) (by exact aQ _ _) li
  unfold gp at g1
  rw[if_pos rfl,<-A9,ax ((seg_at eB li).trans ei)] at g1
  have:=of_decide_eq_false g1
  exact Int.not_lt.mp ‹_›
 dsimp -zeta only
 by_cases c2:m=0
 ·rw[if_pos (by rw[c2];rfl)]
  rw[c2,cK] at hi2
  refine Vj (h (A++B) xs g0 (.refl _) ?_ (by rw[e];simp))
  unfold Up
  rw[bu]
  exact⟨uA,uB,λp hp q hq=>cP (vw p hp) (hi2 q hq)⟩
 rw[if_neg (by simpa using c2)]
 have ex:(xs.extract (L.length+k) (L.length+A.length)).toList=A.drop k:=by
  rw[lC e (by assumption) (ai _),bO (ai _)]
 have ey:(xs.extract (L.length+A.length) (L.length+A.length+m)).toList=B.take m:=by
  have:=lC eB (i:=0) (j:=m) (by exact aA _) (by assumption)
  rw[A9] at this
  exact this
 generalize xs.extract (L.length+k) (L.length+A.length)=X at ex
 generalize xs.extract (L.length+A.length) (L.length+A.length+m)=Y at ey
 extract_lets x y jp
 subst x y
 have key:∀r g,Fin' X.toList Y.toList r->wpS (model prog w) A₀ E s (jp r) Q (ao Kd xs (pre++(L.length,A.length+B.length,pw)::post).toArray g none):=by
  intro r g hr
  dsimp -zeta only[jp]
  refine Vg (wpS_modify (Vg (wpS_get (Vj ?_))))
  obtain⟨pm,up⟩:=hr
  rw[ex,ey] at pm
  have lr:=pm.length_eq
  rw[aP,bL,aD,iE m1] at lr
  refine h (A.take k++r.toList++B.drop m) _ g ?_ ?_ ?_
  ·refine((pm.append_left (A.take k)).append_right (B.drop m)).trans ?_
   rw[<-bp,br,bp,br]
  ·unfold Up
   rw[bu,bu]
   have Ez:=uA
   have EA:=uB
   unfold Up at Ez EA
   rw[<-br k A,bu] at Ez
   rw[<-br m B,bu] at EA
   refine⟨⟨Ez.1,up,λp hp q hq=>?_⟩,EA.2.1,λp hp q hq=>?_⟩
   ·rcases List.mem_append.mp (pm.mem_iff.mp hq) with z | z
    ·exact Ez.2.2 p hp q z
    ·exact cP (lo1 p hp) (A_ q ((dm _ _).mem z))
   ·rcases List.mem_append.mp hp with z | z
    ·exact cP (vw p ((dm _ _).mem z)) (hi2 q hq)
    ·rcases List.mem_append.mp (pm.mem_iff.mp z) with z | z
     ·exact cP (vw p ((eI _ _).mem z)) (hi2 q hq)
     ·exact EA.2.2 p z q hq
  ·have:=lx (L.length+k) r.toList 0 xs (by omega)
   refine this.trans ?_
   rw[lr,e,lD,show L.length+k+(A.length - k+m)=(L++A).length+m by omega,kA,eJ (by exact aQ _ _),ir,fI,vt m1,
    bp L A,List.take_append,bO (by exact aQ _ _),fI,rp k1]
   simp
 have sX:X.size=A.length - k:=by rw[<-gq,ex,bL]
 have sY:Y.size=m:=by rw[<-gq,ey,aD];omega
 have OA:∀p∈X.toList,p∈A:=λp hp=>by rw[ex] at hp;exact(eI _ _).mem hp
 have OB:∀p∈Y.toList,p∈B:=λp hp=>by rw[ey] at hp;exact(dm _ _).mem hp
 have kX:∀p∈X.toList,Ik p:=λp hp=>hI p (by rw[e];exact fz _ (cg _ (OA p hp)))
 have kY:∀p∈Y.toList,Ik p:=λp hp=>hI p (by rw[e];exact cg _ (fz _ (OB p hp)))
 have uX:Up X.toList:=by rw[ex];exact uA.sublist (eI _ _)
 have uY:Up Y.toList:=by rw[ey];exact uB.sublist (dm _ _)
 have last:∀j,j < Y.size->K Y j<=K X (X.size - 1):=λj hj=>by
  obtain⟨q,q1,q2,q3⟩:=at_of hj
  have e1:X[X.size - 1]? =some a1:=by
   rw[<-fc,ex,eK,sX,show k+(A.length - k - 1)=A.length - 1 by omega]
   exact IC
  rw[ax q1,ax e1]
  exact lo2 q (by rw[<-ey];exact q3)
 have first:∀i,i < X.size->K Y 0<=K X i:=λi hi=>by
  obtain⟨q,q1,q2,q3⟩:=at_of hi
  have e1:Y[0]? =some b0:=by
   rw[<-fc,ey,cL (by exact fL ‹_›),eb]
   rfl
  rw[ax q1,ax e1]
  exact hi1 q (by rw[<-ex];exact q3)
 split
 ·exact Vg (kv ⟨kX,kY,uX,uY,last⟩ (by omega) (by omega) rfl first λr g hr=>key r g hr)
 ·exact Vg (kD ⟨kX,kY,uX,uY,first⟩ (by omega) (by omega) rfl last λr g hr=>key r g hr)
end
def Sm(lo:Nat)(xs ys:Array Vd):Prop:=ys.Perm xs/\∀i,i < lo->ys[i]? =xs[i]?
theorem Sm.refl{lo:Nat}{xs:Array Vd}:Sm lo xs xs:=⟨.refl _,λ_ _=>rfl⟩
theorem Sm.trans{lo:Nat}{xs ys zs:Array Vd}(h1:Sm lo xs ys)(h2:Sm lo ys zs):Sm lo xs zs:=⟨h2.1.trans h1.1,λi hi=>(h2.2 i hi).trans (h1.2 i hi)⟩
theorem Sm.size{lo:Nat}{xs ys:Array Vd}(h:Sm lo xs ys):ys.size=xs.size:=h.1.size_eq
theorem Sm.ik{lo:Nat}{xs ys:Array Vd}(h:Sm lo xs ys)(hI:∀p∈xs.toList,Ik p):∀p∈ys.toList,Ik p:=λp hp=>hI p ((Array.perm_iff_toList_perm.mp h.1).mem_iff.mp hp)
theorem Sm.mirror{lo i j:Nat}{xs:Array Vd}(h:lo<=i)(hj:j<=xs.size):Sm lo xs (mirror xs i j ((j - i) / 2)) :=
 ⟨mirror_perm _ _ _ _,λk hk=>by rw[getElem?_mirror_all hj,if_neg (by omega)]⟩
def hG(xs:Array Vd)(lo n:Nat):Prop:=∀i j,i<=j->j < n->K xs (lo+i)<=K xs (lo+j)
def ng(xs:Array Vd)(lo n:Nat):Prop:=∀i j,i<=j->j < n->K xs (lo+j)<=K xs (lo+i)
theorem hG.step{xs:Array Vd}{lo n:Nat}(h:hG xs lo n)(h1:1<=n)(c:¬K xs (lo+n) < K xs (lo+n - 1)):hG xs lo (n+1):=λi j hij hj=>by
 by_cases z:j < n
 ·exact h i j hij z
 ·have:j=n:=by omega
  subst this
  by_cases y:i=j
  ·subst y;exact cw _
  ·have:=h i (j - 1) (by omega) (by omega)
   rw[show lo+(j - 1)=lo+j - 1 by omega] at this
   omega
theorem ng.step{xs:Array Vd}{lo n:Nat}(h:ng xs lo n)(h1:1<=n)(c:K xs (lo+n)<=K xs (lo+n - 1)):ng xs lo (n+1):=λi j hij hj=>by
 by_cases z:j < n
 ·exact h i j hij z
 ·have:j=n:=by omega
  subst this
  by_cases y:i=j
  ·subst y;exact cw _
  ·have:=h i (j - 1) (by omega) (by omega)
   rw[show lo+(j - 1)=lo+j - 1 by omega] at this
   exact cP ‹_› ‹_›
theorem hG.one{xs:Array Vd}{lo:Nat}:hG xs lo 1:=λi j h1 h2=>by
 have:i=j:=by omega
 subst this;exact cw _
theorem hG.turn{xs:Array Vd}{lo n:Nat}(h:ng xs lo n)(hn:lo+n<=xs.size):hG (mirror xs lo (lo+n) ((lo+n - lo) / 2)) lo n:=λi j h1 h2=>by
 rw[Jg hn,Jg hn,if_pos (by omega),if_pos (by omega)]
 have:=h (n - 1 - j) (n - 1 - i) (by omega) (by omega)
 rw[show lo+(lo+n) - 1 - (lo+i)=lo+(n - 1 - i) by omega,show lo+(lo+n) - 1 - (lo+j)=lo+(n - 1 - j) by omega]
 exact this
section
variable [Od] {prog:UR} {w:UU} {A:UO} {E:UT->US->Prop} {s:US} [Oa prog w A E s] {P:Array (Nat×Nat×Nat)} {g:Nat}
theorem jr{xs:Array Vd}{i j:Nat}{Q:Option Bool->Ve->Prop}(hI:∀p∈xs.toList,Ik p)(hi:i < xs.size)(hj:j < xs.size)(h:Q (some (decide (K xs i < K xs j))) (ao Kd xs P g none)) :
  wpS (model prog w) A E s (ltAt' i j) Q (ao Kd xs P g none):=by
 obtain⟨p,p1,_,p2⟩:=at_of hi
 obtain⟨q,q1,_,q2⟩:=at_of hj
 rw[ax p1,ax q1] at h
 refine Vg (wpS_get ?_)
 refine Vg (ar p1 (Vg (ar q1 ?_)))
 exact jl rfl (hI p p2) (hI q q2) h
theorem iG{xs:Array Vd}{i j:Nat}{Q:Unit->Ve->Prop}(h:Q () (ao Kd (mirror xs i j ((j - i) / 2)) P g none)):wpS (model prog w) A E s (reverseSlice' i j) Q (ao Kd xs P g none):=by
 rw[reverseSlice'_eq]
 exact wpS_modify h
def Bb(lo a m:Nat):StateT Ve Sem AscSt :=
 forIn [a:m] ((none,a):AscSt) λ_ c=>do
  match(<-ltAt' (lo+c.2) (lo+c.2 - 1)) with
  | some b=>if b=true then pure (.done (none,c.2)) else pure (.yield (none,c.2+1))
  | _=>pure (.done (some none,c.2))
theorem lE{xs:Array Vd}{lo a m:Nat}{Q:AscSt->Ve->Prop}(hI:∀p∈xs.toList,Ik p)(hm:lo+m<=xs.size)(h1:1<=a)(h2:a<=m)(hs:hG xs lo a)
  (h:∀n,a<=n->n<=m->hG xs lo n->(n=m\/K xs (lo+n) < K xs (lo+n - 1))->Q (none,n) (ao Kd xs P g none)):wpS (model prog w) A E s (Bb lo a m) Q (ao Kd xs P g none):=by
 unfold Bb
 refine Vh (I:=λx c st=>st=ao Kd xs P g none/\c=(none,x)/\hG xs lo x) ?_ ?_ ⟨rfl,rfl,hs⟩
 ·rintro x c st k1 k2 ⟨rfl,rfl,k3⟩
  dsimp only
  refine Vg (jr hI (by omega) (by omega) ?_)
  by_cases c:K xs (lo+x) < K xs (lo+x - 1)
  ·rw[decide_eq_true c]
   exact Vj (h x k1 (by exact bq ‹_›) k3 (.inr c))
  ·rw[decide_eq_false c]
   exact Vj ⟨rfl,rfl,k3.step (by exact aL ‹_ < _› ‹_<=_›) c⟩
 ·rintro c st ⟨rfl,rfl,k3⟩
  rw[show max a m=m by omega] at k3 ⊢
  exact h m h2 (ai _) k3 (.inl rfl)
theorem ju{xs:Array Vd}{lo m:Nat}{Q:Option Nat->Ve->Prop}(hI:∀p∈xs.toList,Ik p)(hm:lo+m<=xs.size)(h1:1<=m)
  (h:∀n ys,1<=n->n<=m->Sm lo xs ys->hG ys lo n->Q (some n) (ao Kd ys P g none)):wpS (model prog w) A E s (countRun' lo m) Q (ao Kd xs P g none):=by
 refine Vg (lE hI hm (ai _) h1 hG.one λn n1 n2 as nd=>?_)
 dsimp -zeta only
 extract_lets+onlyGivenNames r' n'
 subst n' r'
 dsimp -zeta only
 by_cases c1:n=m
 ·rw[if_pos (by rw[c1];simp)]
  exact Vj (h n xs n1 n2 .refl as)
 rw[if_neg (by simpa using c1)]
 have lt:=nd.resolve_left c1
 extract_lets+onlyGivenNames n' q' jp
 subst q' n'
 have key:∀ys,Sm lo xs ys->(∀i,K ys i=K xs i)->ng xs lo n->wpS (model prog w) A E s (jp ()) Q (ao Kd ys P g none):=by
  intro ys sm ke dn
  have OC:ng ys lo (n+1):=(show ng ys lo n from λi j a b=>by rw[ke,ke];exact dn i j a b).step n1 (by rw[ke,ke];exact dI ‹_›)
  have ly:=sm.size
  have hI':=sm.ik hI
  dsimp -zeta only[jp]
  refine Vg (wpS_lift (wpAny_rule ⟨rfl,?_⟩))
  refine Vg (Vi (Vh (I:=λx c st=>∃ys q,st=ao Kd ys P g none/\c=(none,x,q)/\Sm lo xs ys/\ng ys lo x/\q+1<=x/\(∀i,lo+x - (q+1)<=i->i < lo+x->K ys i=K ys (lo+x - 1)))
   (Q:=λc st=>∃ys x q,st=ao Kd ys P g none/\c=(none,x,q)/\n+1<=x/\x<=m/\Sm lo xs ys/\ng ys lo x/\q+1<=x/\(∀i,lo+x - (q+1)<=i->i < lo+x->K ys i=K ys (lo+x - 1))) ?a ?b ?c) ?d)
  case c=>exact⟨ys,0,rfl,rfl,sm,OC,by exact dW _ _,λi a b=>by congr 1;omega⟩
  case b=>
   rintro c st ⟨ys,q,rfl,rfl,k1,k2,k3,k4⟩
   rw[show max (n+1) m=m by omega] at k2 k3 k4 ⊢
   exact⟨ys,m,q,rfl,rfl,by exact bP ‹_› ‹_›,by exact ai _,k1,k2,k3,k4⟩
  case a=>
   rintro x c st x1 x2 ⟨ys,q,rfl,rfl,k1,k2,k3,k4⟩
   have ly:=k1.size
   dsimp only
   refine Vg (jr (k1.ik hI) (by omega) (by omega) ?_)
   by_cases c:K ys (lo+x) < K ys (lo+x - 1)
   ·rw[decide_eq_true c]
    dsimp only
    rw[if_pos rfl]
    by_cases c2:q > 0
    ·rw[if_pos c2]
     have vx:=BJ (xs:=ys) (i:=lo+x - (q+1)) (j:=lo+x) (by omega) k4
     refine Vg (iG (Vj ⟨_,0,rfl,rfl,k1.trans (Sm.mirror (by omega) (by omega)),?_,by exact dW _ _,λi a b=>by congr 1;omega⟩))
     refine(show ng _ lo x from λi j a b=>by rw[vx,vx];exact k2 i j a b).step (by exact du ‹_› ‹_›) (by rw[vx,vx];exact dI ‹_›)
    ·rw[if_neg c2]
     exact Vj ⟨ys,0,rfl,rfl,k1,k2.step (by exact du ‹_› ‹_›) (by exact dI ‹_›),by exact dW _ _,λi a b=>by congr 1;omega⟩
   ·rw[decide_eq_false c]
    dsimp only
    rw[if_neg (by decide)]
    refine Vg (jr (k1.ik hI) (by omega) (by omega) ?_)
    by_cases c2:K ys (lo+x - 1) < K ys (lo+x)
    ·rw[decide_eq_true c2]
     exact Vj ⟨ys,x,q,rfl,rfl,x1,by exact bq ‹_›,k1,k2,k3,k4⟩
    ·rw[decide_eq_false c2]
     have ex:K ys (lo+x)=K ys (lo+x - 1):=by omega
     refine Vj ⟨ys,q+1,rfl,rfl,k1,k2.step (by exact du ‹_› ‹_›) (by exact Int.not_lt.mp ‹_›),by exact ij ‹_›,λi a b=>?_⟩
     rw[show lo+(x+1) - 1=lo+x by rfl]
     by_cases z:i=lo+x
     ·rw[z]
     ·rw[ex];exact k4 i (by omega) (by omega)
  case d=>
   rintro c st ⟨ys,x,q,rfl,rfl,x1,x2,k1,k2,k3,k4⟩
   have ly:=k1.size
   dsimp -zeta only
   clear jp
   extract_lets+onlyGivenNames r' c' n' q'
   subst q' n' c' r'
   dsimp -zeta only
   extract_lets+onlyGivenNames jp
   have key:∀zs,Sm lo xs zs->ng zs lo x->wpS (model prog w) A E s (jp ()) Q (ao Kd zs P g none):=by
    intro zs sm dz
    have lz:=sm.size
    dsimp -zeta only[jp]
    have Bc:=sm.trans (Sm.mirror (xs:=zs) (lo:=lo) (i:=lo) (j:=lo+x) (ai _) (by omega))
    have l2:=Bc.size
    refine Vg (iG (Vg (lE (Bc.ik hI) (by omega) (by exact du ‹_› ‹_›) x2 (hG.turn dz (by omega)) λn n1 n2 as _=>?_)))
    exact Vj (h n _ (by omega) n2 Bc as)
   by_cases c2:q > 0
   ·rw[if_pos c2]
    have vx:=BJ (xs:=ys) (i:=lo+x - (q+1)) (j:=lo+x) (by omega) k4
    exact Vg (iG (key _ (k1.trans (Sm.mirror (by omega) (by omega))) λi j a b=>by rw[vx,vx];exact k2 i j a b))
   ·rw[if_neg c2]
    exact key _ k1 k2
 by_cases c2:n > 1
 ·rw[if_pos c2]
  refine Vg (jr hI (by omega) (by omega) ?_)
  by_cases c3:K xs lo < K xs (lo+n - 1)
  ·rw[decide_eq_true c3]
   exact Vj (h n xs n1 n2 .refl as)
  ·rw[decide_eq_false c3]
   have all:∀k,lo<=k->k < lo+n->K xs k=K xs (lo+n - 1):=λk q1 q2=>by
    have a1:=as 0 (k - lo) (by exact aA _) (by omega)
    have a2:=as (k - lo) (n - 1) (by omega) (by omega)
    rw[lD,show lo+(k - lo)=k by omega] at a1
    rw[show lo+(k - lo)=k by omega,show lo+(n - 1)=lo+n - 1 by omega] at a2
    omega
   exact Vg (iG (key _ (Sm.mirror (ai _) (by omega)) (BJ (by omega) all) λi j a b=>by rw[all _ (by exact aQ _ _) (by omega),all (lo+i) (by exact aQ _ _) (by omega)];exact cw _))
 ·rw[if_neg c2]
  have:n=1:=by omega
  subst this
  exact key xs .refl (λ_=>rfl) λi j a b=>by
   have:i=j:=by omega
   subst this
   exact cw _
end
section
variable [Od] {prog:UR} {w:UU} {A:UO} {E:UT->US->Prop} {s:US} [Oa prog w A E s] {P:Array (Nat×Nat×Nat)} {g:Nat}
theorem vy{xs:Array Vd}{lo n ok:Nat}{Q:Bool->Ve->Prop}(hI:∀p∈xs.toList,Ik p)(hn:lo+n<=xs.size)(hok:ok<=n)(as:hG xs lo ok)
  (h:∀ys,Sm lo xs ys->hG ys lo n->Q true (ao Kd ys P g none)):wpS (model prog w) A E s (binarySort' lo n ok) Q (ao Kd xs P g none):=by
 refine Vg (Vi (Vh (I:=λk c st=>∃ys,st=ao Kd ys P g none/\c=(none,())/\Sm lo xs ys/\hG ys lo (min k n))
  (Q:=λc st=>∃ys,st=ao Kd ys P g none/\c=(none,())/\Sm lo xs ys/\hG ys lo n) ?a ?b ?c) ?d)
 case d=>
  rintro c st ⟨ys,rfl,rfl,k1,k2⟩
  exact Vj (h ys k1 k2)
 case c=>
  refine⟨xs,rfl,rfl,.refl,λi j hij hj=>?_⟩
  by_cases z:ok=0
  ·have:i=j:=by omega
   subst this;exact cw _
  ·exact as i j hij (by omega)
 case b=>
  rintro c st ⟨ys,rfl,rfl,k1,k2⟩
  rw[show min (max (max ok 1) n) n=n by omega] at k2
  exact⟨ys,rfl,rfl,k1,k2⟩
 case a=>
  rintro k c st kk Sx ⟨ys,rfl,rfl,k1,k2⟩
  rw[show min k n=k by omega] at k2
  have ly:=k1.size
  refine Vg (Vi (Vh (I:=λx c st=>st=ao Kd ys P g none/\∃l r,c=(none,l,r)/\l<=r/\r<=k/\r - l<=k - x/\(∀i,i < l->K ys (lo+i)<=K ys (lo+k))/\(∀i,r<=i->i < k->K ys (lo+k) < K ys (lo+i)))
   (Q:=λc st=>st=ao Kd ys P g none/\∃l,c=(none,l,l)/\l<=k/\(∀i,i < l->K ys (lo+i)<=K ys (lo+k))/\(∀i,l<=i->i < k->K ys (lo+k) < K ys (lo+i))) ?e ?f ?g) ?h)
  case g=>exact⟨rfl,0,k,rfl,by exact aA _,by exact ai _,by exact ai _,λi hi=>by omega,λi a b=>by omega⟩
  case f=>
   rintro c st ⟨rfl,l,r,rfl,q1,q2,q3,q4,q5⟩
   have:l=r:=by omega
   subst this
   exact⟨rfl,l,rfl,q2,q4,q5⟩
  case e=>
   rintro x c st _ xk ⟨rfl,l,r,rfl,q1,q2,q3,q4,q5⟩
   dsimp only
   by_cases c:l >= r
   ·rw[if_pos c]
    have:l=r:=by exact iA ‹_› ‹_›
    subst this
    exact Vj ⟨rfl,l,rfl,q2,q4,q5⟩
   ·rw[if_neg c]
    refine Vg (jr (k1.ik hI) (by omega) (by omega) ?_)
    by_cases c2:K ys (lo+k) < K ys (lo+(l+r) / 2)
    ·rw[decide_eq_true c2]
     refine Vj ⟨rfl,l,(l+r) / 2,rfl,by omega,by omega,by omega,q4,λi a b=>?_⟩
     exact Int.lt_of_lt_of_le c2 (k2 _ _ a b)
    ·rw[decide_eq_false c2]
     refine Vj ⟨rfl,(l+r) / 2+1,r,rfl,by omega,by assumption,by omega,λi a=>?_,q5⟩
     exact cP (k2 i ((l+r) / 2) (by exact cn ‹_›) (by omega)) (Int.not_lt.mp c2)
  case h=>
   rintro c st ⟨rfl,l,rfl,q2,q4,q5⟩
   show wpS _ _ _ _ (do moveDown' (lo+k) (lo+l);pure (i7 (none,()))) _ _
   rw[moveDown'_eq]
   have bs:lo+k < ys.size:=by omega
   have bd:lo+k - (lo+l)<=lo+k:=by exact iC _ _
   refine Vg (wpS_modify (Vj ⟨_,rfl,rfl,k1.trans ⟨bubble_perm _ _ _,λi hi=>?_⟩,?_⟩))
   ·rw[getElem?_bubble bs _ bd,if_neg (by omega),if_neg (by omega)]
   ·rw[show min (k+1) n=k+1 by omega]
    intro i j hij hj
    have val:∀i,i<=k->K (bubble ys (lo+k) (lo+k - (lo+l))) (lo+i)=if i=l then K ys (lo+k) else if l < i then K ys (lo+(i - 1)) else K ys (lo+i):=λi hi=>by
     rw[OR bs bd,show lo+k - (lo+k - (lo+l))=lo+l by omega]
     by_cases c1:i=l
     ·rw[if_pos (by omega),if_pos c1]
     ·rw[if_neg (by omega),if_neg c1]
      by_cases c2:l < i
      ·rw[if_pos (by omega),if_pos c2,show lo+i - 1=lo+(i - 1) by omega]
      ·rw[if_neg (by omega),if_neg c2]
    show K (bubble ys (lo+k) (lo+k - (lo+l))) (lo+i)<=K (bubble ys (lo+k) (lo+k - (lo+l))) (lo+j)
    rw[val i (by omega),val j (by exact cn ‹_›)]
    repeat' split
    all_goals first | (exfalso;omega) | exact cw _ | exact q4 _ (by omega) | exact dI (q5 _ (by omega) (by omega)) | exact k2 _ _ (by omega) (by omega)
end
inductive Rn:Nat->List (Nat×Nat×Nat)->List Vd->Prop
 | nil {s:Nat}:Rn s [] []
 | cons {s n p:Nat} {P:List (Nat×Nat×Nat)} {A X:List Vd}:A.length=n->1<=n->Up A->Rn (s+n) P X->Rn s ((s,n,p)::P) (A++X)
theorem Rn.split:∀{pre r:List (Nat×Nat×Nat)}{s:Nat}{X:List Vd},Rn s (pre++r) X->∃X1 X2,X=X1++X2/\Rn s pre X1/\Rn (s+X1.length) r X2
 | [],r,s,X,h=>⟨[],X,rfl,.nil,h⟩
 | a::pre,r,s,X,h=>by
  cases h with
  | cons h1 h2 h3 h4=>
   obtain⟨X1,X2,rfl,k1,k2⟩:=h4.split
   refine⟨_++X1,X2,(bp _ _ _).symm,.cons h1 h2 h3 k1,?_⟩
   rw[aP,h1,<-eS]
   exact k2
theorem Rn.join:∀{pre r:List (Nat×Nat×Nat)}{s:Nat}{X1 X2:List Vd},Rn s pre X1->Rn (s+X1.length) r X2->Rn s (pre++r) (X1++X2)
 | [],r,s,X1,X2,h,k=>by cases h;exact k
 | a::pre,r,s,X1,X2,h,k=>by
  cases h with
  | cons h1 h2 h3 h4=>
   rw[bp]
   refine .cons h1 h2 h3 (h4.join ?_)
   rw[aP,h1,<-eS] at k
   exact k
theorem Rn.len:∀{P:List (Nat×Nat×Nat)}{s:Nat}{X:List Vd},Rn s P X->P.length<=X.length
 | [],s,X,h=>aA _
 | a::P,s,X,h=>by
  cases h with
  | cons h1 h2 h3 h4=>
   have:=h4.len
   rw[aP,cM]
   omega
theorem Rn.few{P:List (Nat×Nat×Nat)}{s:Nat}{X:List Vd}(h:Rn s P X)(l:P.length<=1):Up X:=by
 cases h with
 | nil=>exact .nil
 | cons h1 h2 h3 h4=>
  cases h4 with
  | nil=>rw[dE];exact h3
  | cons _ _ _ _=>simp at l
section
variable [Od] {prog:UR} {w:UU} {A₀:UO} {E:UT->US->Prop} {s:US} [Oa prog w A₀ E s]
theorem hJ{xs:Array Vd}{g0 i:Nat}{P:List (Nat×Nat×Nat)}{X Y:List Vd}{Q:Bool->Ve->Prop}(hi:i+1 < P.length)(hR:Rn 0 P X)(e:xs.toList=X++Y)(hI:∀p∈xs.toList,Ik p)
  (h:∀P' X' ys g,P'.length+1=P.length->Rn 0 P' X'->X'.Perm X->ys.toList=X'++Y->Q true (ao Kd ys P'.toArray g none)) :
  wpS (model prog w) A₀ E s (mergeAt' i) Q (ao Kd xs P.toArray g0 none):=by
 obtain⟨⟨sa,na,pw⟩,⟨sb,nb,p2⟩,post,eP⟩:∃a b post,P=P.take i++a::b::post:=by
  refine⟨P[i],P[i+1],P.drop (i+2),?_⟩
  rw[<-ji hi,<-ji (by exact bq ‹_›),br]
 have li:(P.take i).length=i:=by rw[aD];omega
 generalize P.take i=pre at eP li
 subst eP li
 obtain⟨X1,X2,rfl,k1,k2⟩:=hR.split
 rw[bw] at k2
 cases k2 with
 | cons a1 a2 a3 a4=>
  cases a4 with
  | cons b1 b2 b3 b4=>
   rename_i A B' X2
   refine kE (L:=X1) (A:=A) (B:=B') (S:=X2++Y) (by rw[e];simp) hI rfl a1 b1 rfl a2 b2 a3 b3 λC ys g c1 c2 c3=>?_
   refine h _ (X1++(C++X2)) ys g (by simp;rfl) (k1.join ?_) ((c1.append_right X2).trans (by rw[bp]) |>.append_left X1) (by rw[c3];simp)
   rw[bw]
   refine .cons (by rw[c1.length_eq,aP,a1,b1]) (by omega) c2 ?_
   rw[<-eS]
   exact b4
end
section
variable [Od] {prog:UR} {w:UU} {A₀:UO} {E:UT->US->Prop} {s:US} [Oa prog w A₀ E s]
theorem Rn.power{pw:Nat}:∀{P:List (Nat×Nat×Nat)}{i s:Nat}{X:List Vd},Rn s P X->Rn s (P.modify i λx=>(x.1,x.2.1,pw)) X
 | [],i,s,X,h=>by rw[List.modify_nil];exact h
 | a::P,0,s,X,h=>by
  cases h with
  | cons h1 h2 h3 h4=>exact .cons h1 h2 h3 h4
 | a::P,i+1,s,X,h=>by
  cases h with
  | cons h1 h2 h3 h4=>exact .cons h1 h2 h3 h4.power
def Wt(xs:Array Vd)(lo:Nat)(Z:List Vd)(st:Ve):Prop:=∃ys P X g,st=ao Kd ys (eC P) g none/\ys.Perm xs/\ys.toList=X++Z/\X.length=lo/\Rn 0 P X
def ID(xs:Array Vd)(x:Nat)(r:ForInStep (Option Unit×Nat))(st:Ve):Prop:=match r with
 | .done c=>c=(none,xs.size)/\∃Z,Wt xs xs.size Z st
 | .yield c=>∃lo,c=(none,lo)/\x+1<=lo/\lo<=xs.size/\∃Z,Wt xs lo Z st
def OD(xs:Array Vd)(x:Nat)(r:ForInStep (Option Unit×Unit))(st:Ve):Prop:=match r with
 | .done c=>c=(none,())/\∃ys P X g,st=ao Kd ys (eC P) g none/\ys.Perm xs/\ys.toList=X++[]/\Rn 0 P X/\P.length<=1
 | .yield c=>c=(none,())/\∃ys P X g,st=ao Kd ys (eC P) g none/\ys.Perm xs/\ys.toList=X++[]/\Rn 0 P X/\(P.length<=1\/P.length+(x+1)<=xs.size)
theorem Sm.lists{lo:Nat}{ys zs:Array Vd}{X Y:List Vd}(sm:Sm lo ys zs)(e:ys.toList=X++Y)(l:X.length=lo):zs.toList=X++zs.toList.drop lo:=by
 have:zs.toList.take lo=X:=by
  have e1:ys.toList.take lo=X:=by rw[e,<-l,List.take_left'];rfl
  rw[<-e1]
  apply List.ext_getElem?
  intro i
  by_cases c:i < lo
  ·rw[cL c,cL c,fc,fc]
   exact sm.2 i c
  ·rw[rC (by rw[aD];omega),rC (by rw[aD];omega)]
 exact(br lo zs.toList).symm.trans (by rw[this])
theorem hG.up{zs:Array Vd}{lo n:Nat}(as:hG zs lo n)(h:lo+n<=zs.size):Up ((zs.toList.drop lo).take n):=by
 unfold Up
 rw[EB]
 intro i j hi hj hij
 rw[aD,bL] at hi hj
 have hz:zs.toList.length=zs.size:=rfl
 have:=as i j (by exact bq ‹_›) (by omega)
 rw[ax (jm (by omega)),ax (jm (by omega))] at this
 simpa using this
theorem mJ{xs:Array Vd}{Q:Unit->Ve->Prop}(hI:∀p∈xs.toList,Ik p)
  (h:∀ys P g,ys.Perm xs->Up ys.toList->Q () (ao Kd ys P g none)):wpS (model prog w) A₀ E s sortRuns' Q (ao Kd xs #[] 7 none):=by
 have IE:∀{ys:Array Vd},ys.Perm xs->∀p∈ys.toList,Ik p:=λk p hp=>hI p ((Array.perm_iff_toList_perm.mp k).mem_iff.mp hp)
 refine Vg (wpS_get ?_)
 dsimp -zeta only
 extract_lets+onlyGivenNames size oo lo
 have hsize:size=xs.size:=rfl
 clear_value size oo
 subst hsize lo
 refine Vg (Vi (Vh (I:=λx c st=>∃lo,c=(none,lo)/\x<=lo/\lo<=xs.size/\∃Z,Wt xs lo Z st)
  (Q:=λc st=>c=(none,xs.size)/\∃Z,Wt xs xs.size Z st) ?a ?b ?c) ?d)
 case c=>exact⟨0,rfl,ai _,aA _,xs.toList,xs,[],[],7,rfl,.refl _,rfl,rfl,.nil⟩
 case b=>
  rintro c st ⟨lo,rfl,k1,k2,k3⟩
  have:lo=xs.size:=by exact iA ‹_› ‹_›
  subst this
  exact⟨rfl,k3⟩
 case d=>
  rintro c st ⟨rfl,Y,ys,P,X,g,rfl,k1,k2,k3,k4⟩
  have:Y=[]:=by
   have:=congrArg fB k2
   rw[aP,gq,k1.size_eq] at this
   exact List.length_eq_zero_iff.mp (by omega)
  subst this
  have pl:=k4.len
  dsimp only
  refine Vg (Vi (Vh (I:=λx c st=>c=(none,())/\∃ys P X g,st=ao Kd ys (eC P) g none/\ys.Perm xs/\ys.toList=X++[]/\Rn 0 P X/\(P.length<=1\/P.length+x<=xs.size))
   (Q:=λc st=>c=(none,())/\∃ys P X g,st=ao Kd ys (eC P) g none/\ys.Perm xs/\ys.toList=X++[]/\Rn 0 P X/\P.length<=1) ?e ?f ?g) ?h)
  case g=>exact⟨rfl,ys,P,X,g,rfl,k1,k2,k4,.inr (by omega)⟩
  case f=>
   rintro c st ⟨rfl,ys,P,X,g,rfl,k1,k2,k3,k4⟩
   exact⟨rfl,ys,P,X,g,rfl,k1,k2,k3,by omega⟩
  case h=>
   rintro c st ⟨rfl,ys,P,X,g,rfl,k1,k2,k3,k4⟩
   refine Vj (h ys _ g k1 ?_)
   rw[k2,dE]
   exact k3.few k4
  case e=>
   rintro x c st _ hx ⟨rfl,ys,P,X,g,rfl,k1,k2,k3,k4⟩
   refine Vg (wpS_get ?_)
   dsimp only
   by_cases c1:P.toArray.size<=1
   ·rw[if_pos c1]
    exact Vj ⟨rfl,ys,P,X,g,rfl,k1,k2,k3,c1⟩
   rw[if_neg c1]
   have Sy:¬P.length<=1:=c1
   refine Vi (Q:=OD xs x) ?_ λr st' h=>by cases r<;>exact h
   have sz:P.toArray.size=P.length:=rfl
   refine Vg (hJ ?_ k3 k2 (IE k1) λP' X' zs g' l1 l2 l3 l4=>?_)
   ·repeat' split
    all_goals omega
   ·rw[if_neg (by decide)]
    refine Vj ⟨rfl,zs,P',X',g',rfl,?_,l4,l2,.inr (by omega)⟩
    refine Bd (Array.perm_iff_toList_perm.mpr ?_) k1
    rw[l4,k2]
    exact l3.append_right _
 case a=>
  rintro x c st _ hx ⟨lo,rfl,k1,k2,Y,ys,P,X,g,rfl,k3,k4,k5,k6⟩
  have hI':=IE k3
  dsimp -zeta only
  by_cases c1:lo >= xs.size
  ·rw[if_pos c1]
   have:lo=xs.size:=by exact iA ‹_› ‹_›
   subst this
   exact Vj ⟨rfl,Y,ys,P,X,g,rfl,k3,k4,k5,k6⟩
  rw[if_neg c1]
  refine Vi (Q:=ID xs x) ?_ λr st' h=>by cases r<;>exact h
  have sy:=k3.size_eq
  refine Vg (ju hI' (by omega) (by omega) λn zs n1 n2 sm as=>?_)
  dsimp -zeta only
  extract_lets+onlyGivenNames n' jp
  subst n'
  have key:∀n zs,1<=n->lo+n<=xs.size->Sm lo ys zs->hG zs lo n->wpS (model prog w) A₀ E s (jp () n) (ID xs x) (ao Kd zs P.toArray g none):=by
   intro n zs n1 n2 sm as
   dsimp -zeta only[jp]
   clear jp
   refine Vg (wpS_get ?_)
   have sz:=sm.size
   have up:=as.up (by omega)
   have ez:=sm.lists k4 k5
   have lA:((zs.toList.drop lo).take n).length=n:=by
    rw[aD,bL,gq]
    omega
   rw[<-br n (zs.toList.drop lo)] at ez
   generalize (zs.toList.drop lo).take n=A at ez up lA
   generalize (zs.toList.drop lo).drop n=Z at ez
   extract_lets+onlyGivenNames lo' jp
   subst lo'
   have key:∀us P X g,Be us xs->us.toList=X++(A++Z)->X.length=lo->Rn 0 P X->wpS (model prog w) A₀ E s (jp ()) (ID xs x) (ao Kd us (eC P) g none):=by
    intro us P X g l1 l2 l3 l4
    dsimp -zeta only[jp]
    refine Vg (wpS_modify (Vj ⟨lo+n,rfl,by omega,by assumption,Z,us,P++[(lo,n,0)],X++A,g,?_,l1,by rw[l2];simp,by rw[aP];omega,?_⟩))
    ·show ao _ _ (P.toArray.push (lo,n,0)) _ _=_
     rw[List.push_toArray]
    ·refine l4.join ?_
     rw[bw,l3]
     have:=Rn.cons (p:=0) lA n1 up (Rn.nil (s:=lo+n))
     rw[dE] at this
     exact this
   have z1:Be zs xs:=sm.1.trans k3
   clear_value jp
   dsimp -zeta only
   split
   ·rename_i s1 Sz _ _
    extract_lets+onlyGivenNames pw
    clear_value pw
    refine Vg (Vi (Vh (I:=λx c st=>c=(none,())/\Wt xs lo (A++Z) st) (Q:=λc st=>c=(none,())/\Wt xs lo (A++Z) st) ?e ?f ?g) ?h)
    case g=>exact⟨rfl,zs,P,X,g,rfl,z1,ez,k5,k6⟩
    case f=>exact λ_ _ z=>z
    case h=>
     rintro c st ⟨rfl,us,P,X,g,rfl,l1,l2,l3,l4⟩
     dsimp only
     refine Vg (wpS_modify ?_)
     have:=key us (P.modify (P.length - 1) λx=>(x.1,x.2.1,pw)) X g l1 l2 l3 l4.power
     rw[<-List.modify_toArray] at this
     exact this
    case e=>
     rintro y c st _ hy ⟨rfl,us,P,X,g,rfl,l1,l2,l3,l4⟩
     refine Vg (wpS_get ?_)
     dsimp only
     split
     ·rename_i o1 o2 older oe
      by_cases c2:older<=pw
      ·rw[if_pos c2]
       exact Vj ⟨rfl,us,P,X,g,rfl,l1,l2,l3,l4⟩
      ·rw[if_neg c2]
       have hi:P.toArray.size - 2+1 < P.length:=by
        have sz:P.toArray.size=P.length:=rfl
        by_cases c3:P.toArray.size > 1
        ·omega
        ·rw[if_neg c3] at oe
         cases oe
       refine Vg (hJ hi l4 l2 (IE l1) λP' X' zs g' q1 q2 q3 q4=>?_)
       rw[if_neg (by decide)]
       refine Vj ⟨rfl,zs,P',X',g',rfl,Bd (Array.perm_iff_toList_perm.mpr ?_) l1,q4,by rw[q3.length_eq];exact l3,q2⟩
       rw[q4,l2]
       exact q3.append_right _
     ·exact Vj ⟨rfl,us,P,X,g,rfl,l1,l2,l3,l4⟩
   ·exact key zs P X g z1 ez k5 k6
  by_cases c2:n < oo
  ·rw[if_pos c2]
   have sz:=sm.size
   refine Vg (wpS_lift (wpAny_rule ⟨rfl,?_⟩))
   refine Vg (vy (sm.ik hI') (by omega) (by omega) as λus Bc OE=>?_)
   rw[if_neg (by decide)]
   exact key _ us (by omega) (by omega) (sm.trans Bc) OE
  ·rw[if_neg c2]
   exact key n zs n1 (by omega) sm as
end
end
section
variable {prog:UR} {w:UU} {A:UO} {E:UT->US->Prop} {s:US}
theorem oM{α:Type}:∀l:List α,l.zip l=l.map λv=>(v,v)
 | []=>rfl
 | v::r=>by rw[List.zip_cons_cons,oM r];rfl
abbrev mid(h:Heap)(a:UN)(vs:List UT):Heap:=((h.update a (bM λ_=>#[])).push (seqObj "tuple" vs.toArray 0)).push (seqObj "list" #[] 0)
theorem BK{a:UN}{vs:List UT}{n:Nat}{kd:SortKind}{nk:UT->Int}{P:PySem.Fin->US->Prop}(ho:s.heap.get? a=some (seqObj "list" vs.toArray n))(h2:2<=vs.length)(hz:vs.length<=U5)
  (hk:∀Q:SortKind->US->Prop,Q kd { s with heap:=mid s.heap a vs }->U7 (model prog w) A (keyKind' vs.toArray) Q E { s with heap:=mid s.heap a vs })
  (hlt:∀x∈vs,∀y∈vs,∀(Q:Bool->US->Prop)(E':UT->US->Prop),Q (decide (nk x < nk y)) { s with heap:=mid s.heap a vs }->U7 (model prog w) A (keyLt' kd x y) Q E' { s with heap:=mid s.heap a vs })
  (k:∀out:Array UT,out.toList.Perm vs->out.toList.Pairwise (nk · <=nk ·)->P (.done (.ret .none)) { s with heap:=sortedHeap s.heap a vs out }):U7 (model prog w) A (Builtin.«list.sort» ⟨[.ref a],[]⟩) P E s:=by
 rw[list_sort_plain]
 have lt:a < s.heap.objs.size:=aE ho
 have z:vs.toArray.size=vs.length:=aH
 refine U8 (listItems_at ho rfl (U8 (listUpdate_at ho rfl ?_ (by rw[z];exact hz) (aA _))))
 obtain⟨e,o1⟩:∃e,(s.heap.update a (bM λ_=>#[])).get? a=some (seqObj "list" #[] e):=⟨_,get?_update_seq ho (λ_=>#[])⟩
 refine U8 (seqEpoch_at o1 rfl (U8 (wpAny_newTuple ?_ hz)))
 refine U8 (U' ?_ (aA _))
 refine U9 ?_
 have o6:(mid s.heap a vs).get? a=some (seqObj "list" #[] e):=by
  rw[Heap.get?_push_ne,Heap.get?_push_ne]
  ·exact o1
  ·rw[vE];exact a6 lt
  ·rw[size_push',vE];exact a6 (jS lt)
 show U7 (model prog w) A _ P E { s with heap:=mid s.heap a vs }
 have c2:¬vs.toArray.size < 2:=by omega
 rw[if_neg c2,if_neg c2]
 have two:∀p∈(pairsOf vs).toList,p.1=p.2/\p.1∈vs:=λp hp=>by
  rw[pairsOf_toList,oM] at hp
  obtain⟨v,hv,rfl⟩:=List.mem_map.mp hp
  exact⟨rfl,hv⟩
 letI:Od:=⟨kd,λp=>p.1=p.2/\p.1∈vs,λp=>nk p.1⟩
 haveI:Oa prog w A E { s with heap:=mid s.heap a vs }:=⟨λ{st x y Q} hK hx hy h=>by
  rw[lt'_eq]
  refine Vg (wpS_get ?_)
  rw[hK]
  refine Vg (wpS_lift (wpAny_attempt (hlt _ hx.2 _ hy.2 _ _ ⟨rfl,?_⟩)))
  exact Vj h⟩
 refine U8 (hk _ ?_)
 refine U8 (U_ (mJ (xs:=pairsOf vs) (Q:=λ_ st=>∃ys Pd g,st=ao kd ys Pd g none/\ys.Perm (pairsOf vs)/\Up ys.toList) (λp hp=>two p hp) λys Pd g p u=>⟨ys,Pd,g,rfl,p,u⟩) ?_ λ_ _ e=>e)
 rintro⟨⟨⟩,st⟩ s' ⟨rfl,ys,Pd,g,rfl,pm,up⟩
 dsimp only
 refine U8 (seqEpoch_at o6 rfl ?_)
 refine U8 (listUpdate_at o6 rfl ?_ (aA _) (by rw[Array.size_map,pm.size_eq,pairsOf_size];exact Nat.le_succ_of_le hz))
 simp only[bne_self_eq_false,i9,if_false]
 refine Vb (k _ ?_ ?_)
 ·have q:=(Array.perm_iff_toList_perm.mp pm).map (·.2)
  rw[pairsOf_toList,oM,cz] at q
  rw[Array.toList_map]
  exact q.trans (by rw[show((λx:Vd=>x.2) ∘ λv:UT=>(v,v))=id from rfl,List.map_id])
 ·rw[Array.toList_map,rP]
  refine BL (λ{p q} hp hq h=>?_) up
  have m:=λp hp=>two p ((Array.perm_iff_toList_perm.mp pm).mem_iff.mp hp)
  rw[<-(m p hp).1,<-(m q hq).1]
  exact h
end
end JT
namespace J
open PySem PySem.Spec PyProof.Rows PySem.W L2
section
variable {prog:UR} {w:UU} {A:UO} {E:UT->US->Prop} {s:US}
abbrev Kept(h h':Heap):Prop:=∀b o,h.get? b=some o->h'.get? b=some o
theorem yS{l:UN}{vs:List UT}{kd:SortKind}{nk:UT->Int}{Q:UT->US->Prop}(hl:s.heap.IsList l vs.toArray)(h2:2<=vs.length)(hz:vs.length<=U5)
  (hk:∀h',Kept s.heap h'->∀(A:UO)(Q:SortKind->US->Prop)(E:UT->US->Prop),Q kd { s with heap:=h' }->U7 (model prog w) A (keyKind' vs.toArray) Q E { s with heap:=h' })
  (hlt:∀h',Kept s.heap h'->∀x∈vs,∀y∈vs,∀(A:UO)(Q:Bool->US->Prop)(E:UT->US->Prop),Q (decide (nk x < nk y)) { s with heap:=h' }->U7 (model prog w) A (keyLt' kd x y) Q E { s with heap:=h' })
  (k:∀out:Array UT,out.toList.Perm vs->out.toList.Pairwise (nk · <=nk ·)->Q (.ref (s.heap.objs.size+1)) { s with heap:=sortedAll s.heap vs out }):U7 (model prog w) A (call (.builtin "sorted") [.ref l]) Q E s:=by
 refine IU kind_sorted plain_sorted entry_sorted (args_sorted1 _) ?_
 unfold Builtin.«sorted»
 refine U8 (m:=checkCount "sorted" 1 1 _) (Vb (U8 (collect_list hl ?_ hz)))
 refine U8 (U' ?_ hz)
 have z:((s.heap.push (seqObj "list" #[] 0)).update s.heap.objs.size (bM (· ++vs.toArray))).objs.size=s.heap.objs.size+1:=by rw[vE,size_push']
 have o:(((s.heap.push (seqObj "list" #[] 0)).update s.heap.objs.size (bM (· ++vs.toArray))).push (seqObj "list" vs.toArray 0)).get? (s.heap.objs.size+1)=some (seqObj "list" vs.toArray 0):=by
  rw[<-z]
  exact cO _ rfl
 show U7 _ _ _ _ _ { s with heap:=((s.heap.push (seqObj "list" #[] 0)).update s.heap.objs.size (bM (· ++vs.toArray))).push (seqObj "list" vs.toArray 0) }
 rw[z]
 have kp:Kept s.heap (JT.mid (((s.heap.push (seqObj "list" #[] 0)).update s.heap.objs.size (bM (· ++vs.toArray))).push (seqObj "list" vs.toArray 0)) (s.heap.objs.size+1) vs):=λb o e=>by
  have lt:=aE e
  refine aU _ (aU _ ?_)
  rw[Heap.get?_update_ne _ _ _ _ (a6 (jS lt))]
  refine aU _ ?_
  rw[Heap.get?_update_ne _ _ _ _ (a6 lt)]
  exact aU _ e
 refine U8 (U9 (wpAny_call_entry slot_list_sort ⟨_,o,rfl⟩ entry_list_sort (JT.BK (kd:=kd) (nk:=nk) o h2 hz (λQ q=>hk _ kp _ Q _ q) (λx hx y hy Q E q=>hlt _ kp x hx y hy _ Q E q) λout a1 a2=>⟨_,rfl,?_⟩) (args_list_sort _)))
 exact Vb ⟨_,rfl,k out a1 a2⟩
end
theorem ug{α β:Type}{F:α->β->Prop}{l l':List α}(h:l'.Perm l):∀{k:List β},Paired F l k->∃k',k'.Perm k/\Paired F l' k':=by
 induction h with
 | nil=>intro k p;cases p;exact⟨[],.nil,.nil⟩
 | cons x _ ih=>
  intro k p
  cases p with
  | cons a b=>
   obtain⟨k',q1,q2⟩:=ih b
   exact⟨_,q1.cons _,.cons a q2⟩
 | swap x y l=>
  intro k p
  cases p with
  | cons a b=>
   cases b with
   | cons c d=>exact⟨_,.swap _ _ _,.cons c (.cons a d)⟩
 | trans _ _ i1 i2=>
  intro k p
  obtain⟨k1,q1,q2⟩:=i2 p
  obtain⟨k2,q3,q4⟩:=i1 q2
  exact⟨k2,q3.trans q1,q4⟩
theorem kG{α β:Type}{F:α->β->Prop}{x:α}:∀{l:List α}{k:List β},Paired F l k->x∈l->∃q∈k,F x q
 | _,_,.nil,h=>by cases h
 | _,_,.cons a b,h=>by
  rcases List.mem_cons.mp h with rfl | h
  ·exact⟨_,aX,a⟩
  ·obtain⟨q,h1,h2⟩:=kG b h
   exact⟨q,aN _ h1,h2⟩
theorem oN{α β γ:Type}{F:α->β->Prop}{f:α->γ}{g:β->γ}(h:∀x q,F x q->f x=g q):∀{l:List α}{k:List β},Paired F l k->l.map f=k.map g
 | _,_,.nil=>rfl
 | _,_,.cons a b=>by rw[aI,aI,h _ _ a,oN h b]
theorem oO{α β γ:Type}{F:α->β->Prop}{G:α->γ->Prop}:∀{l:List α}{k:List β}{m:List γ},Paired F l k->Paired G l m->∃zs:List (α×γ),Paired (λu z=>F z.1 u/\G z.1 z.2) k zs/\zs.map (·.2)=m
 | _,_,_,.nil,.nil=>⟨[],.nil,rfl⟩
 | _,_,_,.cons a b,.cons c d=>by
  obtain⟨zs,h1,h2⟩:=oO b d
  exact⟨(_,_)::zs,.cons ⟨a,c⟩ h1,by rw[aI,h2]⟩
theorem kH{α β γ:Type}{F:α->β->Prop}{G:α->γ->Prop}:∀{k:List β}{zs:List (α×γ)},Paired (λu z=>F z.1 u/\G z.1 z.2) k zs->Paired F (zs.map (·.1)) k/\Paired G (zs.map (·.1)) (zs.map (·.2))
 | _,_,.nil=>⟨.nil,.nil⟩
 | _,_,.cons a b=>⟨.cons a.1 (kH b).1,.cons a.2 (kH b).2⟩
def MZ(h:Heap):UT->Int
 | .ref a=>match(h.get? a).map Obj.data with
  | some (.seq xs _)=>(match xs.toList with | [.int x _,.int y _]=>x * 1000+y | _=>0)
  | _=>0
 | _=>0
theorem vM{h:Heap}{v:UT}{q:Int×Int}(t:TupAt h v q):MZ h v=q.1 * 1000+q.2:=by
 obtain⟨a,o,t,u,n,rfl,g1,g2,g3⟩:=t
 unfold MZ
 dsimp only
 rw[g1,k_,g3]
theorem xl{a b:Int×Int}(ha:0<=a.2/\a.2 < 1000)(hb:0<=b.2/\b.2 < 1000):decide (a.1 * 1000+a.2 < b.1 * 1000+b.2)=pB a b:=by
 unfold pB
 rw[nC]
 simp only[decide_eq_true_eq,Ao,bf]
 omega
section
variable {X:Cx}
theorem yT:dg X (.builtin "sorted") (λxs H Q=>∃(p:UN)(vs:List V)(ps:List (Int×Int)),xs=[.ref p]/\j9 X.K H p vs/\LV H vs ps/\2<=ps.length/\(∀q∈ps,0<=q.2/\q.2 < 1000)/\∀l vs',H l=none->LV H vs' (l8 ps)->Q (.ref l) (upd H l (.lst vs'))):=by
 intro pins s σ H xs us Q I r h
 obtain⟨p,vs,ps,rfl,hq,hp,h2,hb,q⟩:=h
 obtain⟨u,rfl,rx⟩:=vals1 r
 cases rx
 obtain⟨its,r',pl,hz⟩:=I.list hq
 have tu:=vC I hp r'
 have l1:vs.length=its.length:=r'.length
 have l2:its.length=ps.length:=tu.length
 refine yS (kd:=tuples' true) (nk:=MZ s.heap) pl.isList (by omega) (by rw[<-l1];exact hz) (λh' kp A Q E q=>?_) (λh' kp x hx y hy A Q E q=>?_) λout pm so=>?_
 ·obtain⟨fs,k1,k2,k3⟩:=tU (qh (λa o its n e d=>kp a o e) tu)
  refine kat_kind (T:=.type "int") (s:={ s with heap:=h' }) k1 (by omega) (λv hv=>by obtain⟨i,t,rfl⟩:=k3 v hv;exact Looks.of_pure rfl) (by decide) ?_
  have et:(jL "int" != jL "tuple")=true:=by decide
  rw[et]
  exact q
 ·obtain⟨a,ha,ta⟩:=kG tu hx
  obtain⟨b,hb',tb⟩:=kG tu hy
  rw[vM ta,vM tb,xl (hb a ha) (hb b hb')] at q
  obtain⟨a',o,t,u,n,rfl,g1,g2,g3⟩:=ta
  obtain⟨b',o',t',u',n',rfl,FG,Qz,SV⟩:=tb
  exact EK (s:={ s with heap:=h' }) (kp _ _ g1) g3 (kp _ _ FG) SV q
 ·obtain⟨zs,z1,z2⟩:=oO r' hp
  obtain⟨zs',p1,p2⟩:=ug pm z1
  obtain⟨v1,v2⟩:=kH (F:=L2.RelV) (G:=λ(v:V)(q:Int×Int)=>∃a,v=V.ref a/\H a=some (.tup [.int q.1,.int q.2])) p2
  have pp:(zs'.map (·.2)).Perm ps:=by rw[<-z2];exact p1.map _
  have nm:=oN (f:=MZ s.heap) (g:=λq:Int×Int=>q.1 * 1000+q.2) (λ_ _ t=>vM t) (vC I v2 v1)
  have up:Bm (zs'.map (·.2)):=by
   have w:=List.pairwise_map.mpr so
   rw[nm,rP] at w
   refine BL (λ{a b} ha hb' h=>?_) w
   rw[<-xl (hb _ (pp.mem_iff.mp hb')) (hb _ (pp.mem_iff.mp ha))]
   exact decide_eq_false (by omega)
  have es:zs'.map (·.2)=l8 ps:=oD (pp.trans (jT ps).symm) up (ni _)
  rw[es] at v2
  obtain⟨n,hat⟩:=sortedAll_at s.heap its out
  have hz':(zs'.map (·.1)).length<=U5:=by
   rw[bV,p1.length_eq,<-z1.length,<-l1]
   exact hz
  refine⟨.ref (s.heap.objs.size+1),_,I.laid (t':=s.toks) (λ_ _=>sortedAll_old) (fD _) (show e_ X.prog X.w _ _ _ (.lst _) from⟨hz',out.toList,n,v1,?_⟩),rfl,q _ _ (I.hok.fresh (fD _)) v2⟩
  rw[hat]
end
open PySem PySem.Spec PyProof.Rows L2
def mO:List Wv->Hs->Re Wv
 | [.ref l],st=>match ak st l with
  | some ws=>if ws.length < 2 then .ok (.ref st.length) (st++[.lst ws]) else(match iJ ws with | some ps=>if 2<=ps.length/\(ps.all λq=>decide (0<=q.2/\q.2 < 1000))=true then .ok (.ref st.length) (st++[.lst ((l8 ps).map pw)]) else .bad | none=> .bad)
  | none=> .bad
 | _,_=> .bad
section
variable {X:Cx}
theorem E3:f9 X (.builtin "sorted") mO:=by
 refine⟨_,yN.or yT,λws vs st H m Q S rs p=>?_⟩
 match ws,rs,p with
 | [],rs,p=>exact aa p
 | x::y::t,rs,p=>cases x<;>exact aa p
 | [x],rs,p=>
  cases x with
  | ref l=>
   obtain⟨v,rfl,r1⟩:=kc rs
   unfold mO at p
   unfold ah at r1
   obtain⟨a,rfl,hl⟩:=r1
   cases e:ak st l with
   | none=>simp only[e] at p;exact aa p
   | some ws=>
    simp only[e] at p
    obtain⟨xs,q1,q2⟩:=S.read hl e
    by_cases c0:ws.length < 2
    ·rw[if_pos c0] at p
     exact .inl ⟨a,xs,rfl,q1,q2.length ▸ c0,λk hk=>p (.ref k) (m++[k]) _ (Ext.more.trans (Ext.upd (.inl hk))) (S.alloc hk q2) (S.newest k _)⟩
    ·rw[if_neg c0] at p
     cases e2:iJ ws with
     | none=>rw[e2] at p;exact aa p
     | some ps=>
      rw[e2] at p
      dsimp only at p
      by_cases c:2<=ps.length/\(ps.all λq=>decide (0<=q.2/\q.2 < 1000))=true
      ·rw[if_pos c] at p
       refine .inr ⟨a,xs,ps,rfl,q1,oE q2 e2,c.1,λq hq=>of_decide_eq_true (List.all_eq_true.mp c.2 q hq),λk vs' hk hp=>?_⟩
       exact p (.ref k) (m++[k]) _ (Ext.more.trans (Ext.upd (.inl hk))) (S.alloc hk (oF hp)) (S.newest k _)
      ·rw[if_neg c] at p;exact aa p
  | _=>exact aa p
end
structure Ct where
 N:List Str
 names:List (Str×UQ)
 consts:List (Str×Wv)
 bl:List Str
 fns:List (Str×Nat×(List Wv->Hs->Re Wv))
 tb:Tab:=[]
 tt:vj:=[]
 clss:List Str:=[]
 BM:List Str:=[]
 tc:Tab:=[]
 Df:List (Str×Dc):=[]
 Uy:List Str:=[]
 Uz:List Str:=[]
 big:Bool:=false
 E4:List Str:=[]
 F2:List Str:=[]
 loop:Bool:=true
 free:Bool:=true
 top:Bool:=true
 lam:Option (Lm×LF):=none
 F3:List (Str×QM):=[]
 OS:List Str:=[]
 lj:Nat:=0
 sk:Nat:=0
 OT:List Str:=[]
 self:Str:=""
def l_(x:Str):List Str->Option Nat
 | []=>none
 | y::r=>if x=y then some 0 else match l_ x r with
  | some i=>some (i+1)
  | none=>none
theorem hU{x:Str}:∀{N:List Str}{i:Nat},l_ x N=some i->N[i]? =some x
 | [],i,h=>by cases h
 | y::r,i,h=>by
  unfold l_ at h
  by_cases e:x=y
  ·rw[if_pos e] at h;cases h;subst e;rfl
  ·rw[if_neg e] at h
   cases q:l_ x r with
   | none=>rw[q] at h;cases h
   | some j=>rw[q] at h;cases h;simpa using hU q
def okN(x:Str):Bool:=!(x == ("__debug__":Str))&& !(x == ("__classdict__":Str))&& !(decide (x="__name__"))
theorem gB{x:Str}(h:okN x=true):(x == ("__debug__":Str))=false:=by unfold okN at h;revert h;cases (x == ("__debug__":Str))<;>simp
theorem BN{x:Str}(h:okN x=true):(x == ("__classdict__":Str))=false:=by unfold okN at h;revert h;cases (x == ("__classdict__":Str))<;>simp
theorem BO{x:Str}(h:okN x=true):x≠"__name__":=by
 intro e
 subst e
 unfold okN at h
 simp at h
def uh:List Wv->List V->Prop
 | [],[]=>True
 | .int i::r,.int j::t=>i=j/\uh r t
 | .str x::r,.str y::t=>(x=y/\aC x=true)/\uh r t
 | _,_=>False
theorem uh.rel{K:PySem.W.Frag}{m:Mp}{H:Hp}:∀{ws:List Wv}{vs:List V},uh ws vs->af K m H ws vs
 | [],[],_=>af.nil
 | .int i::r,.int j::t,h=>by
  obtain⟨rfl,h⟩:=h
  exact af.cons (by unfold ah;rfl) h.rel
 | .str x::r,.str y::t,h=>by
  obtain⟨⟨rfl,hx⟩,h⟩:=h
  exact af.cons (by unfold ah;exact⟨rfl,hx⟩) h.rel
 | [],_::_,h=>aa h
 | .int i::r,[],h=>aa h
 | .str i::r,[],h=>aa h
 | .int i::r,.str _::_,h=>aa h
 | .str i::r,.int _::_,h=>aa h
def BP(K:PySem.W.Frag)(mg:Str->Option UT)(x:Str):Wv->Prop
 | .int i=>∃t,mg x=some (.int i t)
 | .str y=>(∃t,mg x=some (.str y t))/\aC y=true
 | .nO ws=>∃(a:UN)(vs:List V)(o:Obj)(its:Array UT)(n:Nat),mg x=some (.ref a)/\K.lookup a=some o/\o.cls= .type "tuple"/\o.data= .seq its n/\its.size<=U5/\Vals vs its.toList/\uh ws vs
 | _=>False
structure Ma(c:Ct)(k:Nat)(X:Cx):Prop where
 lam:∀p L,c.lam=some (p,L)->IZ X.prog X.w X.K X.mg X.base k p 3 L
 F3:∀x F,c.F3.lookup x=some F->QN X.prog X.w X.K X.mg k c.lj x F
 M0:∀x n F,c.fns.lookup x=some (n,F)->c.OS.contains x=true->∀base,Br X.K X.mg base->jR X.prog X.w X.K X.mg base c.lj x n F
 at':c.top=true->c.self∈dq->∃P,FX X c.self P
 sk:c.sk<=k
 M1:∀x n F,c.fns.lookup x=some (n,F)->c.OT.contains x=true->jR X.prog X.w X.K X.mg X.base c.lj x n F
structure Good(c:Ct)(k:Nat)(X:Cx):Prop where
 N:X.N=c.N
 sc:X.env.scope.names=c.names
 nd:c.N.Nodup
 un:X.A.units+64 < cLine
 free:c.free=true->ja k X.A/\X.calm=true
 loop:c.loop=true->X.calm=true/\PassesOwn (model X.prog X.w) X.A X.env X.xe
 cst:∀x w,c.consts.lookup x=some w->BP X.K X.mg x w
 bl:∀x,c.bl.contains x=true->X.mg x=none
 fns:∀x n F,c.fns.lookup x=some (n,F)->jR X.prog X.w X.K X.mg X.base k x n F
 stk:c.top=true->R9 X
 fn:c.top=true->∀x,X.fn x=true
 kind:X.env.scope.kind= .function
 tab:TabOk X.K c.tb c.tt c.tc
 cls:∀x,c.clss.contains x=true->∃C,X.mg x=some (.ref C)/\Ej X.K x C
 BM:∀x,c.BM.contains x=true->∃C,X.mg x=some (.ref C)/\ClsAt X.K x C
 Df:∀x kvs,c.Df.lookup x=some kvs->yK X.K X.w X.mg x kvs
 rm:qi k X.A
 F2:∀x n F,c.F2.contains x=true->c.fns.lookup x=some (n,F)->IX X.prog X.w X.K X.mg X.base k x n F
 x:Ma c k X
 fr:A1 X
 hd:HU X
theorem xm{k:Nat}{A:UO}(hr:ja k A):A.units+64 < cLine:=by have:=hr.un;omega
theorem BQ:UY "ValueError"=some (.type "ValueError"):=by decide+kernel
theorem BR:UY "dict"=some (.type "dict"):=by decide+kernel
def E5(x:Str):Option String :=
 if x="int" then some "int" else if x="str" then some "str" else if x="bool" then some "bool" else if x="tuple" then some "tuple" else if x="list" then some "list" else if x="ValueError" then some "ValueError" else if x="dict" then some "dict" else none
theorem E6{x:Str}{T:String}(h:E5 x=some T):UY x=some (.type T):=by
 unfold E5 at h
 by_cases e:x="int"
 ·rw[if_pos e] at h;cases h;subst e;exact tw
 rw[if_neg e] at h
 by_cases e:x="str"
 ·rw[if_pos e] at h;cases h;subst e;exact tD
 rw[if_neg e] at h
 by_cases e:x="bool"
 ·rw[if_pos e] at h;cases h;subst e;exact AB
 rw[if_neg e] at h
 by_cases e:x="tuple"
 ·rw[if_pos e] at h;cases h;subst e;exact AD
 rw[if_neg e] at h
 by_cases e:x="list"
 ·rw[if_pos e] at h;cases h;subst e;exact AE
 rw[if_neg e] at h
 by_cases e:x="ValueError"
 ·rw[if_pos e] at h;cases h;subst e;exact BQ
 rw[if_neg e] at h
 by_cases e:x="dict"
 ·rw[if_pos e] at h;cases h;subst e;exact BR
 rw[if_neg e] at h
 cases h
section
variable {X:Cx}
def yU:f7:=λ_ _ _=> .bad
theorem BS{f:UT->UT->Sem UT}:kq X f yU:=⟨λ_ _ _ _=>False,λ_ _ _ _ _ _ _ _ _ _ _ _ h=>h.elim,λ_ _ _ _ _ _ _ _ _ _ _ p=>p⟩
def Mb:Operator->f7
 | .Add=>cC
 | .Sub=>ku
 | .Mult=>di
 | .FloorDiv=>pX
 | .Mod=>oMod
 | .Pow=>HC
 | _=>yU
theorem E7(o:Operator):kq X (UX o) (Mb o):=by
 cases o<;>first | exact HG | exact HD | exact Bq | exact D3 | exact HE | exact HF | exact BS
def vN:CmpOp->f7
 | .Eq=>oEq
 | .NotEq=>iy
 | .Lt=>oLt
 | .LtE=>oLe
 | .Gt=>yU
 | .GtE=>yU
 | .Is=>yU
 | .IsNot=>FZ
 | .In=>rE
 | .NotIn=>yU
theorem jU(hu:X.A.units+64 < cLine)(o:CmpOp):kq X (U1 o) (vN o):=by
 cases o<;>first | exact Lr hu | exact Ls hu | exact Ja hu | exact IV hu | exact ES | exact II | exact BS
def BU(c:Ct)(x:Str):GE:=if okN x=true then
  match c.names.lookup x with
  | some .local=>(match l_ x c.N with | some i=>ag i | none=>b8)
  | some .cell=>(match l_ x c.N with | some i=>ag i | none=>b8)
  | some .free=>(match l_ x c.N with | some i=>ag i | none=>b8)
  | some .globalImplicit=>(match c.consts.lookup x with
   | some w=>gC w
   | none=>if c.clss.contains x=true then gC (.cls x) else if c.BM.contains x=true then gC (.cls x) else if c.bl.contains x=true then(match E5 x with | some T=>gC (.ty T) | none=>b8) else b8)
  | _=>b8
 else b8
theorem BV{c:Ct}{k:Nat}(G:Good c k X)(x:Str)(pos:Pos):JE X (.Name x pos) (BU c x):=by
 unfold BU
 by_cases hx:okN x=true
 ·rw[if_pos hx]
  cases e:c.names.lookup x with
  | none=>exact aF
  | some kd=>
   have el:X.env.scope.names.lookup x=some kd:=by rw[G.sc];exact e
   cases kd with
   | «local»=>
    dsimp only
    cases e2:l_ x c.N with
    | none=>exact aF
    | some i=>exact va i (by rw[G.N];exact hU e2) (Or.inl el) (gB hx) (BN hx)
   | cell=>
    dsimp only
    cases e2:l_ x c.N with
    | none=>exact aF
    | some i=>exact va i (by rw[G.N];exact hU e2) (jO (Or.inl el)) (gB hx) (BN hx)
   | free=>
    dsimp only
    cases e2:l_ x c.N with
    | none=>exact aF
    | some i=>exact va i (by rw[G.N];exact hU e2) (jO (jO el)) (gB hx) (BN hx)
   | globalImplicit=>
    dsimp only
    have hg:Gl X x:=el
    cases e2:c.consts.lookup x with
    | some w=>
     have q:=G.cst x w e2
     cases w with
     | int i=>obtain⟨t,q⟩:=q;exact Ab hg q (gB hx)
     | str y=>obtain⟨⟨t,q⟩,z⟩:=q;exact Ac hg q z (gB hx)
     | nO ws=>
      obtain⟨a,vs,o,its,n,q1,q2,q3,q4,q5,q6,q7⟩:=q
      exact JE.of (jM (v:=.ref a) hg q1 rfl (gB hx)) λρ st σ H m Q S R p=>p (.ref a) m H Ext.refl S (by unfold ah;exact⟨a,vs,rfl,⟨o,its,n,q2,q3,q4,q5,q6⟩,q7.rel⟩)
     | _=>exact aa q
    | none=>
     dsimp only
     by_cases e5:c.clss.contains x=true
     ·rw[if_pos e5]
      obtain⟨C,q1,q2⟩:=G.cls x e5
      exact JE.of (jM (v:=.ref C) hg q1 rfl (gB hx)) λρ st σ H m Q S R p=>p (.ref C) m H Ext.refl S (by unfold ah;exact⟨C,rfl,q2.cls⟩)
     rw[if_neg e5]
     by_cases e6:c.BM.contains x=true
     ·rw[if_pos e6]
      obtain⟨C,q1,q2⟩:=G.BM x e6
      exact JE.of (jM (v:=.ref C) hg q1 rfl (gB hx)) λρ st σ H m Q S R p=>p (.ref C) m H Ext.refl S (by unfold ah;exact⟨C,rfl,q2⟩)
     rw[if_neg e6]
     by_cases e3:c.bl.contains x=true
     ·rw[if_pos e3]
      cases e4:E5 x with
      | none=>exact aF
      | some T=>exact La hg (G.bl x e3) (E6 e4) (BO hx) (gB hx)
     ·rw[if_neg e3];exact aF
   | _=>exact aF
 ·rw[if_neg hx];exact aF
def BW:Const->GE
 | .none=>gC .bS
 | .bool b=>gC (.bl b)
 | .int i=>gC (.int i)
 | .str x=>if aC x=true then gC (.str x) else b8
 | _=>b8
theorem yV(k:Const)(j:Nat)(pos:Pos):JE X (.Constant k j pos) (BW k):=by
 cases k with
 | none=>exact Hq
 | bool b=>exact K'
 | int i=>exact Ho
 | str x=>
  show JE X _ (if aC x=true then gC (.str x) else b8)
  by_cases h:aC x=true
  ·rw[if_pos h];exact Hr h
  ·rw[if_neg h];exact aF
 | _=>exact aF
def plain:Expr->Bool
 | .Starred .. =>false
 | _=>true
theorem az{e:Expr}{es:List Expr}{env:Env}(h:plain e=true):U6 (e::es) env=(false,eval e env)::U6 es env:=by
 cases e<;>first | rfl | cases h
theorem eM{pos:Pos}{env:Env}:∀{es:List Expr},es.all plain=true->(backTo pos (U6 es env)).any (·.1)=false
 | [],_=>rfl
 | e::es,h=>by
  rw[bT,bf] at h
  rw[az h.1]
  have q:=eM (pos:=pos) (env:=env) h.2
  unfold backTo at q ⊢
  rw[aI,qJ,q]
  rfl
def hV(f:Expr->GE):List Expr->GA
 | []=>aq
 | e::es=>ae (f e) (hV f es)
theorem dA{f:Expr->GE}(h:∀e,JE X e (f e)):∀es:List Expr,es.all plain=true->JA X es (hV f es)
 | [],_=>vd
 | e::es,g=>by
  rw[bT,bf] at g
  exact qQ (h e) (dA h es g.2) (az g.1)
def M3(c:Ct)(x:Str):Option (UT×(List Wv->Hs->Re Wv)) :=
 if x="len" then some (.builtin "len",k7) else if x="isinstance" then some (.builtin "isinstance",yt c.tb c.tt) else if x="str" then some (.type "str",p_) else if x="int" then some (.type "int",qf) else if x="all"/\c.free=true then some (.builtin "all",yx) else if x="min"/\c.free=true then some (.builtin "min",oz) else if x="sum"/\c.free=true then some (.builtin "sum",yB) else if x="sorted"/\c.free=true then some (.builtin "sorted",mO) else none
theorem yW:UY "all"=some (.builtin "all"):=by decide+kernel
theorem yX:UY "min"=some (.builtin "min"):=by decide+kernel
theorem yY:UY "sum"=some (.builtin "sum"):=by decide+kernel
theorem yZ:UY "sorted"=some (.builtin "sorted"):=by decide+kernel
theorem Jh{c:Ct}{x:Str}{v:UT}{op:List Wv->Hs->Re Wv}(O:TabOk X.K c.tb c.tt c.tc)(hc:c.free=true->X.calm=true)(h:M3 c x=some (v,op)):UY x=some v/\f9 X v op/\((∃id,v= .builtin id)\/∃T,v= .type T):=by
 unfold M3 at h
 by_cases e:x="len"
 ·rw[if_pos e] at h;cases h;subst e;exact⟨p8,HJ,.inl ⟨_,rfl⟩⟩
 rw[if_neg e] at h
 by_cases e:x="isinstance"
 ·rw[if_pos e] at h;cases h;subst e;exact⟨AA,HS O,.inl ⟨_,rfl⟩⟩
 rw[if_neg e] at h
 by_cases e:x="str"
 ·rw[if_pos e] at h;cases h;subst e;exact⟨tD,Em,.inr ⟨_,rfl⟩⟩
 rw[if_neg e] at h
 by_cases e:x="int"
 ·rw[if_pos e] at h;cases h;subst e;exact⟨tw,ED,.inr ⟨_,rfl⟩⟩
 rw[if_neg e] at h
 by_cases e:x="all"/\c.free=true
 ·rw[if_pos e] at h;cases h;obtain⟨rfl,e2⟩:=e;exact⟨yW,Ih (hc e2),.inl ⟨_,rfl⟩⟩
 rw[if_neg e] at h
 by_cases e:x="min"/\c.free=true
 ·rw[if_pos e] at h;cases h;obtain⟨rfl,e2⟩:=e;exact⟨yX,EC (hc e2),.inl ⟨_,rfl⟩⟩
 rw[if_neg e] at h
 by_cases e:x="sum"/\c.free=true
 ·rw[if_pos e] at h;cases h;obtain⟨rfl,e2⟩:=e;exact⟨yY,IF (hc e2),.inl ⟨_,rfl⟩⟩
 rw[if_neg e] at h
 by_cases e:x="sorted"/\c.free=true
 ·rw[if_pos e] at h;cases h;obtain⟨rfl,e2⟩:=e;exact⟨yZ,E3,.inl ⟨_,rfl⟩⟩
 rw[if_neg e] at h
 cases h
def rQ(c:Ct)(fE:Expr->GE)(x:Str)(es:List Expr):GE:=if okN x=true/\es.all plain=true/\c.names.lookup x=some .globalImplicit then
   (match c.fns.lookup x with
   | some (n,F)=>if c.free=true then ay n F (hV fE es) else b8
   | none=>if c.bl.contains x=true then(match M3 c x with | some (_,op)=>aV op (hV fE es) | none=>b8) else b8)
  else b8
def BX(fE:Expr->GE)(o:Expr)(name:Str)(e:Expr)(apos cpos:Pos):GE:=if plain e=true/\(apos.endLine == cpos.line)=true then
   (if name="append" then ki pv (fE o) (fE e) else if name="extend" then ki tX (fE o) (fE e) else b8)
  else b8
def vO(fE:Expr->GE)(o:Expr)(name:Str)(e:Expr)(apos cpos:Pos):GE:=if plain e=true/\(apos.endLine == cpos.line)=true then
   (if name="count" then ki rJ (fE o) (fE e) else if name="index" then rD (ki nh (fE o) (fE e)) (vG nj (fE o) (fE e)) else b8)
  else b8
theorem y0{fE:Expr->GE}(h:∀e,JE X e (fE e))(x name:Str)(e:Expr)(p apos cpos:Pos):JE X (.Call (.Attribute (.Name x p) name apos) [e] [] cpos) (vO fE (.Name x p) name e apos cpos):=by
 unfold vO
 by_cases g:plain e=true/\(apos.endLine == cpos.line)=true
 ·rw[if_pos g]
  by_cases n1:name="count"
  ·rw[if_pos n1]
   subst n1
   exact m8 yH PySem.F.slot_list_count PySem.F.type_list_count (h _) (h e) (az g.1) g.2
  rw[if_neg n1]
  by_cases n2:name="index"
  ·rw[if_pos n2]
   subst n2
   exact Bf (m8 yI PySem.F.slot_list_index PySem.F.type_list_index (h _) (h e) (az g.1) g.2) (Bo yP PySem.F.slot_tuple_index PySem.F.type_tuple_index rfl (h _) (h e) (az g.1) g.2)
  rw[if_neg n2]
  exact aF
 ·rw[if_neg g];exact aF
def vP:Expr->Bool
 | .Name .. =>true
 | .Constant (.str _) _ _=>true
 | .Subscript .. =>true
 | .Call _ (_::_) _ _=>true
 | _=>false
def kI(fE:Expr->GE)(o:Expr)(name:Str)(es:List Expr)(apos cpos:Pos):GE:=if vP o=true/\es.all plain=true/\es.length < 20/\(apos.endLine == cpos.line)=true then
   (if name="index" then dJ jv (fE o) (hV fE es) else if name="split" then dJ eL (fE o) (hV fE es) else b8)
  else b8
theorem xn{o:Expr}{name:Str}{env:Env}(h:vP o=true):attributeBase o name env (eval o env)=eval o env:=by
 cases o with
 | Constant k j p=>cases k<;>first | rfl | cases h
 | Call g as ks p=>
  cases as with
  | nil=>cases h
  | cons e es=>cases g<;>rfl
 | _=>first | rfl | cases h
theorem all_plain{pos:Pos}{env:Env}:∀{es:List Expr},es.all plain=true->(backTo pos (U6 es env)).all (λx=> !x.1)=true
 | [],_=>rfl
 | e::es,h=>by
  rw[bT,bf] at h
  rw[az h.1]
  have q:=all_plain (pos:=pos) (env:=env) h.2
  unfold backTo at q ⊢
  rw[aI,bT,q]
  rfl
theorem hX{fE:Expr->GE}(h:∀e,JE X e (fE e))(o:Expr)(name:Str)(e:Expr)(es:List Expr)(apos cpos:Pos):JE X (.Call (.Attribute o name apos) (e::es) [] cpos) (kI fE o name (e::es) apos cpos):=by
 unfold kI
 by_cases g:vP o=true/\(e::es).all plain=true/\(e::es).length < 20/\(apos.endLine == cpos.line)=true
 ·rw[if_pos g]
  obtain⟨g1,g2,g3,g4⟩:=g
  have gp:plain e=true/\es.all plain=true:=by rw[bT,bf] at g2;exact g2
  have hfew:((backTo cpos (U6 (e::es) X.env)).all (λx=> !x.1)&&(backToKw cpos (keywordEach [] X.env)).all (λx=>x.1.isSome)&&decide ((e::es).length+([]:List Keyword).length+(if([]:List Keyword).isEmpty then 0 else 1) < 30))=true:=by
   rw[all_plain g2]
   have g5:(e::es).length+([]:List Keyword).length+(if([]:List Keyword).isEmpty then 0 else 1) < 30:=by
    show(e::es).length+0+0 < 30
    omega
   rw[decide_eq_true g5]
   rfl
  by_cases n1:name="index"
  ·rw[if_pos n1]
   subst n1
   exact tQ Bi PySem.F.slot_str_index PySem.F.type_str_index (h o) (dA h (e::es) g2) (xn g1) hfew g4 (az gp.1) (eM gp.2)
  rw[if_neg n1]
  by_cases n1:name="split"
  ·rw[if_pos n1]
   subst n1
   exact tQ Bl PySem.F.slot_str_split PySem.F.type_str_split (h o) (dA h (e::es) g2) (xn g1) hfew g4 (az gp.1) (eM gp.2)
  rw[if_neg n1]
  exact aF
 ·rw[if_neg g];exact aF
def E8(c:Ct)(x:Str):Option Dc:=if okN x=true/\c.names.lookup x=some .globalImplicit then c.Df.lookup x else none
theorem E9{c:Ct}{k:Nat}(G:Good c k X){x:Str}{kvs:Dc}(h:E8 c x=some kvs):Gl X x/\(x == ("__debug__":Str))=false/\yK X.K X.w X.mg x kvs:=by
 unfold E8 at h
 by_cases g:okN x=true/\c.names.lookup x=some .globalImplicit
 ·rw[if_pos g] at h
  refine⟨?_,gB g.1,G.Df x kvs h⟩
  show X.env.scope.names.lookup x=_
  rw[G.sc];exact g.2
 ·rw[if_neg g] at h;cases h
def BY(c:Ct)(fE:Expr->GE)(x y:Str)(e:Expr)(p2 q2:Pos):GE:=if x="len"/\y="set"/\plain e=true/\c.names.lookup x=some .globalImplicit/\c.names.lookup y=some .globalImplicit/\c.bl.contains x=true/\c.bl.contains y=true/\c.free=true then aV lG (hV fE [e]) else rQ c fE x [.Call (.Name y p2) [e] [] q2]
def BZ(c:Ct)(fE:Expr->GE)(cpos:Pos):Expr->List Expr->List Keyword->GE
 | .Name x _,[.Call (.Name y p2) [e] [] q2],[]=>BY c fE x y e p2 q2
 | .Name x _,e::es,[]=>rQ c fE x (e::es)
 | .Attribute (.Name x p) name apos,[e],[]=>if name="append"\/name="extend" then BX fE (.Name x p) name e apos cpos else if name="count"\/name="index" then rD (kI fE (.Name x p) name [e] apos cpos) (vO fE (.Name x p) name e apos cpos) else kI fE (.Name x p) name [e] apos cpos
 | .Attribute (.Name x p) name apos,[e,f],[]=>kI fE (.Name x p) name [e,f] apos cpos
 | .Attribute o name apos,[e],[]=>kI fE o name [e] apos cpos
 | .Attribute o name apos,e::es,[]=>kI fE o name (e::es) apos cpos
 | _,_,_=>b8
theorem qp{c:Ct}{k:Nat}(G:Good c k X){fE:Expr->GE}(h:∀e,JE X e (fE e))(x:Str)(e:Expr)(es:List Expr)(p pos:Pos):JE X (.Call (.Name x p) (e::es) [] pos) (rQ c fE x (e::es)):=by
 unfold rQ
 by_cases g:okN x=true/\(e::es).all plain=true/\c.names.lookup x=some .globalImplicit
 ·rw[if_pos g]
  obtain⟨g1,g2,g3⟩:=g
  have hg:Gl X x:=by
   show X.env.scope.names.lookup x=_
   rw[G.sc];exact g3
  have gp:plain e=true/\es.all plain=true:=by rw[bT,bf] at g2;exact g2
  have ha:=dA h (e::es) g2
  cases e1:c.fns.lookup x with
  | some nF=>
   obtain⟨n,F⟩:=nF
   dsimp only
   by_cases cf:c.free=true
   ·rw[if_pos cf]
    obtain⟨a,fd,ps,G1,G2,G3,G4⟩:=G.fns x n F e1
    exact Ef G1 (G.free cf).1 G2 G3 G4 ha hg (gB g1) (az gp.1) (eM gp.2)
   ·rw[if_neg cf]
    exact aF
  | none=>
   dsimp only
   by_cases e3:c.bl.contains x=true
   ·rw[if_pos e3]
    cases e4:M3 c x with
    | none=>exact aF
    | some io=>
     obtain⟨v,op⟩:=io
     obtain⟨b1,b2,b3⟩:=Jh (X:=X) G.tab (λz=>(G.free z).2) e4
     rcases b3 with ⟨id,rfl⟩ | ⟨T,rfl⟩
     ·exact Ak b2 hg (G.bl x e3) b1 ha (BO g1) (gB g1) (az gp.1) (eM gp.2)
     ·exact ym b2 hg (G.bl x e3) b1 ha (BO g1) (gB g1) (az gp.1) (eM gp.2)
   ·rw[if_neg e3]
    exact aF
 ·rw[if_neg g];exact aF
theorem B0{fE:Expr->GE}(h:∀e,JE X e (fE e))(x name:Str)(e:Expr)(p apos cpos:Pos):JE X (.Call (.Attribute (.Name x p) name apos) [e] [] cpos) (BX fE (.Name x p) name e apos cpos):=by
 unfold BX
 by_cases g:plain e=true/\(apos.endLine == cpos.line)=true
 ·rw[if_pos g]
  by_cases n1:name="append"
  ·rw[if_pos n1]
   subst n1
   exact m8 AS PySem.F.slot_list_append PySem.F.type_list_append (h _) (h e) (az g.1) g.2
  rw[if_neg n1]
  by_cases n2:name="extend"
  ·rw[if_pos n2]
   subst n2
   exact m8 EM PySem.F.slot_list_extend PySem.F.type_list_extend (h _) (h e) (az g.1) g.2
  rw[if_neg n2]
  exact aF
 ·rw[if_neg g];exact aF
theorem B1{c:Ct}{k:Nat}(G:Good c k X){fE:Expr->GE}(h:∀e,JE X e (fE e))(x y:Str)(e:Expr)(p p2 q2 pos:Pos):JE X (.Call (.Name x p) [.Call (.Name y p2) [e] [] q2] [] pos) (BY c fE x y e p2 q2):=by
 unfold BY
 by_cases g:x="len"/\y="set"/\plain e=true/\c.names.lookup x=some .globalImplicit/\c.names.lookup y=some .globalImplicit/\c.bl.contains x=true/\c.bl.contains y=true/\c.free=true
 ·rw[if_pos g]
  obtain⟨rfl,rfl,g3,g4,g5,g6,g7,g8⟩:=g
  exact EZ G.un (G.free g8).2 (by show X.env.scope.names.lookup _=_;rw[G.sc];exact g4) (G.bl _ g6) (by show X.env.scope.names.lookup _=_;rw[G.sc];exact g5) (G.bl _ g7) (dA h [e] (by simp[g3])) (az g3)
 ·rw[if_neg g];exact qp G h _ _ _ _ _
theorem B2{c:Ct}{k:Nat}(G:Good c k X){fE:Expr->GE}(h:∀e,JE X e (fE e))(f:Expr)(as:List Expr)(ks:List Keyword)(pos:Pos):JE X (.Call f as ks pos) (BZ c fE pos f as ks):=by
 unfold BZ
 split
 ·exact B1 G h _ _ _ _ _ _ _
 ·exact qp G h _ _ _ _ _
 ·rename_i x p name apos e
  by_cases g:name="append"\/name="extend"
  ·rw[if_pos g];exact B0 h _ _ _ _ _ _
  ·rw[if_neg g]
   by_cases g2:name="count"\/name="index"
   ·rw[if_pos g2];exact Bf (hX h _ _ _ _ _ _) (y0 h _ _ _ _ _ _)
   ·rw[if_neg g2];exact hX h _ _ _ _ _ _
 ·rename_i x p name apos e f
  ·exact hX h _ _ _ _ _ _
 ·exact hX h _ _ _ _ _ _
 ·exact hX h _ _ _ _ _ _
 ·exact aF
def E_:Expr->Bool
 | .Slice .. =>true
 | _=>false
def B3(f:Expr->GE):Option Expr->GO
 | none=>eV
 | some e=>kg (f e)
theorem xo{f:Expr->GE}(h:∀e,JE X e (f e))(o:Option Expr):JO X o (B3 f o):=by
 cases o with
 | none=>exact D8
 | some e=>exact D9 (h e)
def Fb(f:Expr->GE)(a:Expr):Expr->GE
 | .Slice lo hi none _=>eD (f a) (B3 f lo) (B3 f hi)
 | .Slice .. =>b8
 | b=>aj aG (f a) (f b)
theorem B4{f:Expr->GE}(h:∀e,JE X e (f e))(a b:Expr)(pos:Pos):JE X (.Subscript a b pos) (Fb f a b):=by
 unfold Fb
 split
 ·exact yD (h a) (xo h _) (xo h _)
 ·exact aF
 ·rename_i n1 n2
  refine Lv (h a) (h b) ?_
  intro o i
  cases b<;>first | rfl | (rename_i lo hi st p;exact(n2 _ _ _ _ rfl).elim)
def B5(f:Expr->GE)(a:Expr):List CmpOp->List Expr->GE
 | [o],[b]=>if UW o b=false then aj (vN o) (f a) (f b) else b8
 | [o,o'],[b,b']=>if lastMarks [o,o'] [b,b']=false then gL (vN o) (vN o') (f a) (f b) (f b') else b8
 | _,_=>b8
theorem vQ(hu:X.A.units+64 < cLine){f:Expr->GE}(h:∀e,JE X e (f e))(a:Expr)(os:List CmpOp)(bs:List Expr)(pos:Pos):JE X (.Compare a os bs pos) (B5 f a os bs):=by
 unfold B5
 split
 ·rename_i o b
  by_cases g:UW o b=false
  ·rw[if_pos g];exact vb (jU hu o) (h a) (h b) g
  ·rw[if_neg g];exact aF
 ·rename_i o o' b b'
  by_cases g:lastMarks [o,o'] [b,b']=false
  ·rw[if_pos g];exact Ad (jU hu o) (jU hu o') (h a) (h b) (h b') g
  ·rw[if_neg g];exact aF
 ·exact aF
def B6(f:Expr->GE)(a:Expr):List CmpOp->List Expr->GT
 | [o],[b]=>if UW o b=false then dh (aj (vN o) (f a) (f b)) else jg
 | [o,o'],[b,b']=>if lastMarks [o,o'] [b,b']=false then dh (gL (vN o) (vN o') (f a) (f b) (f b')) else jg
 | _,_=>jg
theorem rR(hu:X.A.units+64 < cLine){f:Expr->GE}(h:∀e,JE X e (f e))(a:Expr)(os:List CmpOp)(bs:List Expr)(pos:Pos):JT X (.Compare a os bs pos) (B6 f a os bs):=by
 unfold B6
 split
 ·rename_i o b
  by_cases g:UW o b=false
  ·rw[if_pos g];exact vc (jU hu o) (h a) (h b) g
  ·rw[if_neg g];exact jh
 ·rename_i o o' b b'
  by_cases g:lastMarks [o,o'] [b,b']=false
  ·rw[if_pos g];exact Ae (jU hu o) (jU hu o') (h a) (h b) (h b') g
  ·rw[if_neg g];exact jh
 ·exact jh
def Ji(c:Ct)(f:Expr->GE)(a:Expr):List CmpOp->List Expr->GE
 | [.In],[.Name x p]=>if c.E4.contains x=true then(if UW .In (.Name x p)=false then aj (mU false) (f a) (f (.Name x p)) else b8) else B5 f a [.In] [.Name x p]
 | [.NotIn],[.Name x p]=>if c.E4.contains x=true then(if UW .NotIn (.Name x p)=false then aj (mU true) (f a) (f (.Name x p)) else b8) else B5 f a [.NotIn] [.Name x p]
 | os,bs=>B5 f a os bs
theorem Fc{c:Ct}{k:Nat}(G:Good c k X){f:Expr->GE}(h:∀e,JE X e (f e))(a:Expr)(os:List CmpOp)(bs:List Expr)(pos:Pos):JE X (.Compare a os bs pos) (Ji c f a os bs):=by
 unfold Ji
 split
 ·rename_i x p
  ·by_cases gd:c.E4.contains x=true
   ·rw[if_pos gd]
    by_cases gm:UW .In (.Name x p)=false
    ·rw[if_pos gm];exact vb (Bt G.un) (h a) (h _) gm
    ·rw[if_neg gm];exact aF
   ·rw[if_neg gd];exact vQ G.un h a _ _ pos
 ·rename_i x p
  ·by_cases gd:c.E4.contains x=true
   ·rw[if_pos gd]
    by_cases gm:UW .NotIn (.Name x p)=false
    ·rw[if_pos gm];exact vb (qj G.un) (h a) (h _) gm
    ·rw[if_neg gm];exact aF
   ·rw[if_neg gd];exact vQ G.un h a _ _ pos
 ·exact vQ G.un h a _ _ pos
def B7(c:Ct)(f:Expr->GE)(a:Expr):List CmpOp->List Expr->GT
 | [.In],[.Name x p]=>if c.E4.contains x=true then(if UW .In (.Name x p)=false then dh (aj (mU false) (f a) (f (.Name x p))) else jg) else B6 f a [.In] [.Name x p]
 | [.NotIn],[.Name x p]=>if c.E4.contains x=true then(if UW .NotIn (.Name x p)=false then dh (aj (mU true) (f a) (f (.Name x p))) else jg) else B6 f a [.NotIn] [.Name x p]
 | os,bs=>B6 f a os bs
theorem B8{c:Ct}{k:Nat}(G:Good c k X){f:Expr->GE}(h:∀e,JE X e (f e))(a:Expr)(os:List CmpOp)(bs:List Expr)(pos:Pos):JT X (.Compare a os bs pos) (B7 c f a os bs):=by
 unfold B7
 split
 ·rename_i x p
  ·by_cases gd:c.E4.contains x=true
   ·rw[if_pos gd]
    by_cases gm:UW .In (.Name x p)=false
    ·rw[if_pos gm];exact vc (Bt G.un) (h a) (h _) gm
    ·rw[if_neg gm];exact jh
   ·rw[if_neg gd];exact rR G.un h a _ _ pos
 ·rename_i x p
  ·by_cases gd:c.E4.contains x=true
   ·rw[if_pos gd]
    by_cases gm:UW .NotIn (.Name x p)=false
    ·rw[if_pos gm];exact vc (qj G.un) (h a) (h _) gm
    ·rw[if_neg gm];exact jh
   ·rw[if_neg gd];exact rR G.un h a _ _ pos
 ·exact rR G.un h a _ _ pos
def Jj(c:Ct)(f:Expr->GE):Expr->Expr->GE
 | .Name x p,b=>(match E8 c x with | some kvs=>if E_ b=false then FW kvs (f b) else b8 | none=>Fb f (.Name x p) b)
 | a,b=>Fb f a b
theorem Fd{c:Ct}{k:Nat}(G:Good c k X){f:Expr->GE}(h:∀e,JE X e (f e))(a b:Expr)(pos:Pos):JE X (.Subscript a b pos) (Jj c f a b):=by
 unfold Jj
 split
 ·rename_i x p
  cases e:E8 c x with
  | none=>
   dsimp only
   exact B4 h _ b pos
  | some kvs=>
   dsimp only
   by_cases g:E_ b=false
   ·rw[if_pos g]
    obtain⟨g1,g2,g3⟩:=E9 G e
    refine EI (h b) ?_ g1 g2 g3
    intro o i
    cases b<;>first | rfl | cases g
   ·rw[if_neg g];exact aF
 ·exact B4 h _ b pos
def pairsOf(f:Expr->GE):List (Option Expr)->List Expr->Option (List (GE×GE))
 | [],[]=>some []
 | some k::ks,v::vs=>(match pairsOf f ks vs with | some r=>some ((f k,f v)::r) | none=>none)
 | _,_=>none
def Jk(f:Expr->GE):List Expr->GE
 | []=>b8
 | [a]=>f a
 | a::b::r=>gy (f a) (Jk f (b::r))
theorem xp{f:Expr->GE}(h:∀e,JE X e (f e))(pos:Pos):∀es,JE X (.BoolOp .And es pos) (Jk f es)
 | []=>aF
 | [a]=>Hy (h a)
 | a::b::r=>Hz (h a) (xp h pos (b::r))
def Jl(f:Expr->GT):List Expr->GT
 | []=>jg
 | [a]=>f a
 | a::b::r=>DZ (f a) (Jl f (b::r))
def OU(f:Expr->GT):List Expr->GT
 | []=>jg
 | [a]=>f a
 | a::b::r=>yj (f a) (OU f (b::r))
theorem B9{e:Expr}:JW X e jg:=λρ st σ H m Q S R p=>aa p
theorem xq{f:Expr->GT}(h:∀e,JT X e (f e))(pos:Pos):∀es,JW X (.BoolOp .And es pos) (Jl f es)
 | []=>B9
 | [a]=>D0 (h a)
 | a::b::r=>Hw (h a) (xq h pos (b::r))
theorem B_{f:Expr->GT}(h:∀e,JT X e (f e))(pos:Pos):∀es,JW X (.BoolOp .Or es pos) (OU f es)
 | []=>B9
 | [a]=>Hv (h a)
 | a::b::r=>Lc (h a) (B_ h pos (b::r))
def SX(f:Expr->GE):UnaryOp->Expr->GE
 | .USub,a=>Lb sW (f a)
 | _,_=>b8
def y3(f:Expr->GE)(g:GA->GE)(es:List Expr):GE:=if es.all plain=true then g (hV f es) else b8
def isSet:Expr->Bool
 | .Set .. =>true
 | _=>false
theorem lH{e:Expr}{env:Env}(h:isSet e=false)(x:UT):U2 e env x=pure x:=by
 cases e<;>first | rfl | cases h
def eW(c:Ct)(x:Str):Bool:=decide (x="range")&&decide (c.names.lookup x=some .globalImplicit)&&c.bl.contains x&&(match c.fns.lookup x with | some _=>false | none=>true)
theorem oP{c:Ct}{k:Nat}(G:Good c k X)(y:Str)(hy:eW c y=true):y="range"/\Gl X y/\X.mg y=none:=by
 unfold eW at hy
 simp only[bf,decide_eq_true_eq] at hy
 refine⟨hy.1.1.1,?_,G.bl y hy.1.2⟩
 show X.env.scope.names.lookup y=_
 rw[G.sc];exact hy.1.1.2
def Ca(c:Ct)(f:Expr->GE):Expr->GI
 | .Call (.Name x p) [a] [] q=>if eW c x=true then(if plain a=true then vn (hV f [a]) else wV) else iH (f (.Call (.Name x p) [a] [] q))
 | .Call (.Name x p) [a,b] [] q=>if eW c x=true then(if plain a=true/\plain b=true then A5 (hV f [a,b]) else wV) else iH (f (.Call (.Name x p) [a,b] [] q))
 | e=>if isSet e=false then iH (f e) else wV
theorem xt{c:Ct}{k:Nat}(G:Good c k X){f:Expr->GE}(h:∀e,JE X e (f e))(tg e:Expr):JI X tg e (Ca c f e):=by
 unfold Ca
 split
 ·rename_i y p a q
  by_cases g:eW c y=true
  ·rw[if_pos g]
   obtain⟨rfl,g2,g3⟩:=oP G y g
   by_cases ga:plain a=true
   ·rw[if_pos ga]
    exact LM g2 g3 (dA h [a] (by simp[ga])) (az ga)
   ·rw[if_neg ga];exact vo
  ·rw[if_neg g];exact rF (h _)
 ·rename_i y p a b q
  by_cases g:eW c y=true
  ·rw[if_pos g]
   obtain⟨rfl,g2,g3⟩:=oP G y g
   by_cases ga:plain a=true/\plain b=true
   ·rw[if_pos ga]
    exact LN g2 g3 (dA h [a,b] (by simp[ga])) (by rw[az ga.1,az ga.2];rfl) (by rw[az ga.2];rfl)
   ·rw[if_neg ga];exact vo
  ·rw[if_neg g];exact rF (h _)
 ·by_cases g:isSet e=false
  ·rw[if_pos g];exact rF (h _)
  ·rw[if_neg g];exact vo
def mP(c:Ct):List (Str×UQ)->Option gk
 | []=>some []
 | (n,.free)::r=>if c.names.lookup n=some .cell\/c.names.lookup n=some .free then(match l_ n c.N,mP c r with | some i,some l=>some ((n,i)::l) | _,_=>none) else none
 | _::r=>mP c r
theorem oQ{c:Ct}:∀{ns:List (Str×UQ)}{cs:gk},mP c ns=some cs->(∀y∈ns,y.2= .free->c.names.lookup y.1=some .cell\/c.names.lookup y.1=some .free)/\∀p∈cs,(p.1,dv)∈ns/\c.N[p.2]? =some p.1
 | [],cs,h=>by cases h;exact⟨(λ_ z=>by cases z),(λ_ z=>by cases z)⟩
 | (n,k)::r,cs,h=>by
  unfold mP at h
  split at h
  ·cases ‹_::_=[]›
  ·rename_i n' r' he
   cases he
   by_cases g:c.names.lookup n=some .cell\/c.names.lookup n=some .free
   ·rw[if_pos g] at h
    cases e1:l_ n c.N with
    | none=>rw[e1] at h;cases h
    | some i=>
     cases e2:mP c r with
     | none=>rw[e1,e2] at h;cases h
     | some l=>
      rw[e1,e2] at h
      cases h
      obtain⟨q1,q2⟩:=oQ e2
      refine⟨λy hy e=>?_,λp hp=>?_⟩
      ·rcases List.mem_cons.mp hy with z | z
       ·subst z;exact g
       ·exact q1 y z e
      ·rcases List.mem_cons.mp hp with z | z
       ·subst z;exact⟨aX,hU e1⟩
       ·exact⟨aN _ (q2 p z).1,(q2 p z).2⟩
   ·rw[if_neg g] at h;cases h
  ·rename_i kk r' hk he
   cases he
   obtain⟨q1,q2⟩:=oQ h
   refine⟨λy hy e=>?_,λp hp=>⟨aN _ (q2 p hp).1,(q2 p hp).2⟩⟩
   rcases List.mem_cons.mp hy with z | z
   ·subst z
    have e':k= .free:=e
    subst e'
    exact(hk n rfl).elim
   ·exact q1 y z e
def vR(c:Ct)(ns:List (Str×UQ)):List (Str×UQ):=ns.map λ(n,k)=>if(k == .free&&c.names.lookup n == some .cell) then(n,.cell) else(n,k)
def Cb:ScopeKind->Bool
 | .function=>true
 | _=>false
def jV(scope:Scope)(x:Str):Bool:=Cb scope.kind&&scope.names.all (λy=>decide (scope.names.lookup y.1=some y.2))&&scope.names.all (λy=>decide (y.2≠.cell))&&decide (scope.names.lookup x=some .local)
def Ct.block(c:Ct)(scope:Scope)(x:Str)(cs:gk):Ct:={ c with N:=x::cs.map (·.1),names:=vR c scope.names,loop:=false,top:=false }
def xu(c:Ct)(sub:Ct->(Expr->GE)×(Expr->GT))(f:Expr->GE)(elt:Expr)(x:Str)(iter:Expr)(Jm:Ct->GT)(scope:Scope):GE :=
 if jV scope x=true/\c.free=true/\isSet iter=false then(match mP c scope.names with
  | some cs=>if(x::cs.map (·.1)).Nodup then gz cs (Ca c f iter) (Jm (c.block scope x cs)) ((sub (c.block scope x cs)).1 elt) else b8
  | none=>b8) else b8
def M4(c:Ct)(sub:Ct->(Expr->GE)×(Expr->GT))(f:Expr->GE)(elt:Expr)(scope:Scope):List Comprehension->GE
 | [⟨.Name x _,iter,[],0⟩]=>xu c sub f elt x iter (λ_=>λ_ st=> .ok true st) scope
 | _=>b8
theorem oR{c:Ct}{k:Nat}(G:Good c k X){scope:Scope}{x:Str}{cs:gk}(hs:jV scope x=true)(nd:(x::cs.map (·.1)).Nodup)(C:UN)(s0:US)(H0:Hp)(fp:List UN)(pn:List (UN×Obj))(E:UT->US->Prop)(hA:yv X.A H0) :
  Good (c.block scope x cs) k (fq X scope x cs C s0 H0 fp pn E):=by
 have hk:scope.kind= .function:=by
  have:Cb scope.kind=true:=by
   unfold jV at hs
   simp only[bf] at hs
   exact hs.1.1.1
  revert this
  cases scope.kind<;>intro z<;>first | rfl | cases z
 refine⟨rfl,?_,nd,G.un,G.free,(λz=>by cases z),G.cst,G.bl,G.fns,(λz=>by cases z),(λz=>by cases z),hk,G.tab,G.cls,G.BM,G.Df,⟨G.rm.d,G.rm.u⟩,G.F2,⟨G.x.lam,G.x.F3,G.x.M0,(λz=>by cases z),G.x.sk,G.x.M1⟩,G.fr,hA⟩
 show(relabel scope X.env).names=vR c scope.names
 unfold relabel vR Env.kindOf
 rw[G.kind,G.sc]
 simp
theorem Cc{c:Ct}{k:Nat}(G:Good c k X){scope:Scope}{x:Str}{cs:gk}(hs:jV scope x=true)(hcs:mP c scope.names=some cs)(nd:(x::cs.map (·.1)).Nodup):cJ X scope x cs:=by
 have hs:(Cb scope.kind=true/\∀y∈scope.names,scope.names.lookup y.1=some y.2)/\((scope.names.filter λy=>y.2 == .cell)=[]\/(scope.names.filter λy=>y.2 == .cell)=[(x,.cell)])/\(scope.names.lookup x=some .local\/scope.names.lookup x=some .cell):=by
  unfold jV at hs
  simp only[bf,decide_eq_true_eq,vI] at hs
  exact⟨hs.1.1,.inl (List.filter_eq_nil_iff.mpr λy hy=>by simpa using hs.1.2 y hy),.inl hs.2⟩
 obtain⟨⟨h1,h2⟩,h3,h4⟩:=hs
 have hk:scope.kind= .function:=by
  revert h1
  cases scope.kind<;>intro z<;>first | rfl | cases z
 obtain⟨q1,q2⟩:=oQ hcs
 refine⟨hk,h2,h3,h4,λy hy e=>?_,λp hp=>⟨by rw[G.N];exact(q2 p hp).2,h2 _ (q2 p hp).1⟩,nd⟩
 show X.env.scope.names.lookup y.1=_\/X.env.scope.names.lookup y.1=_
 rw[G.sc];exact q1 y hy e
def Jn(X:Cx)(e:Expr)(g:GE):Prop:=∀(i:Nat)(y:Str)(py spos:Pos),X.N.Nodup->X.N[i]? =some y->Loc X.env.scope y->(X.fn y=true\/X.env.scope.names.lookup y=some .local)->JS X (.Assign [.Name y py] e spos) (bU i g)
theorem y6{i:Nat}{s:Stmt}:JS X s (bU i b8):=λρ st σ H m D S R p=>aa p
theorem gD{e:Expr}:Jn X e b8:=λi y py spos _ _ _ _=>y6
theorem xv{c:Ct}{k:Nat}(G:Good c k X){sub:Ct->(Expr->GE)×(Expr->GT)}(hb:∀c X,Good c k X->(∀e,JE X e ((sub c).1 e))/\∀e,JT X e ((sub c).2 e)){f:Expr->GE}(h:∀e,JE X e (f e))(elt:Expr)(scope:Scope)(gens:List Comprehension)(pos:Pos) :
  JE X (.ListComp elt gens scope pos) (M4 c sub f elt scope gens)/\Jn X (.ListComp elt gens scope pos) (M4 c sub f elt scope gens):=by
 have core:∀(x:Str)(px:Pos)(iter:Expr)(ifs:List Expr)(Jm:Ct->GT),(∀c X,Good c k X->Ia X ifs (Jm c))->
   JE X (.ListComp elt [⟨.Name x px,iter,ifs,0⟩] scope pos) (xu c sub f elt x iter Jm scope)/\Jn X (.ListComp elt [⟨.Name x px,iter,ifs,0⟩] scope pos) (xu c sub f elt x iter Jm scope):=by
  intro x px iter ifs Jm hg
  unfold xu
  by_cases g:jV scope x=true/\c.free=true/\isSet iter=false
  ·rw[if_pos g]
   obtain⟨g1,g2,g3⟩:=g
   cases ec:mP c scope.names with
   | none=>exact⟨aF,gD⟩
   | some cs=>
    dsimp only
    by_cases nd:(x::cs.map (·.1)).Nodup
    ·rw[if_pos nd]
     have CS:=Cc G g1 ec nd
     have hE:∀C s0 H0 fp pn E,yv X.A H0->JE (fq X scope x cs C s0 H0 fp pn E) elt ((sub (c.block scope x cs)).1 elt):=λC s0 H0 fp pn E z=>(hb _ _ (oR G g1 nd C s0 H0 fp pn E z)).1 elt
     have hT:∀C s0 H0 fp pn E,yv X.A H0->Ia (fq X scope x cs C s0 H0 fp pn E) ifs (Jm (c.block scope x cs)):=λC s0 H0 fp pn E z=>hg _ _ (oR G g1 nd C s0 H0 fp pn E z)
     exact⟨wX G.fr CS (tJ (G.free g2).2) G.hd (xt G h _ iter).y hE hT (lH g3),λi y py spos hN hi hl hf=>Es i hN G.fr CS (tJ (G.free g2).2) G.hd (xt G h _ iter).y hE hT (lH g3) hi hl hf⟩
    ·rw[if_neg nd];exact⟨aF,gD⟩
  ·rw[if_neg g];exact⟨aF,gD⟩
 unfold M4
 split
 ·exact core _ _ _ _ _ λ_ _ _=>Ep
 ·exact⟨aF,gD⟩
def Cd(c:Ct)(sub:Ct->(Expr->GE)×(Expr->GT))(f:Expr->GE)(t:Expr->GT):Expr->GE
 | .Name x _=>BU c x
 | .Constant k _ _=>BW k
 | .BinOp a o b _=>aj (Mb o) (f a) (f b)
 | .UnaryOp o a _=>SX f o a
 | .BoolOp .And es _=>Jk f es
 | .Compare a os bs _=>Ji c f a os bs
 | .IfExp q a b _=>Ld (t q) (f a) (f b)
 | .Tuple es _ _=>y3 f je es
 | .List es _=>y3 f lT es
 | .Subscript a b _=>Jj c f a b
 | .Call g as ks p=>BZ c f p g as ks
 | .ListComp elt gens scope _=>M4 c sub f elt scope gens
 | _=>b8
def stepT(c:Ct)(f:Expr->GE)(t:Expr->GT):Expr->GT
 | .UnaryOp .Not a _=>qP (t a)
 | .BoolOp .And es _=>Jl t es
 | .BoolOp .Or es _=>OU t es
 | .Compare a os bs _=>B7 c f a os bs
 | .Name x p=>lV (f (.Name x p))
 | .Call g as ks p=>lV (f (.Call g as ks p))
 | .Subscript a b p=>lV (f (.Subscript a b p))
 | .Constant k j p=>lV (f (.Constant k j p))
 | .BinOp a o b p=>lV (f (.BinOp a o b p))
 | _=>jg
theorem ui{c:Ct}{k:Nat}(G:Good c k X){sub:Ct->(Expr->GE)×(Expr->GT)}(hb:∀k c X,Good c k X->(∀e,JE X e ((sub c).1 e))/\∀e,JT X e ((sub c).2 e)){f:Expr->GE}{t:Expr->GT}(h:∀e,JE X e (f e))(ht:∀e,JT X e (t e))(e:Expr):JE X e (Cd c sub f t e):=by
 have hu:X.A.units+64 < cLine:=G.un
 cases e with
 | Name x p=>exact BV G x p
 | Constant v j p=>exact yV v j p
 | BinOp a o b p=>exact Ht (E7 o) (h a) (h b)
 | UnaryOp o a p=>
  cases o with
  | USub=>exact Hu (h a)
  | _=>exact aF
 | BoolOp o es p=>
  cases o with
  | And=>exact xp h p es
  | Or=>exact aF
 | Compare a os bs p=>exact Fc G h a os bs p
 | IfExp q a b p=>exact Le (ht q) (h a) (h b)
 | Tuple es j p=>
  show JE X _ (y3 f je es)
  unfold y3
  by_cases g:es.all plain=true
  ·rw[if_pos g];exact HA (dA h es g)
  ·rw[if_neg g];exact aF
 | List es p=>
  show JE X _ (y3 f lT es)
  unfold y3
  by_cases g:es.all plain=true
  ·rw[if_pos g];exact HB (dA h es g)
  ·rw[if_neg g];exact aF
 | Subscript a b p=>exact Fd G h a b p
 | Call g as ks p=>exact B2 G h g as ks p
 | ListComp elt gens scope p=>exact(xv G (hb k) h elt scope gens p).1
 | _=>exact aF
def Fe:Expr->Bool
 | .ListComp .. =>true
 | .SetComp .. =>true
 | .DictComp .. =>true
 | .Set .. =>true
 | _=>false
theorem xw{e:Expr}{t:Option Expr}{n:Nat}{env:Env}(h:Fe e=false):swapsWith e t n env=pure false:=by
 cases e<;>first | rfl | cases h
theorem Ce{e o i:Expr}{p:Pos}{n:Nat}{env:Env}:swapsWith e (some (.Subscript o i p)) n env=pure false:=by
 cases e<;>rfl
theorem Cf{c:Ct}{k:Nat}(G:Good c k X){sub:Ct->(Expr->GE)×(Expr->GT)}(hb:∀k c X,Good c k X->(∀e,JE X e ((sub c).1 e))/\∀e,JT X e ((sub c).2 e)){f:Expr->GE}{t:Expr->GT}(h:∀e,JE X e (f e))(ht:∀e,JT X e (t e))(e:Expr):Jn X e (Cd c sub f t e):=by
 by_cases g:Fe e=false
 ·exact λi y py spos hN hi hl hf=>Aq i hN (ui G hb h ht e) hi hl (xw g) hf
 ·cases e with
  | ListComp elt gens scope p=>exact(xv G (hb k) h elt scope gens p).2
  | SetComp=>exact gD
  | DictComp=>exact gD
  | Set=>exact gD
  | _=>exact absurd rfl g
theorem Cg{c:Ct}{k:Nat}(G:Good c k X){f:Expr->GE}{t:Expr->GT}(h:∀e,JE X e (f e))(ht:∀e,JT X e (t e))(e:Expr):JT X e (stepT c f t e):=by
 have hu:X.A.units+64 < cLine:=G.un
 cases e with
 | UnaryOp o a p=>
  cases o with
  | Not=>exact Hx (ht a)
  | _=>exact jh
 | BoolOp o es p=>
  cases o with
  | And=>exact(xq ht p es).jt
  | Or=>exact(B_ ht p es).jt
 | Compare a os bs p=>exact B8 G h a os bs p
 | Name x p=>exact nW (h _) (λ_=>rfl)
 | Call g as ks p=>exact nW (h _) (λ_=>rfl)
 | Subscript a b p=>exact nW (h _) (λ_=>rfl)
 | Constant v j p=>exact nW (h _) (λ_=>rfl)
 | BinOp a o b p=>exact nW (h _) (λ_=>rfl)
 | _=>exact jh
end
def kj:Nat->Ct->(Expr->GE)×(Expr->GT)
 | 0,_=>(λ_=>b8,λ_=>jg)
 | n+1,c=>(Cd c (kj n) (kj n c).1 (kj n c).2,stepT c (kj n c).1 (kj n c).2)
section
variable {X:Cx}
theorem dj:∀(n:Nat)(k:Nat)(c:Ct)(X:Cx),Good c k X->(∀e,JE X e ((kj n c).1 e))/\∀e,JT X e ((kj n c).2 e)
 | 0,_,_,_,_=>⟨λ_=>aF,λ_=>jh⟩
 | n+1,k,c,X,G=>⟨λe=>ui G (λk c X G=>dj n k c X G) (dj n k c X G).1 (dj n k c X G).2 e,λe=>Cg G (dj n k c X G).1 (dj n k c X G).2 e⟩
theorem Ci{k:Nat}:∀(n:Nat)(c:Ct)(X:Cx),Good c k X->∀e,Jn X e ((kj n c).1 e)
 | 0,_,_,_,_=>gD
 | n+1,c,X,G,e=>Cf G (λk c X G=>dj n k c X G) (dj n k c X G).1 (dj n k c X G).2 e
def slot(c:Ct)(x:Str):Option Nat:=if c.names.lookup x=some .local\/(c.names.lookup x=some .cell/\c.top=true) then l_ x c.N else none
theorem xx{c:Ct}{k:Nat}(G:Good c k X){x:Str}{i:Nat}(h:slot c x=some i):X.N[i]? =some x/\(Loc X.env.scope x/\(X.fn x=true\/X.env.scope.names.lookup x=some .local)):=by
 unfold slot at h
 by_cases e:c.names.lookup x=some .local\/(c.names.lookup x=some .cell/\c.top=true)
 ·rw[if_pos e] at h
  refine⟨by rw[G.N];exact hU h,?_⟩
  rcases e with e | ⟨e,e2⟩
  ·have q:X.env.scope.names.lookup x=some .local:=by rw[G.sc];exact e
   exact⟨.inl q,.inr q⟩
  ·have q:X.env.scope.names.lookup x=some .cell:=by rw[G.sc];exact e
   exact⟨.inr q,.inl (G.fn e2 x)⟩
 ·rw[if_neg e] at h;cases h
def slots(c:Ct):List Expr->Option (List Nat)
 | []=>some []
 | .Name x _::es=>(match slot c x,slots c es with | some i,some is=>some (i::is) | _,_=>none)
 | _=>none
def Jo(c:Ct)(f:Expr->GE)(v:Expr):List Expr->GS
 | [.Name x _]=>(match slot c x with | some i=>bU i (f v) | none=>dG)
 | [.Subscript o i _]=>if E_ i=false then wO (f v) (f o) (f i) else dG
 | _=>dG
theorem Jp{c:Ct}{k:Nat}(G:Good c k X){f:Expr->GE}(h:∀e,JE X e (f e))(ha:∀e,Jn X e (f e))(v:Expr)(ts:List Expr)(pos:Pos):JS X (.Assign ts v pos) (Jo c f v ts):=by
 unfold Jo
 split
 ·rename_i x p
  cases e:slot c x with
  | none=>exact cE
  | some i=>
   obtain⟨e1,e2⟩:=xx G e
   dsimp only
   exact ha v i x _ _ (by rw[G.N];exact G.nd) e1 e2.1 e2.2
 ·rename_i o i p
  by_cases g2:E_ i=false
  ·rw[if_pos g2]
   refine Ed (h v) (h o) (h i) (by unfold swapsWithSole;exact Ce) ?_ rfl ?_
   ·cases v<;>rfl
   ·intro _
    cases i<;>first | rfl | cases g2
  ·rw[if_neg g2];exact cE
 ·exact cE
def Jq(c:Ct)(f:Expr->GE)(i:Nat)(gb:GS):Expr->GS
 | .Call (.Name x p) [a] [] q=>if eW c x=true then(if plain a=true then qW i (hV f [a]) gb else dG) else nY i (f (.Call (.Name x p) [a] [] q)) gb
 | .Call (.Name x p) [a,b] [] q=>if eW c x=true then(if plain a=true/\plain b=true then qX i (hV f [a,b]) gb else dG) else nY i (f (.Call (.Name x p) [a,b] [] q)) gb
 | e=>if isSet e=false then nY i (f e) gb else dG
theorem Jr{c:Ct}{k:Nat}(G:Good c k X)(hl:c.loop=true){f:Expr->GE}(h:∀e,JE X e (f e)){x:Str}{i:Nat}(hx:slot c x=some i){body:List Stmt}{gb:GS}(hb:nU X body gb)(e:Expr)(pos pos':Pos):JS X (.For (.Name x pos') e body [] pos) (Jq c f i gb e):=by
 have nd:X.N.Nodup:=by rw[G.N];exact G.nd
 obtain⟨e1,e2⟩:=xx G hx
 have rg:=oP G
 unfold Jq
 split
 ·rename_i y p a q
  by_cases g:eW c y=true
  ·rw[if_pos g]
   obtain⟨rfl,g2,g3⟩:=rg y g
   by_cases ga:plain a=true
   ·rw[if_pos ga]
    exact AI i nd (G.loop hl).2 (G.loop hl).1 g2 g3 (dA h [a] (by simp[ga])) hb e1 e2.1 e2.2 (az ga)
   ·rw[if_neg ga];exact cE
  ·rw[if_neg g];exact vi i nd (G.loop hl).2 (G.loop hl).1 (h _) hb e1 e2.1 e2.2 (lH rfl)
 ·rename_i y p a b q
  by_cases g:eW c y=true
  ·rw[if_pos g]
   obtain⟨rfl,g2,g3⟩:=rg y g
   by_cases ga:plain a=true/\plain b=true
   ·rw[if_pos ga]
    exact AJ i nd (G.loop hl).2 (G.loop hl).1 g2 g3 (dA h [a,b] (by simp[ga])) hb e1 e2.1 e2.2 (by rw[az ga.1,az ga.2];rfl) (by rw[az ga.2];rfl)
   ·rw[if_neg ga];exact cE
  ·rw[if_neg g];exact vi i nd (G.loop hl).2 (G.loop hl).1 (h _) hb e1 e2.1 e2.2 (lH rfl)
 ·by_cases g:isSet e=false
  ·rw[if_pos g];exact vi i nd (G.loop hl).2 (G.loop hl).1 (h _) hb e1 e2.1 e2.2 (lH g)
  ·rw[if_neg g];exact cE
def vS(c:Ct)(f:Expr->GE):Expr->GS
 | .Call (.Name x _) (e::es) [] _=>if okN x=true/\(e::es).all plain=true/\c.names.lookup x=some .globalImplicit/\c.clss.contains x=true/\c.free=true then jj x (hV f (e::es)) else dG
 | _=>dG
theorem Cj{c:Ct}{k:Nat}(G:Good c k X){f:Expr->GE}(h:∀e,JE X e (f e))(e:Expr)(pos:Pos):JS X (.Raise (some e) none pos) (vS c f e):=by
 unfold vS
 split
 ·rename_i x p e es q
  by_cases g:okN x=true/\(e::es).all plain=true/\c.names.lookup x=some .globalImplicit/\c.clss.contains x=true/\c.free=true
  ·rw[if_pos g]
   obtain⟨g1,g2,g3,g4,g5⟩:=g
   have hg:Gl X x:=by
    show X.env.scope.names.lookup x=_
    rw[G.sc];exact g3
   have gp:plain e=true/\es.all plain=true:=by rw[bT,bf] at g2;exact g2
   obtain⟨C,q1,q2⟩:=G.cls x g4
   exact AK (G.free g5).2 q2 hg q1 (dA h (e::es) g2) (gB g1) (az gp.1) (eM gp.2)
  ·rw[if_neg g];exact cE
 ·exact cE
def Ck(c:Ct)(f:Expr->GE)(t:Expr->GT)(b:Ct->List Stmt->GS):Stmt->GS
 | .Return (some e) _=>bN (f e)
 | .Return none _=>bN (gC .bS)
 | .Expr e _=>if Fe e=false then p5 (f e) else dG
 | .If q x y _=>nV (t q) (b c x) (b c y)
 | .Assign ts v _=>Jo c f v ts
 | .For (.Name x _) e body [] _=>if c.loop=true then(match slot c x with | some i=>Jq c f i (b c body) e | none=>dG) else dG
 | .Raise (some e) none _=>vS c f e
 | .Pass _=>cD
 | _=>dG
theorem Cm{c:Ct}{k:Nat}(G:Good c k X){f:Expr->GE}{t:Expr->GT}{b:Ct->List Stmt->GS}(h:∀e,JE X e (f e))(ha:∀e,Jn X e (f e))(ht:∀e,JT X e (t e))(hb:∀c X,Good c k X->∀s,nU X s (b c s))(s:Stmt):JS X s (Ck c f t b s):=by
 unfold Ck
 split
 ·exact HL (h _)
 ·exact Ei
 ·rename_i e p
  by_cases g:Fe e=false
  ·rw[if_pos g];exact Ec (h _) (xw g)
  ·rw[if_neg g];exact cE
 ·exact Ly (ht _) (hb c X G _) (hb c X G _)
 ·exact Jp G h ha _ _ _
 ·rename_i x p e body q
  by_cases g:c.loop=true
  ·rw[if_pos g]
   cases e1:slot c x with
   | none=>exact cE
   | some i=>exact Jr G g h e1 (hb c X G body) e _ _
  ·rw[if_neg g];exact cE
 ·exact Cj G h _ _
 ·exact Eb
 ·exact cE
end
def vT(f:Stmt->GS):List Stmt->GS
 | []=>cD
 | [s]=>f s
 | s::s'::r=>bo (f s) (vT f (s'::r))
theorem uj{X:Cx}{f:Stmt->GS}(h:∀s,JS X s (f s)):∀ss,nU X ss (vT f ss)
 | []=>D_
 | [s]=>Ea (h s)
 | s::s'::r=>Ap (h s) (uj h (s'::r))
def bZ:Nat->Ct->List Stmt->GS
 | 0,_=>λ_=>dG
 | n+1,c=>vT (Ck c (kj 40 c).1 (kj 40 c).2 (bZ n))
theorem oS{k:Nat}:∀(n:Nat)(c:Ct)(X:Cx),Good c k X->∀ss:List Stmt,nU X ss (bZ n c ss)
 | 0,_,_,_,_=>yn
 | n+1,c,X,G,ss=>uj (λs=>Cm G (dj 40 k c X G).1 (Ci 40 c X G) (dj 40 k c X G).2 (oS n) s) ss
structure Ff(K:PySem.W.Frag)(mg:Str->Option UT)(q:Str)(P:UN):Prop where
 tab:iu K q=some P
 code:∃c o vs file tf flags tg OV text tt,PySem.W.tabIn K q=some (c,P)/\K.lookup c=some o/\o.cls= .type "code"/\o.data= .fields vs/\vs[11]? =some (.ref P)/\vs.getD 11 .none= .ref P/\vs.getD 18 .none= .str file tf/\
  vs.getD 7 .none= .int flags tg/\vs.getD 9 .none= .bool OV/\vs.getD 10 .none= .int text tt/\c≠P
 mem:q∈dq
 uniq:∀q',q'∈dq->iu K q'=some P->q'=q
theorem Ff.at'{X:Cx}{q:Str}{P f:UN}{cdv:UT}(h:Ff X.K X.mg q P)(M:Br X.K X.mg X.base)(hn:PySem.W.nsIn X.K U4 q=some (some (.ref f)))(hc:Ay X.K f cdv)(e1:X.env.code=cdv)(e2:X.env.qual=q++".<locals>."):FX X q P:=by
 obtain⟨c,o,vs,file,tf,flags,tg,OV,text,tt,t,l,r⟩:=h.code
 refine⟨⟨c,?_,o,vs,file,tf,flags,tg,OV,text,tt,M.1.Kn _ _ l,r⟩,e2,h.tab,h.mem,h.uniq,M.2⟩
 ·obtain⟨of,lf,fd,d,cd⟩:=hc
  rw[e1,<-cd]
  unfold PySem.W.tabIn at t
  rw[hn] at t
  dsimp only at t
  rw[lf] at t
  obtain⟨oc,od,da,sl⟩:=of
  dsimp only at d
  subst d
  dsimp only at t
  cases q1:fd.code with
  | ref c2=>
   rw[q1] at t
   dsimp only at t
   split at t
   ·split at t
    ·cases t;rfl
    ·cases t
   ·cases t
  | _=>rw[q1] at t;cases t
structure Cn(c:Ct)(k:Nat)(P:UR)(w:UU)(K:PySem.W.Frag)(mg:Str->Option UT)(base:Heap):Prop where
 lam:∀p L,c.lam=some (p,L)->IZ P w K mg base k p 3 L
 F3:∀x F,c.F3.lookup x=some F->QN P w K mg k c.lj x F
 M0:∀x n F,c.fns.lookup x=some (n,F)->c.OS.contains x=true->∀base,Br K mg base->jR P w K mg base c.lj x n F
 at':c.self∈dq->∃P,Ff K mg c.self P
 sk:c.sk<=k
 M1:∀x n F,c.fns.lookup x=some (n,F)->c.OT.contains x=true->jR P w K mg base c.lj x n F
theorem Cn.no{c:Ct}{k:Nat}{P:UR}{w:UU}{K:PySem.W.Frag}{mg:Str->Option UT}{base:Heap}(h1:c.lam=none)(h2:c.F3=[])(h3:c.OS=[])(h4:c.self="")(h5:c.sk=0:=by rfl)(h6:c.OT=[]:=by rfl):Cn c k P w K mg base :=
 ⟨(λp L e=>by rw[h1] at e;cases e),(λx F e=>by rw[h2] at e;cases e),(λx n F _ e=>by rw[h3] at e;cases e),(λe=>by rw[h4] at e;exact absurd e (by decide)),by rw[h5];exact aA _,(λx n F _ e=>by rw[h6] at e;cases e)⟩
structure Cp(c:Ct)(k:Nat)(P:UR)(w:UU)(K:PySem.W.Frag)(mg:Str->Option UT)(base:Heap):Prop where
 cst:∀x w,c.consts.lookup x=some w->BP K mg x w
 bl:∀x,c.bl.contains x=true->mg x=none
 fns:∀x n F,c.fns.lookup x=some (n,F)->jR P w K mg base k x n F
 tab:TabOk K c.tb c.tt c.tc
 cls:∀x,c.clss.contains x=true->∃C,mg x=some (.ref C)/\Ej K x C
 BM:∀x,c.BM.contains x=true->∃C,mg x=some (.ref C)/\ClsAt K x C
 Df:∀x kvs,c.Df.lookup x=some kvs->yK K w mg x kvs
 F2:∀x n F,c.F2.contains x=true->c.fns.lookup x=some (n,F)->IX P w K mg base k x n F
 x:Cn c k P w K mg base
theorem bh{P:UR}{w:UU}{K:PySem.W.Frag}{mg:Str->Option UT}{base:Heap}{h:Heap}{k:Nat}{c:Ct}{x:Str}{st:Stmt}{ps:List Str}{g:GS}(KX:K.In h)(NS:h.Ns U4 mg)(D:cb K x st)(T:Cp c k P w K mg base)
  (S:FnScope c.N ps (defScope st))(hn:(defScope st).names=c.names)(hg:bZ 30 c (defBody st)=g)
  (hb:∀(kV doc pm:UT)(an:Option UN)(cdv ct:UT)(us:List UT),us.length=ps.length->bindArgs (PySem.W.fnOf x x (defArgs st) (defBody st) (defScope st) .none kV doc pm an cdv ct) ⟨us,[]⟩=pure (ps.zip us))(hM:c.self∈dq->Br K mg base/\c.self=x:=by exact λz=>absurd (show("":Str)∈dq from z) (by decide)) :
  jR P w K mg base (k+1) x ps.length (gg c.N.length g):=by
 obtain⟨f,fd,a,F⟩:=D
 refine⟨f,fd,ps,?_,PySem.W.mg_of KX NS a,F.kp,F.binds hb⟩
 subst hg
 refine FR F S λcdv OW A outer s H E hr=>?_
 refine oS (k:=k) 30 c _ ⟨rfl,hn,S.nd,xm hr,λ_=>⟨hr,rfl⟩,λ_=>⟨rfl,Fg⟩,T.cst,T.bl,T.fns,λ_=>⟨rfl,rfl,rfl⟩,λ_ _=>rfl,S.kind,T.tab,T.cls,T.BM,T.Df,qi.of hr,T.F2,⟨T.x.lam,T.x.F3,T.x.M0,λ_ z=>?_,T.x.sk,T.x.M1⟩,⟨_,_,_,rfl,rfl,rfl⟩,.inl hr.hd⟩ _
 obtain⟨P',L⟩:=T.x.at' z
 obtain⟨M,e⟩:=hM z
 exact⟨P',Ff.at' L M (by rw[e];exact a) OW rfl (by rw[e];rfl)⟩
theorem Fh{P:UR}{w:UU}{K:PySem.W.Frag}{mg:Str->Option UT}{h:Heap}{k:Nat}{F:List Wv->Hs->Re Wv}{fa:UN}{st:Stmt}(KX:K.In h)(NS:h.Ns U4 mg)(hmg:mg "law"=some (.ref fa))(D:cb K "law" st)
  (hp:∀(kV doc pm:UT)(an:Option UN)(cdv ct:UT)(s:US)(u:UT),BindsTo s (PySem.W.fnOf "law" "law" (defArgs st) (defBody st) (defScope st) .none kV doc pm an cdv ct) ⟨[u],[]⟩ [("script",u)])
  (FN:∀(f:UN)(fd:UP),G' K "law" "law" st f fd->∀base:Heap,K.In base->base.Ns U4 mg->FnOk P w K mg base (CXJ P w) k f fd ["script"] (spW K 1 F)) :
  ∃fd:UP,(∀(s:US)(u:UT),BindsTo s fd ⟨[u],[]⟩ [("script",u)])/\∀base:Heap,K.In base->base.Ns U4 mg->FnOk P w K mg base (CXJ P w) k fa fd ["script"] (spW K 1 F):=by
 obtain⟨f,fd,a,Fu⟩:=D
 have e:=hmg.symm.trans (PySem.W.mg_of KX NS a)
 cases e
 refine⟨fd,λs u=>?_,FN fa fd Fu⟩
 obtain⟨oc,od,kV,doc,pm,an,cdv,ct,osl,rfl,lk,hcd⟩:=Fu.ex
 exact hp kV doc pm an cdv ct s u
theorem Js{P:UR}{w:UU}{K:PySem.W.Frag}{mg:Str->Option UT}{base:Heap}{k:Nat}{c:Ct}{x:Str}{st:Stmt}{ps:List Str}{g:GS}{f:UN}{fd:UP}(F:G' K x x st f fd)(T:Cp c k P w K mg base)
  (S:FnScope c.N ps (defScope st))(hn:(defScope st).names=c.names)(hg:bZ 30 c (defBody st)=g)(hs:c.self∉dq:=by exact(show("":Str)∉dq by decide)):FnOk P w K mg base (CXJ P w) (k+1) f fd ps (spW K ps.length (gg c.N.length g)):=by
 subst hg
 refine FR F S λcdv _ A outer s H E hr=>?_
 exact oS (k:=k) 30 c _ ⟨rfl,hn,S.nd,xm hr,λ_=>⟨hr,rfl⟩,λ_=>⟨rfl,Fg⟩,T.cst,T.bl,T.fns,λ_=>⟨rfl,rfl,rfl⟩,λ_ _=>rfl,S.kind,T.tab,T.cls,T.BM,T.Df,qi.of hr,T.F2,⟨T.x.lam,T.x.F3,T.x.M0,λ_ z=>absurd z hs,T.x.sk,T.x.M1⟩,⟨_,_,_,rfl,rfl,rfl⟩,.inl hr.hd⟩ _
def AllP{α:Type}(P:α->Prop):List α->Prop
 | []=>True
 | a::l=>P a/\AllP P l
theorem AllP.look{κ β:Type}[BEq κ][LawfulBEq κ]{P:κ×β->Prop}:∀{l:List (κ×β)}{x:κ}{b:β},AllP P l->l.lookup x=some b->P (x,b)
 | [],_,_,_,h=>by cases h
 | (y,c)::l,x,b,a,h=>by
  rw[dU] at h
  cases e:x == y with
  | true=>
   rw[e] at h
   cases h
   have e':=eq_of_beq e
   subst e'
   exact a.1
  | false=>rw[e] at h;exact AllP.look a.2 h
theorem AllP.mem{P:Str->Prop}:∀{l:List Str}{x:Str},AllP P l->l.contains x=true->P x
 | [],_,_,h=>by cases h
 | y::l,x,a,h=>by
  rw[AM,Ao] at h
  rcases h with e | h
  ·have e':=eq_of_beq e
   subst e'
   exact a.1
  ·exact AllP.mem a.2 h
theorem lI{K:PySem.W.Frag}{c:PySem.Str}{C D:UN}(h:ClsAt K c C)(k:ClsAt K c D):C=D:=by
 unfold ClsAt at h k
 rw[h] at k
 cases k
 rfl
theorem Jt{K:PySem.W.Frag}{tb:Tab}{tt:vj}{tc:Tab}(h:AllP (λp=>∃C D,ClsAt K p.1.1 C/\ClsAt K p.1.2 D/\kf K C/\PySem.W.kitOne K (.ref C) (.ref D)=some p.2) tb)
  (g:AllP (λp=>∃C,ClsAt K p.1.1 C/\kf K C/\PySem.W.kitOne K (.ref C) (.type p.1.2)=some p.2) tt)
  (f:AllP (λp=>∃C D,ClsAt K p.1.1 C/\ClsAt K p.1.2 D/\PySem.W.excIn K C zr zt=true/\PySem.W.excIn K D zr zt=true/\PySem.W.mroIn K C (.ref D)=some p.2) tc):TabOk K tb tt tc :=
 ⟨λc d b C D e hC hD=>by
  obtain⟨C',D',q1,q2,r⟩:=AllP.look h e
  cases lI hC q1
  cases lI hD q2
  exact r,λc d b C D e hC hD=>by
  obtain⟨C',D',q1,q2,r⟩:=AllP.look f e
  cases lI hC q1
  cases lI hD q2
  exact r,λc T b C e hC=>by
  obtain⟨C',q1,r⟩:=AllP.look g e
  cases lI hC q1
  exact r⟩
theorem aK{c:Ct}{k:Nat}{P:UR}{w:UU}{K:PySem.W.Frag}{mg:Str->Option UT}{base:Heap}(hc:AllP (λp=>BP K mg p.1 p.2) c.consts)(hb:AllP (λx=>mg x=none) c.bl)(hf:AllP (λp=>jR P w K mg base k p.1 p.2.1 p.2.2) c.fns)
  (ht:TabOk K c.tb c.tt c.tc)(hk:AllP (λx=>∃C,mg x=some (.ref C)/\Ej K x C) c.clss)(hn:AllP (λx=>∃C,mg x=some (.ref C)/\ClsAt K x C) c.BM)(hd:AllP (λp=>yK K w mg p.1 p.2) c.Df)
  (hu:AllP (λx=>∀n F,c.fns.lookup x=some (n,F)->IX P w K mg base k x n F) c.F2:=by exact trivial)(hx:Cn c k P w K mg base:=by exact Cn.no rfl rfl rfl rfl):Cp c k P w K mg base :=
 ⟨λ_ _ h=>hc.look h,λ_ h=>hb.mem h,λx n F h=>hf.look (b:=(n,F)) h,ht,λ_ h=>hk.mem h,λ_ h=>hn.mem h,λx kvs h=>hd.look (b:=kvs) h,λx n F h k=>hu.mem h n F k,hx⟩
def Rs.sq(r:Rs)(h:GS):Rs:=match r with
 | .nx ρ st=>h ρ st
 | r=>r
section
variable {α β:Type} {ρ ρ':bY} {st:Hs} {h g UA UB:GS} {ga gb gc:GE} {gt gu:GT} {w:Wv} {c:PySem.Str} {f:α->Hs->Re β} {k:α->Hs->Rs} {a:α} {i:Nat}
@[simp] theorem QW:(Rs.nx ρ st).sq h=h ρ st:=rfl
@[simp] theorem QX:(Rs.rt w st).sq h= .rt w st:=rfl
@[simp] theorem QY:(Rs.bk ρ st).sq h= .bk ρ st:=rfl
@[simp] theorem QZ:(Rs.ct ρ st).sq h= .ct ρ st:=rfl
@[simp] theorem OX:(Rs.err c ρ st).sq h= .err c ρ st:=rfl
@[simp] theorem OY:Rs.bad.sq h= .bad:=rfl
@[simp] theorem Fi:(Re.ok a st).bind f=f a st:=rfl
@[simp] theorem Mc:(Re.err c st).bind f= .err c st:=rfl
@[simp] theorem Md:(Re.bad:Re α).bind f= .bad:=rfl
@[simp] theorem Ju:(Re.ok a st).bI ρ k=k a st:=rfl
@[simp] theorem M5:(Re.err c st:Re α).bI ρ k= .err c ρ st:=rfl
@[simp] theorem Jv:(Re.ok a st).jd= .ok a st:=rfl
@[simp] theorem M6:(Re.bad:Re α).jd= .bad:=rfl
@[simp] theorem M7:(Re.bad:Re α).bI ρ k= .bad:=rfl
@[simp] theorem Me:bo g h ρ st=(g ρ st).sq h:=by unfold bo Rs.sq;cases g ρ st<;>rfl
@[simp] theorem e_next:cD ρ st= .nx ρ st:=rfl
@[simp] theorem Q0:bN ga ρ st=(ga ρ st).bI ρ λw st'=> .rt w st':=rfl
@[simp] theorem e_expr:p5 ga ρ st=(ga ρ st).bI ρ λ_ st'=> .nx ρ st':=rfl
@[simp] theorem Q1:bU i ga ρ st=(ga ρ st).bI ρ λw st'=> .nx (ρ.set i (some w)) st':=rfl
def OZ(ga gb:GS)(ρ:bY):Bool->Hs->Rs:=λb st'=>if b=true then ga ρ st' else gb ρ st'
@[simp] theorem Q2:OZ g h ρ true st=g ρ st:=rfl
@[simp] theorem Q3:OZ g h ρ false st=h ρ st:=rfl
@[simp] theorem SY:nV gt g h ρ st=(gt ρ st).bI ρ (OZ g h ρ):=rfl
def Q4(o:Option (Option Wv))(st:Hs):Re Wv:=match o with
 | some (some w)=> .ok w st
 | _=> .bad
@[simp] theorem Mf:Q4 (some (some w)) st= .ok w st:=rfl
@[simp] theorem Mi:ag i ρ st=Q4 ρ[i]? st:=rfl
@[simp] theorem e_c:gC w ρ st= .ok w st:=rfl
def kB(op:f7)(gb:GE)(ρ:bY):Wv->Hs->Re Wv:=λx st1=>(gb ρ st1).bind λy st2=>(op x y st2).jd
@[simp] theorem S0{op:f7}{x:Wv}:kB op gb ρ x st=(gb ρ st).bind λy st2=>(op x y st2).jd:=rfl
@[simp] theorem Q5{op:f7}:aj op ga gb ρ st=(ga ρ st).bind (kB op gb ρ):=rfl
@[simp] theorem Q6:dh ga ρ st=(ga ρ st).bind Ka:=rfl
@[simp] theorem Q7{b:Bool}:Ka (.bl b) st= .ok b st:=rfl
@[simp] theorem Q8:lV ga ρ st=(ga ρ st).bind HN:=rfl
@[simp] theorem O0{b:Bool}:HN (.bl b) st= .ok b st:=rfl
@[simp] theorem Q9:qP gt ρ st=(gt ρ st).bind λb st1=> .ok (!b) st1:=rfl
def Jw(gb:GT)(ρ:bY):Bool->Hs->Re Bool:=λb st1=>if b=true then gb ρ st1 else .ok false st1
@[simp] theorem O1:Jw gu ρ true st=gu ρ st:=rfl
@[simp] theorem O2:Jw gu ρ false st= .ok false st:=rfl
@[simp] theorem Q_:DZ gt gu ρ st=(gt ρ st).bind (Jw gu ρ):=rfl
def O3(gb:GT)(ρ:bY):Bool->Hs->Re Bool:=λb st1=>if b=true then .ok true st1 else gb ρ st1
@[simp] theorem Ra:O3 gu ρ true st= .ok true st:=rfl
@[simp] theorem Rb:O3 gu ρ false st=gu ρ st:=rfl
@[simp] theorem S6:yj gt gu ρ st=(gt ρ st).bind (O3 gu ρ):=rfl
def Cq(gb:GE)(ρ:bY):Wv->Hs->Re Wv:=λw st1=>match w with
 | .bl true=>gb ρ st1
 | .bl false=> .ok (.bl false) st1
 | _=> .bad
@[simp] theorem M8:Cq gb ρ (.bl true) st=gb ρ st:=rfl
@[simp] theorem M9:Cq gb ρ (.bl false) st= .ok (.bl false) st:=rfl
@[simp] theorem O4:gy ga gb ρ st=(ga ρ st).bind (Cq gb ρ):=rfl
def Mj:Wv->Hs->Re Wv:=λw st1=>match w with
 | .bl b=> .ok (.bl (!b)) st1
 | _=> .bad
@[simp] theorem M_{b:Bool}:Mj (.bl b) st= .ok (.bl (!b)) st:=rfl
@[simp] theorem Rc:aq ρ st= .ok [] st:=rfl
def F4(gr:GA)(ρ:bY):Wv->Hs->Re (List Wv):=λx st1=>(gr ρ st1).bind λxs st2=> .ok (x::xs) st2
@[simp] theorem M'{gr:GA}{x:Wv}:F4 gr ρ x st=(gr ρ st).bind λxs st2=> .ok (x::xs) st2:=rfl
@[simp] theorem O5{gr:GA}:ae ga gr ρ st=(ga ρ st).bind (F4 gr ρ):=rfl
def y7:List Wv->Hs->Re Wv:=λws st1=>if ws.length<=lim then .ok (.tup ws) st1 else .bad
theorem Cr{ws:List Wv}(hl:ws.length<=lim):y7 ws st= .ok (.tup ws) st:=if_pos hl
@[simp] theorem Rf{gr:GA}:je gr ρ st=(gr ρ st).bind y7:=rfl
def Cs:List Wv->Hs->Re Wv:=λws st1=>if ws.length<=lim then .ok (.ref st1.length) (st1++[.lst ws]) else .bad
theorem vU{ws:List Wv}(hl:ws.length<=lim):Cs ws st= .ok (.ref st.length) (st++[.lst ws]):=if_pos hl
@[simp] theorem Rg{gr:GA}:lT gr ρ st=(gr ρ st).bind Cs:=rfl
section
variable {x x0 x1 x2 x3 x4 x5 x6 x7:Wv}
@[simp] theorem Cu:y7 [x0,x1] st= .ok (.tup [x0,x1]) st:=Cr (by simp[lim])
@[simp] theorem oT:y7 [x0,x1,x2,x3] st= .ok (.tup [x0,x1,x2,x3]) st:=Cr (by simp[lim])
@[simp] theorem O6:Cs [] st= .ok (.ref st.length) (st++[.lst []]):=vU (by simp[lim])
@[simp] theorem O7:Cs [x0] st= .ok (.ref st.length) (st++[.lst [x0]]):=vU (by simp[lim])
@[simp] theorem O8:Cs [x0,x1] st= .ok (.ref st.length) (st++[.lst [x0,x1]]):=vU (by simp[lim])
end
def qq(n:Nat)(F:List Wv->Hs->Re Wv):List Wv->Hs->Re Wv:=λws st1=>if ws.length=n then F ws st1 else .bad
section
variable {F:List Wv->Hs->Re Wv} {x0 x1 x2 x3:Wv} {gr:GA}
@[simp] theorem Na:qq 1 F [x0] st=F [x0] st:=rfl
@[simp] theorem Nb:qq 2 F [x0,x1] st=F [x0,x1] st:=rfl
@[simp] theorem Nc:qq 3 F [x0,x1,x2] st=F [x0,x1,x2] st:=rfl
@[simp] theorem Nd:qq 4 F [x0,x1,x2,x3] st=F [x0,x1,x2,x3] st:=rfl
@[simp] theorem O9{n:Nat}:ay n F gr ρ st=(gr ρ st).bind (qq n F):=rfl
@[simp] theorem Nf{op:List Wv->Hs->Re Wv}:aV op gr ρ st=(gr ρ st).bind λws st1=>(op ws st1).jd:=rfl
end
@[simp] theorem S7{op:Wv->Hs->Re Wv}:Lb op ga ρ st=(ga ρ st).bind op:=rfl
@[simp] theorem Rh{i:Int}:sW (.int i) st= .ok (.int (-i)) st:=rfl
@[simp] theorem Ri{i j:Int}:cC (.int i) (.int j) st= .ok (.int (i+j)) st:=rfl
@[simp] theorem Rj{i j:Int}:ku (.int i) (.int j) st= .ok (.int (i - j)) st:=rfl
@[simp] theorem S8{i j:Int}:oLt (.int i) (.int j) st= .ok (.bl (decide (i < j))) st:=rfl
@[simp] theorem S_{i j:Int}:oLe (.int i) (.int j) st= .ok (.bl (decide (i<=j))) st:=rfl
@[simp] theorem Tf{i j:Int}:RY (.int i) (.int j) st= .ok (.bl (decide (j < i))) st:=rfl
@[simp] theorem Tg{i j:Int}:RZ (.int i) (.int j) st= .ok (.bl (decide (j<=i))) st:=rfl
@[simp] theorem Th{i j:Int}:oEq (.int i) (.int j) st= .ok (.bl (i == j)) st:=rfl
@[simp] theorem Ti{i j:Int}:iy (.int i) (.int j) st= .ok (.bl (!(i == j))) st:=rfl
@[simp] theorem Tj{i j:PySem.Str}:oEq (.str i) (.str j) st= .ok (.bl (i == j)) st:=rfl
@[simp] theorem Jx{i j:PySem.Str}:iy (.str i) (.str j) st= .ok (.bl (!(i == j))) st:=rfl
@[simp] theorem O_{i j:Bool}:oEq (.bl i) (.bl j) st= .ok (.bl (i == j)) st:=by cases i<;>cases j<;>rfl
@[simp] theorem Tn{i j:Bool}:iy (.bl i) (.bl j) st= .ok (.bl (!(i == j))) st:=by cases i<;>cases j<;>rfl
theorem Cv{i j:Int}(h:j≠0/\j.natAbs.log2 < 9000):pX (.int i) (.int j) st= .ok (.int (i.fdiv j)) st:=by show(if _ then _ else _)=_;rw[if_pos h]
theorem uk{i j:Int}(h:j≠0):oMod (.int i) (.int j) st= .ok (.int (i.fmod j)) st:=by show(if _ then _ else _)=_;rw[if_pos h]
theorem F5{i j:Int}(h:IntMulOk i j):di (.int i) (.int j) st= .ok (.int (i * j)) st:=by show(if _ then _ else _)=_;rw[if_pos h]
theorem um{i j:Int}(h1:-(2 ^ 64) < i)(h2:i < 2 ^ 64):di (.int i) (.int j) st= .ok (.int (i * j)) st:=F5 (IntMulOk.of_left (intBits_le_64 h1 h2))
theorem mul_r{i j:Int}(h1:-(2 ^ 64) < j)(h2:j < 2 ^ 64):di (.int i) (.int j) st= .ok (.int (i * j)) st:=F5 (IntMulOk.of_right (intBits_le_64 h1 h2))
theorem pC{l:Nat}{i:Int}{ws:List Wv}{v:Wv}(h:ak st l=some ws)(h2:lR ws i=some v):aG (.ref l) (.int i) st= .ok v st:=by
 show(match ak st l with | some ws=>(match lR ws i with | some w=>Re.ok w st | none=> .bad) | none=> .bad)=_
 rw[h]
 dsimp only
 rw[h2]
theorem add_l{l k:Nat}{xs ys:List Wv}(h1:ak st l=some xs)(h2:ak st k=some ys)(hl:xs.length+ys.length<=lim):cC (.ref l) (.ref k) st= .ok (.ref st.length) (st++[.lst (xs++ys)]):=by
 show(match ak st l,ak st k with | some i,some j=>if i.length+j.length<=lim then Re.ok (Wv.ref st.length) (st++[Ob.lst (i++j)]) else .bad | _,_=> .bad)=_
 rw[h1,h2]
 exact if_pos hl
theorem uo{i:Int}{ws:List Wv}{v:Wv}(h2:lR ws i=some v):aG (.tup ws) (.int i) st= .ok v st:=by
 show(match lR ws i with | some w=>Re.ok w st | none=> .bad)=_
 rw[h2]
end
theorem iZ{n:Nat}{g:GS}{ws:List Wv}{st st':Hs}{w:Wv}(h:g (ws.map some++aY (n - ws.length) none) st= .rt w st'):gg n g ws st= .ok w st':=by unfold gg;rw[h]
section
variable {ρ:bY} {st:Hs} {ga gb gc:GE} {gl gh:GO}
def Rk(gl gh:GO)(ρ:bY):Wv->Hs->Re Wv:=λx st1=>(gl ρ st1).bind λlo st2=>(gh ρ st2).bind λhi st3=>pA x lo hi st3
@[simp] theorem Ng:eD ga gl gh ρ st=(ga ρ st).bind (Rk gl gh ρ):=rfl
@[simp] theorem Rl{x:Wv}:Rk gl gh ρ x st=(gl ρ st).bind λlo st2=>(gh ρ st2).bind λhi st3=>pA x lo hi st3:=rfl
@[simp] theorem Mk:eV ρ st= .ok none st:=rfl
def F6:Wv->Hs->Re (Option Int):=λw st1=>match w with
 | .int i=> .ok (some i) st1
 | _=> .bad
@[simp] theorem O':kg ga ρ st=(ga ρ st).bind F6:=rfl
@[simp] theorem Nh{i:Int}:F6 (.int i) st= .ok (some i) st:=rfl
theorem Pa{l:Nat}{ws:List Wv}{lo hi:Option Int}(h:ak st l=some ws):pA (.ref l) lo hi st= .ok (.ref st.length) (st++[.lst (lU ws lo hi)]):=by
 show(match ak st l with | some ws=>Re.ok (Wv.ref st.length) (st++[Ob.lst (lU ws lo hi)]) | none=> .bad)=_
 rw[h]
theorem xy{l:Nat}{ws:List Wv}(h:ak st l=some ws):k7 [.ref l] st= .ok (.int ws.length) st:=by
 show(match ak st l with | some ws=>Re.ok (Wv.int ws.length) st | none=> .bad)=_
 rw[h]
theorem Cw{xs:List Int}{lo hi:Option Int}:∃ys:List Int,lU (xs.map Wv.int) lo hi=ys.map Wv.int:=by
 unfold lU
 rw[<-List.map_drop,<-List.map_take]
 exact⟨_,rfl⟩
def Cy(op':f7)(gc:GE)(y:Wv)(ρ:bY):Wv->Hs->Re Wv:=λz st3=>match z with
 | .bl true=>(gc ρ st3).bind λu zo=>(op' y u zo).jd
 | .bl false=> .ok (.bl false) st3
 | _=> .bad
@[simp] theorem Pb{op':f7}{y:Wv}:Cy op' gc y ρ (.bl true) st=(gc ρ st).bind λu zo=>(op' y u zo).jd:=rfl
@[simp] theorem Pc{op':f7}{y:Wv}:Cy op' gc y ρ (.bl false) st= .ok (.bl false) st:=rfl
@[simp] theorem Ni{op op':f7}:gL op op' ga gb gc ρ st=(ga ρ st).bind λx st1=>(gb ρ st1).bind λy st2=>(op x y st2).jd.bind (Cy op' gc y ρ):=rfl
def Ml(op' y8:f7)(gc gd:GE)(y:Wv)(ρ:bY):Wv->Hs->Re Wv:=λz st3=>match z with
 | .bl true=>(gc ρ st3).bind λu zo=>(op' y u zo).jd.bind (Cy y8 gd u ρ)
 | .bl false=> .ok (.bl false) st3
 | _=> .bad
@[simp] theorem Pe{op' y8:f7}{gd:GE}{y:Wv}:Ml op' y8 gc gd y ρ (.bl true) st=(gc ρ st).bind λu zo=>(op' y u zo).jd.bind (Cy y8 gd u ρ):=rfl
@[simp] theorem Pf{op' y8:f7}{gd:GE}{y:Wv}:Ml op' y8 gc gd y ρ (.bl false) st= .ok (.bl false) st:=rfl
def F7(cat:PySem.Str->Option Bool)(gs:GS)(r:Rs):Rs:=match r with
 | .err c ρ' st'=>(match cat c with
  | some true=>(match gs ρ' st' with
   | .nx ρ2 st2=> .nx ρ2 st2
   | .rt w st2=> .rt w st2
   | _=> .bad)
  | _=> .bad)
 | r=>r
@[simp] theorem Mm{cat:PySem.Str->Option Bool}{gs:GS}:F7 cat gs (.nx ρ st)= .nx ρ st:=rfl
@[simp] theorem Mn{cat:PySem.Str->Option Bool}{gs:GS}{w:Wv}:F7 cat gs (.rt w st)= .rt w st:=rfl
end
theorem bK{st:Hs}{ws:List Wv}:ak (st++[.lst ws]) st.length=some ws:=by unfold ak;simp
theorem oU{st:Hs}{l:Nat}{ws:List Wv}(h:ak st l=some ws):l < st.length:=by
 unfold ak at h
 cases e:st[l]? with
 | none=>rw[e] at h;cases h
 | some o=>exact(List.getElem?_eq_some_iff.mp e).1
def cQ(l:Nat)(st st':Hs):Prop:=st.length<=st'.length/\∀k,k < st.length->k≠l->st'[k]? =st[k]?
theorem cQ.refl{l:Nat}{st:Hs}:cQ l st st:=⟨ai _,λ_ _ _=>rfl⟩
theorem cQ.trans{l:Nat}{a b c:Hs}(h:cQ l a b)(k:cQ l b c):cQ l a c:=⟨bt h.1 k.1,λj h1 h2=>(k.2 j (aL h1 h.1) h2).trans (h.2 j h1 h2)⟩
theorem cQ.push{l:Nat}{st:Hs}{o:Ob}:cQ l st (st++[o]):=⟨by simp,λk h _=>fg h⟩
theorem cQ.set{l:Nat}{st:Hs}{o:Ob}:cQ l st (st.set l o):=⟨by simp,λk _ h=>kP (λz=>h z.symm)⟩
theorem cQ.lst{l:Nat}{st st':Hs}(k:cQ l st st'){j:Nat}{ws:List Wv}(h:ak st j=some ws)(hj:j≠l):ak st' j=some ws:=by
 unfold ak at h ⊢
 rw[k.2 j (oU (st:=st) (ws:=ws) (by unfold ak;exact h)) hj]
 exact h
@[simp] theorem Nj{i:Nat}{ga:GA}{gb:GS}{ρ:bY}{st:Hs}:qW i ga gb ρ st=(ga ρ st).bI ρ λws st1=>match ws with
 | [.int j]=>if cN j then gM i gb (bC 0 j.toNat) ρ st1 else .bad
 | _=> .bad:=rfl
@[simp] theorem Nk{i:Nat}{ga:GA}{gb:GS}{ρ:bY}{st:Hs}:qX i ga gb ρ st=(ga ρ st).bI ρ λws st1=>match ws with
 | [.int a,.int j]=>if cN a/\cN j then gM i gb (bC a (j - a).toNat) ρ st1 else .bad
 | _=> .bad:=rfl
@[simp] theorem Nl{c:PySem.Str}{ga:GA}{ρ:bY}{st:Hs}:jj c ga ρ st=(ga ρ st).bI ρ λws st1=>if ws.length<=lim then .err c ρ st1 else .bad:=rfl
def F8(mt:Wv->Wv->Hs->Re Wv)(ga:GE)(ρ:bY):Wv->Hs->Re Wv:=λo st1=>match o with
 | .ref l=>(match ak st1 l with
  | some _=>(ga ρ st1).bind λv st2=>(mt o v st2).jd
  | none=> .bad)
 | _=> .bad
@[simp] theorem Jy{mt:Wv->Wv->Hs->Re Wv}{go ga:GE}{ρ:bY}{st:Hs}:ki mt go ga ρ st=(go ρ st).bind (F8 mt ga ρ):=rfl
theorem rS{mt:Wv->Wv->Hs->Re Wv}{ga:GE}{ρ:bY}{st:Hs}{l:Nat}{ws:List Wv}(h:ak st l=some ws):F8 mt ga ρ (.ref l) st=(ga ρ st).bind λv st2=>(mt (.ref l) v st2).jd:=by
 show(match ak st l with | some _=>(ga ρ st).bind λv st2=>(mt (.ref l) v st2).jd | none=> .bad)=_
 rw[h]
theorem xA{st:Hs}{l:Nat}{v:Wv}{ws:List Wv}(h:st[l]? =some (.lst ws))(hl:ws.length < lim):pv (.ref l) v st= .ok .bS (st.set l (.lst (ws++[v]))):=by
 show(match st[l]? with | some (.lst ws)=>if ws.length < lim then Re.ok Wv.bS (st.set l (.lst (ws++[v]))) else .bad | _=> .bad)=_
 rw[h]
 exact if_pos hl
def kFor(i:Nat)(gb:GS)(ρ:bY):Wv->Hs->Rs:=λw st1=>match w with
 | .ref l=>(match ak st1 l with | some ws=>forL i gb l ws ws ρ st1 | none=> .bad)
 | .tup ws=>gM i gb ws ρ st1
 | .nO ws=>gM i gb ws ρ st1
 | _=> .bad
@[simp] theorem Rm{i:Nat}{ga:GE}{gb:GS}{ρ:bY}{st:Hs}:nY i ga gb ρ st=(ga ρ st).bI ρ (kFor i gb ρ):=rfl
theorem vV{i:Nat}{gb:GS}{ρ:bY}{st:Hs}{l:Nat}{ws:List Wv}(h:ak st l=some ws):kFor i gb ρ (.ref l) st=forL i gb l ws ws ρ st:=by
 show(match ak st l with | some ws=>forL i gb l ws ws ρ st | none=> .bad)=_
 rw[h]
@[simp] theorem Pg{i:Nat}{gb:GS}{ρ:bY}{st:Hs}{ws:List Wv}:kFor i gb ρ (.tup ws) st=gM i gb ws ρ st:=rfl
theorem rT{i:Nat}{gb:GS}(P:Nat->bY->Hs->Prop):∀(ws:List Wv)(k:Nat)(ρ:bY)(st:Hs),P k ρ st->
  (∀(j:Nat)(w:Wv),ws[j]? =some w->∀ρ st,P (k+j) ρ st->∃ρ' st',gb (ρ.set i (some w)) st= .nx ρ' st'/\P (k+j+1) ρ' st')->∃ρ' st',gM i gb ws ρ st= .nx ρ' st'/\P (k+ws.length) ρ' st'
 | [],k,ρ,st,h,_=>⟨ρ,st,rfl,h⟩
 | w::r,k,ρ,st,h,step=>by
  obtain⟨ρ1,st1,e1,p1⟩:=step 0 w rfl ρ st h
  obtain⟨ρ2,st2,e2,p2⟩:=rT P r (k+1) ρ1 st1 p1 λj w hw ρ st hp=>by
   have e:k+(j+1)=k+1+j:=by omega
   have q:=step (j+1) w hw ρ st (by rw[e];exact hp)
   rw[e] at q
   exact q
  refine⟨ρ2,st2,?_,?_⟩
  ·unfold gM
   rw[e1]
   exact e2
  ·have e:k+(w::r).length=k+1+r.length:=by simp;omega
   rw[e]
   exact p2
@[simp] theorem Jz{i:Int}{st:Hs}:p_ [.int i] st=El [.int i] st:=rfl
@[simp] theorem Ph{cs:gk}{gi:GI}{gt:GT}{ge:GE}{ρ:bY}{st:Hs}:gz cs gi gt ge ρ st=(gi ρ st).bind (fF cs gt ge ρ):=rfl
@[simp] theorem Nm{g:GE}{ρ:bY}{st:Hs}:iH g ρ st=(g ρ st).bind qe:=rfl
@[simp] theorem Pj{g:GA}{ρ:bY}{st:Hs}:vn g ρ st=(g ρ st).bind qb:=rfl
@[simp] theorem Pk{g:GA}{ρ:bY}{st:Hs}:A5 g ρ st=(g ρ st).bind wU:=rfl
@[simp] theorem Pl{g:GA}{ρ:bY}{st:Hs}:OL g ρ st=(g ρ st).bind FY:=rfl
theorem Cz{j:Int}{st:Hs}(h:cN j):qb [.int j] st= .ok (none,bC 0 j.toNat) st:=if_pos h
theorem JB{i j:Int}{st:Hs}(h:cN i)(k:cN j):wU [.int i,.int j] st= .ok (none,bC i (j - i).toNat) st:=if_pos ⟨h,k⟩
theorem JC{l:Nat}{st:Hs}{ws:List Wv}(h:ak st l=some ws):qe (.ref l) st= .ok (some l,ws) st:=by
 show(match ak st l with | some ws=>Re.ok (some l,ws) st | none=> .bad)=_
 rw[h]
@[simp] theorem Pm{st:Hs}{z:PySem.Str}:qe (.str z) st= .ok (none,cx z) st:=rfl
@[simp] theorem Pn{st:Hs}{ws:List Wv}:qe (.tup ws) st= .ok (none,ws) st:=rfl
theorem Fj{st:Hs}{acc:List Wv}{v:Wv}(h:acc.length < lim):pv (.ref st.length) v (st++[.lst acc])= .ok .bS (st++[.lst (acc++[v])]):=by
 rw[xA (ws:=acc) (by simp) h]
 congr 1
 simp
theorem kJ{w:Wk}{gt:Wv->Hs->Re Bool}{ge:Wv->Hs->Re Wv}{st:Hs}{t:Wv->Bool}{f:Wv->Wv}(ck:lh w st):∀(ws acc:List Wv),(∀v∈ws,∀acc,gt v (st++[.lst acc])= .ok (t v) (st++[.lst acc]))->
  (∀v∈ws,t v=true->∀acc,ge v (st++[.lst acc])= .ok (f v) (st++[.lst acc]))->acc.length+ws.length < lim->jk (lh w) gt ge st.length ws (st++[.lst acc])=some (st++[.lst (acc++(ws.filter t).map f)])
 | [],acc,_,_,_=>by simp[jk]
 | v::r,acc,h1,h2,hl=>by
  have hl':acc.length+(r.length+1) < lim:=hl
  unfold jk
  rw[h1 v aX acc]
  cases e:t v with
  | false=>
   dsimp only
   rw[if_pos (n6 ck),kJ ck r acc (λv hv=>h1 v (aN _ hv)) (λv hv=>h2 v (aN _ hv)) (by omega),AV (by simp[e])]
  | true=>
   dsimp only
   rw[h2 v aX e acc]
   dsimp only
   rw[Fj (by omega)]
   dsimp only
   rw[if_pos (n6 ck),kJ ck r (acc++[f v]) (λv hv=>h1 v (aN _ hv)) (λv hv=>h2 v (aN _ hv)) (by simp;omega),AU e]
   simp
theorem jW{cs:gk}{gt:GT}{ge:GE}{ρ:bY}{w:Wk}{st:Hs}{t:Wv->Bool}{f:Wv->Wv}(ck:lh w st)(h1:∀v∈w.2,∀acc,gt (some v::i6 cs ρ) (st++[.lst acc])= .ok (t v) (st++[.lst acc]))
  (h2:∀v∈w.2,t v=true->∀acc,ge (some v::i6 cs ρ) (st++[.lst acc])= .ok (f v) (st++[.lst acc]))(hl:w.2.length < lim):fF cs gt ge ρ w st= .ok (.ref st.length) (st++[.lst ((w.2.filter t).map f)]):=by
 unfold fF
 rw[kJ ck w.2 [] h1 h2 (by simpa using hl)]
 simp
theorem xB{st:Hs}{l:Nat}{o o':Ob}(h:st[l]? =some o):(st.set l o')[l]? =some o':=kO (List.getElem?_eq_some_iff.mp h).1
theorem jy{st:Hs}{l:Nat}{o o':Ob}(h:st[l]? =some o):(st++[o'])[l]? =some o:=by rw[fg (List.getElem?_eq_some_iff.mp h).1];exact h
theorem xC{st:Hs}{l:Nat}{ws:List Wv}(h:st[l]? =some (.lst ws)):ak st l=some ws:=by unfold ak;rw[h]
theorem rV{st:Hs}{l:Nat}{o:Ob}(h:st[l]? =some o):l < st.length:=(List.getElem?_eq_some_iff.mp h).1
theorem iK{st:Hs}{o:Ob}:(st++[o])[st.length]? =some o:=by simp
theorem CA{x y:PySem.Str}{st:Hs}(h:x.length+y.length<=lim):cC (.str x) (.str y) st= .ok (.str (x++y)) st:=by
 show(if x.length+y.length<=lim then Re.ok (Wv.str (x++y)) st else .bad)=_
 rw[if_pos h]
theorem Fl{i:Int}{st:Hs}(h:i.natAbs.log2 < 1920):El [.int i] st= .ok (.str (toString i:String)) st:=by
 show(if _ then _ else _)=_
 rw[if_pos h]
theorem JD{i b:Int}{k:Nat}(h1:-b<=i)(h2:i<=b)(hb:b.natAbs < 2 ^ k)(hk:0 < k):i.natAbs.log2 < k:=by
 by_cases e:i.natAbs=0
 ·rw[e]
  exact hk
 ·exact(Nat.log2_lt e).mpr (by omega)
theorem Mo{z:PySem.Str}{st:Hs}(h:z.length<=lim):k7 [.str z] st= .ok (.int z.length) st:=by
 show(if z.length<=lim then Re.ok (Wv.int z.length) st else .bad)=_
 rw[if_pos h]
def CB(mt:PySem.Str->List Wv->Hs->Re Wv)(ga:GA)(ρ:bY):Wv->Hs->Re Wv:=λo st1=>match o with
 | .str z=>(ga ρ st1).bind λws st2=>(mt z ws st2).jd
 | _=> .bad
@[simp] theorem Nn{mt:PySem.Str->List Wv->Hs->Re Wv}{go:GE}{ga:GA}{ρ:bY}{st:Hs}:dJ mt go ga ρ st=(go ρ st).bind (CB mt ga ρ):=rfl
@[simp] theorem Mq{mt:PySem.Str->List Wv->Hs->Re Wv}{ga:GA}{ρ:bY}{st:Hs}{z:PySem.Str}:CB mt ga ρ (.str z) st=(ga ρ st).bind λws st2=>(mt z ws st2).jd:=rfl
@[simp] theorem Ro{i:Int}{st:Hs}:N7 [.int i] st= .ok (.int (if i < 0 then -i else i)) st:=rfl
@[simp] theorem Mr{l:Nat}{st:Hs}{ns:List Int}(h:ak st l=some (ns.map Wv.int)):yB [.ref l] st= .ok (.int ns.sum) st:=by
 show(match ak st l with | some ws=>(match intsOf ws with | some ns=>Re.ok (Wv.int ns.sum) st | none=> .bad) | none=> .bad)=_
 rw[h]
 dsimp only
 rw[oq]
theorem Ms{i:Int}(h1:-1000000<=i)(h2:i<=1000000):cN i:=⟨by omega,by omega⟩
@[simp] theorem Np{F:List Wv->Hs->Re Wv}{st:Hs}:qq 0 F [] st=F [] st:=rfl
theorem JF{ga gb:GE}{ρ:bY}{st:Hs}{w:Wv}{st':Hs}(h:ga ρ st= .ok w st'):rD ga gb ρ st= .ok w st':=by unfold rD;rw[h]
def Gr(st st':Hs):Prop:=st.length<=st'.length/\∀k,k < st.length->st'[k]? =st[k]?
theorem Gr.refl{st:Hs}:Gr st st:=⟨ai _,λ_ _=>rfl⟩
theorem Gr.trans{a b c:Hs}(h:Gr a b)(k:Gr b c):Gr a c:=⟨bt h.1 k.1,λj h1=>(k.2 j (aL h1 h.1)).trans (h.2 j h1)⟩
theorem Gr.push{st:Hs}{o:Ob}:Gr st (st++[o]):=⟨by simp,λk h=>fg h⟩
theorem Gr.app{st xs:Hs}:Gr st (st++xs):=⟨by simp,λk h=>fg h⟩
theorem Gr.lst{st st':Hs}(k:Gr st st'){j:Nat}{ws:List Wv}(h:ak st j=some ws):ak st' j=some ws:=by
 unfold ak at h ⊢
 rw[k.2 j (oU (st:=st) (ws:=ws) (by unfold ak;exact h))]
 exact h
theorem Gr.get{st st':Hs}(k:Gr st st'){j:Nat}{o:Ob}(h:st[j]? =some o):st'[j]? =some o:=by rw[k.2 j (rV h)];exact h
theorem Gr.keep{st st':Hs}{l:Nat}(k:Gr st st'):cQ l st st':=⟨k.1,λj h _=>k.2 j h⟩
theorem Gr.JG{st s1 s2:Hs}{l:Nat}(h:st.length<=l)(g:Gr st s1)(k:cQ l s1 s2):Gr st s2:=⟨bt g.1 k.1,λj h1=>(k.2 j (aL h1 g.1) (by omega)).trans (g.2 j h1)⟩
theorem lJ{α:Type}(f:α->Wv){i:Nat}{gb:GS}{l:Nat}{all:List Wv}(full:List α)(P:List α->bY->Hs->Prop)
  (step:∀a pre post ρ st,full=pre++a::post->P pre ρ st->ak st l=some all->∃ρ' st',gb (ρ.set i (some (f a))) st= .nx ρ' st'/\ak st' l=some all/\P (pre++[a]) ρ' st') :
  ∀(post pre:List α)(ρ:bY)(st:Hs),full=pre++post->P pre ρ st->ak st l=some all->∃ρ' st',forL i gb l all (post.map f) ρ st= .nx ρ' st'/\P full ρ' st'/\ak st' l=some all
 | [],pre,ρ,st,hf,h,hl=>⟨ρ,st,rfl,by rw[hf];simpa using h,hl⟩
 | a::r,pre,ρ,st,hf,h,hl=>by
  obtain⟨ρ1,st1,e1,l1,p1⟩:=step a pre r ρ st hf h hl
  obtain⟨ρ2,st2,e2,p2,l2⟩:=lJ f full P step r (pre++[a]) ρ1 st1 (by rw[hf];simp) p1 l1
  refine⟨ρ2,st2,?_,p2,l2⟩
  rw[aI]
  unfold forL
  rw[e1]
  simp only[if_pos l1]
  exact e2
theorem vW{st:Hs}{x y:Wv}{d:PyData}(h1:aT st 20 x=some d)(h2:aT st 20 y=some d)(h:aZ d d=true):iy x y st= .ok (.bl false) st:=by
 unfold iy
 rw[h1,h2]
 show Re.ok (Wv.bl (!PyData.eqv d d)) st=_
 rw[h]
 rfl
theorem JH{st:Hs}{x y:Wv}{d:PyData}(h1:aT st 20 x=some d)(h2:aT st 20 y=some d)(h:aZ d d=true):oEq x y st= .ok (.bl true) st:=by
 unfold oEq
 rw[h1,h2]
 show Re.ok (Wv.bl (aZ d d)) st=_
 rw[h]
@[simp] theorem Rp{i j:Int}{st:Hs}:LR [.int i,.int j] st= .ok (.int (if j > i then j else i)) st:=rfl
@[simp] theorem F9{i j:Int}{st:Hs}:oz [.int i,.int j] st= .ok (.int (if j < i then j else i)) st:=rfl
theorem Mt{α:Type}{a:α}{r:List α}:L2.lR (a::r) 0=some a:=L2.eT (j:=0) rfl
open PySem L2
theorem tb_none{K:PySem.W.Frag}{H:Hp}(h1:PySem.W.nsIn K U4 "form_of"=some none)(h2:PySem.W.nsIn K U4 "formula_by"=some none)(h3:PySem.W.nsIn K U4 "turned"=some none)(h4:PySem.W.nsIn K U4 "readied_content"=some none)(h5:PySem.W.nsIn K U4 "ordered"=some none):qO K H:=λq P hq e=>by
 have no:∀q,PySem.W.nsIn K U4 q=some none->iu K q=none:=λq h=>by
  unfold iu PySem.W.tabIn
  rw[h]
 simp only[dq,xh,xi,or_false] at hq
 rcases hq with rfl | rfl | rfl | rfl | rfl
 ·rw[no _ h1] at e;cases e
 ·rw[no _ h2] at e;cases e
 ·rw[no _ h3] at e;cases e
 ·rw[no _ h4] at e;cases e
 ·rw[no _ h5] at e;cases e
theorem uJ{fd:UP}{ps:List Str}(us:List UT)(hl:us.length=1)(h:∀a0:UT,bindArgs fd { pos:=[a0] }=pure (ps.zip [a0])):bindArgs fd { pos:=us }=pure (ps.zip us):=match us,hl with | [a0],_=>h a0
theorem ln2{fd:UP}{ps:List Str}(us:List UT)(hl:us.length=2)(h:∀a0 a1:UT,bindArgs fd { pos:=[a0,a1] }=pure (ps.zip [a0,a1])):bindArgs fd { pos:=us }=pure (ps.zip us):=match us,hl with | [a0,a1],_=>h a0 a1
theorem To{fd:UP}{ps:List Str}(us:List UT)(hl:us.length=4)(h:∀a0 a1 a2 a3:UT,bindArgs fd { pos:=[a0,a1,a2,a3] }=pure (ps.zip [a0,a1,a2,a3])):bindArgs fd { pos:=us }=pure (ps.zip us):=match us,hl with | [a0,a1,a2,a3],_=>h a0 a1 a2 a3
end J
namespace K07
open PySem J
open L2 (defScope defBody defArgs FnScope CX0 FnOk XK Hp)
def top (i:Nat):Stmt:=PySem.Challenge.pw_onelook_k07_whole_areas_by_names.main.body.getD i (.Pass ⟨0,0,0,0⟩)
def sG:Tab:=[(("BadPlace","BadPlace"),true),(("BadPlace","BadArea"),false),(("BadPlace","BadText"),false),(("BadArea","BadPlace"),false),(("BadArea","BadArea"),true),(("BadArea","BadText"),false),(("BadText","BadPlace"),false),(("BadText","BadArea"),false),(("BadText","BadText"),true)]
def CC:vj:=[(("BadPlace","ValueError"),true),(("BadArea","ValueError"),true),(("BadText","ValueError"),true)]
def Mu:Tab:=[]
def cB(s:Stmt)(n b:List Str)(f:List (Str×Nat×(List Wv->Hs->Re Wv))):Ct:={ N:=n,names:=(defScope s).names,consts:=[],bl:=b,fns:=f,tb:=sG,tt:=CC,tc:=Mu }
theorem oV{N P:List Str}{sc:Scope}(h:sc.kind= .function/\sc.isCoroutine=false/\sc.isGenerator=false/\N.take P.length=P)(k:N.Nodup/\(∀x∈P,sc.names.lookup x=some .local\/sc.names.lookup x=some .cell)/\∀y∈sc.names,y.2≠.free):FnScope N P sc:=⟨h.1,h.2.1,h.2.2.1,k.1,h.2.2.2,k.2.1,k.2.2⟩
abbrev gE:Stmt:=top 31
def jz:GS:=(bo (bU 2 (aj oMod (aj cC (aj cC (aj cC (ag 0) (aj di (aj di (gC (.int 977)) (ag 1)) (ag 1))) (aj di (gC (.int 31)) (ag 1))) (gC (.int 1))) (gC (.int 2147483647))))
  (bo (bU 2 (aj oMod (aj di (ag 2) (ag 2)) (gC (.int 2147483647))))
  (bN (aj oMod (aj di (aj cC (ag 2) (aj di (gC (.int 40692)) (aj cC (ag 1) (gC (.int 3))))) (gC (.int 69621))) (gC (.int 2147483629))))))
def fe:List Wv->Hs->Re Wv:=gg 3 jz
def jA:Ct:=cB gE ["cell","k","near"] [] []
theorem ur:bZ 30 (jA) (defBody gE)=jz:=by kernel_rfl
theorem rW:FnScope (jA).N ["cell","k"] (defScope gE):=oV ⟨rfl,rfl,rfl,rfl⟩ (by decide+kernel)
abbrev fO:Stmt:=top 32
def cF:GS:=(bo (p5 (ki pv (ag 2) (aj aG (ag 0) (ag 3))))
  (p5 (ki pv (ag 2) (ay 2 fe (ae (aj aG (ag 0) (ag 3)) (ae (ag 3) aq))))))
def fP:GS:=(bo (bU 2 (lT aq))
  (bo (qW 3 (ae (aV k7 (ae (ag 0) aq)) aq) cF)
  (bN (eD (aj cC (lT (ae (aV k7 (ae (ag 0) aq)) (ae (gC (.int 5)) aq))) (ag 2)) eV (kg (ag 1))))))
def eE:List Wv->Hs->Re Wv:=gg 4 fP
def iL:Ct:=cB fO ["script","most","cells","k"] ["range","len"] [("_law_turn",2,fe)]
theorem rX:bZ 30 (iL) (defBody fO)=fP:=by kernel_rfl
theorem pD:FnScope (iL).N ["script","most"] (defScope fO):=oV ⟨rfl,rfl,rfl,rfl⟩ (by decide+kernel)
abbrev iM:Stmt:=top 11
def kK:GS:=(bN (gy (gL oLe oLt (gC (.int 0)) (aj aG (ag 0) (gC (.int 0))) (gC (.int 99))) (gL oLe oLt (gC (.int 0)) (aj aG (ag 0) (gC (.int 1))) (gC (.int 26)))))
def cR:List Wv->Hs->Re Wv:=gg 1 kK
def kL:Ct:={ cB iM ["place"] [] [] with consts:=[("ROWS",(.int 99)),("COLUMNS",(.int 26))] }
theorem vX:bZ 30 (kL) (defBody iM)=kK:=by kernel_rfl
theorem uu:FnScope (kL).N ["place"] (defScope iM):=oV ⟨rfl,rfl,rfl,rfl⟩ (by decide+kernel)
abbrev fQ:Stmt:=top 12
def iN:GS:=(bo (nV (qP (lV (ay 1 cR (ae (je (ae (ag 0) (ae (ag 1) aq))) aq)))) (jj "BadPlace" (ae (gC (.str "the row or the column is beyond the sheet")) aq)) cD)
  (bN (je (ae (ag 0) (ae (ag 1) aq)))))
def bx:List Wv->Hs->Re Wv:=gg 2 iN
def iO:Ct:={ cB fQ ["row","column"] [] [("is_place",1,cR)] with clss:=["BadPlace"] }
theorem rY:bZ 30 (iO) (defBody fQ)=iN:=by kernel_rfl
theorem pE:FnScope (iO).N ["row","column"] (defScope fQ):=oV ⟨rfl,rfl,rfl,rfl⟩ (by decide+kernel)
abbrev fR:Stmt:=top 13
def iP:GS:=(bo (bU 1 (ay 2 bx (ae (aj aG (ag 0) (gC (.int 0))) (ae (aj aG (ag 0) (gC (.int 1))) aq))))
  (bN (aj cC (aj aG (gC (.str "abcdefghijklmnopqrstuvwxyz")) (aj aG (ag 1) (gC (.int 1)))) (aV p_ (ae (aj cC (aj aG (ag 1) (gC (.int 0))) (gC (.int 1))) aq)))))
def a9:List Wv->Hs->Re Wv:=gg 2 iP
def iQ:Ct:={ cB fR ["place","made"] ["str"] [("made_place",2,bx)] with consts:=[("LETTERS",(.str "abcdefghijklmnopqrstuvwxyz"))] }
theorem rZ:bZ 30 (iQ) (defBody fR)=iP:=by kernel_rfl
theorem pF:FnScope (iQ).N ["place"] (defScope fR):=oV ⟨rfl,rfl,rfl,rfl⟩ (by decide+kernel)
abbrev cX:Stmt:=top 25
def cS:GT:=(λ_ st=> .ok true st)
def bQ:GE:=(je (ae (ag 1) (ae (ag 0) aq)))
def bX:GS:=(p5 (ki tX (ag 1) (gz [("row",2)] (A5 (ae (aj aG (ag 0) (gC (.int 1))) (ae (aj cC (aj aG (ag 0) (gC (.int 3))) (gC (.int 1))) aq))) cS bQ)))
def cY:GS:=(bo (bU 1 (lT aq))
  (bo (qX 2 (ae (aj aG (ag 0) (gC (.int 0))) (ae (aj cC (aj aG (ag 0) (gC (.int 2))) (gC (.int 1))) aq)) bX)
  (bN (ag 1))))
def cZ:List Wv->Hs->Re Wv:=gg 3 cY
def eN:Ct:=cB cX ["area","places","row"] ["range"] []
theorem ma:bZ 30 (eN) (defBody cX)=cY:=by kernel_rfl
theorem lK:FnScope (eN).N ["area"] (defScope cX):=oV ⟨rfl,rfl,rfl,rfl⟩ (by decide+kernel)
abbrev eX:Stmt:=top 21
def gP:GS:=(bo (bU 1 (gy (aj oLe (aj aG (ag 0) (gC (.int 0))) (aj aG (ag 0) (gC (.int 2)))) (aj oLe (aj aG (ag 0) (gC (.int 1))) (aj aG (ag 0) (gC (.int 3))))))
  (bN (gy (ag 1) (gy (ay 1 cR (ae (eD (ag 0) eV (kg (gC (.int 2)))) aq)) (ay 1 cR (ae (eD (ag 0) (kg (gC (.int 2))) eV) aq))))))
def bz:List Wv->Hs->Re Wv:=gg 2 gP
def gQ:Ct:=cB eX ["area","in_order"] [] [("is_place",1,cR)]
theorem pG:bZ 30 (gQ) (defBody eX)=gP:=by kernel_rfl
theorem oW:FnScope (gQ).N ["area"] (defScope eX):=oV ⟨rfl,rfl,rfl,rfl⟩ (by decide+kernel)
abbrev gF:Stmt:=top 22
def gG:GS:=(bN (aj di (aj cC (aj ku (aj aG (ag 0) (gC (.int 2))) (aj aG (ag 0) (gC (.int 0)))) (gC (.int 1))) (aj cC (aj ku (aj aG (ag 0) (gC (.int 3))) (aj aG (ag 0) (gC (.int 1)))) (gC (.int 1)))))
def bA:List Wv->Hs->Re Wv:=gg 1 gG
def jB:Ct:=cB gF ["area"] [] []
theorem uv:bZ 30 (jB) (defBody gF)=gG:=by kernel_rfl
theorem r6:FnScope (jB).N ["area"] (defScope gF):=oV ⟨rfl,rfl,rfl,rfl⟩ (by decide+kernel)
abbrev jX:Stmt:=top 20
def me:GS:=(bN (gy (ay 1 bz (ae (ag 0) aq)) (aj oLe (ay 1 bA (ae (ag 0) aq)) (gC (.int 300)))))
def hZ:List Wv->Hs->Re Wv:=gg 1 me
def mf:Ct:={ cB jX ["area"] [] [("has_corners",1,bz),("area_many",1,bA)] with consts:=[("MOST_PLACES",(.int 300))] }
theorem y9:bZ 30 (mf) (defBody jX)=me:=by kernel_rfl
theorem vY:FnScope (mf).N ["area"] (defScope jX):=oV ⟨rfl,rfl,rfl,rfl⟩ (by decide+kernel)
abbrev gH:Stmt:=top 19
def jC:GS:=(bo (bU 4 (je (ae (ag 0) (ae (ag 1) (ae (ag 2) (ae (ag 3) aq))))))
  (bo (nV (qP (lV (ay 1 hZ (ae (ag 4) aq)))) (jj "BadArea" (ae (gC (.str "corners that are none, or more than 300 places")) aq)) cD)
  (bN (ag 4))))
def a_:List Wv->Hs->Re Wv:=gg 5 jC
def jD:Ct:={ cB gH ["top","left","bottom","right","area"] [] [("is_area",1,hZ)] with clss:=["BadArea"] }
theorem uw:bZ 30 (jD) (defBody gH)=jC:=by kernel_rfl
theorem r8:FnScope (jD).N ["top","left","bottom","right"] (defScope gH):=oV ⟨rfl,rfl,rfl,rfl⟩ (by decide+kernel)
abbrev eY:Stmt:=top 24
def eZ:GS:=(bN (ay 1 cZ (ae (ay 4 a_ (ae (aj aG (ag 0) (gC (.int 0))) (ae (aj aG (ag 0) (gC (.int 1))) (ae (aj aG (ag 0) (gC (.int 2))) (ae (aj aG (ag 0) (gC (.int 3))) aq))))) aq)))
def bB:List Wv->Hs->Re Wv:=gg 1 eZ
def gR:Ct:=cB eY ["area"] [] [("places_between",1,cZ),("made_area",4,a_)]
theorem pH:bZ 30 (gR) (defBody eY)=eZ:=by kernel_rfl
theorem oX:FnScope (gR).N ["area"] (defScope eY):=oV ⟨rfl,rfl,rfl,rfl⟩ (by decide+kernel)
abbrev gI:Stmt:=top 26
def jE:GS:=(bo (bU 1 (ay 4 a_ (ae (aj aG (ag 0) (gC (.int 0))) (ae (aj aG (ag 0) (gC (.int 1))) (ae (aj aG (ag 0) (gC (.int 2))) (ae (aj aG (ag 0) (gC (.int 3))) aq))))))
  (bN (aj cC (aj cC (ay 1 a9 (ae (eD (ag 1) eV (kg (gC (.int 2)))) aq)) (gC (.str ":"))) (ay 1 a9 (ae (eD (ag 1) (kg (gC (.int 2))) eV) aq)))))
def ba:List Wv->Hs->Re Wv:=gg 2 jE
def jF:Ct:=cB gI ["area","made"] [] [("made_area",4,a_),("place_name",1,a9)]
theorem ux:bZ 30 (jF) (defBody gI)=jE:=by kernel_rfl
theorem r9:FnScope (jF).N ["area"] (defScope gI):=oV ⟨rfl,rfl,rfl,rfl⟩ (by decide+kernel)
abbrev fS:Stmt:=top 30
def iR:GS:=(bo (bU 2 (aj oMod (aj aG (ag 0) (gC (.int 0))) (ag 1)))
  (bo (wO (aj pX (aj aG (ag 0) (gC (.int 0))) (ag 1)) (ag 0) (gC (.int 0)))
  (bN (ag 2))))
def aw:List Wv->Hs->Re Wv:=gg 3 iR
def iS:Ct:=cB fS ["left","many","digit"] [] []
theorem r_:bZ 30 (iS) (defBody fS)=iR:=by kernel_rfl
theorem pI:FnScope (iS).N ["left","many"] (defScope fS):=oV ⟨rfl,rfl,rfl,rfl⟩ (by decide+kernel)
abbrev fT:Stmt:=top 35
def aR:GS:=(bo (nV (DZ (dh (aj oLt (aj aG (ag 0) (gC (.int 0))) (aj aG (ag 0) (gC (.int 2))))) (yj (dh (aj oEq (aj aG (ag 0) (gC (.int 1))) (aj aG (ag 0) (gC (.int 3))))) (dh (aj oEq (ay 2 aw (ae (ag 1) (ae (gC (.int 2)) aq))) (gC (.int 0)))))) (bo (bU 2 (aj cC (aj cC (aj aG (ag 0) (gC (.int 0))) (gC (.int 1))) (ay 2 aw (ae (ag 1) (ae (aj ku (aj aG (ag 0) (gC (.int 2))) (aj aG (ag 0) (gC (.int 0)))) aq)))))
    (bN (lT (ae (je (ae (aj aG (ag 0) (gC (.int 0))) (ae (aj aG (ag 0) (gC (.int 1))) (ae (aj ku (ag 2) (gC (.int 1))) (ae (aj aG (ag 0) (gC (.int 3))) aq))))) (ae (je (ae (ag 2) (ae (aj aG (ag 0) (gC (.int 1))) (ae (aj aG (ag 0) (gC (.int 2))) (ae (aj aG (ag 0) (gC (.int 3))) aq))))) aq))))) cD)
  (bo (nV (dh (aj oEq (aj aG (ag 0) (gC (.int 1))) (aj aG (ag 0) (gC (.int 3))))) (bN (lT (ae (ag 0) aq))) cD)
  (bo (bU 2 (aj cC (aj cC (aj aG (ag 0) (gC (.int 1))) (gC (.int 1))) (ay 2 aw (ae (ag 1) (ae (aj ku (aj aG (ag 0) (gC (.int 3))) (aj aG (ag 0) (gC (.int 1)))) aq)))))
  (bN (lT (ae (je (ae (aj aG (ag 0) (gC (.int 0))) (ae (aj aG (ag 0) (gC (.int 1))) (ae (aj aG (ag 0) (gC (.int 2))) (ae (aj ku (ag 2) (gC (.int 1))) aq))))) (ae (je (ae (aj aG (ag 0) (gC (.int 0))) (ae (ag 2) (ae (aj aG (ag 0) (gC (.int 2))) (ae (aj aG (ag 0) (gC (.int 3))) aq))))) aq)))))))
def eF:List Wv->Hs->Re Wv:=gg 3 aR
def iT:Ct:=cB fT ["area","left","at"] [] [("_law_digit",2,aw)]
theorem sf:bZ 30 (iT) (defBody fT)=aR:=by kernel_rfl
theorem pJ:FnScope (iT).N ["area","left"] (defScope fT):=oV ⟨rfl,rfl,rfl,rfl⟩ (by decide+kernel)
abbrev lL:Stmt:=top 23
def oY:GS:=(bN (gy (gL oLe oLe (aj aG (ag 0) (gC (.int 0))) (aj aG (ag 1) (gC (.int 0))) (aj aG (ag 0) (gC (.int 2)))) (gL oLe oLe (aj aG (ag 0) (gC (.int 1))) (aj aG (ag 1) (gC (.int 1))) (aj aG (ag 0) (gC (.int 3))))))
def ff:List Wv->Hs->Re Wv:=gg 2 oY
def oZ:Ct:=cB lL ["area","place"] [] []
theorem CD:bZ 30 (oZ) (defBody lL)=oY:=by kernel_rfl
theorem y_:FnScope (oZ).N ["area","place"] (defScope lL):=oV ⟨rfl,rfl,rfl,rfl⟩ (by decide+kernel)
abbrev c9:Stmt:=top 28
def eO:GS:=(bo (bU 2 (aj cC (ag 0) (ag 1)))
  (bo (nV (qP (lV (ay 1 bz (ae (ag 2) aq)))) (jj "BadText" (ae (gC (.str "corners the wrong way")) aq)) cD)
  (bN (ag 2))))
def b6:List Wv->Hs->Re Wv:=gg 3 eO
def eQ:Ct:={ cB c9 ["first","last","area"] [] [("has_corners",1,bz)] with clss:=["BadText"] }
theorem mh:bZ 30 (eQ) (defBody c9)=eO:=by kernel_rfl
theorem lM:FnScope (eQ).N ["first","last"] (defScope c9):=oV ⟨rfl,rfl,rfl,rfl⟩ (by decide+kernel)
abbrev dB:Stmt:=top 16
def ft:GT:=(λ_ st=> .ok true st)
def df:GE:=(aj rE (ag 0) (gC (.str "0123456789")))
def fk:GS:=(bN (gy (aj iy (aj aG (ag 0) (gC (.int 0))) (gC (.str "0"))) (aV yx (ae (gz [] (iH (ag 0)) ft df) aq))))
def cG:List Wv->Hs->Re Wv:=gg 1 fk
def fo:Ct:={ cB dB ["figures"] ["all"] [] with consts:=[("FIGURES",(.str "0123456789"))] }
theorem mV:bZ 30 (fo) (defBody dB)=fk:=by kernel_rfl
theorem mi:FnScope (fo).N ["figures"] (defScope dB):=oV ⟨rfl,rfl,rfl,rfl⟩ (by decide+kernel)
abbrev jY:Stmt:=top 15
def mj:GS:=(bN (gy (aj rE (aV k7 (ae (ag 0) aq)) (je (ae (gC (.int 2)) (ae (gC (.int 3)) aq)))) (gy (aj rE (aj aG (ag 0) (gC (.int 0))) (gC (.str "abcdefghijklmnopqrstuvwxyz"))) (ay 1 cG (ae (eD (ag 0) (kg (gC (.int 1))) eV) aq)))))
def h8:List Wv->Hs->Re Wv:=gg 1 mj
def ml:Ct:={ cB jY ["text"] ["len"] [("is_row_number",1,cG)] with consts:=[("LETTERS",(.str "abcdefghijklmnopqrstuvwxyz"))] }
theorem za:bZ 30 (ml) (defBody jY)=mj:=by kernel_rfl
theorem vZ:FnScope (ml).N ["text"] (defScope jY):=oV ⟨rfl,rfl,rfl,rfl⟩ (by decide+kernel)
abbrev fU:Stmt:=top 14
def iU:GS:=(bo (nV (qP (lV (ay 1 h8 (ae (ag 0) aq)))) (jj "BadText" (ae (gC (.str "no name of a place")) aq)) cD)
  (bN (je (ae (aj ku (aV qf (ae (eD (ag 0) (kg (gC (.int 1))) eV) aq)) (gC (.int 1))) (ae (rD (dJ jv (gC (.str "abcdefghijklmnopqrstuvwxyz")) (ae (aj aG (ag 0) (gC (.int 0))) aq)) (rD (ki nh (gC (.str "abcdefghijklmnopqrstuvwxyz")) (aj aG (ag 0) (gC (.int 0)))) (vG nj (gC (.str "abcdefghijklmnopqrstuvwxyz")) (aj aG (ag 0) (gC (.int 0)))))) aq)))))
def aS:List Wv->Hs->Re Wv:=gg 1 iU
def iV:Ct:={ cB fU ["text"] ["int"] [("is_name",1,h8)] with consts:=[("LETTERS",(.str "abcdefghijklmnopqrstuvwxyz"))],clss:=["BadText"] }
theorem sg:bZ 30 (iV) (defBody fU)=iU:=by kernel_rfl
theorem pK:FnScope (iV).N ["text"] (defScope fU):=oV ⟨rfl,rfl,rfl,rfl⟩ (by decide+kernel)
abbrev gJ:Stmt:=top 27
def jG:GS:=(bo (bU 1 (dJ eL (ag 0) (ae (gC (.str ":")) aq)))
  (bo (nV (dh (aj iy (aV k7 (ae (ag 1) aq)) (gC (.int 2)))) (jj "BadText" (ae (gC (.str "no name of an area")) aq)) cD)
  (bo (bU 2 (ay 2 b6 (ae (ay 1 aS (ae (aj aG (ag 1) (gC (.int 0))) aq)) (ae (ay 1 aS (ae (aj aG (ag 1) (gC (.int 1))) aq)) aq))))
  (bN (ay 4 a_ (ae (aj aG (ag 2) (gC (.int 0))) (ae (aj aG (ag 2) (gC (.int 1))) (ae (aj aG (ag 2) (gC (.int 2))) (ae (aj aG (ag 2) (gC (.int 3))) aq)))))))))
def dM:List Wv->Hs->Re Wv:=gg 3 jG
def jH:Ct:={ cB gJ ["text","names","area"] ["len"] [("joined_corners",2,b6),("made_area",4,a_),("read_place",1,aS)] with clss:=["BadText"] }
theorem uy:bZ 30 (jH) (defBody gJ)=jG:=by kernel_rfl
theorem sh:FnScope (jH).N ["text"] (defScope gJ):=oV ⟨rfl,rfl,rfl,rfl⟩ (by decide+kernel)
abbrev fV:Stmt:=top 36
def cH:GS:=(bU 6 (aj cC (ag 6) (ay 1 bB (ae (ag 7) aq))))
def cI:GS:=(nV (yj (qP (lV (ay 2 ff (ae (ag 0) (ae (ag 4) aq))))) (dh (aj iy (ay 1 aS (ae (ay 1 a9 (ae (ag 4) aq)) aq)) (ag 4)))) (bN (gC (.bl false))) cD)
def fW:GS:=(bo (bU 2 (ay 1 bB (ae (ag 0) aq)))
  (bo (bU 3 (ay 1 ba (ae (ag 0) aq)))
  (bo (nV (yj (dh (aj iy (ay 1 dM (ae (ag 3) aq)) (ag 0))) (dh (aj iy (ay 4 a_ (ae (aj aG (ag 0) (gC (.int 0))) (ae (aj aG (ag 0) (gC (.int 1))) (ae (aj aG (ag 0) (gC (.int 2))) (ae (aj aG (ag 0) (gC (.int 3))) aq))))) (ag 0)))) (bN (gC (.bl false))) cD)
  (bo (nV (yj (dh (aj iy (ay 1 bA (ae (ag 0) aq)) (aV k7 (ae (ag 2) aq)))) (yj (dh (aj iy (aV lG (ae (ag 2) aq)) (aV k7 (ae (ag 2) aq)))) (dh (aj iy (ag 2) (aV mO (ae (ag 2) aq)))))) (bN (gC (.bl false))) cD)
  (bo (nY 4 (ag 2) cI)
  (bo (bU 5 (ay 2 eF (ae (ag 0) (ae (ag 1) aq))))
  (bo (bU 6 (lT aq))
  (bo (nY 7 (ag 5) cH)
  (bo (nV (yj (dh (aj iy (aV mO (ae (ag 6) aq)) (ag 2))) (dh (aj iy (aj aG (dJ eL (ay 1 ba (ae (aj aG (ag 5) (gC (.int 0))) aq)) (ae (gC (.str ":")) aq)) (gC (.int 0))) (aj aG (dJ eL (ag 3) (ae (gC (.str ":")) aq)) (gC (.int 0)))))) (bN (gC (.bl false))) cD)
  (bo (nV (dh (aj iy (aj aG (dJ eL (ay 1 ba (ae (aj aG (ag 5) (Lb sW (gC (.int 1)))) aq)) (ae (gC (.str ":")) aq)) (gC (.int 1))) (aj aG (dJ eL (ag 3) (ae (gC (.str ":")) aq)) (gC (.int 1))))) (bN (gC (.bl false))) cD)
  (bo (bU 4 (ay 2 bx (ae (ay 2 aw (ae (ag 1) (ae (gC (.int 99)) aq))) (ae (ay 2 aw (ae (ag 1) (ae (gC (.int 26)) aq))) aq))))
  (bo (bU 8 (ay 2 ff (ae (ag 0) (ae (ag 4) aq))))
  (bN (gy (aV (yt sG CC) (ae (ag 8) (ae (gC (.ty "bool")) aq))) (aj oEq (ag 8) (aj (mU false) (ag 4) (ag 2)))))))))))))))))
def fX:List Wv->Hs->Re Wv:=gg 9 fW
def iW:Ct:={ cB fV ["area","left","places","name","place","parts","both","part","told"] ["isinstance","bool","len","sorted","set"] [("area_places",1,bB),("area_name",1,ba),("_law_parts",2,eF),("made_place",2,bx),("within",2,ff),("_law_digit",2,aw),("read_area",1,dM),("made_area",4,a_),("area_many",1,bA),("read_place",1,aS),("place_name",1,a9)] with big:=true,E4:=["places"] }
theorem si:bZ 30 (iW) (defBody fV)=fW:=by kernel_rfl
theorem pL:FnScope (iW).N ["area","left"] (defScope fV):=oV ⟨rfl,rfl,rfl,rfl⟩ (by decide+kernel)
abbrev c_:Stmt:=top 33
def bE:GS:=(bo (bU 1 (ay 2 aw (ae (ag 0) (ae (gC (.int 99)) aq))))
  (bo (bU 2 (ay 2 aw (ae (ag 0) (ae (gC (.int 26)) aq))))
  (bo (bU 3 (aj cC (gC (.int 1)) (ay 2 aw (ae (ag 0) (ae (aV oz (ae (gC (.int 9)) (ae (aj ku (gC (.int 99)) (ag 1)) aq))) aq)))))
  (bo (bU 4 (aj cC (gC (.int 1)) (ay 2 aw (ae (ag 0) (ae (aj ku (gC (.int 26)) (ag 2)) aq)))))
  (bo (nV (dh (aj oEq (ay 2 aw (ae (ag 0) (ae (gC (.int 6)) aq))) (gC (.int 1)))) (bU 3 (aV oz (ae (aj ku (gC (.int 99)) (ag 1)) (ae (aj pX (gC (.int 300)) (ag 4)) aq)))) cD)
  (bN (je (ae (ag 1) (ae (ag 2) (ae (aj ku (aj cC (ag 1) (ag 3)) (gC (.int 1))) (ae (aj ku (aj cC (ag 2) (ag 4)) (gC (.int 1))) aq)))))))))))
def b7:List Wv->Hs->Re Wv:=gg 5 bE
def eR:Ct:=cB c_ ["left","top","column","high","wide"] ["min"] [("_law_digit",2,aw)]
theorem mr:bZ 30 (eR) (defBody c_)=bE:=by kernel_rfl
theorem lN:FnScope (eR).N ["left"] (defScope c_):=oV ⟨rfl,rfl,rfl,rfl⟩ (by decide+kernel)
abbrev xD:Stmt:=top 37
def jZ:GT:=(λ_ st=> .ok true st)
def h_:GE:=(ay 1 aS (ae (ag 0) aq))
def mv:GT:=(λ_ st=> .ok true st)
def j4:GE:=(je (ae (ag 0) (ae (ag 1) aq)))
def mw:GT:=(λ_ st=> .ok true st)
def j5:GE:=(ay 1 a9 (ae (je (ae (ag 0) (ae (ag 1) aq))) aq))
def jI:GS:=(bo (bU 2 (lT (ae (ag 1) aq)))
  (nV (qP (lV (ay 2 fX (ae (ay 1 b7 (ae (ag 2) aq)) (ae (ag 2) aq))))) (bN (gC (.bl false))) cD))
def xE:GS:=(bo (nY 1 (ay 2 eE (ae (ag 0) (ae (gC (.int 24)) aq))) jI)
  (bo (bU 3 (aj oMod (aV yB (ae (ag 0) aq)) (gC (.int 26))))
  (bo (bU 4 (gz [("column",3)] (vn (ae (gC (.int 99)) aq)) mw j5))
  (bo (nV (dh (aj iy (aV lG (ae (ag 4) aq)) (gC (.int 99)))) (bN (gC (.bl false))) cD)
  (bN (aj oEq (gz [] (iH (ag 4)) jZ h_) (gz [("column",3)] (vn (ae (gC (.int 99)) aq)) mv j4)))))))
def F_law:List Wv->Hs->Re Wv:=gg 5 xE
def CF:Ct:={ cB xD ["script","cell","left","column","names"] ["sum","len","range","set"] [("_law_cells",2,eE),("place_name",1,a9),("_law_whole",2,fX),("read_place",1,aS),("_law_good_area",1,b7)] with big:=true }
theorem Mv:bZ 30 (CF) (defBody xD)=xE:=by kernel_rfl
theorem JJ:FnScope (CF).N ["script"] (defScope xD):=oV ⟨rfl,rfl,rfl,rfl⟩ (by decide+kernel)
theorem digit{st:Hs}{l:Nat}{n many:Int}(h:st[l]? =some (.lst [.int n]))(hm:many≠0/\many.natAbs.log2 < 9000) :
  aw [.ref l,.int many] st= .ok (.int (n.fmod many)) (st.set l (.lst [.int (n.fdiv many)])):=by
 have hl:ak st l=some [.int n]:=by unfold ak;rw[h]
 have h0:L2.lR [Wv.int n] 0=some (.int n):=rfl
 unfold aw gg iR
 simp[pC hl h0,uk hm.1,Cv hm,wO,Lz,h,L2.zk]
theorem turn{st:Hs}{c k:Int}(h0:0<=k)(h1:k < 1000):∃v:Int,fe [.int c,.int k] st= .ok (.int v) st:=by
 have m1:di (.int 977) (.int k) st= .ok (.int (977 * k)) st:=um (by decide) (by decide)
 have m2:di (.int (977 * k)) (.int k) st= .ok (.int (977 * k * k)) st:=mul_r (by omega) (by omega)
 have m3:di (.int 31) (.int k) st= .ok (.int (31 * k)) st:=um (by decide) (by decide)
 have m4:di (.int 40692) (.int (k+3)) st= .ok (.int (40692 * (k+3))) st:=um (by decide) (by decide)
 have a1:=uk (st:=st) (i:=c+977 * k * k+31 * k+1) (j:=2147483647) (by decide)
 have b0:=v5 (c+977 * k * k+31 * k+1) (b:=2147483647) (by decide)
 have b1:=v7 (c+977 * k * k+31 * k+1) (b:=2147483647) (by decide)
 generalize (c+977 * k * k+31 * k+1).fmod 2147483647=near at a1 b0 b1
 have m5:di (.int near) (.int near) st= .ok (.int (near * near)) st:=um (by omega) (by omega)
 have a2:=uk (st:=st) (i:=near * near) (j:=2147483647) (by decide)
 generalize (near * near).fmod 2147483647=nn at a2
 have m6:di (.int (nn+40692 * (k+3))) (.int 69621) st= .ok (.int ((nn+40692 * (k+3)) * 69621)) st:=mul_r (by decide) (by decide)
 have a3:=uk (st:=st) (i:=(nn+40692 * (k+3)) * 69621) (j:=2147483629) (by decide)
 generalize ((nn+40692 * (k+3)) * 69621).fmod 2147483629=r at a3
 refine⟨r,?_⟩
 unfold fe gg jz
 simp[m1,m2,m3,m4,m5,m6,a1,a2,a3]
theorem Fm{ns:List Int}{j:Nat}(h:j < ns.length):L2.lR (ns.map Wv.int) (0+(j:Int))=some (.int ns[j]):=by
 rw[Int.zero_add]
 exact L2.eT (by rw[cU,cm h];rfl)
theorem v8{ns vs:List Int}{most:Int}{o3:Option Wv}{j:Nat}(hj:j < ns.length)(hn:ns.length<=63)(hv:vs.length=2 * j) :
  ∃t:Int,cF [some (.ref 0),some (.int most),some (.ref 1),some (.int (0+(j:Int)))] [.ic ns,.lst (vs.map Wv.int)]= .nx [some (.ref 0),some (.int most),some (.ref 1),some (.int (0+(j:Int)))] [.ic ns,.lst ((vs++[ns[j]]++[t]).map Wv.int)]:=by
 have l0:∀vs:List Int,ak [Ob.ic ns,.lst (vs.map Wv.int)] 0=some (ns.map Wv.int):=λ_=>rfl
 have l1:∀vs:List Int,ak [Ob.ic ns,.lst (vs.map Wv.int)] 1=some (vs.map Wv.int):=λ_=>rfl
 have g1:∀vs:List Int,[Ob.ic ns,Ob.lst (vs.map Wv.int)][1]? =some (.lst (vs.map Wv.int)):=λ_=>rfl
 have i0:=λvs=>pC (l0 vs) (Fm hj)
 obtain⟨t,et⟩:=turn (st:=[Ob.ic ns,.lst ((vs++[ns[j]]).map Wv.int)]) (c:=ns[j]) (k:=0+(j:Int)) (by omega) (by omega)
 have a1:=xA (v:=.int ns[j]) (g1 vs) (by unfold lim;rw[bV];omega)
 have a2:=xA (v:=.int t) (g1 (vs++[ns[j]])) (by unfold lim;rw[bV,aP,wD];omega)
 have s1:[Ob.ic ns,Ob.lst (vs.map Wv.int)].set 1 (.lst (vs.map Wv.int++[.int ns[j]]))=[Ob.ic ns,.lst ((vs++[ns[j]]).map Wv.int)]:=by simp
 have s2:[Ob.ic ns,Ob.lst ((vs++[ns[j]]).map Wv.int)].set 1 (.lst ((vs++[ns[j]]).map Wv.int++[.int t]))=[Ob.ic ns,.lst ((vs++[ns[j]]++[t]).map Wv.int)]:=by simp
 rw[s1] at a1
 rw[s2] at a2
 refine⟨t,?_⟩
 unfold cF
 simp[-nu,-Int.zero_add,rS (l1 vs),i0,a1,rS (l1 (vs++[ns[j]])),et,a2]
theorem v9{ns:List Int}(hn:ns.length<=63){most:Int}:∃(o3:Option Wv)(vs:List Int),gM 3 cF (bC 0 (ns.length:Int).toNat) [some (.ref 0),some (.int most),some (.ref 1),none] [.ic ns,.lst []]= .nx [some (.ref 0),some (.int most),some (.ref 1),o3] [.ic ns,.lst (vs.map Wv.int)]/\vs.length=2 * ns.length:=by
 obtain⟨ρ1,st1,e1,o3,vs,rfl,rfl,hv⟩:=rT (i:=3) (gb:=cF) (λk ρ st=>∃(o3:Option Wv)(vs:List Int),ρ=[some (.ref 0),some (.int most),some (.ref 1),o3]/\st=[.ic ns,.lst (vs.map Wv.int)]/\vs.length=2 * k)
  (bC 0 (ns.length:Int).toNat) 0 [some (.ref 0),some (.int most),some (.ref 1),none] [.ic ns,.lst []] ⟨none,[],rfl,rfl,rfl⟩ (λj w hw ρ st hP=>by
   obtain⟨o3,vs,rfl,rfl,hv⟩:=hP
   have hj:j < ns.length:=by
    have q:=(List.getElem?_eq_some_iff.mp hw).1
    rw[dS] at q
    simpa using q
   rw[lW (by simpa using hj)] at hw
   cases hw
   obtain⟨t,et⟩:=v8 (vs:=vs) (most:=most) (o3:=o3) hj hn (by omega)
   exact⟨_,_,et,_,_,rfl,rfl,by simp only[aP,wD];omega⟩)
 exact⟨o3,vs,e1,by rw[dS] at hv;simpa using hv⟩
theorem cells{ns:List Int}(hn:ns.length<=63){most:Int}:∃(l:Nat)(st:Hs)(vs:List Int),eE [.ref 0,.int most] [.ic ns]= .ok (.ref l) st/\ak st l=some (vs.map Wv.int)/\st[0]? =some (.ic ns):=by
 obtain⟨o3,vs,e1,hv⟩:=v9 hn (most:=most)
 have c0:cN (ns.length:Int):=by unfold cN;omega
 have la:=add_l (st:=[Ob.ic ns,.lst (vs.map Wv.int),.lst [.int ns.length,.int 5]]) (l:=2) (k:=1) (xs:=[.int ns.length,.int 5]) (ys:=vs.map Wv.int) rfl rfl (by unfold lim;rw[bV];simp;omega)
 have lc:=Pa (st:=[Ob.ic ns,.lst (vs.map Wv.int),.lst [.int ns.length,.int 5]]++[.lst ([.int ns.length,.int 5]++vs.map Wv.int)]) (l:=3) (ws:=[.int ns.length,.int 5]++vs.map Wv.int) (lo:=none) (hi:=some most) rfl
 obtain⟨ys,ey⟩:=Cw (xs:=(ns.length:Int)::5::vs) (lo:=none) (hi:=some most)
 have Tp:lU ([Wv.int ns.length,.int 5]++vs.map Wv.int) none (some most)=ys.map Wv.int:=ey
 rw[Tp] at lc
 refine⟨4,[Ob.ic ns,.lst (vs.map Wv.int),.lst [.int ns.length,.int 5],.lst (.int ns.length:: .int 5::vs.map Wv.int),.lst (ys.map Wv.int)],ys,?_,rfl,rfl⟩
 refine iZ (n:=4) (g:=fP) ?_
 unfold fP
 have Rq:=xy (st:=[Ob.ic ns,.lst []]) (l:=0) (ws:=ns.map Wv.int) rfl
 have uJ:=xy (st:=[Ob.ic ns,.lst (vs.map Wv.int)]) (l:=0) (ws:=ns.map Wv.int) rfl
 simp only[bV] at Rq uJ
 simp only[CG,ir,cM,List.length_nil] at la lc
 simp at e1
 simp[Rq,uJ,c0,e1,la,lc]
abbrev S:=PySem.Str
def tI(l:List Int):Wv:=.tup (l.map Wv.int)
def bR(a b c d:Int):Prop:=0<=a/\a<=c/\c<=98/\0<=b/\b<=d/\d<=25/\(c - a+1) * (d - b+1)<=300
def bJ(a b:Int):Prop:=0<=a/\a<=98/\0<=b/\b<=25
def Fits:List Int->Prop
 | [a,b]=>bJ a b
 | [a,b,c,d]=>bR a b c d
 | _=>False
theorem Mw{x:Wv}{ws:List Wv}{st:Hs}:aG (.tup (x::ws)) (.int 0) st= .ok x st:=uo (L2.eT (j:=0) rfl)
theorem Mx{x y:Wv}{ws:List Wv}{st:Hs}:aG (.tup (x::y::ws)) (.int 1) st= .ok y st:=uo (L2.eT (j:=1) rfl)
theorem Mz{ws us:List Wv}{lo hi:Option Int}{st:Hs}(h:¬oA ws.length lo hi)(h2:lU ws lo hi=us):pA (.tup ws) lo hi st= .ok (.tup us) st:=by
 show(if oA ws.length lo hi then Re.ok (Wv.tup ws) st else Kb (.tup ws) lo hi st)=_
 rw[if_neg h]
 show(if oA ws.length lo hi then Re.bad else Re.ok (Wv.tup (lU ws lo hi)) st)=_
 rw[if_neg h,h2]
theorem cat{x:Wv}{xs ys:List Wv}{st:Hs}(h:xs.length+ys.length<=100):cC (.tup (x::xs)) (.tup ys) st= .ok (.tup (x::(xs++ys))) st:=by
 show(if(x::xs).length+ys.length<=lim then Re.ok (Wv.tup (x::xs++ys)) st else .bad)=_
 rw[if_pos (by simp[lim];omega)]
 rfl
instance {a b:Int}:Decidable (bJ a b):=by unfold bJ;infer_instance
instance {a b c d:Int}:Decidable (bR a b c d):=by unfold bR;infer_instance
instance:∀l:List Int,Decidable (Fits l)
 | []=>isFalse (λh=>h)
 | [_]=>isFalse (λh=>h)
 | [a,b]=>inferInstanceAs (Decidable (bJ a b))
 | [_,_,_]=>isFalse (λh=>h)
 | [a,b,c,d]=>inferInstanceAs (Decidable (bR a b c d))
 | _::_::_::_::_::_=>isFalse (λh=>h)
theorem o9{a b:Int}{ws:List Wv}{st:Hs}:cR [.tup (.int a:: .int b::ws)] st= .ok (.bl (decide (bJ a b))) st:=by
 unfold cR gg kK
 by_cases c1:0<=a
 ·by_cases c2:a < 99
  ·by_cases c3:0<=b
   ·by_cases c4:b < 26
    ·have e:decide (bJ a b)=true:=decide_eq_true ⟨c1,by omega,c3,by omega⟩
     simp[Mw,Mx,c1,c2,c3,c4,e]
    ·have e:decide (bJ a b)=false:=decide_eq_false λh=>c4 (by have:=h.2.2.2;omega)
     simp[Mw,Mx,c1,c2,c3,c4,e]
   ·have e:decide (bJ a b)=false:=decide_eq_false λh=>c3 h.2.2.1
    simp[Mw,Mx,c1,c2,c3,e]
  ·have e:decide (bJ a b)=false:=decide_eq_false λh=>c2 (by have:=h.2.1;omega)
   simp[Mw,Mx,c1,c2,e]
 ·have e:decide (bJ a b)=false:=decide_eq_false λh=>c1 h.1
  simp[Mw,Mx,c1,e]
theorem MA{i j:Int}{st:Hs}(h:(-1000000<=i/\i<=1000000)\/(-1000000<=j/\j<=1000000)):di (.int i) (.int j) st= .ok (.int (i * j)) st:=by
 rcases h with h | h
 ·exact um (by omega) (by omega)
 ·exact mul_r (by omega) (by omega)
theorem CH{a b c d:Wv}{st:Hs}:pA (.tup [a,b,c,d]) none (some 2) st= .ok (.tup [a,b]) st:=Mz (by show ¬oA 4 none (some 2);decide+kernel) rfl
theorem CI{a b c d:Wv}{st:Hs}:pA (.tup [a,b,c,d]) (some 2) none st= .ok (.tup [c,d]) st:=Mz (by show ¬oA 4 (some 2) none;decide+kernel) rfl
def Co(a b c d:Int):Prop:=(a<=c/\b<=d)/\bJ a b/\bJ c d
instance {a b c d:Int}:Decidable (Co a b c d):=by unfold Co;infer_instance
theorem Rr{a b c d:Wv}{st:Hs}:aG (.tup [a,b,c,d]) (.int 0) st= .ok a st/\aG (.tup [a,b,c,d]) (.int 1) st= .ok b st/\aG (.tup [a,b,c,d]) (.int 2) st= .ok c st/\aG (.tup [a,b,c,d]) (.int 3) st= .ok d st :=
 ⟨uo (L2.eT (j:=0) rfl),uo (L2.eT (j:=1) rfl),uo (L2.eT (j:=2) rfl),uo (L2.eT (j:=3) rfl)⟩
theorem jJ{a b c d:Int}{st:Hs}:bz [tI [a,b,c,d]] st= .ok (.bl (decide (Co a b c d))) st:=by
 obtain⟨i0,i1,i2,i3⟩:=Rr (a:=.int a) (b:=.int b) (c:=.int c) (d:=.int d) (st:=st)
 unfold bz gg gP tI
 simp only[aI,qM]
 by_cases c1:a<=c
 ·by_cases c2:b<=d
  ·by_cases c3:bJ a b
   ·have e:decide (Co a b c d)=decide (bJ c d):=by unfold Co;simp[c1,c2,c3]
    simp[i0,i1,i2,i3,c1,c2,CH,CI,o9,c3,e]
   ·have e:decide (Co a b c d)=false:=decide_eq_false λh=>c3 h.2.1
    simp[i0,i1,i2,i3,c1,c2,CH,CI,o9,c3,e]
  ·have e:decide (Co a b c d)=false:=decide_eq_false λh=>c2 h.1.2
   simp[i0,i1,i2,i3,c1,c2,e]
 ·have e:decide (Co a b c d)=false:=decide_eq_false λh=>c1 h.1.1
  simp[i0,i1,i2,i3,c1,e]
theorem Fn{a b c d:Int}{st:Hs}:hZ [tI [a,b,c,d]] st= .ok (.bl (decide (bR a b c d))) st:=by
 obtain⟨i0,i1,i2,i3⟩:=Rr (a:=.int a) (b:=.int b) (c:=.int c) (d:=.int d) (st:=st)
 unfold hZ gg me
 by_cases h:Co a b c d
 ·have hm:di (.int (c - a+1)) (.int (d - b+1)) st= .ok (.int ((c - a+1) * (d - b+1))) st:=by
   obtain⟨⟨h1,h2⟩,h3,h4⟩:=h
   exact MA (.inl ⟨by omega,by have:=h3.1;have:=h4.2.1;omega⟩)
  have am:bA [tI [a,b,c,d]] st= .ok (.int ((c - a+1) * (d - b+1))) st:=by
   unfold bA gg gG tI
   simp only[aI,qM]
   simp[i0,i1,i2,i3,hm]
  have e:decide (bR a b c d)=decide ((c - a+1) * (d - b+1)<=300):=by
   obtain⟨⟨h1,h2⟩,h3,h4⟩:=h
   unfold bJ at h3 h4
   unfold bR
   congr 1
   apply propext
   constructor
   ·exact λz=>z.2.2.2.2.2.2
   ·exact λz=>⟨h3.1,h1,h4.2.1,h3.2.2.1,h2,h4.2.2.2,z⟩
  have hc:=jJ (a:=a) (b:=b) (c:=c) (d:=d) (st:=st)
  rw[decide_eq_true h] at hc
  simp[hc,am,e]
 ·have hc:=jJ (a:=a) (b:=b) (c:=c) (d:=d) (st:=st)
  rw[decide_eq_false h] at hc
  have e:decide (bR a b c d)=false:=decide_eq_false λz=>h (by
   obtain⟨z1,z2,z3,z4,z5,z6,_⟩:=z
   exact⟨⟨z2,z5⟩,⟨z1,by omega,z4,by omega⟩,⟨by omega,z3,by omega,z6⟩⟩)
  simp[hc,e]
theorem made_place{a b:Int}{st:Hs}(h:bJ a b):bx [.int a,.int b] st= .ok (tI [a,b]) st:=by
 unfold bx gg iN
 simp[o9,h,tI]
theorem j6{a b c d:Int}{st:Hs}(h:bR a b c d):a_ [.int a,.int b,.int c,.int d] st= .ok (tI [a,b,c,d]) st:=by
 have e:=Fn (a:=a) (b:=b) (c:=c) (d:=d) (st:=st)
 simp[tI] at e
 unfold a_ gg jC
 simp[e,h,tI]
theorem Rt{a b c d:Wv}{st:Hs}:aG (.tup [a,b,c,d]) (.int 0) st= .ok a st/\aG (.tup [a,b,c,d]) (.int 1) st= .ok b st/\aG (.tup [a,b,c,d]) (.int 2) st= .ok c st/\aG (.tup [a,b,c,d]) (.int 3) st= .ok d st:=⟨rfl,rfl,rfl,rfl⟩
theorem mx{st:Hs}{xs:List Ob}{ws:List Wv}:ak (st++ .lst ws::xs) st.length=some ws:=by unfold ak;simp
section
variable {a b c d:Int} {st:Hs}
theorem Tq:L2.lR [Wv.int a,.int b,.int c,.int d] 1=some (.int b):=rfl
theorem Tr:L2.lR [Wv.int a,.int b,.int c,.int d] 3=some (.int d):=rfl
def my(r b:Int)(n:Nat):List Wv:=(av n).map λk:Nat=> .tup [.int r,.int (b+k)]
def fu(a b:Int)(m n:Nat):List Wv:=((av m).map λk:Nat=>my (a+k) b n).flatten
theorem qr{m n:Nat}:(fu a b m n).length=m * n:=by
 unfold fu
 rw[List.length_flatten,cz]
 have:(fB ∘ λk:Nat=>my (a+k) b n)=λ_=>n:=by funext k;simp[my]
 rw[this]
 clear this
 induction m with
 | zero=>simp
 | succ m ih=>rw[xg,nu,List.sum_append,ih,Nat.succ_mul];simp
theorem v_{m n:Nat}:fu a b (m+1) n=fu a b m n++my (a+m) b n:=by
 unfold fu
 rw[xg,nu,List.flatten_append]
 simp
theorem CJ{o:Wv}{r:Int}{st:Hs}(hb:cN b)(hd:cN (d+1))(hn:(d+1 - b).toNat<=300) :
  gz [("row",2)] (A5 (ae (aj aG (ag 0) (gC (.int 1))) (ae (aj cC (aj aG (ag 0) (gC (.int 3))) (gC (.int 1))) aq))) cS bQ [some (.tup [.int a,.int b,.int c,.int d]),some o,some (.int r)] st=
   .ok (.ref st.length) (st++[.lst (my r b (d+1 - b).toNat)]):=by
 have q:=jW (cs:=[("row",2)]) (gt:=cS) (ge:=bQ) (ρ:=[some (.tup [.int a,.int b,.int c,.int d]),some o,some (.int r)]) (w:=(none,bC b (d+1 - b).toNat)) (st:=st) (t:=λ_=>true) (f:=λv=> .tup [.int r,v]) trivial
  (λv _ acc=>rfl) (λv _ _ acc=>by unfold bQ;simp[i6]) (by rw[show((none,bC b (d+1 - b).toNat):Wk).2=bC b (d+1 - b).toNat from rfl,dS];unfold lim;omega)
 have e:((bC b (d+1 - b).toNat).filter λ_=>true).map (λv=>Wv.tup [.int r,v])=my r b (d+1 - b).toNat:=by
  rw[List.filter_eq_self.mpr (λ_ _=>rfl)]
  unfold bC my
  rw[cz]
  rfl
 rw[show((none,bC b (d+1 - b).toNat):Wk).2=bC b (d+1 - b).toNat from rfl,e] at q
 simp[uo Tq,uo Tr,JB hb hd,q]
theorem iF{st more:Hs}{acc row:List Wv}(h:acc.length+row.length<=lim):HW (.ref st.length) (.ref (st++ .lst acc::more).length) ((st++ .lst acc::more)++[.lst row])= .ok .bS (st++ .lst (acc++row)::(more++[.lst row])):=by
 have g1:((st++Ob.lst acc::more)++[Ob.lst row])[st.length]? =some (.lst acc):=by simp
 have g2:((st++Ob.lst acc::more)++[Ob.lst row])[(st++Ob.lst acc::more).length]? =some (.lst row):=by rw[jb (ai _),kU];rfl
 show(match((st++Ob.lst acc::more)++[Ob.lst row])[st.length]?,((st++Ob.lst acc::more)++[Ob.lst row])[(st++Ob.lst acc::more).length]? with
  | some (.lst ws),some (.lst zs)=>if ws.length+zs.length<=lim then Re.ok Wv.bS (((st++Ob.lst acc::more)++[Ob.lst row]).set st.length (.lst (ws++zs))) else .bad
  | _,_=> .bad)=_
 rw[g1,g2]
 dsimp only
 rw[if_pos h]
 congr 1
 simp
theorem CK{st more:Hs}{acc row:List Wv}(h:acc.length+row.length<=lim):tX (.ref st.length) (.ref (st++ .lst acc::more).length) ((st++ .lst acc::more)++[.lst row])= .ok .bS (st++ .lst (acc++row)::(more++[.lst row])):=iF h
theorem zb(hb:cN b)(hd:cN (d+1))(hn:(d+1 - b).toNat<=300){m:Nat}(hm:m<=100){ρ0:Option Wv}:∃(o:Option Wv)(more:Hs),
  gM 2 bX (bC a m) [some (.tup [.int a,.int b,.int c,.int d]),some (.ref st.length),ρ0] (st++[.lst []])= .nx [some (.tup [.int a,.int b,.int c,.int d]),some (.ref st.length),o] (st++ .lst (fu a b m (d+1 - b).toNat)::more):=by
 obtain⟨ρ1,st1,e1,o,more,rfl,rfl⟩:=rT (i:=2) (gb:=bX) (λk ρ st'=>∃(o:Option Wv)(more:Hs),ρ=[some (.tup [.int a,.int b,.int c,.int d]),some (.ref st.length),o]/\st'=st++ .lst (fu a b k (d+1 - b).toNat)::more)
  (bC a m) 0 [some (.tup [.int a,.int b,.int c,.int d]),some (.ref st.length),ρ0] (st++[.lst []]) ⟨ρ0,[],rfl,rfl⟩ (λj w hw ρ st' hP=>by
   obtain⟨o,more,rfl,rfl⟩:=hP
   have hj:j < m:=by
    have q:=(List.getElem?_eq_some_iff.mp hw).1
    rw[dS] at q
    exact q
   rw[lW hj] at hw
   cases hw
   have ln:(fu a b (0+j) (d+1 - b).toNat).length+(my (a+j) b (d+1 - b).toNat).length<=lim:=by
    rw[qr]
    have z:(my (a+(j:Int)) b (d+1 - b).toNat).length=(d+1 - b).toNat:=by unfold my;simp
    rw[z]
    have:(0+j) * (d+1 - b).toNat<=100 * 300:=Nat.mul_le_mul (by omega) hn
    unfold lim
    omega
   refine⟨_,_,?_,some (.int (a+(j:Int))),more++[.lst (my (a+j) b (d+1 - b).toNat)],rfl,rfl⟩
   have e:fu a b (0+j+1) (d+1 - b).toNat=fu a b (0+j) (d+1 - b).toNat++my (a+j) b (d+1 - b).toNat:=by rw[bw];exact v_
   rw[e]
   have rc:=CJ (a:=a) (c:=c) (o:=.ref st.length) (r:=a+(j:Int)) (st:=st++ .lst (fu a b (0+j) (d+1 - b).toNat)::more) hb hd hn
   have km:=λga ρ=>rS (mt:=tX) (ga:=ga) (ρ:=ρ) (st:=st++ .lst (fu a b (0+j) (d+1 - b).toNat)::more) (l:=st.length) mx
   have em:=CK (st:=st) (more:=more) ln
   unfold bX
   simp only[e_expr,Jy,Mi,List.set_cons_succ,List.set_cons_zero,List.getElem?_cons_succ,List.getElem?_cons_zero,Mf,Fi,km,rc,em,Jv,Ju])
 exact⟨o,more,by rw[e1,dS,bw]⟩
theorem o_(h:bR a b c d):∃more:Hs,cZ [tI [a,b,c,d]] st= .ok (.ref st.length) (st++ .lst (fu a b (c+1 - a).toNat (d+1 - b).toNat)::more):=by
 unfold bR at h
 obtain⟨o,more,e⟩:=zb (a:=a) (c:=c) (st:=st) (b:=b) (d:=d) (ρ0:=none) (by unfold cN;omega) (by unfold cN;omega) (by omega) (m:=(c+1 - a).toNat) (by omega)
 have ca:cN a:=by unfold cN;omega
 have cc:cN (c+1):=by unfold cN;omega
 refine⟨more,iZ (n:=3) (g:=cY) ?_⟩
 unfold cY
 simp[tI,Rt,ca,cc]
 simp[e]
theorem uz{st:Hs}(h:bR a b c d):∃more:Hs,bB [tI [a,b,c,d]] st= .ok (.ref st.length) (st++ .lst (fu a b (c+1 - a).toNat (d+1 - b).toNat)::more):=by
 obtain⟨more,e⟩:=o_ (st:=st) h
 have m:=j6 (st:=st) h
 refine⟨more,iZ (n:=1) (g:=eZ) ?_⟩
 unfold eZ
 simp[tI] at e m
 simp[tI,Rt,m,e]
end
abbrev Pt:=Int×Int
def Dg(a b:Int)(m n:Nat):List Pt:=((av m).map λk:Nat=>(av n).map λj:Nat=>((a+k,b+j):Pt)).flatten
theorem uC{a b:Int}{m n:Nat}:fu a b m n=(Dg a b m n).map pw:=by
 unfold fu Dg my
 rw[List.map_flatten,cz]
 congr 1
 refine List.map_congr_left λk _=>?_
 show _=((av n).map λj:Nat=>((a+k,b+j):Pt)).map pw
 rw[cz]
 rfl
def Dh:PySem.Str:="abcdefghijklmnopqrstuvwxyz"
def Kh(c:Nat):Bool:=!(gK Dh ⟨#[c]⟩ 0 Dh.length 1).isEmpty
def CL(c:Nat):Bool:=!(gK ("0123456789":PySem.Str) ⟨#[c]⟩ 0 ("0123456789":PySem.Str).length 1).isEmpty
theorem Fo(c:Nat):CL c=true↔48<=c/\c<=57:=by
 unfold CL
 rw[StrLaws.found_iff]
 have e:("0123456789":PySem.Str).cps.toList=[48,49,50,51,52,53,54,55,56,57]:=by decide+kernel
 constructor
 ·rintro⟨i,h⟩
  have q:=(Fp _ c i).mp h
  rw[e] at q
  have m:=jN q
  simp at m
  omega
 ·intro h
  refine⟨c - 48,(Fp _ c _).mpr ?_⟩
  rw[e]
  obtain⟨d,rfl⟩:∃d,c=48+d:=⟨c - 48,by omega⟩
  have hd:d < 10:=by omega
  have e2:48+d - 48=d:=by omega
  rw[e2]
  revert h
  clear e2
  revert d
  decide
def jK(k:Nat):PySem.Str:=PySem.Str.ofString (toString ((k:Int)+1))
theorem lO:∀k,k < 99->((jK k).length=1\/(jK k).length=2):=by decide+kernel
theorem xF:∀k,k < 99->((jK k).cps.toList.all (λc=>decide (48<=c)&&decide (c<=57))=true/\(jK k).cps.toList.headD 0≠48):=by decide+kernel
theorem mz{k:Nat}(h:k < 99):PySem.intText? (jK k)=some ((k:Int)+1):=PySem.W.KIN.num_reads (by omega) (by omega)
theorem CM{k n:Nat}(hk:k < 99)(hn:n < 99)(h:jK k=jK n):k=n:=by
 have a:=mz hk
 rw[h,mz hn] at a
 have:=Option.some.inj a
 omega
theorem JK{a:Nat}{r:List Nat}{st:Hs}(h:r.length < 1000):aG (.str ⟨(a::r).toArray⟩) (.int 0) st= .ok (.str ⟨#[a]⟩) st:=by
 have hz:(⟨(a::r).toArray⟩:PySem.Str).length<=lim:=by show(a::r).toArray.size<=lim;simp;unfold lim;omega
 show(if(⟨(a::r).toArray⟩:PySem.Str).length<=lim then(match L2.lR (a::r).toArray.toList 0 with | some c=>Re.ok (Wv.str ⟨#[c]⟩) st | none=> .bad) else .bad)=_
 rw[if_pos hz]
 have e:L2.lR (a::r).toArray.toList 0=some a:=by simpa using Mt (a:=a) (r:=r)
 rw[e]
def CN(fs:List Nat):Bool:=decide (fs.headD 0≠48)&&fs.all CL
theorem wa{b:Nat}{r:List Nat}{st:Hs}(h:r.length < 100):∃st',cG [.str ⟨(b::r).toArray⟩] st= .ok (.bl (CN (b::r))) st'/\Gr st st':=by
 have i0:=JK (a:=b) (r:=r) (st:=st) (by omega)
 have en:iy (.str ⟨#[b]⟩) (.str "0") st= .ok (.bl (decide (b≠48))) st:=by
  have e0:("0":PySem.Str)=⟨#[48]⟩:=by decide+kernel
  rw[e0,Jx]
  by_cases c:b=48
  ·subst c;rfl
  ·have:((⟨#[b]⟩:PySem.Str) == ⟨#[48]⟩)=false:=by
    apply beq_false_of_ne
    intro z
    have:=congrArg (λs:PySem.Str=>s.cps.toList) z
    simp at this
    exact c this
   rw[this]
   simp[c]
 have cr:∀ρ,fF [] ft df ρ (none,cx ⟨(b::r).toArray⟩) st= .ok (.ref st.length) (st++[.lst ((b::r).map λc=>Wv.bl (CL c))]):=by
  intro ρ
  rw[jW (w:=(none,cx ⟨(b::r).toArray⟩)) (t:=λ_=>true) (f:=λv=>match v with | .str z=> .bl (CL (z.cps.toList.headD 0)) | v=>v) trivial]
  ·have ef:((cx ⟨(b::r).toArray⟩).filter λ_=>true)=cx ⟨(b::r).toArray⟩:=List.filter_eq_self.mpr λ_ _=>rfl
   show Re.ok _ (st++[Ob.lst (List.map _ ((cx ⟨(b::r).toArray⟩).filter λ_=>true))])=_
   rw[ef]
   unfold cx
   rw[cz]
   rfl
  ·intro v hv acc
   rfl
  ·intro v hv _ acc
   unfold cx at hv
   obtain⟨c,_,rfl⟩:=List.mem_map.mp hv
   unfold df
   simp
   rfl
  ·unfold cx;simp;unfold lim;omega
 unfold cG gg fk CN
 by_cases c:b=48
 ·refine⟨st,?_,Gr.refl⟩
  subst c
  have Po:iy (.str ⟨#[48]⟩) (.str "0") st= .ok (.bl false) st:=by rw[en];simp
  simp[i0,Po]
 ·refine⟨st++[.lst ((b::r).map λc=>Wv.bl (CL c))],?_,Gr.push⟩
  have Po:iy (.str ⟨#[b]⟩) (.str "0") st= .ok (.bl true) st:=by rw[en];simp[c]
  have Ts:∀l:List Nat,mI (l.map λc=>Wv.bl (CL c))=some (l.map CL):=by
   intro l
   induction l with
   | nil=>rfl
   | cons a t ih=>rw[aI];unfold mI;rw[ih];rfl
  have al:yx [.ref st.length] (st++[.lst ((b::r).map λc=>Wv.bl (CL c))])= .ok (.bl ((b::r).all CL)) (st++[.lst ((b::r).map λc=>Wv.bl (CL c))]):=by
   unfold yx
   simp only[bK,Ts]
   congr 2
   simp[List.all_map]
  have sq:qe (.str ⟨(b::r).toArray⟩) st= .ok (none,cx ⟨(b::r).toArray⟩) st:=rfl
  simp only[aI] at al cr
  simp[i0,Po,sq,cr,al,c]
def nm(cs:List Nat):Bool:=decide (cs.length=2\/cs.length=3)&&Kh (cs.headD 0)&&CN cs.tail
theorem CO{a:Nat}{r:List Nat}:fN ⟨(a::r).toArray⟩ (some 1) none=⟨r.toArray⟩:=by
 have q:=PyProof.Rows.slice_closes_fromL (x:=⟨(a::r).toArray⟩) (i:=1) (b:=(⟨(a::r).toArray⟩:PySem.Str).length) (by decide) (by show(1:Int)<=(((a::r).toArray.size:Nat):Int);simp;omega) rfl
 rw[eq_of_beq q]
 have e:((((⟨(a::r).toArray⟩:PySem.Str).length:Nat):Int) - 1).toNat=r.length:=by
  show((((a::r).toArray.size:Nat):Int) - 1).toNat=_
  simp
 rw[e]
 simp
theorem JM{cs:List Nat}{st:Hs}(h:cs.length < 1000):k7 [.str ⟨cs.toArray⟩] st= .ok (.int cs.length) st:=by
 have e:(⟨cs.toArray⟩:PySem.Str).length=cs.length:=by show cs.toArray.size=_;simp
 have:=Mo (z:=⟨cs.toArray⟩) (st:=st) (by rw[e];unfold lim;omega)
 rwa [e] at this
theorem xG{z:PySem.Str}{lo hi:Option Int}{st:Hs}(h:z.length<=lim):pA (.str z) lo hi st= .ok (.str (fN z lo hi)) st:=by
 show(if z.length<=lim then Re.ok (Wv.str (fN z lo hi)) st else .bad)=_
 rw[if_pos h]
theorem CP{cs:List Nat}(h:cs.length < 1000):(⟨cs.toArray⟩:PySem.Str).length<=lim:=by
 show cs.toArray.size<=lim
 simp
 unfold lim
 omega
theorem Fq{cs:List Nat}{st:Hs}(h:cs.length < 100):∃st',h8 [.str ⟨cs.toArray⟩] st= .ok (.bl (nm cs)) st'/\Gr st st':=by
 have ln:=JM (cs:=cs) (st:=st) (by omega)
 have Ki:rE (.int cs.length) (.tup [.int 2,.int 3]) st= .ok (.bl (decide (cs.length=2\/cs.length=3))) st:=by
  show Re.ok (Wv.bl ([Wv.int 2,.int 3].any λz=>Aj z (.int cs.length))) st=_
  congr 2
  show(((2:Int) == cs.length)||(((3:Int) == cs.length)||false))=_
  rw[Bool.or_false,nC]
  simp
  omega
 generalize hcl:(cs.length:Int)=cl at ln Ki
 unfold h8 gg mj nm
 by_cases c:cs.length=2\/cs.length=3
 ·match cs,c with
  | [],c=>simp at c
  | a::r,c=>
   have i0:=JK (a:=a) (r:=r) (st:=st) (by have:=h;simp at this;omega)
   have il:rE (.str ⟨#[a]⟩) (.str Dh) st= .ok (.bl (Kh a)) st:=rfl
   have sl:=xG (z:=⟨(a::r).toArray⟩) (lo:=some 1) (hi:=none) (st:=st) (CP (by omega))
   rw[CO] at sl
   have Nq:rE (.str ⟨#[a]⟩) (.str "abcdefghijklmnopqrstuvwxyz") st= .ok (.bl (Kh a)) st:=il
   cases r with
   | nil=>simp at c
   | cons b r'=>
    obtain⟨st',er,g⟩:=wa (b:=b) (r:=r') (st:=st) (by simp at h;omega)
    rw[decide_eq_true c] at Ki ⊢
    cases hl:Kh a with
    | false=>
     rw[hl] at Nq
     refine⟨st,?_,Gr.refl⟩
     simp[ln,Ki,i0,Nq,hl]
    | true=>
     rw[hl] at Nq
     refine⟨st',?_,g⟩
     simp[ln,Ki,i0,Nq,sl,er,hl]
 ·rw[decide_eq_false c] at Ki ⊢
  exact⟨st,by simp[ln,Ki],Gr.refl⟩
theorem zc{k:Nat}(h:k < 99):CN (jK k).cps.toList=true:=by
 obtain⟨h1,h2⟩:=xF k h
 unfold CN
 rw[bf,decide_eq_true_eq,vI]
 refine⟨h2,λc hc=>(Fo c).mpr ?_⟩
 have:=(List.all_eq_true.mp h1) c hc
 simpa using this
theorem MB{k:Nat}{st:Hs}(h:k < 99):p_ [.int ((k:Int)+1)] st= .ok (.str (jK k)) st:=by
 rw[Jz]
 exact Fl (JD (b:=1000) (k:=10) (by omega) (by omega) (by decide) (by decide) |> λq=>du q (by decide))
theorem CQ{a:Nat}{r:List Nat}{k i:Nat}{st:Hs}(h:nm (a::r)=true)(hl:(a::r).length < 100)(hk:k < 99)(e:(⟨r.toArray⟩:PySem.Str)=jK k)(hi:∀st:Hs,jv "abcdefghijklmnopqrstuvwxyz" [.str ⟨#[a]⟩] st= .ok (.int i) st) :
  ∃st',aS [.str ⟨(a::r).toArray⟩] st= .ok (.tup [.int k,.int i]) st'/\Gr st st':=by
 obtain⟨st',en,g⟩:=Fq (cs:=a::r) (st:=st) hl
 rw[h] at en
 refine⟨st',?_,g⟩
 have sl:=xG (z:=⟨(a::r).toArray⟩) (lo:=some 1) (hi:=none) (st:=st') (CP (by omega))
 rw[CO,e] at sl
 have i0:=JK (a:=a) (r:=r) (st:=st') (by simp at hl;omega)
 have it:qf [.str (jK k)] st'= .ok (.int ((k:Int)+1)) st':=by
  unfold qf
  simp only[mz hk]
  rw[if_pos (by rcases lO k hk with q | q<;>omega)]
 unfold aS gg iU
 have al:∀g2:GE,rD (dJ jv (gC (.str "abcdefghijklmnopqrstuvwxyz")) (ae (aj aG (ag 0) (gC (.int 0))) aq)) g2 [some (.str ⟨(a::r).toArray⟩)] st'= .ok (.int i) st':=λg2=>JF (by simp[i0,hi])
 simp[en,sl,it,al]
theorem CT:∀d:Fin 26,gK Dh ⟨#[97+d.val]⟩ 0 Dh.length 1=[d.val]:=by decide+kernel
def dC(r c:Nat):S:=⟨#[97+c]⟩++jK r
theorem MC:∀c:Fin 26,Dh.cps.toList[c.val]? =some (97+c.val):=by decide+kernel
theorem JN{c:Nat}(h:c < 26)(st:Hs):aG (.str Dh) (.int (c:Nat)) st= .ok (.str ⟨#[97+c]⟩) st:=by
 have e:=L2.eT (MC ⟨c,h⟩)
 show(if Dh.length<=lim then(match L2.lR Dh.cps.toList (c:Int) with | some c=>Re.ok (Wv.str ⟨#[c]⟩) st | none=> .bad) else .bad)=_
 rw[if_pos (by decide+kernel),e]
theorem sj(a:Nat)(z:S):(⟨#[a]⟩++z:S)=⟨(a::z.cps.toList).toArray⟩:=by
 show(⟨#[a]++z.cps⟩:S)=_
 congr 1
 rw[<-Array.toList_inj]
 simp
theorem ny{r c:Nat}(h:r < 99):(dC r c).length=2\/(dC r c).length=3:=by
 unfold dC
 rw[PySem.Str.length_append]
 have l1:(⟨#[97+c]⟩:S).length=1:=rfl
 rcases lO r h with e | e<;>omega
section
variable {a b c d:Int} {st:Hs}
theorem CU(h:bJ a b):∃r k:Nat,a=r/\b=k/\r < 99/\k < 26:=⟨a.toNat,b.toNat,by unfold bJ at h;omega,by unfold bJ at h;omega,by unfold bJ at h;omega,by unfold bJ at h;omega⟩
theorem iX(h:bJ a b):a9 [tI [a,b]] st= .ok (.str (dC a.toNat b.toNat)) st:=by
 have mp:=made_place (st:=st) h
 obtain⟨r,k,rfl,rfl,h1,h2⟩:=CU h
 rw[wb,wb]
 have ix:=JN h2 st
 have sr:=MB (st:=st) h1
 have fl:=lO r h1
 have ad:cC (.str ⟨#[97+k]⟩) (.str (jK r)) st= .ok (.str (dC r k)) st:=CA (by rw[show(⟨#[97+k]⟩:S).length=1 from rfl];unfold lim;omega)
 have i0:aG (tI [(r:Int),k]) (.int 0) st= .ok (.int r) st:=rfl
 have i1:aG (tI [(r:Int),k]) (.int 1) st= .ok (.int k) st:=rfl
 have ix':aG (.str "abcdefghijklmnopqrstuvwxyz") (.int (k:Nat)) st= .ok (.str ⟨#[97+k]⟩) st:=ix
 unfold a9 gg iP
 simp[i0,i1,mp,ix',sr,ad]
theorem MD{c:Nat}(h:c < 26):Kh (97+c)=true:=by
 unfold Kh
 rw[CT ⟨c,h⟩]
 rfl
theorem iY{r k:Nat}(h1:r < 99)(h2:k < 26):∃st',aS [.str (dC r k)] st= .ok (tI [(r:Int),k]) st'/\Gr st st':=by
 unfold dC
 rw[sj]
 have fl:=lO r h1
 have Tt:(jK r).cps.toList.length=(jK r).length:=by simp[PySem.Str.length]
 refine CQ (i:=k) ?_ (by simp;rw[show(jK r).cps.size=(jK r).length from rfl];omega) h1 (by simp) λst=>?_
 ·unfold nm
  rw[List.headD_cons,List.tail_cons,MD h2,zc h1,cM,Tt]
  simp
  omega
 ·show jv Dh [.str ⟨#[97+k]⟩] st=_
  unfold jv
  simp only[CT ⟨k,h2⟩]
def col:S:=":"
theorem su:col=⟨#[58]⟩:=by decide+kernel
theorem CV{r k:Nat}(h1:r < 99)(h2:k < 26):58∉(dC r k).cps.toList:=by
 unfold dC
 rw[sj]
 have:=(xF r h1).1
 rw[vI] at this
 intro h
 rcases List.mem_cons.mp h with e | e
 ·omega
 ·have:=this 58 e
  simp at this
theorem sv{α:Type}{x:α}:∀{p u q v:List α},x∉p->x∉u->p++x::q=u++x::v->p=u/\q=v
 | [],[],q,v,_,_,h=>by simpa using h
 | [],y::u,q,v,_,hu,h=>by
  have e:x=y:=by have:=congrArg List.head? h;simpa using this
  exact absurd (e ▸ aX) hu
 | y::p,[],q,v,hp,_,h=>by
  have e:y=x:=by have:=congrArg List.head? h;simpa using this
  exact absurd (e ▸ aX) hp
 | y::p,z::u,q,v,hp,hu,h=>by
  rw[CG,CG,List.cons.injEq] at h
  obtain⟨e1,e2⟩:=sv (λm=>hp (aN _ m)) (λm=>hu (aN _ m)) h.2
  exact⟨by rw[h.1,e1],e2⟩
theorem j7(x y:S):(x++y).cps.toList=x.cps.toList++y.cps.toList:=by
 show(x.cps++y.cps).toList=_
 simp
theorem sx{x y:S}(h:x.cps.toList=y.cps.toList):x=y:=by
 cases x;cases y
 congr 1
 exact Array.toList_inj.mp h
theorem JP{u v:S}(hu:58∉u.cps.toList)(hv:58∉v.cps.toList):bW (u++col++v) col=[u,v]:=by
 have e0:(u++col++v).cps.toList=u.cps.toList++58::v.cps.toList:=by
  rw[j7,j7,su]
  simp
 have fr:∀p∈bW (u++col++v) col,58∉p.cps.toList:=by rw[su];exact StrLaws.split_free _ 58
 have js:=StrLaws.join_split (u++col++v) col
 generalize hs:bW (u++col++v) col=ps at fr js
 match ps,fr,js with
 | [],fr,js=>
  have:(u++col++v).cps.toList=[]:=by rw[<-js];rfl
  rw[e0] at this
  simp at this
 | [p],fr,js=>
  have:p=u++col++v:=js
  have q:=fr p aX
  rw[this,e0] at q
  simp at q
 | [p,q],fr,js=>
  have h:p++col++q=u++col++v:=js
  have h':=congrArg (λz:S=>z.cps.toList) h
  simp only[e0,j7,su] at h'
  have:=sv (fr p aX) hu (by simpa using h')
  rw[sx this.1,sx this.2]
 | p::q::r::t,fr,js=>
  have h:p++col++PySem.Str.join col (q::r::t)=u++col++v:=js
  have h':=congrArg (λz:S=>z.cps.toList) h
  simp only[e0,j7,su] at h'
  have:=sv (fr p aX) hu (by simpa using h')
  have e2:PySem.Str.join (⟨#[58]⟩:S) (q::r::t)=q++⟨#[58]⟩++PySem.Str.join ⟨#[58]⟩ (r::t):=rfl
  rw[e2,j7,j7] at this
  exact absurd (by rw[<-this.2];simp) hv
def ie(a b c d:Int):S:=dC a.toNat b.toNat++col++dC c.toNat d.toNat
theorem xH(h:bR a b c d):bJ a b/\bJ c d:=by unfold bR at h;unfold bJ;omega
theorem Fs(h:bR a b c d):(ie a b c d).length<=7:=by
 obtain⟨h1,h2⟩:=xH h
 unfold bJ at h1 h2
 unfold ie
 rw[PySem.Str.length_append,PySem.Str.length_append,show col.length=1 from rfl]
 have:=ny (r:=a.toNat) (c:=b.toNat) (by omega)
 have:=ny (r:=c.toNat) (c:=d.toNat) (by omega)
 omega
theorem zd(h:bR a b c d):bW (ie a b c d) col=[dC a.toNat b.toNat,dC c.toNat d.toNat]:=by
 obtain⟨h1,h2⟩:=xH h
 unfold bJ at h1 h2
 exact JP (CV (by omega) (by omega)) (CV (by omega) (by omega))
theorem m_split(h:bR a b c d)(st:Hs):eL (ie a b c d) [.str ":"] st= .ok (.ref st.length) (st++[.lst [.str (dC a.toNat b.toNat),.str (dC c.toNat d.toNat)]]):=by
 have:=Fs h
 show(if((":":PySem.Str).length == 0)=false/\(ie a b c d).length<=lim then Re.ok (Wv.ref st.length) (st++[Ob.lst ((bW (ie a b c d) ":").map Wv.str)]) else .bad)=_
 rw[if_pos ⟨rfl,by unfold lim;omega⟩,show bW (ie a b c d) ":"=_ from zd h]
 rfl
theorem mB(h:bR a b c d):ba [tI [a,b,c,d]] st= .ok (.str (ie a b c d)) st:=by
 obtain⟨h1,h2⟩:=xH h
 have m:=j6 (st:=st) h
 have p1:=iX (st:=st) h1
 have p2:=iX (st:=st) h2
 have s1:pA (tI [a,b,c,d]) none (some 2) st= .ok (tI [a,b]) st:=CH
 have s2:pA (tI [a,b,c,d]) (some 2) none st= .ok (tI [c,d]) st:=CI
 have l1:=ny (r:=a.toNat) (c:=b.toNat) (by unfold bJ at h1;omega)
 have l2:=ny (r:=c.toNat) (c:=d.toNat) (by unfold bJ at h2;omega)
 have a1:cC (.str (dC a.toNat b.toNat)) (.str ":") st= .ok (.str (dC a.toNat b.toNat++col)) st:=CA (by rw[show(":":PySem.Str).length=1 from rfl];unfold lim;omega)
 have a2:cC (.str (dC a.toNat b.toNat++col)) (.str (dC c.toNat d.toNat)) st= .ok (.str (ie a b c d)) st:=CA (by rw[PySem.Str.length_append,show col.length=1 from rfl];unfold lim;omega)
 have j:∀{s:Hs},aG (tI [a,b,c,d]) (.int 0) s= .ok (.int a) s/\aG (tI [a,b,c,d]) (.int 1) s= .ok (.int b) s/\aG (tI [a,b,c,d]) (.int 2) s= .ok (.int c) s/\aG (tI [a,b,c,d]) (.int 3) s= .ok (.int d) s:=⟨rfl,rfl,rfl,rfl⟩
 unfold ba gg jE
 simp[j,m,s1,s2,p1,p2,a1,a2]
theorem joined(h:bR a b c d):b6 [tI [a,b],tI [c,d]] st= .ok (tI [a,b,c,d]) st:=by
 have ad:cC (tI [a,b]) (tI [c,d]) st= .ok (tI [a,b,c,d]) st:=cat (by simp)
 have hc:bz [tI [a,b,c,d]] st= .ok (.bl true) st:=by
  rw[jJ,decide_eq_true]
  unfold bR at h
  unfold Co bJ
  omega
 unfold b6 gg eO
 simp[ad,hc]
theorem ze(h:bR a b c d):∃st',dM [.str (ie a b c d)] st= .ok (tI [a,b,c,d]) st'/\Gr st st':=by
 obtain⟨h1,h2⟩:=xH h
 obtain⟨r,k,e1,e2,g1,g2⟩:=CU h1
 obtain⟨r',k',e3,e4,g3,g4⟩:=CU h2
 have ms:=m_split h st
 have l0:ak (st++[.lst [.str (dC a.toNat b.toNat),.str (dC c.toNat d.toNat)]]) st.length=some [.str (dC a.toNat b.toNat),.str (dC c.toNat d.toNat)]:=bK
 have gp:Gr st (st++[.lst [.str (dC a.toNat b.toNat),.str (dC c.toNat d.toNat)]]):=Gr.push
 generalize st++[.lst [.str (dC a.toNat b.toNat),.str (dC c.toNat d.toNat)]]=s1 at ms l0 gp
 obtain⟨s2,r1,k1⟩:=iY (st:=s1) (r:=a.toNat) (k:=b.toNat) (by omega) (by omega)
 obtain⟨s3,r2,k2⟩:=iY (st:=s2) (r:=c.toNat) (k:=d.toNat) (by omega) (by omega)
 rw[show((a.toNat:Nat):Int)=a from by omega,show((b.toNat:Nat):Int)=b from by omega] at r1
 rw[show((c.toNat:Nat):Int)=c from by omega,show((d.toNat:Nat):Int)=d from by omega] at r2
 have i0:aG (.ref st.length) (.int 0) s1= .ok (.str (dC a.toNat b.toNat)) s1:=pC l0 rfl
 have i1:aG (.ref st.length) (.int 1) s2= .ok (.str (dC c.toNat d.toNat)) s2:=pC (k1.lst l0) rfl
 have ln:=xy l0
 have jc:=joined (st:=s3) h
 have m:=j6 (st:=s3) h
 have j:∀{s:Hs},aG (tI [a,b,c,d]) (.int 0) s= .ok (.int a) s/\aG (tI [a,b,c,d]) (.int 1) s= .ok (.int b) s/\aG (tI [a,b,c,d]) (.int 2) s= .ok (.int c) s/\aG (tI [a,b,c,d]) (.int 3) s= .ok (.int d) s:=⟨rfl,rfl,rfl,rfl⟩
 refine⟨s3,?_,gp.trans (k1.trans k2)⟩
 unfold dM gg jG
 simp[ms,ln,i0,r1,i1,r2,jc,j,m]
end
def ky(p q:Int):List L2.Key:=[.inl p,.inl q]
def Pp(p:Pt):List L2.Key:=ky p.1 p.2
def ME:List Pt:=(av 2574).map λk=>(((k / 26:Nat):Int),((k % 26:Nat):Int))
def uq{α:Type}(f:α->Nat):List α->Nat->Bool
 | [],_=>true
 | x::r,acc=> !(acc.testBit (f x))&&uq f r (acc||| 2 ^ f x)
theorem F_{α:Type}{f:α->Nat}:∀{l:List α}{acc:Nat},uq f l acc=true->(∀x∈l,∀y∈l,f x=f y->x=y)/\∀x∈l,acc.testBit (f x)=false
 | [],_,_=>⟨λx hx=>(by cases hx),λx hx=>by cases hx⟩
 | x::r,acc,h=>by
  unfold uq at h
  rw[bf] at h
  obtain⟨h1,h2⟩:=F_ h.2
  have no:∀y∈r,acc.testBit (f y)=false/\f x≠f y:=λy hy=>by
   have q:=h2 y hy
   rw[Nat.testBit_or,Nat.testBit_two_pow,Bool.or_eq_false_iff] at q
   exact⟨q.1,of_decide_eq_false q.2⟩
  refine⟨λa ha b hb e=>?_,λy hy=>?_⟩
  ·rcases List.mem_cons.mp ha with ea | ha'
   ·rcases List.mem_cons.mp hb with eb | hb'
    ·rw[ea,eb]
    ·rw[ea] at e
     exact absurd e (no b hb').2
   ·rcases List.mem_cons.mp hb with eb | hb'
    ·rw[eb] at e
     exact absurd e.symm (no a ha').2
    ·exact h1 a ha' b hb' e
  ·rcases List.mem_cons.mp hy with rfl | hy
   ·simpa using h.1
   ·exact(no y hy).1
def hs(p:Pt):Int:=w8 [p.1,p.2]
def hm(p:Pt):Nat:=(hs p % 19291).toNat
theorem JQ:uq hm ME 0=true:=by decide+kernel
theorem uD{p:Pt}(h:bJ p.1 p.2):p∈ME:=by
 obtain⟨a,b⟩:=p
 obtain⟨h1,h2,h3,h4⟩:=h
 dsimp only at h1 h2 h3 h4
 refine List.mem_map.mpr ⟨a.toNat * 26+b.toNat,List.mem_range.mpr (by omega),?_⟩
 refine qD ?_ ?_
 ·show(((a.toNat * 26+b.toNat) / 26:Nat):Int)=a
  omega
 ·show(((a.toNat * 26+b.toNat) % 26:Nat):Int)=b
  omega
theorem JR{p q:Pt}(hp:bJ p.1 p.2)(hq:bJ q.1 q.2)(h:hs p=hs q):p=q :=
 (F_ JQ).1 p (uD hp) q (uD hq) (by unfold hm;rw[h])
theorem xI:∀l:List Pt,mK (l.map Pp)=some (l.map λp=>[p.1,p.2])
 | []=>rfl
 | p::r=>by
  rw[aI,aI]
  unfold mK
  rw[xI r]
  rfl
theorem uE:∀{l:List Pt},l.Nodup->(∀p∈l,bJ p.1 p.2)->(l.map hs).Nodup
 | [],_,_=>List.nodup_nil
 | p::r,h,k=>by
  rw[xJ] at h
  rw[aI,xJ]
  refine⟨λz=>?_,uE h.2 λq hq=>k q (aN _ hq)⟩
  obtain⟨q,hq,e⟩:=List.mem_map.mp z
  exact h.1 (JR (k q (aN _ hq)) (k p aX) e ▸ hq)
def Lx(x y:Pt):Prop:=x.1 < y.1\/(x.1=y.1/\x.2 < y.2)
theorem Ft{a b:Int}{m n:Nat}{p:Pt}:p∈Dg a b m n↔(a<=p.1/\p.1 < a+m)/\b<=p.2/\p.2 < b+n:=by
 unfold Dg
 rw[List.mem_flatten]
 constructor
 ·rintro⟨l,hl,hp⟩
  obtain⟨k,hk,rfl⟩:=List.mem_map.mp hl
  obtain⟨j,hj,rfl⟩:=List.mem_map.mp hp
  have:=List.mem_range.mp hk
  have:=List.mem_range.mp hj
  dsimp only
  omega
 ·rintro⟨⟨h1,h2⟩,h3,h4⟩
  refine⟨_,List.mem_map.mpr ⟨(p.1 - a).toNat,List.mem_range.mpr (by omega),rfl⟩,List.mem_map.mpr ⟨(p.2 - b).toNat,List.mem_range.mpr (by omega),?_⟩⟩
  refine qD ?_ ?_
  ·show a+((p.1 - a).toNat:Int)=p.1
   omega
  ·show b+((p.2 - b).toNat:Int)=p.2
   omega
theorem CW{a b:Int}{m n:Nat}:(Dg a b m n).Pairwise Lx:=by
 unfold Dg
 rw[List.pairwise_flatten]
 refine⟨λl hl=>?_,?_⟩
 ·obtain⟨k,hk,rfl⟩:=List.mem_map.mp hl
  rw[rP]
  exact List.pairwise_lt_range.imp λh=> .inr ⟨rfl,by dsimp only;omega⟩
 ·rw[rP]
  refine List.pairwise_lt_range.imp λ{i j} h x hx y hy=>?_
  obtain⟨k,_,rfl⟩:=List.mem_map.mp hx
  obtain⟨q,_,rfl⟩:=List.mem_map.mp hy
  exact .inl (by dsimp only;omega)
theorem sA{a b:Int}{m n:Nat}:(Dg a b m n).Nodup:=CW.imp λ{x y} h e=>by
 subst e
 unfold Lx at h
 omega
theorem CY{a b:Int}{m n:Nat}:Bm (Dg a b m n):=CW.imp λ{x y} h=>by
 unfold Lx at h
 unfold pB
 simp
 omega
theorem Fv{a b:Int}{m n:Nat}:(Dg a b m n).length=m * n:=by
 have:=congrArg fB (uC (a:=a) (b:=b) (m:=m) (n:=n))
 rw[qr,bV] at this
 exact this.symm
def j8(a b c d:Int):List Pt:=Dg a b (c+1 - a).toNat (d+1 - b).toNat
section
variable {a b c d:Int} {st:Hs}
theorem dc(h:bR a b c d){p:Pt}:p∈j8 a b c d↔(a<=p.1/\p.1<=c)/\b<=p.2/\p.2<=d:=by
 unfold j8
 rw[Ft]
 unfold bR at h
 omega
theorem sC(h:bR a b c d):∀p∈j8 a b c d,bJ p.1 p.2:=λp hp=>by
 have:=(dc h).mp hp
 unfold bR at h
 unfold bJ
 omega
theorem xK(h:bR a b c d):((j8 a b c d).length:Int)=(c - a+1) * (d - b+1):=by
 unfold j8
 rw[Fv]
 unfold bR at h
 rw[Int.natCast_mul,show(((c+1 - a).toNat:Nat):Int)=c - a+1 from by omega,show(((d+1 - b).toNat:Nat):Int)=d - b+1 from by omega]
theorem xM(h:bR a b c d):1<=(j8 a b c d).length/\(j8 a b c d).length<=300:=by
 have e:=xK h
 unfold bR at h
 have:1 * 1<=(c - a+1) * (d - b+1):=Int.mul_le_mul (by omega) (by omega) (by omega) (by omega)
 omega
theorem lP(h:bR a b c d):∃more:Hs,bB [tI [a,b,c,d]] st= .ok (.ref st.length) (st++ .lst ((j8 a b c d).map pw)::more):=by
 obtain⟨more,e⟩:=uz (st:=st) h
 rw[uC] at e
 exact⟨more,e⟩
theorem within{p:Pt}:ff [tI [a,b,c,d],pw p] st= .ok (.bl (decide ((a<=p.1/\p.1<=c)/\b<=p.2/\p.2<=d))) st:=by
 have j:aG (tI [a,b,c,d]) (.int 0) st= .ok (.int a) st/\aG (tI [a,b,c,d]) (.int 1) st= .ok (.int b) st/\aG (tI [a,b,c,d]) (.int 2) st= .ok (.int c) st/\aG (tI [a,b,c,d]) (.int 3) st= .ok (.int d) st:=⟨rfl,rfl,rfl,rfl⟩
 have i0:aG (pw p) (.int 0) st= .ok (.int p.1) st:=rfl
 have i1:aG (pw p) (.int 1) st= .ok (.int p.2) st:=rfl
 unfold ff gg oY
 by_cases h1:a<=p.1<;>by_cases h2:p.1<=c<;>by_cases h3:b<=p.2<;>by_cases h4:p.2<=d<;>simp[j,i0,i1,h1,h2,h3,h4]
theorem zf(h:bR a b c d):bA [tI [a,b,c,d]] st= .ok (.int ((j8 a b c d).length:Nat)) st:=by
 have j:aG (tI [a,b,c,d]) (.int 0) st= .ok (.int a) st/\aG (tI [a,b,c,d]) (.int 1) st= .ok (.int b) st/\aG (tI [a,b,c,d]) (.int 2) st= .ok (.int c) st/\aG (tI [a,b,c,d]) (.int 3) st= .ok (.int d) st:=⟨rfl,rfl,rfl,rfl⟩
 rw[xK h]
 have m:di (.int (c - a+1)) (.int (d - b+1)) st= .ok (.int ((c - a+1) * (d - b+1))) st:=MA (by unfold bR at h;omega)
 unfold bA gg gG
 simp[j,m]
end
def dP(p:Pt):PyData:=.tuple [.int p.1,.int p.2]
theorem wc(p q:Pt):aZ (dP p) (dP q)=decide (p=q):=by
 rw[nC]
 simp[dP,aZ,dO,Prod.ext_iff]
theorem xN{st:Hs}{n:Nat}:∀l:List Pt,dR (aT st (n+1)) (l.map pw)=some (l.map dP)
 | []=>rfl
 | p::r=>by
  rw[aI]
  unfold dR
  rw[xN r]
  have:aT st (n+1) (pw p)=some (dP p):=by cases n<;>rfl
  rw[this]
  rfl
theorem pb{st:Hs}{l:Nat}{ps:List Pt}(h:ak st l=some (ps.map pw)):aT st 20 (.ref l)=some (.list (ps.map dP)):=by
 show(match ak st l with | some ws=>(dR (aT st 19) ws).map wN | none=>none)=_
 rw[h]
 dsimp only
 rw[xN]
 rfl
theorem CZ:∀l:List Pt,dO (l.map dP) (l.map dP)=true
 | []=>by simp[dO]
 | p::r=>by
  rw[aI]
  show(aZ (dP p) (dP p)&&dO (r.map dP) (r.map dP))=true
  rw[wc,CZ r]
  simp
theorem sD{st:Hs}{l k:Nat}{ps:List Pt}(h:ak st l=some (ps.map pw))(h':ak st k=some (ps.map pw)):iy (.ref l) (.ref k) st= .ok (.bl false) st/\oEq (.ref l) (.ref k) st= .ok (.bl true) st:=by
 have ev:aZ (.list (ps.map dP)) (.list (ps.map dP))=true:=by simp only[aZ];exact CZ _
 exact⟨vW (pb h) (pb h') ev,JH (pb h) (pb h') ev⟩
theorem MF{st:Hs}{l:Nat}{ps:List Pt}(h:ak st l=some (ps.map pw))(p:Pt):mU false (pw p) (.ref l) st= .ok (.bl (decide (p∈ps))) st:=by
 have d2:aT st 20 (pw p)=some (dP p):=rfl
 have e:((ps.map dP).any λz=>aZ z (dP p))=decide (p∈ps):=by
  rw[nC,List.any_eq_true,decide_eq_true_eq]
  constructor
  ·rintro⟨z,hz,e⟩
   obtain⟨m,hm,rfl⟩:=List.mem_map.mp hz
   rw[wc] at e
   rw[<-of_decide_eq_true e]
   exact hm
  ·intro hm
   exact⟨_,List.mem_map.mpr ⟨p,hm,rfl⟩,by rw[wc];simp⟩
 unfold mU
 rw[pb h,d2]
 dsimp only
 rw[e]
 simp
theorem xO:∀ps:List Pt,dR oG (ps.map pw)=some (ps.map Pp)
 | []=>rfl
 | p::r=>by
  rw[aI]
  unfold dR
  rw[xO r]
  rfl
theorem JU{st:Hs}{l:Nat}{ps:List Pt}(h:ak st l=some (ps.map pw))(h1:1<=ps.length)(h3:ps.length<=300)(hn:ps.Nodup)(hp:∀p∈ps,bJ p.1 p.2):lG [.ref l] st= .ok (.int (ps.length:Nat)) st:=by
 have hk:kF (ps.map Pp)=true:=by
  unfold kF
  rw[xI]
  refine decide_eq_true ?_
  rw[cz]
  exact uE hn hp
 have sn:jx (ps.map pw)=none:=by
  cases ps with
  | nil=>simp at h1
  | cons p r=>rfl
 show(match ak st l with
  | some ws=>(match jx ws with
   | some zs=>if zs.length < 1000 then Re.ok (Wv.int (w9 zs.reverse:Nat)) st else .bad
   | none=>(match dR oG ws with | some ks=>if kF ks=true/\ws.length<=300 then Re.ok (Wv.int (ws.length:Nat)) st else .bad | none=> .bad))
  | none=> .bad)=_
 rw[h]
 dsimp only
 rw[sn]
 dsimp only
 rw[xO]
 dsimp only
 rw[if_pos ⟨hk,by rw[bV];exact h3⟩,bV]
theorem uF:∀ps:List Pt,iJ (ps.map pw)=some ps
 | []=>rfl
 | p::r=>by
  rw[aI]
  show(match iJ (r.map pw) with | some l=>some ((p.1,p.2)::l) | none=>none)=_
  rw[uF r]
theorem C0{st:Hs}{l:Nat}{ps:List Pt}(h:ak st l=some (ps.map pw))(hp:∀p∈ps,bJ p.1 p.2):mO [.ref l] st= .ok (.ref st.length) (st++[.lst ((l8 ps).map pw)]):=by
 show(match ak st l with
  | some ws=>if ws.length < 2 then Re.ok (Wv.ref st.length) (st++[Ob.lst ws]) else(match iJ ws with | some ps=>if 2<=ps.length/\(ps.all λq=>decide (0<=q.2/\q.2 < 1000))=true then Re.ok (Wv.ref st.length) (st++[Ob.lst ((l8 ps).map pw)]) else .bad | none=> .bad)
  | none=> .bad)=_
 rw[h]
 dsimp only
 by_cases c:(ps.map pw).length < 2
 ·rw[if_pos c]
  have e:l8 ps=ps:=by
   match ps,c with
   | [],_=>rfl
   | [p],_=>rfl
   | p::q::r,c=>simp at c;omega
  rw[e]
 ·rw[if_neg c,uF]
  dsimp only
  rw[if_pos ⟨by simpa using c,List.all_eq_true.mpr λq hq=>decide_eq_true (by have:=hp q hq;unfold bJ at this;omega)⟩]
theorem F'{n many:Int}(h:0 < many):0<=n.fmod many/\n.fmod many < many:=⟨v5 _ h,v7 _ h⟩
theorem gS{st:Hs}{l:Nat}{n:Int}(many:Int)(h:st[l]? =some (.lst [.int n]))(hm:many≠0/\many.natAbs.log2 < 9000)(hp:0 < many) :
  ∃(d n':Int)(st':Hs),aw [.ref l,.int many] st= .ok (.int d) st'/\cQ l st st'/\st'[l]? =some (.lst [.int n'])/\0<=d/\d < many :=
 ⟨_,_,_,digit h hm,cQ.set,xB h,(F' hp).1,(F' hp).2⟩
theorem lQ{i:Int}(h0:0<=i)(h1:i < 1000):i.natAbs.log2 < 9000:=by
 by_cases z:i.natAbs=0
 ·rw[z];decide
 ·rw[Nat.log2_lt z]
  have:i.natAbs < 1000:=by omega
  exact aL this (by decide+kernel)
theorem uG{x w:Int}(hw:0 < w):x.fdiv w * w<=x:=by
 have:=JV x w
 have h:=v5 x hw
 omega
theorem zg{st:Hs}{l:Nat}{n:Int}(h:st[l]? =some (.lst [.int n])):∃(a b c d:Int)(st':Hs),b7 [.ref l] st= .ok (.tup [.int a,.int b,.int c,.int d]) st'/\cQ l st st'/\(∃n':Int,st'[l]? =some (.lst [.int n']))/\bR a b c d:=by
 obtain⟨top,n1,st1,e1,k1,h1,b1,UC⟩:=gS 99 h (by decide) (by decide)
 obtain⟨col,n2,st2,e2,k2,h2,b2,UD⟩:=gS 26 h1 (by decide) (by decide)
 have mn:oz [.int 9,.int (99 - top)] st2= .ok (.int (if 99 - top < 9 then 99 - top else 9)) st2:=rfl
 obtain⟨hi,hhi,q1,q2⟩:∃x:Int,(if 99 - top < 9 then 99 - top else 9)=x/\0 < x/\x<=9/\x<=99 - top:=by
  refine⟨_,rfl,?_⟩
  split<;>omega
 rw[hhi] at mn
 obtain⟨x3,n3,st3,e3,k3,h3,b3,UE⟩:=gS hi h2 ⟨by omega,lQ (by omega) (by omega)⟩ q1
 obtain⟨x4,n4,zo,e4,k4,h4,b4,UG⟩:=gS (26 - col) h3 ⟨by omega,lQ (by omega) (by omega)⟩ (by omega)
 obtain⟨x5,n5,sN,e5,k5,h5,b5,UH⟩:=gS 6 h4 (by decide) (by decide)
 have kk:=k1.trans (k2.trans (k3.trans (k4.trans k5)))
 have Ru:∀high wide:Int,1<=high->high<=99 - top->1<=wide->wide<=26 - col->high * wide<=300->bR top col (top+high - 1) (col+wide - 1):=by
  intro high wide a1 a2 a3 a4 a5
  have z:(top+high - 1 - top+1) * (col+wide - 1 - col+1)=high * wide:=by
   rw[show top+high - 1 - top+1=high by omega,show col+wide - 1 - col+1=wide by omega]
  unfold bR
  rw[z]
  omega
 by_cases w:x5=1
 ·subst w
  have fd:=Cv (st:=sN) (i:=300) (j:=1+x4) ⟨by omega,lQ (by omega) (by omega)⟩
  have fm:=uG (x:=300) (w:=1+x4) (by omega)
  have f1:1<=Int.fdiv 300 (1+x4):=by
   have q:=JV 300 (1+x4)
   have r:=v7 300 (b:=1+x4) (by omega)
   by_cases z:1<=Int.fdiv 300 (1+x4)
   ·exact z
   ·exfalso
    have:Int.fdiv 300 (1+x4) * (1+x4)<=0:=Int.mul_nonpos_of_nonpos_of_nonneg (by omega) (by omega)
    omega
  generalize Int.fdiv 300 (1+x4)=f at fd fm f1
  have Rv:oz [.int (99 - top),.int f] sN= .ok (.int (if f < 99 - top then f else 99 - top)) sN:=rfl
  obtain⟨high,hh,g1,g2,g3⟩:∃x:Int,(if f < 99 - top then f else 99 - top)=x/\1<=x/\x<=99 - top/\x<=f:=by
   refine⟨_,rfl,?_⟩
   split<;>omega
  rw[hh] at Rv
  have g4:high * (1+x4)<=300:=cP (JX g3 (by omega)) fm
  refine⟨top,col,top+high - 1,col+(1+x4) - 1,sN,?_,kk,⟨n5,h5⟩,Ru high (1+x4) g1 g2 (by omega) (by omega) g4⟩
  refine iZ (n:=5) (g:=bE) ?_
  unfold bE
  simp[-F9,e1,e2,mn,e3,e4,e5,fd,Rv]
 ·have w':(x5 == 1)=false:=beq_false_of_ne w
  have g4:(1+x3) * (1+x4)<=300:=by
   have u1:(1+x3) * (1+x4)<=9 * (1+x4):=JX (by omega) (by omega)
   omega
  refine⟨top,col,top+(1+x3) - 1,col+(1+x4) - 1,sN,?_,kk,⟨n5,h5⟩,Ru (1+x3) (1+x4) (by omega) (by omega) (by omega) (by omega) g4⟩
  refine iZ (n:=5) (g:=bE) ?_
  unfold bE
  simp[-F9,e1,e2,mn,e3,e4,e5,w']
abbrev Ar:=Int×Int×Int×Int
def pM(q:Ar):Wv:=tI [q.1,q.2.1,q.2.2.1,q.2.2.2]
def Ar.ok(q:Ar):Prop:=bR q.1 q.2.1 q.2.2.1 q.2.2.2
def Ar.pl(q:Ar):List Pt:=j8 q.1 q.2.1 q.2.2.1 q.2.2.2
theorem sE{a b c d a' b' c' d':Int}(h:bR a b c d)(h1:a<=a'/\a'<=c'/\c'<=c)(h2:b<=b'/\b'<=d'/\d'<=d):bR a' b' c' d':=by
 unfold bR at h ⊢
 have:(c' - a'+1) * (d' - b'+1)<=(c - a+1) * (d - b+1):=Int.mul_le_mul (by omega) (by omega) (by omega) (by omega)
 omega
theorem two_perm{a b c d:Int}{q1 q2:Ar}(h:bR a b c d)(h1:q1.ok)(h2:q2.ok)(hm:∀p:Pt,p∈j8 a b c d↔p∈q1.pl\/p∈q2.pl)(hd:∀p:Pt,p∈q1.pl->p∉q2.pl):(q1.pl++q2.pl).Perm (j8 a b c d):=by
 refine(List.perm_ext_iff_of_nodup ?_ sA).mpr λp=>?_
 ·rw[List.nodup_append]
  exact⟨sA,sA,λx hx y hy e=>hd x hx (e ▸ hy)⟩
 ·rw[List.mem_append]
  exact(hm p).symm
structure Nr(a b c d:Int)(q1:Ar)(qs:List Ar):Prop where
 ok:∀q∈q1::qs,q.ok
 pm:((q1::qs).flatMap Ar.pl).Perm (j8 a b c d)
 fst:q1.1=a/\q1.2.1=b
 lst:∃z:Ar,(q1::qs).getLast? =some z/\z.2.2.1=c/\z.2.2.2=d
 few:qs.length<=1
theorem parts{a b c d:Int}{l:Nat}{n:Int}{st:Hs}(h:bR a b c d)(hl:st[l]? =some (.lst [.int n])) :
  ∃(q1:Ar)(qs:List Ar)(k:Nat)(st':Hs),eF [tI [a,b,c,d],.ref l] st= .ok (.ref k) st'/\st'[k]? =some (.lst ((q1::qs).map pM))/\st.length<=k/\cQ l st st'/\(∃n':Int,st'[l]? =some (.lst [.int n']))/\Nr a b c d q1 qs:=by
 have j:∀{s:Hs},aG (tI [a,b,c,d]) (.int 0) s= .ok (.int a) s/\aG (tI [a,b,c,d]) (.int 1) s= .ok (.int b) s/\aG (tI [a,b,c,d]) (.int 2) s= .ok (.int c) s/\aG (tI [a,b,c,d]) (.int 3) s= .ok (.int d) s:=⟨rfl,rfl,rfl,rfl⟩
 have t4:∀{x y z w:Int}{s:Hs},y7 [.int x,.int y,.int z,.int w] s= .ok (tI [x,y,z,w]) s:=oT
 have hh:=h
 unfold bR at hh
 -- parted at a row
 have rows:∀{s1:Hs}{n1:Int},a < c->s1[l]? =some (.lst [.int n1])->∃(e:Int)(s2:Hs)(n2:Int),aw [.ref l,.int (c - a)] s1= .ok (.int e) s2/\cQ l s1 s2/\s2[l]? =some (.lst [.int n2])/\Nr a b c d (a,b,a+1+e - 1,d) [(a+1+e,b,c,d)]:=λ{s1 n1} hac h1=>by
  obtain⟨e,n2,s2,e2,k2,h2,b0,b1⟩:=gS (c - a) h1 ⟨by omega,lQ (by omega) (by omega)⟩ (by omega)
  have o1:Ar.ok (a,b,a+1+e - 1,d):=sE h (by dsimp only;omega) (by dsimp only;omega)
  have o2:Ar.ok (a+1+e,b,c,d):=sE h (by dsimp only;omega) (by dsimp only;omega)
  refine⟨e,s2,n2,e2,k2,h2,⟨λq hq=>?_,?_,⟨rfl,rfl⟩,⟨_,rfl,rfl,rfl⟩,by simp⟩⟩
  ·rcases List.mem_cons.mp hq with z | z
   ·rw[z];exact o1
   ·rw[List.mem_singleton.mp z];exact o2
  ·rw[pd,pd,wd,dE]
   refine two_perm h o1 o2 (λp=>?_) λp hp hq=>?_
   ·unfold Ar.pl
    rw[dc h,dc o1,dc o2]
    dsimp only
    omega
   ·unfold Ar.pl at hp hq
    have:=(dc o1).mp hp
    have:=(dc o2).mp hq
    dsimp only at *
    omega
 have cols:∀{s1:Hs}{n1:Int},b < d->s1[l]? =some (.lst [.int n1])->∃(e:Int)(s2:Hs)(n2:Int),aw [.ref l,.int (d - b)] s1= .ok (.int e) s2/\cQ l s1 s2/\s2[l]? =some (.lst [.int n2])/\Nr a b c d (a,b,c,b+1+e - 1) [(a,b+1+e,c,d)]:=λ{s1 n1} hac h1=>by
  obtain⟨e,n2,s2,e2,k2,h2,b0,b1⟩:=gS (d - b) h1 ⟨by omega,lQ (by omega) (by omega)⟩ (by omega)
  have o1:Ar.ok (a,b,c,b+1+e - 1):=sE h (by dsimp only;omega) (by dsimp only;omega)
  have o2:Ar.ok (a,b+1+e,c,d):=sE h (by dsimp only;omega) (by dsimp only;omega)
  refine⟨e,s2,n2,e2,k2,h2,⟨λq hq=>?_,?_,⟨rfl,rfl⟩,⟨_,rfl,rfl,rfl⟩,by simp⟩⟩
  ·rcases List.mem_cons.mp hq with z | z
   ·rw[z];exact o1
   ·rw[List.mem_singleton.mp z];exact o2
  ·rw[pd,pd,wd,dE]
   refine two_perm h o1 o2 (λp=>?_) λp hp hq=>?_
   ·unfold Ar.pl
    rw[dc h,dc o1,dc o2]
    dsimp only
    omega
   ·unfold Ar.pl at hp hq
    have:=(dc o1).mp hp
    have:=(dc o2).mp hq
    dsimp only at *
    omega
 have one:Nr a b c d (a,b,c,d) []:=⟨λq hq=>by rw[List.mem_singleton.mp hq];exact h,by rw[pd,wd,dE];exact .refl _,⟨rfl,rfl⟩,⟨_,rfl,rfl,rfl⟩,by simp⟩
 have kp:∀{s s':Hs}{o:Ob},cQ l s s'->cQ l s (s'++[o]):=λk=>k.trans cQ.push
 have ll:=rV hl
 by_cases hac:a < c
 ·by_cases hbd:b=d
  ·subst hbd
   obtain⟨e,s2,n2,e2,k2,h2,P⟩:=rows hac hl
   refine⟨_,_,s2.length,s2++[.lst ([(a,b,a+1+e - 1,b),(a+1+e,b,c,b)].map pM)],iZ (n:=3) (g:=aR) ?_,iK,k2.1,kp k2,⟨n2,jy h2⟩,P⟩
   unfold aR
   simp[-oT,t4,j,hac,e2,pM]
  ·obtain⟨x,n1,s1,e1,k1,h1,b0,b1⟩:=gS 2 hl (by decide) (by decide)
   have Fw:(b == d)=false:=beq_false_of_ne hbd
   by_cases hx:x=0
   ·subst hx
    obtain⟨e,s2,n2,e2,k2,h2,P⟩:=rows hac h1
    refine⟨_,_,s2.length,s2++[.lst ([(a,b,a+1+e - 1,d),(a+1+e,b,c,d)].map pM)],iZ (n:=3) (g:=aR) ?_,iK,(k1.trans k2).1,kp (k1.trans k2),⟨n2,jy h2⟩,P⟩
    unfold aR
    simp[-oT,t4,j,hac,Fw,e1,e2,pM]
   ·have hx':(x == 0)=false:=beq_false_of_ne hx
    obtain⟨e,s2,n2,e2,k2,h2,P⟩:=cols (by omega) h1
    refine⟨_,_,s2.length,s2++[.lst ([(a,b,c,b+1+e - 1),(a,b+1+e,c,d)].map pM)],iZ (n:=3) (g:=aR) ?_,iK,(k1.trans k2).1,kp (k1.trans k2),⟨n2,jy h2⟩,P⟩
    unfold aR
    simp[-oT,t4,j,hac,Fw,e1,hx',e2,pM]
 ·by_cases hbd:b=d
  ·subst hbd
   refine⟨_,_,st.length,st++[.lst ([(a,b,c,b)].map pM)],iZ (n:=3) (g:=aR) ?_,iK,ai _,cQ.push,⟨n,jy hl⟩,one⟩
   unfold aR
   simp[j,hac,pM]
  ·have Fw:(b == d)=false:=beq_false_of_ne hbd
   obtain⟨e,s2,n2,e2,k2,h2,P⟩:=cols (by omega) hl
   refine⟨_,_,s2.length,s2++[.lst ([(a,b,c,b+1+e - 1),(a,b+1+e,c,d)].map pM)],iZ (n:=3) (g:=aR) ?_,iK,k2.1,kp k2,⟨n2,jy h2⟩,P⟩
   unfold aR
   simp[-oT,t4,j,hac,Fw,e2,pM]
theorem uK{a b:GS}{ρ ρ':bY}{st st':Hs}(h:a ρ st= .nx ρ' st'):bo a b ρ st=b ρ' st':=by rw[Me,h];rfl
theorem ne_str{x:S}{st:Hs}:iy (.str x) (.str x) st= .ok (.bl false) st:=vW (d:=.str x) rfl rfl (by simp[aZ])
theorem C2{st:Hs}{n:Nat}:∀l:List Int,dR (aT st n) (l.map Wv.int)=some (l.map sF)
 | []=>rfl
 | i::r=>by
  rw[aI]
  unfold dR
  rw[C2 r]
  have:aT st n (.int i)=some (.int i):=by cases n<;>rfl
  rw[this]
  rfl
theorem C3:∀l:List Int,dO (l.map sF) (l.map sF)=true
 | []=>by simp[dO]
 | i::r=>by simp[dO,aZ,C3 r]
theorem Ga{l:List Int}{st:Hs}:iy (tI l) (tI l) st= .ok (.bl false) st:=by
 have d:aT st 20 (tI l)=some (.tuple (l.map sF)):=by
  show(dR (aT st 19) (l.map Wv.int)).map wM=_
  rw[C2]
  rfl
 exact vW d d (by simp only[aZ];exact C3 l)
theorem Fx{a b c d:Int}{p:Pt}{o1 o2 o3 o5 o6 o7 o8:Option Wv}{st:Hs}(h:bR a b c d)(hp:p∈j8 a b c d):∃st',cI [some (tI [a,b,c,d]),o1,o2,o3,some (pw p),o5,o6,o7,o8] st= .nx [some (tI [a,b,c,d]),o1,o2,o3,some (pw p),o5,o6,o7,o8] st'/\Gr st st':=by
 have w:=within (a:=a) (b:=b) (c:=c) (d:=d) (p:=p) (st:=st)
 rw[decide_eq_true ((dc h).mp hp)] at w
 have hk:=sC h p hp
 have pn:a9 [pw p] st= .ok (.str (dC p.1.toNat p.2.toNat)) st:=iX (a:=p.1) (b:=p.2) hk
 obtain⟨s1,e1,g1⟩:=iY (st:=st) (r:=p.1.toNat) (k:=p.2.toNat) (by unfold bJ at hk;omega) (by unfold bJ at hk;omega)
 rw[show((p.1.toNat:Nat):Int)=p.1 from by unfold bJ at hk;omega,show((p.2.toNat:Nat):Int)=p.2 from by unfold bJ at hk;omega] at e1
 have ne:iy (tI [p.1,p.2]) (pw p) s1= .ok (.bl false) s1:=Ga
 refine⟨s1,?_,g1⟩
 unfold cI
 simp[w,pn,e1,ne]
theorem zh{q:Ar}{acc:List Pt}{k:Nat}{o0 o1 o2 o3 o4 o5 o8:Option Wv}{st:Hs}(hq:q.ok)(hk:ak st k=some (acc.map pw))(hl:acc.length<=1000):∃(k':Nat)(st':Hs),cH [o0,o1,o2,o3,o4,o5,some (.ref k),some (pM q),o8] st= .nx [o0,o1,o2,o3,o4,o5,some (.ref k'),some (pM q),o8] st'/\ak st' k'=some ((acc++q.pl).map pw)/\Gr st st':=by
 obtain⟨more,e⟩:=lP (st:=st) hq
 have g:Gr st (st++ .lst (q.pl.map pw)::more):=Gr.app
 have l1:ak (st++ .lst (q.pl.map pw)::more) st.length=some (q.pl.map pw):=mx
 have e':bB [pM q] st= .ok (.ref st.length) (st++ .lst (q.pl.map pw)::more):=e
 generalize st++ .lst (q.pl.map pw)::more=s1 at e' g l1
 have fw:q.pl.length<=300:=(xM hq).2
 have ad:=add_l (g.lst hk) l1 (by unfold lim;rw[bV,bV];omega)
 rw[<-nu] at ad
 refine⟨s1.length,s1++[.lst ((acc++q.pl).map pw)],?_,bK,g.trans Gr.push⟩
 unfold cH
 simp[-nu,e',ad]
theorem whole{a b c d:Int}{l:Nat}{n:Int}{st:Hs}(h:bR a b c d)(hl:st[l]? =some (.lst [.int n])):∃st',fX [tI [a,b,c,d],.ref l] st= .ok (.bl true) st'/\cQ l st st':=by
 have j:∀{s:Hs},aG (tI [a,b,c,d]) (.int 0) s= .ok (.int a) s/\aG (tI [a,b,c,d]) (.int 1) s= .ok (.int b) s/\aG (tI [a,b,c,d]) (.int 2) s= .ok (.int c) s/\aG (tI [a,b,c,d]) (.int 3) s= .ok (.int d) s:=⟨rfl,rfl,rfl,rfl⟩
 have ll:=rV hl
 obtain⟨more,e1⟩:=lP (st:=st) h
 have g1:Gr st (st++ .lst ((j8 a b c d).map pw)::more):=Gr.app
 have l1:ak (st++ .lst ((j8 a b c d).map pw)::more) st.length=some ((j8 a b c d).map pw):=mx
 generalize st++ .lst ((j8 a b c d).map pw)::more=s1 at e1 g1 l1
 obtain⟨f1,f3⟩:=xM h
 have e2:=mB (st:=s1) h
 obtain⟨s2,e3,g2⟩:=ze (st:=s1) h
 have m2:=j6 (st:=s2) h
 have n2:iy (tI [a,b,c,d]) (tI [a,b,c,d]) s2= .ok (.bl false) s2:=Ga
 have l2:=g2.lst l1
 have am:=zf (st:=s2) h
 have ln:=xy l2
 rw[bV] at ln
 have st2:=JU l2 f1 f3 sA (sC h)
 have sr:=C0 l2 (sC h)
 rw[show l8 (j8 a b c d)=j8 a b c d from EJ CY] at sr
 obtain⟨s3,FV⟩:∃s3,s2++[Ob.lst ((j8 a b c d).map pw)]=s3:=⟨_,rfl⟩
 rw[FV] at sr
 have g3:Gr s2 s3:=by rw[<-FV];exact Gr.push
 have Tu:ak s3 s2.length=some ((j8 a b c d).map pw):=by rw[<-FV];exact bK
 have n3:=(sD (g3.lst l2) Tu).1
 have l3:=g3.lst l2
 -- each place
 obtain⟨ρ4,s4,e4,⟨o4,rfl,g4⟩,l4⟩:=lJ pw (i:=4) (gb:=cI) (l:=st.length) (all:=(j8 a b c d).map pw) (j8 a b c d)
  (λ_ ρ s=>∃o4:Option Wv,ρ=[some (tI [a,b,c,d]),some (.ref l),some (.ref st.length),some (.str (ie a b c d)),o4,none,none,none,none]/\Gr s3 s)
  (λp pre post ρ s hf hP hl'=>by
   obtain⟨o4,rfl,g⟩:=hP
   obtain⟨s',t1,t2⟩:=Fx (o1:=some (.ref l)) (o2:=some (.ref st.length)) (o3:=some (.str (ie a b c d))) (o5:=none) (o6:=none) (o7:=none) (o8:=none) (st:=s) (p:=p) h (by rw[hf];simp)
   exact⟨_,s',t1,t2.lst hl',some (pw p),rfl,g.trans t2⟩)
  (j8 a b c d) [] [some (tI [a,b,c,d]),some (.ref l),some (.ref st.length),some (.str (ie a b c d)),none,none,none,none,none] s3 rfl ⟨none,rfl,Gr.refl⟩ l3
 have G4:Gr st s4:=g1.trans (g2.trans (g3.trans g4))
 obtain⟨q1,qs,k,s5,e5,h5,UI,k5,⟨n5,Tv⟩,P⟩:=parts h (G4.get hl)
 have l5:ak s5 st.length=some ((j8 a b c d).map pw):=k5.lst l4 (by omega)
 obtain⟨s6,Pq⟩:∃s6,s5++[Ob.lst []]=s6:=⟨_,rfl⟩
 have g6:Gr s5 s6:=by rw[<-Pq];exact Gr.push
 have l6:ak s6 s5.length=some (([]:List Pt).map pw):=by rw[<-Pq];exact bK
 have Rw:=g6.lst (xC h5)
 obtain⟨ρ7,s7,e7,⟨o7,B,rfl,l7,g7⟩,Rx⟩:=lJ pM (i:=7) (gb:=cH) (l:=k) (all:=(q1::qs).map pM) (q1::qs)
  (λpre ρ s=>∃(o7:Option Wv)(B:Nat),ρ=[some (tI [a,b,c,d]),some (.ref l),some (.ref st.length),some (.str (ie a b c d)),o4,some (.ref k),some (.ref B),o7,none]/\ak s B=some ((pre.flatMap Ar.pl).map pw)/\Gr s6 s)
  (λq pre post ρ s hf hP hl'=>by
   obtain⟨o7,B,rfl,lB,g⟩:=hP
   have hm:q∈q1::qs:=by rw[hf];simp
   have hle:(pre.flatMap Ar.pl).length<=1000:=by
    have e:=P.pm.length_eq
    rw[hf,List.flatMap_append,aP] at e
    omega
   obtain⟨k',s',t1,t2,t3⟩:=zh (o0:=some (tI [a,b,c,d])) (o1:=some (.ref l)) (o2:=some (.ref st.length)) (o3:=some (.str (ie a b c d))) (o4:=o4) (o5:=some (.ref k)) (o8:=none) (st:=s) (P.ok q hm) lB hle
   refine⟨_,s',t1,t3.lst hl',some (pM q),k',rfl,?_,g.trans t3⟩
   rw[List.flatMap_append,pd,wd,dE]
   exact t2)
  (q1::qs) [] [some (tI [a,b,c,d]),some (.ref l),some (.ref st.length),some (.str (ie a b c d)),o4,some (.ref k),some (.ref s5.length),none,none] s6 rfl ⟨none,s5.length,rfl,l6,Gr.refl⟩ Rw
 have Tw:ak s7 st.length=some ((j8 a b c d).map pw):=(g6.trans g7).lst l5
 have es:l8 ((q1::qs).flatMap Ar.pl)=j8 a b c d:=oD ((jT _).trans P.pm) (ni _) CY
 have sb:=C0 l7 (λp hp=>sC h p (P.pm.mem_iff.mp hp))
 rw[es] at sb
 obtain⟨s8,Pr⟩:∃s8,s7++[Ob.lst ((j8 a b c d).map pw)]=s8:=⟨_,rfl⟩
 rw[Pr] at sb
 have g8:Gr s7 s8:=by rw[<-Pr];exact Gr.push
 have Tz:ak s8 s7.length=some ((j8 a b c d).map pw):=by rw[<-Pr];exact bK
 have n8:=(sD Tz (g8.lst Tw)).1
 -- the first JY name
 have Ry:q1.ok:=P.ok q1 aX
 have i8:aG (.ref k) (.int 0) s8= .ok (pM q1) s8:=pC (g8.lst Rx) (L2.eT (j:=0) rfl)
 have Rz:ba [pM q1] s8= .ok (.str (ie q1.1 q1.2.1 q1.2.2.1 q1.2.2.2)) s8:=mB Ry
 have ms1:=m_split Ry s8
 rw[P.fst.1,P.fst.2] at ms1 Rz
 obtain⟨s9,Pu⟩:∃s9,s8++[Ob.lst [.str (dC a.toNat b.toNat),.str (dC q1.2.2.1.toNat q1.2.2.2.toNat)]]=s9:=⟨_,rfl⟩
 rw[Pu] at ms1
 have g9:Gr s8 s9:=by rw[<-Pu];exact Gr.push
 have x9:aG (.ref s8.length) (.int 0) s9= .ok (.str (dC a.toNat b.toNat)) s9:=pC (by rw[<-Pu];exact bK) rfl
 have ms2:=m_split h s9
 obtain⟨q9,JZ⟩:∃q9,s9++[Ob.lst [.str (dC a.toNat b.toNat),.str (dC c.toNat d.toNat)]]=q9:=⟨_,rfl⟩
 rw[JZ] at ms2
 have LA:Gr s9 q9:=by rw[<-JZ];exact Gr.push
 have TC:aG (.ref s9.length) (.int 0) q9= .ok (.str (dC a.toNat b.toNat)) q9:=pC (by rw[<-JZ];exact bK) rfl
 have TF:iy (.str (dC a.toNat b.toNat)) (.str (dC a.toNat b.toNat)) q9= .ok (.bl false) q9:=ne_str
 -- the last JY
 obtain⟨z,hz,hz1,hz2⟩:=P.lst
 have RA:z.ok:=P.ok z (List.mem_of_getLast? hz)
 have iz:aG (.ref k) (.int (-1)) q9= .ok (pM z) q9:=by
  refine pC ((g8.trans (g9.trans LA)).lst Rx) ?_
  have:=P.few
  match qs,hz,this with
  | [],hz,_=>
   have e:q1=z:=by simpa using hz
   rw[e]
   rfl
  | [q2],hz,_=>
   have e:q2=z:=by simpa using hz
   rw[e]
   rfl
  | _::_::_,_,this=>simp at this
 have RB:ba [pM z] q9= .ok (.str (ie z.1 z.2.1 z.2.2.1 z.2.2.2)) q9:=mB RA
 have Pw:=m_split RA q9
 rw[hz1,hz2] at Pw RB
 obtain⟨Dd,J0⟩:∃Dd,q9++[Ob.lst [.str (dC z.1.toNat z.2.1.toNat),.str (dC c.toNat d.toNat)]]=Dd:=⟨_,rfl⟩
 rw[J0] at Pw
 have TH:Gr q9 Dd:=by rw[<-J0];exact Gr.push
 have TJ:aG (.ref q9.length) (.int 1) Dd= .ok (.str (dC c.toNat d.toNat)) Dd:=pC (by rw[<-J0];exact bK) rfl
 have RC:=m_split h Dd
 obtain⟨s12,J1⟩:∃s12,Dd++[Ob.lst [.str (dC a.toNat b.toNat),.str (dC c.toNat d.toNat)]]=s12:=⟨_,rfl⟩
 rw[J1] at RC
 have TK:Gr Dd s12:=by rw[<-J1];exact Gr.push
 have TL:aG (.ref Dd.length) (.int 1) s12= .ok (.str (dC c.toNat d.toNat)) s12:=pC (by rw[<-J1];exact bK) rfl
 have TM:iy (.str (dC c.toNat d.toNat)) (.str (dC c.toNat d.toNat)) s12= .ok (.bl false) s12:=ne_str
 -- any place
 have Px:Gr s5 s12:=g6.trans (g7.trans (g8.trans (g9.trans (LA.trans (TH.trans TK)))))
 obtain⟨x,UJ,UK,zq,RD,TN,b0,b1⟩:=gS 99 (Px.get Tv) (by decide) (by decide)
 obtain⟨y,UL,uL,TQ,RE,UM,c0,c1⟩:=gS 26 TN (by decide) (by decide)
 have mp:bx [.int x,.int y] uL= .ok (pw (x,y)) uL:=made_place (a:=x) (b:=y) (by unfold bJ;omega)
 have wi:=within (a:=a) (b:=b) (c:=c) (d:=d) (p:=(x,y)) (st:=uL)
 have TR:ak uL st.length=some ((j8 a b c d).map pw):=(RD.trans RE).lst (Px.lst l5) (by omega)
 have ip:=MF TR (x,y)
 have ed:decide ((a<=x/\x<=c)/\b<=y/\y<=d)=decide ((x,y)∈j8 a b c d):=by
  rw[nC,decide_eq_true_eq,decide_eq_true_eq]
  exact(dc h (p:=(x,y))).symm
 have wi':ff [tI [a,b,c,d],pw (x,y)] uL= .ok (.bl (decide ((x,y)∈j8 a b c d))) uL:=by rw[<-ed];exact wi
 have TU:∀t:Bool,yt sG CC [.bl t,.ty "bool"] uL= .ok (.bl true) uL:=λt=>by cases t<;>rfl
 have TV:∀t:Bool,oEq (.bl t) (.bl t) uL= .ok (.bl true) uL:=λt=>by cases t<;>rfl
 generalize decide ((x,y)∈j8 a b c d)=tb at wi' ip
 have t1:(bU 2 (ay 1 bB (ae (ag 0) aq))) [some (tI [a,b,c,d]),some (.ref l),none,none,none,none,none,none,none] st= .nx [some (tI [a,b,c,d]),some (.ref l),some (.ref st.length),none,none,none,none,none,none] s1:=by simp[e1]
 have t2:(bU 3 (ay 1 ba (ae (ag 0) aq))) [some (tI [a,b,c,d]),some (.ref l),some (.ref st.length),none,none,none,none,none,none] s1= .nx [some (tI [a,b,c,d]),some (.ref l),some (.ref st.length),some (.str (ie a b c d)),none,none,none,none,none] s1:=by simp[e2]
 have t3:(nV (yj (dh (aj iy (ay 1 dM (ae (ag 3) aq)) (ag 0))) (dh (aj iy (ay 4 a_ (ae (aj aG (ag 0) (gC (.int 0))) (ae (aj aG (ag 0) (gC (.int 1))) (ae (aj aG (ag 0) (gC (.int 2))) (ae (aj aG (ag 0) (gC (.int 3))) aq))))) (ag 0)))) (bN (gC (.bl false))) cD) [some (tI [a,b,c,d]),some (.ref l),some (.ref st.length),some (.str (ie a b c d)),none,none,none,none,none] s1= .nx [some (tI [a,b,c,d]),some (.ref l),some (.ref st.length),some (.str (ie a b c d)),none,none,none,none,none] s2:=by simp[e3,n2,j,m2]
 have t4:(nV (yj (dh (aj iy (ay 1 bA (ae (ag 0) aq)) (aV k7 (ae (ag 2) aq)))) (yj (dh (aj iy (aV lG (ae (ag 2) aq)) (aV k7 (ae (ag 2) aq)))) (dh (aj iy (ag 2) (aV mO (ae (ag 2) aq)))))) (bN (gC (.bl false))) cD) [some (tI [a,b,c,d]),some (.ref l),some (.ref st.length),some (.str (ie a b c d)),none,none,none,none,none] s2= .nx [some (tI [a,b,c,d]),some (.ref l),some (.ref st.length),some (.str (ie a b c d)),none,none,none,none,none] s3:=by simp[am,ln,st2,sr,n3]
 have t5:(nY 4 (ag 2) cI) [some (tI [a,b,c,d]),some (.ref l),some (.ref st.length),some (.str (ie a b c d)),none,none,none,none,none] s3= .nx [some (tI [a,b,c,d]),some (.ref l),some (.ref st.length),some (.str (ie a b c d)),o4,none,none,none,none] s4:=by simp[vV l3,e4]
 have t6:(bU 5 (ay 2 eF (ae (ag 0) (ae (ag 1) aq)))) [some (tI [a,b,c,d]),some (.ref l),some (.ref st.length),some (.str (ie a b c d)),o4,none,none,none,none] s4= .nx [some (tI [a,b,c,d]),some (.ref l),some (.ref st.length),some (.str (ie a b c d)),o4,some (.ref k),none,none,none] s5:=by simp[e5]
 have t7:(bU 6 (lT aq)) [some (tI [a,b,c,d]),some (.ref l),some (.ref st.length),some (.str (ie a b c d)),o4,some (.ref k),none,none,none] s5= .nx [some (tI [a,b,c,d]),some (.ref l),some (.ref st.length),some (.str (ie a b c d)),o4,some (.ref k),some (.ref s5.length),none,none] s6:=by simp[Pq]
 have t8:(nY 7 (ag 5) cH) [some (tI [a,b,c,d]),some (.ref l),some (.ref st.length),some (.str (ie a b c d)),o4,some (.ref k),some (.ref s5.length),none,none] s6= .nx [some (tI [a,b,c,d]),some (.ref l),some (.ref st.length),some (.str (ie a b c d)),o4,some (.ref k),some (.ref B),o7,none] s7:=by simp[vV Rw,-aI,e7]
 have t9:(nV (yj (dh (aj iy (aV mO (ae (ag 6) aq)) (ag 2))) (dh (aj iy (aj aG (dJ eL (ay 1 ba (ae (aj aG (ag 5) (gC (.int 0))) aq)) (ae (gC (.str ":")) aq)) (gC (.int 0))) (aj aG (dJ eL (ag 3) (ae (gC (.str ":")) aq)) (gC (.int 0)))))) (bN (gC (.bl false))) cD) [some (tI [a,b,c,d]),some (.ref l),some (.ref st.length),some (.str (ie a b c d)),o4,some (.ref k),some (.ref B),o7,none] s7= .nx [some (tI [a,b,c,d]),some (.ref l),some (.ref st.length),some (.str (ie a b c d)),o4,some (.ref k),some (.ref B),o7,none] q9:=by simp[sb,n8,i8,Rz,ms1,x9,ms2,TC,-Jx,TF]
 have TX:(nV (dh (aj iy (aj aG (dJ eL (ay 1 ba (ae (aj aG (ag 5) (Lb sW (gC (.int 1)))) aq)) (ae (gC (.str ":")) aq)) (gC (.int 1))) (aj aG (dJ eL (ag 3) (ae (gC (.str ":")) aq)) (gC (.int 1))))) (bN (gC (.bl false))) cD) [some (tI [a,b,c,d]),some (.ref l),some (.ref st.length),some (.str (ie a b c d)),o4,some (.ref k),some (.ref B),o7,none] q9= .nx [some (tI [a,b,c,d]),some (.ref l),some (.ref st.length),some (.str (ie a b c d)),o4,some (.ref k),some (.ref B),o7,none] s12:=by simp[iz,RB,Pw,TJ,RC,TL,-Jx,TM]
 have TY:(bU 4 (ay 2 bx (ae (ay 2 aw (ae (ag 1) (ae (gC (.int 99)) aq))) (ae (ay 2 aw (ae (ag 1) (ae (gC (.int 26)) aq))) aq)))) [some (tI [a,b,c,d]),some (.ref l),some (.ref st.length),some (.str (ie a b c d)),o4,some (.ref k),some (.ref B),o7,none] s12= .nx [some (tI [a,b,c,d]),some (.ref l),some (.ref st.length),some (.str (ie a b c d)),some (pw (x,y)),some (.ref k),some (.ref B),o7,none] uL:=by simp[zq,TQ,mp]
 have TZ:(bU 8 (ay 2 ff (ae (ag 0) (ae (ag 4) aq)))) [some (tI [a,b,c,d]),some (.ref l),some (.ref st.length),some (.str (ie a b c d)),some (pw (x,y)),some (.ref k),some (.ref B),o7,none] uL= .nx [some (tI [a,b,c,d]),some (.ref l),some (.ref st.length),some (.str (ie a b c d)),some (pw (x,y)),some (.ref k),some (.ref B),o7,some (.bl tb)] uL:=by simp[wi']
 have tz:(bN (gy (aV (yt sG CC) (ae (ag 8) (ae (gC (.ty "bool")) aq))) (aj oEq (ag 8) (aj (mU false) (ag 4) (ag 2))))) [some (tI [a,b,c,d]),some (.ref l),some (.ref st.length),some (.str (ie a b c d)),some (pw (x,y)),some (.ref k),some (.ref B),o7,some (.bl tb)] uL= .rt (.bl true) uL:=by simp[TU,ip,-O_,TV]
 refine⟨uL,iZ (n:=9) (g:=fW) ?_,(G4.keep.trans k5).trans (Px.keep.trans (RD.trans RE))⟩
 unfold fW
 show bo _ _ [some (tI [a,b,c,d]),some (.ref l),none,none,none,none,none,none,none] st=_
 rw[uK t1,uK t2,uK t3,uK t4,uK t5,uK t6,uK t7,uK t8,uK t9,uK TX,uK TY,uK TZ]
 exact tz
theorem uH{α β:Type}{ck:Hs->Prop}{gt:Wv->Hs->Re Bool}{ge:Wv->Hs->Re Wv}{rr:Nat}(f:α->Wv)(v:β->Wv)(E:β->α->Hs->Prop)(s0:Hs)(hck:∀st,cQ rr s0 st->ck st)(mono:∀b a st st',E b a st->cQ rr st st'->E b a st') :
  ∀(ws:List α),(∀a∈ws,∀st,cQ rr s0 st->rr < st.length->gt (f a) st= .ok true st/\∃b st',ge (f a) st= .ok (v b) st'/\Gr st st'/\E b a st')->∀(acc:List Wv)(st:Hs),cQ rr s0 st->st[rr]? =some (.lst acc)->acc.length+ws.length < lim->
   ∃bs st',jk ck gt ge rr (ws.map f) st=some st'/\st'[rr]? =some (.lst (acc++bs.map v))/\cQ rr st st'/\Paired (λb a=>E b a st') bs ws
 | [],_,acc,st,_,hg,_=>⟨[],st,rfl,by simpa using hg,cQ.refl,.nil⟩
 | a::t,h,acc,st,hk,hg,hl=>by
  have hl':acc.length+(t.length+1) < lim:=hl
  obtain⟨e0,b,s1,e1,g1,x1⟩:=h a aX st hk (rV hg)
  have Kg:=g1.get hg
  have K1:cQ rr st (s1.set rr (.lst (acc++[v b]))):=g1.keep.trans cQ.set
  obtain⟨bs,s2,e2,g2,K2,p2⟩:=uH f v E s0 hck mono t (λa ha=>h a (aN _ ha)) (acc++[v b]) (s1.set rr (.lst (acc++[v b]))) (hk.trans K1) (xB Kg) (by simp;omega)
  refine⟨b::bs,s2,?_,by simpa using g2,K1.trans K2,.cons (mono _ _ _ _ x1 (cQ.set.trans K2)) p2⟩
  rw[aI,jk,e0]
  dsimp only
  rw[e1]
  dsimp only
  rw[xA Kg (by omega)]
  dsimp only
  rw[if_pos (hck _ (hk.trans K1))]
  exact e2
theorem C4:∀{l:List S},l.Nodup->w9 l=l.length
 | [],_=>rfl
 | x::r,h=>by
  rw[xJ] at h
  unfold w9
  rw[if_neg h.1,C4 h.2,cM]
theorem xP:∀l:List S,jx (l.map Wv.str)=some l
 | []=>rfl
 | x::r=>by
  rw[aI]
  unfold jx
  rw[xP r]
theorem Fy{c r r':Nat}(h:r < 99)(h':r' < 99)(e:dC r c=dC r' c):r=r':=by
 unfold dC at e
 rw[sj,sj] at e
 have e2:=congrArg (λz:S=>z.cps.toList) e
 simp only[List.cons.injEq,true_and] at e2
 exact CM h h' (sx e2)
theorem C5{cell:Int}{o2:Option Wv}{st:Hs}:∃(Py:Option Wv)(st':Hs),jI [some (.ref 0),some (.int cell),o2,none,none] st= .nx [some (.ref 0),some (.int cell),Py,none,none] st'/\Gr st st':=by
 obtain⟨s1,hs1⟩:∃s1,st++[Ob.lst [.int cell]]=s1:=⟨_,rfl⟩
 have g1:Gr st s1:=by rw[<-hs1];exact Gr.push
 have h1:s1[st.length]? =some (.lst [.int cell]):=by rw[<-hs1];exact iK
 obtain⟨a,b,c,d,s2,e2,k2,⟨n2,h2⟩,ok⟩:=zg h1
 obtain⟨s3,e3,k3⟩:=whole ok h2
 have Kc:b7 [.ref st.length] s1= .ok (tI [a,b,c,d]) s2:=e2
 refine⟨some (.ref st.length),s3,?_,g1.JG (ai _) (k2.trans k3)⟩
 unfold jI
 simp[hs1,Kc,e3]
theorem law_true(ns:List Int)(hn:ns.length<=63):∃st,F_law [.ref 0] [.ic ns]= .ok (.bl true) st:=by
 obtain⟨l,s1,vs,e1,l1,z1⟩:=cells hn (most:=24)
 obtain⟨ρ2,s2,e2,⟨o1,o2,rfl,g2⟩,_⟩:=lJ Wv.int (i:=1) (gb:=jI) (l:=l) (all:=vs.map Wv.int) vs
  (λ_ ρ s=>∃o1 o2:Option Wv,ρ=[some (.ref 0),o1,o2,none,none]/\Gr s1 s)
  (λcell pre post ρ s hf hP hl=>by
   obtain⟨o1,o2,rfl,g⟩:=hP
   obtain⟨Py,s',t1,t2⟩:=C5 (cell:=cell) (o2:=o2) (st:=s)
   exact⟨_,s',t1,t2.lst hl,some (.int cell),Py,rfl,g.trans t2⟩)
  vs [] [some (.ref 0),none,none,none,none] s1 rfl ⟨none,none,rfl,Gr.refl⟩ l1
 have l0:ak s2 0=some (ns.map Wv.int):=g2.lst (by unfold ak;rw[z1])
 have sm:=Mr l0
 have md:=uk (st:=s2) (i:=ns.sum) (j:=26) (by decide)
 have m0:=v5 ns.sum (b:=26) (by decide)
 have m1:=v7 ns.sum (b:=26) (by decide)
 obtain⟨c,hc⟩:∃c:Nat,ns.sum.fmod 26=(c:Int):=⟨(ns.sum.fmod 26).toNat,by omega⟩
 rw[hc] at md m0 m1
 have T1:c < 26:=by omega
 -- the names of the column
 have C6:bC 0 99=(av 99).map λr:Nat=>Wv.int (r:Nat):=by
  unfold bC
  simp
 have cp:=jW (cs:=[("column",3)]) (gt:=mw) (ge:=j5) (ρ:=[some (.ref 0),o1,o2,some (.int (c:Nat)),none]) (w:=(none,bC 0 99)) (st:=s2) (t:=λ_=>true) (f:=λv=>match v with | .int r=> .str (dC r.toNat c) | v=>v) trivial (λ_ _ _=>rfl)
  (λv hv _ acc=>by
   rw[C6] at hv
   obtain⟨r,hr,rfl⟩:=List.mem_map.mp hv
   have hr:=List.mem_range.mp hr
   have pn:=iX (a:=(r:Int)) (b:=(c:Int)) (st:=s2++[.lst acc]) (by unfold bJ;omega)
   rw[wb,wb] at pn
   have t2:y7 [.int (r:Int),.int (c:Int)] (s2++[.lst acc])= .ok (tI [(r:Int),c]) (s2++[.lst acc]):=Cu
   unfold j5
   simp[i6,-Cu,t2,pn]) (by rw[C6];simp[lim])
 have en:(((none,bC 0 99):Wk).2.filter λ_=>true).map (λv=>match v with | .int r=> .str (dC r.toNat c) | v=>v)=((av 99).map λr=>dC r c).map Wv.str:=by
  rw[show((none,bC 0 99):Wk).2=bC 0 99 from rfl,C6,List.filter_eq_self.mpr (λ_ _=>rfl),cz,cz]
  rfl
 rw[en] at cp
 obtain⟨s3,FV⟩:∃s3,s2++[Ob.lst (((av 99).map λr=>dC r c).map Wv.str)]=s3:=⟨_,rfl⟩
 rw[FV] at cp
 have l3:ak s3 s2.length=some (((av 99).map λr=>dC r c).map Wv.str):=by rw[<-FV];exact bK
 have T2:((av 99).map λr=>dC r c).Nodup:=by
  refine List.pairwise_map.mpr (BL (λ{r r'} h1 h2 ne e=>ne (Fy (List.mem_range.mp h1) (List.mem_range.mp h2) e)) List.nodup_range)
 have le:lG [.ref s2.length] s3= .ok (.int 99) s3:=by
  show(match ak s3 s2.length with
   | some ws=>(match jx ws with
    | some zs=>if zs.length < 1000 then Re.ok (Wv.int (w9 zs.reverse:Nat)) s3 else .bad
    | none=>(match dR oG ws with | some ks=>if kF ks=true/\ws.length<=300 then Re.ok (Wv.int (ws.length:Nat)) s3 else .bad | none=> .bad))
   | none=> .bad)=_
  rw[l3]
  dsimp only
  rw[xP]
  dsimp only
  rw[if_pos (by simp),C4 (List.pairwise_reverse.mpr (T2.imp λh=>cT h))]
  simp
 -- read back
 obtain⟨bs,s4,e4,h4,k4,p4⟩:=uH (ck:=lh (some s2.length,((av 99).map λr=>dC r c).map Wv.str)) (gt:=λv=>jZ (some v::i6 [] [some (.ref 0),o1,o2,some (.int (c:Nat)),some (.ref s2.length)])) (ge:=λv=>h_ (some v::i6 [] [some (.ref 0),o1,o2,some (.int (c:Nat)),some (.ref s2.length)])) (rr:=s3.length) (λr:Nat=>Wv.str (dC r c)) (λr:Nat=>pw ((r:Int),(c:Int))) (λb a _=>b=a) s3
  (λst k=>by
   show ak st s2.length=_
   have:=oU l3
   exact k.lst l3 (by omega)) (λ_ _ _ _ e _=>e) (av 99)
  (λr hr st k _=>by
   refine⟨rfl,r,?_⟩
   obtain⟨s',e,g⟩:=iY (st:=st) (r:=r) (k:=c) (List.mem_range.mp hr) T1
   refine⟨s',?_,g,rfl⟩
   have e':aS [.str (dC r c)] st= .ok (pw ((r:Int),(c:Int))) s':=e
   unfold h_
   simp[e']) [] (s3++[.lst []]) cQ.push iK (by simp[lim])
 have eb:bs=av 99:=by
  have:∀{xs ys:List Nat},Paired (λb a=>b=a) xs ys->xs=ys:=by
   intro xs ys h
   induction h with
   | nil=>rfl
   | cons h _ ih=>rw[h,ih]
  exact this p4
 subst eb
 have cr:fF [] jZ h_ [some (.ref 0),o1,o2,some (.int (c:Nat)),some (.ref s2.length)] (some s2.length,((av 99).map λr=>dC r c).map Wv.str) s3= .ok (.ref s3.length) s4:=by
  unfold fF
  have e5:(((av 99).map λr=>dC r c).map Wv.str)=(av 99).map λr:Nat=>Wv.str (dC r c):=by rw[cz];rfl
  rw[show((some s2.length,((av 99).map λr=>dC r c).map Wv.str):Wk).2=(av 99).map λr:Nat=>Wv.str (dC r c) from e5,e4]
 have l4:ak s4 s3.length=some (((av 99).map λr:Nat=>(((r:Int),(c:Int)):Pt)).map pw):=by
  have:=xC h4
  rw[ir] at this
  rw[this,cz]
  rfl
 have cq:=jW (cs:=[("column",3)]) (gt:=mv) (ge:=j4) (ρ:=[some (.ref 0),o1,o2,some (.int (c:Nat)),some (.ref s2.length)]) (w:=(none,bC 0 99)) (st:=s4) (t:=λ_=>true) (f:=λv=> .tup [v,.int (c:Int)]) trivial (λ_ _ _=>rfl)
  (λv hv _ acc=>by
   unfold j4
   simp[i6]) (by rw[C6];simp[lim])
 have eq:(((none,bC 0 99):Wk).2.filter λ_=>true).map (λv=>Wv.tup [v,.int (c:Int)])=((av 99).map λr:Nat=>(((r:Int),(c:Int)):Pt)).map pw:=by
  rw[show((none,bC 0 99):Wk).2=bC 0 99 from rfl,C6,List.filter_eq_self.mpr (λ_ _=>rfl),cz,cz]
  rfl
 rw[eq] at cq
 obtain⟨s5,Pz⟩:∃s5,s4++[Ob.lst (((av 99).map λr:Nat=>(((r:Int),(c:Int)):Pt)).map pw)]=s5:=⟨_,rfl⟩
 rw[Pz] at cq
 have g5:Gr s4 s5:=by rw[<-Pz];exact Gr.push
 have l5:ak s5 s4.length=some (((av 99).map λr:Nat=>(((r:Int),(c:Int)):Pt)).map pw):=by rw[<-Pz];exact bK
 have fin:=(sD (g5.lst l4) l5).2
 have r0:qb [.int 99] s2= .ok (none,bC 0 99) s2:=Cz (Ms (by decide) (by decide))
 have T3:cN 99:=Ms (by decide) (by decide)
 have sq:=JC l3
 have r1:qb [.int 99] s4= .ok (none,bC 0 99) s4:=Cz T3
 refine⟨s5,iZ (n:=5) (g:=xE) ?_⟩
 have t1:nY 1 (ay 2 eE (ae (ag 0) (ae (gC (.int 24)) aq))) jI [some (.ref 0),none,none,none,none] [Ob.ic ns]= .nx [some (.ref 0),o1,o2,none,none] s2:=by simp[e1,vV l1,e2]
 have t2:bU 3 (aj oMod (aV yB (ae (ag 0) aq)) (gC (.int 26))) [some (.ref 0),o1,o2,none,none] s2= .nx [some (.ref 0),o1,o2,some (.int (c:Nat)),none] s2:=by simp[sm,md]
 have t3:bU 4 (gz [("column",3)] (vn (ae (gC (.int 99)) aq)) mw j5) [some (.ref 0),o1,o2,some (.int (c:Nat)),none] s2= .nx [some (.ref 0),o1,o2,some (.int (c:Nat)),some (.ref s2.length)] s3:=by simp[r0,cp]
 have t4:nV (dh (aj iy (aV lG (ae (ag 4) aq)) (gC (.int 99)))) (bN (gC (.bl false))) cD [some (.ref 0),o1,o2,some (.int (c:Nat)),some (.ref s2.length)] s3= .nx [some (.ref 0),o1,o2,some (.int (c:Nat)),some (.ref s2.length)] s3:=by simp[le]
 have t5:bN (aj oEq (gz [] (iH (ag 4)) jZ h_) (gz [("column",3)] (vn (ae (gC (.int 99)) aq)) mv j4)) [some (.ref 0),o1,o2,some (.int (c:Nat)),some (.ref s2.length)] s3= .rt (.bl true) s5:=by
  revert sq cr
  generalize ((av 99).map λr=>dC r c).map Wv.str=NL
  intro cr sq
  simp[sq,cr,r1,cq,fin]
 unfold xE
 show bo _ _ [some (.ref 0),none,none,none,none] [Ob.ic ns]=_
 rw[uK t1,uK t2,uK t3,uK t4]
 exact t5
end K07
namespace PySem.W.Fast
def tw2235663623628855791:=()
def tw11804512052005361528:=()
def tw16373740785164437134:=()
def tw5972996855006988503:=()
def tw12204031245303274212:=()
def tw5055960811980863994:=()
def tw9264235734556283148:=()
def tw13219557146210542056:=()
def tw8703371647973392878:=()
def tw764906325325831302:=()
def tw5137299542541385363:=()
def tw4062148511869487231:=()
def tw12718758514159703300:=()
def tw12658750935317804044:=()
def tw2596362496861739068:=()
def tw8019604623919000281:=()
def tw6909509477409223228:=()
def tw269183242977529760:=()
def tw6379762582883748286:=()
def tw9957003224060273711:=()
def tw4745522037219649172:=()
def tw13856466539707883390:=()
def tw3718367227993565440:=()
def tw12078222684283944858:=()
def tw15965339763655753889:=()
def tw2430601483785889315:=()
def tw5155557710980607345:=()
def tw11532472851150538207:=()
def tw17889227460414914226:=()
def tw7116152867480067492:=()
def tw10315081415019409268:=()
def tw14994825010758917713:=()
def tw9287231025811761746:=()
def tw6739628684109857363:=()
def tw10236635568418880570:=()
def tw14912701177937435455:=()
def tw1466148895698307645:=()
def tw5397827804984053399:=()
def tw8097949917408072835:=()
def tw11147478022113237706:=()
def tw8785026675823285608:=()
def tw16144564331638104418:=()
def tw15441434579316897827:=()
def tw9481535665422201034:=()
def tw5691734537739367455:=()
def tw18000044171645007926:=()
def tw1614782815359110871:=()
def tw12199075002266866013:=()
def tw15954425691149677438:=()
def tw4126380528894482042:=()
def tw3204367497529132274:=()
def tw2550468637805556661:=()
def tw3976055212088700870:=()
def tw6314742951673263024:=()
def tw2351450073435953904:=()
def tw5235340587086484357:=()
def tw8506541257201523185:=()
def tw5249813320535699171:=()
def tw14816398684841941345:=()
def tw16187323362167993648:=()
def tw11794259435522498345:=()
def tw5600925501229224478:=()
def tw16653848072677403475:=()
def tw15412989143766245465:=()
def tw3974536894059885390:=()
def tw14702339360655380184:=()
def tw2839002845355916592:=()
def tw10071640925451341321:=()
def tw6699718455097587458:=()
def tw602895161220045535:=()
def tw17432581672679923002:=()
def tw460885038440319649:=()
def tw8463517166557627579:=()
def tw9217021862661703215:=()
def tw16826372779723238065:=()
def tw245809464724142215:=()
def tw2218527860912237180:=()
def tw2388858665524070978:=()
def tw11099792879615484467:=()
def tw4257189935871759941:=()
def tw1355632544927607120:=()
def tw16607276445832346648:=()
def tw7434087107029250613:=()
def tw403496335851367681:=()
def tw12222952559148600112:=()
def tw9784877501385944543:=()
def tw17881916784168662994:=()
def tw4549208210892220984:=()
def tw6733373643438254261:=()
def tw15056860034174381484:=()
def tw13468009044631578562:=()
def tw92591626316980635:=()
def tw6474361657796530859:=()
def tw17873057398478217123:=()
def tw1522231807660909667:=()
def tw340854950456211546:=()
def tw11318688500025523309:=()
def tw12375432075307468986:=()
def tw2563631827947996978:=()
def tw12635758609681200162:=()
def tw5355295270490472797:=()
def tw9478106353626126718:=()
def tw3199514930417311037:=()
def tw1242896256545196677:=()
def tw7138965622586466806:=()
def tw17406234431259902394:=()
def tw1826508830725546228:=()
def tw4109032689680901646:=()
def tw7237604625619254531:=()
def tw5190590155641895087:=()
def tw14017866344348542563:=()
def tw8581983962042314768:=()
def tw1352591999544571631:=()
def tw13064768241909803536:=()
def tw11025753714094077140:=()
def tw7312742585350069936:=()
def tw2042569825716418072:=()
def tw17857712954587309115:=()
def tw7912517981269062918:=()
def tw9316040080829102486:=()
def tw16655961701666216455:=()
def tw4029724812186431748:=()
def tw7905412579542824792:=()
def tw12100955831719169681:=()
def tw11393337209585429044:=()
def tw5131285356593216937:=()
def tw1955246821548833425:=()
def tw5482591013972216741:=()
def tw16205832101337636952:=()
def tw3825186159370906613:=()
def tw10595315269953323222:=()
def tw6046276744994646275:=()
def tw17294765132970036690:=()
def tw13431960412513628713:=()
def tw17161042401527040625:=()
def tw349304517712599427:=()
def tw14922470192083129857:=()
def tw16110098043649388661:=()
def tw2093640247259629019:=()
def tw14426093377661102882:=()
def tw204452446480002562:=()
def tw3796178701424097001:=()
def tw5470327550061455350:=()
def tw3130202405320663637:=()
def tw5520247427883402904:=()
def tw3351869845800188395:=()
def tw14360160805269085642:=()
def tw15514393168379890161:=()
def tw11879451321300116462:=()
def tw785814444539358732:=()
def tw13403449174933230144:=()
def tw1383973118977117803:=()
def tw11779694717470520629:=()
def tw9187241286905108386:=()
def tw2810632659653135236:=()
def tw13235012072297695055:=()
def tw10888800439551120997:=()
def tw2609499781519199025:=()
def tw8463704465064400922:=()
def tw10311948332681775643:=()
def tw9862739052240860917:=()
end PySem.W.Fast
namespace K07
open PySem PySem.W PyProof.Rows
set_option maxHeartbeats 0 in
open_top head for PySem.Challenge.rw_onelook_k07_whole_areas_by_names
open PySem J
open PySem.W (nsIn kitOne findIn excIn mg_of mg_none_of)
open L2 (defScope defBody defArgs FnScope CX0 FnOk XK Hp)
set_option autoImplicit true in
theorem all_mk {l:PySem.W.OpenLaw} {w:World} {K:PySem.W.Frag} {h:Heap} {mg:Str → Option Value} {fa:Addr} (X:K.In h) (G:h.Ns mainGlobals mg) (hfa:mg "law" = some (.ref fa))
        {tk0 T4 QR T5 T6:Tok} {X0 X1 X2:UN}
    (d1:J.cb K "_law_turn" gE)
    (d2:J.cb K "_law_cells" fO)
    (d3:J.cb K "is_place" iM)
    (d4:J.cb K "made_place" fQ)
    (d5:J.cb K "place_name" fR)
    (d6:J.cb K "places_between" cX)
    (d7:J.cb K "has_corners" eX)
    (d8:J.cb K "area_many" gF)
    (d9:J.cb K "is_area" jX)
    (PB:J.cb K "made_area" gH)
    (PC:J.cb K "area_places" eY)
    (PD:J.cb K "area_name" gI)
    (PF:J.cb K "_law_digit" fS)
    (PH:J.cb K "_law_parts" fT)
    (PJ:J.cb K "within" lL)
    (PK:J.cb K "joined_corners" c9)
    (PL:J.cb K "is_row_number" dB)
    (PM:J.cb K "is_name" jY)
    (PN:J.cb K "read_place" fU)
    (PQ:J.cb K "read_area" gJ)
    (PR:J.cb K "_law_whole" fV)
    (PU:J.cb K "_law_good_area" c_)
    (PV:J.cb K "law" xD)
    (z0:nsIn K U4 "range"=some none)
    (z1:nsIn K U4 "len"=some none)
    (z2:nsIn K U4 "str"=some none)
    (z3:nsIn K U4 "all"=some none)
    (z4:nsIn K U4 "int"=some none)
    (z5:nsIn K U4 "isinstance"=some none)
    (z6:nsIn K U4 "bool"=some none)
    (z7:nsIn K U4 "sorted"=some none)
    (z8:nsIn K U4 "set"=some none)
    (z9:nsIn K U4 "min"=some none)
    (A8:nsIn K U4 "sum"=some none)
    (v0:nsIn K U4 "ROWS"=some (some (.int 99 tk0)))
    (v1:nsIn K U4 "COLUMNS"=some (some (.int 26 T4)))
    (v2:nsIn K U4 "LETTERS"=some (some (.str "abcdefghijklmnopqrstuvwxyz" QR)))
    (v3:nsIn K U4 "MOST_PLACES"=some (some (.int 300 T5)))
    (v4:nsIn K U4 "FIGURES"=some (some (.str "0123456789" T6)))
    (C7:nsIn K U4 "BadPlace"=some (some (.ref X0))) (Nt:excIn K X0 zr zt=true) (PX:findIn K (.ref X0) "__getattribute__"=some (some (.builtin "BaseException.__getattribute__"))) (PY:findIn K (.ref X0) "__getattr__"=some none) (PZ:findIn K (.ref X0) "__class__"=some (some (.builtin "object.__class__")))
    (C8:nsIn K U4 "BadArea"=some (some (.ref X1))) (Nu:excIn K X1 zr zt=true) (P0:findIn K (.ref X1) "__getattribute__"=some (some (.builtin "BaseException.__getattribute__"))) (P1:findIn K (.ref X1) "__getattr__"=some none) (P2:findIn K (.ref X1) "__class__"=some (some (.builtin "object.__class__")))
    (we:nsIn K U4 "BadText"=some (some (.ref X2))) (Kj:excIn K X2 zr zt=true) (P4:findIn K (.ref X2) "__getattribute__"=some (some (.builtin "BaseException.__getattribute__"))) (P5:findIn K (.ref X2) "__getattr__"=some none) (P6:findIn K (.ref X2) "__class__"=some (some (.builtin "object.__class__")))
    (P7:kitOne K (.ref X0) (.ref X0)=some true)
    (P8:kitOne K (.ref X0) (.ref X1)=some false)
    (P9:kitOne K (.ref X0) (.ref X2)=some false)
    (P_:kitOne K (.ref X1) (.ref X0)=some false)
    (Qa:kitOne K (.ref X1) (.ref X1)=some true)
    (Qb:kitOne K (.ref X1) (.ref X2)=some false)
    (Qc:kitOne K (.ref X2) (.ref X0)=some false)
    (Qd:kitOne K (.ref X2) (.ref X1)=some false)
    (Qe:kitOne K (.ref X2) (.ref X2)=some true)
    (Qf:kitOne K (.ref X0) (.type "ValueError")=some true)
    (Qg:kitOne K (.ref X1) (.type "ValueError")=some true)
    (Qh:kitOne K (.ref X2) (.type "ValueError")=some true)
     :
    ∃fd:UP,(∀(s:US)(u:UT),BindsTo s fd ⟨[u],[]⟩ [("script",u)])/\∀base:Heap,K.In base->base.Ns U4 mg->FnOk l.prog w K mg base (CXJ l.prog w) 7 fa fd ["script"] (spW K 1 F_law):=by
  refine J.Fh X G hfa PV (λ_ _ _ _ _ _ s u=> .of_eq rfl) (λf fd Fu base kb nb=>?_)
  have Z0:=mg_none_of kb nb z0
  have Z1:=mg_none_of kb nb z1
  have Z2:=mg_none_of kb nb z2
  have Z3:=mg_none_of kb nb z3
  have Z4:=mg_none_of kb nb z4
  have Z5:=mg_none_of kb nb z5
  have Z6:=mg_none_of kb nb z6
  have Z7:=mg_none_of kb nb z7
  have Z8:=mg_none_of kb nb z8
  have Z9:=mg_none_of kb nb z9
  have T7:=mg_none_of kb nb A8
  have V0:=mg_of kb nb v0
  have V1:=mg_of kb nb v1
  have V2:=mg_of kb nb v2
  have V3:=mg_of kb nb v3
  have V4:=mg_of kb nb v4
  have E0:J.kf K X0:=⟨Nt,PX,PY,PZ⟩
  have E1:J.kf K X1:=⟨Nu,P0,P1,P2⟩
  have E2:J.kf K X2:=⟨Kj,P4,P5,P6⟩
  have TB:TabOk K sG CC Mu:=J.Jt ⟨⟨X0,X0,C7,C7,E0,P7⟩,⟨X0,X1,C7,C8,E0,P8⟩,⟨X0,X2,C7,we,E0,P9⟩,⟨X1,X0,C8,C7,E1,P_⟩,⟨X1,X1,C8,C8,E1,Qa⟩,⟨X1,X2,C8,we,E1,Qb⟩,⟨X2,X0,we,C7,E2,Qc⟩,⟨X2,X1,we,C8,E2,Qd⟩,⟨X2,X2,we,we,E2,Qe⟩,trivial⟩ ⟨⟨X0,C7,E0,Qf⟩,⟨X1,C8,E1,Qg⟩,⟨X2,we,E2,Qh⟩,trivial⟩ trivial
  have H1:J.jR l.prog w K mg base 1 "_law_turn" 2 fe:=J.bh (ps:=["cell","k"]) kb nb d1 (J.aK (c:=jA) (k:=0) trivial trivial trivial TB trivial trivial trivial) rW rfl ur (λ_ _ _ _ _ _ us hl=>J.ln2 us hl λ_ _=>rfl)
  have H2:J.jR l.prog w K mg base 2 "_law_cells" 2 eE:=J.bh (ps:=["script","most"]) kb nb d2 (J.aK (c:=iL) (k:=1) trivial ⟨Z0,Z1,trivial⟩ ⟨H1.mono (by decide),trivial⟩ TB trivial trivial trivial) pD rfl rX (λ_ _ _ _ _ _ us hl=>J.ln2 us hl λ_ _=>rfl)
  have H3:J.jR l.prog w K mg base 1 "is_place" 1 cR:=J.bh (ps:=["place"]) kb nb d3 (J.aK (c:=kL) (k:=0) ⟨⟨_,V0⟩,⟨_,V1⟩,trivial⟩ trivial trivial TB trivial trivial trivial) uu rfl vX (λ_ _ _ _ _ _ us hl=>J.uJ us hl λ_=>rfl)
  have H4:J.jR l.prog w K mg base 2 "made_place" 2 bx:=J.bh (ps:=["row","column"]) kb nb d4 (J.aK (c:=iO) (k:=1) trivial trivial ⟨H3.mono (by decide),trivial⟩ TB ⟨⟨X0,mg_of kb nb C7,⟨C7,Nt⟩⟩,trivial⟩ trivial trivial) pE rfl rY (λ_ _ _ _ _ _ us hl=>J.ln2 us hl λ_ _=>rfl)
  have H5:J.jR l.prog w K mg base 3 "place_name" 1 a9:=J.bh (ps:=["place"]) kb nb d5 (J.aK (c:=iQ) (k:=2) ⟨⟨⟨_,V2⟩,by decide+kernel⟩,trivial⟩ ⟨Z2,trivial⟩ ⟨H4.mono (by decide),trivial⟩ TB trivial trivial trivial) pF rfl rZ (λ_ _ _ _ _ _ us hl=>J.uJ us hl λ_=>rfl)
  have H6:J.jR l.prog w K mg base 1 "places_between" 1 cZ:=J.bh (ps:=["area"]) kb nb d6 (J.aK (c:=eN) (k:=0) trivial ⟨Z0,trivial⟩ trivial TB trivial trivial trivial) lK rfl ma (λ_ _ _ _ _ _ us hl=>J.uJ us hl λ_=>rfl)
  have H7:J.jR l.prog w K mg base 2 "has_corners" 1 bz:=J.bh (ps:=["area"]) kb nb d7 (J.aK (c:=gQ) (k:=1) trivial trivial ⟨H3.mono (by decide),trivial⟩ TB trivial trivial trivial) oW rfl pG (λ_ _ _ _ _ _ us hl=>J.uJ us hl λ_=>rfl)
  have H8:J.jR l.prog w K mg base 1 "area_many" 1 bA:=J.bh (ps:=["area"]) kb nb d8 (J.aK (c:=jB) (k:=0) trivial trivial trivial TB trivial trivial trivial) r6 rfl uv (λ_ _ _ _ _ _ us hl=>J.uJ us hl λ_=>rfl)
  have H9:J.jR l.prog w K mg base 3 "is_area" 1 hZ:=J.bh (ps:=["area"]) kb nb d9 (J.aK (c:=mf) (k:=2) ⟨⟨_,V3⟩,trivial⟩ trivial ⟨H7.mono (by decide),H8.mono (by decide),trivial⟩ TB trivial trivial trivial) vY rfl y9 (λ_ _ _ _ _ _ us hl=>J.uJ us hl λ_=>rfl)
  have Er:J.jR l.prog w K mg base 4 "made_area" 4 a_:=J.bh (ps:=["top","left","bottom","right"]) kb nb PB (J.aK (c:=jD) (k:=3) trivial trivial ⟨H9.mono (by decide),trivial⟩ TB ⟨⟨X1,mg_of kb nb C8,⟨C8,Nu⟩⟩,trivial⟩ trivial trivial) r8 rfl uw (λ_ _ _ _ _ _ us hl=>J.To us hl λ_ _ _ _=>rfl)
  have QH:J.jR l.prog w K mg base 5 "area_places" 1 bB:=J.bh (ps:=["area"]) kb nb PC (J.aK (c:=gR) (k:=4) trivial trivial ⟨H6.mono (by decide),Er.mono (by decide),trivial⟩ TB trivial trivial trivial) oX rfl pH (λ_ _ _ _ _ _ us hl=>J.uJ us hl λ_=>rfl)
  have T8:J.jR l.prog w K mg base 5 "area_name" 1 ba:=J.bh (ps:=["area"]) kb nb PD (J.aK (c:=jF) (k:=4) trivial trivial ⟨Er.mono (by decide),H5.mono (by decide),trivial⟩ TB trivial trivial trivial) r9 rfl ux (λ_ _ _ _ _ _ us hl=>J.uJ us hl λ_=>rfl)
  have Qi:J.jR l.prog w K mg base 1 "_law_digit" 2 aw:=J.bh (ps:=["left","many"]) kb nb PF (J.aK (c:=iS) (k:=0) trivial trivial trivial TB trivial trivial trivial) pI rfl r_ (λ_ _ _ _ _ _ us hl=>J.ln2 us hl λ_ _=>rfl)
  have T9:J.jR l.prog w K mg base 2 "_law_parts" 2 eF:=J.bh (ps:=["area","left"]) kb nb PH (J.aK (c:=iT) (k:=1) trivial trivial ⟨Qi.mono (by decide),trivial⟩ TB trivial trivial trivial) pJ rfl sf (λ_ _ _ _ _ _ us hl=>J.ln2 us hl λ_ _=>rfl)
  have T_:J.jR l.prog w K mg base 1 "within" 2 ff:=J.bh (ps:=["area","place"]) kb nb PJ (J.aK (c:=oZ) (k:=0) trivial trivial trivial TB trivial trivial trivial) y_ rfl CD (λ_ _ _ _ _ _ us hl=>J.ln2 us hl λ_ _=>rfl)
  have T':J.jR l.prog w K mg base 3 "joined_corners" 2 b6:=J.bh (ps:=["first","last"]) kb nb PK (J.aK (c:=eQ) (k:=2) trivial trivial ⟨H7.mono (by decide),trivial⟩ TB ⟨⟨X2,mg_of kb nb we,⟨we,Kj⟩⟩,trivial⟩ trivial trivial) lM rfl mh (λ_ _ _ _ _ _ us hl=>J.ln2 us hl λ_ _=>rfl)
  have Ua:J.jR l.prog w K mg base 1 "is_row_number" 1 cG:=J.bh (ps:=["figures"]) kb nb PL (J.aK (c:=fo) (k:=0) ⟨⟨⟨_,V4⟩,by decide+kernel⟩,trivial⟩ ⟨Z3,trivial⟩ trivial TB trivial trivial trivial) mi rfl mV (λ_ _ _ _ _ _ us hl=>J.uJ us hl λ_=>rfl)
  have Ub:J.jR l.prog w K mg base 2 "is_name" 1 h8:=J.bh (ps:=["text"]) kb nb PM (J.aK (c:=ml) (k:=1) ⟨⟨⟨_,V2⟩,by decide+kernel⟩,trivial⟩ ⟨Z1,trivial⟩ ⟨Ua.mono (by decide),trivial⟩ TB trivial trivial trivial) vZ rfl za (λ_ _ _ _ _ _ us hl=>J.uJ us hl λ_=>rfl)
  have Qj:J.jR l.prog w K mg base 3 "read_place" 1 aS:=J.bh (ps:=["text"]) kb nb PN (J.aK (c:=iV) (k:=2) ⟨⟨⟨_,V2⟩,by decide+kernel⟩,trivial⟩ ⟨Z4,trivial⟩ ⟨Ub.mono (by decide),trivial⟩ TB ⟨⟨X2,mg_of kb nb we,⟨we,Kj⟩⟩,trivial⟩ trivial trivial) pK rfl sg (λ_ _ _ _ _ _ us hl=>J.uJ us hl λ_=>rfl)
  have Uc:J.jR l.prog w K mg base 5 "read_area" 1 dM:=J.bh (ps:=["text"]) kb nb PQ (J.aK (c:=jH) (k:=4) trivial ⟨Z1,trivial⟩ ⟨T'.mono (by decide),Er.mono (by decide),Qj.mono (by decide),trivial⟩ TB ⟨⟨X2,mg_of kb nb we,⟨we,Kj⟩⟩,trivial⟩ trivial trivial) sh rfl uy (λ_ _ _ _ _ _ us hl=>J.uJ us hl λ_=>rfl)
  have Ud:J.jR l.prog w K mg base 6 "_law_whole" 2 fX:=J.bh (ps:=["area","left"]) kb nb PR (J.aK (c:=iW) (k:=5) trivial ⟨Z5,Z6,Z1,Z7,Z8,trivial⟩ ⟨QH.mono (by decide),T8.mono (by decide),T9.mono (by decide),H4.mono (by decide),T_.mono (by decide),Qi.mono (by decide),Uc.mono (by decide),Er.mono (by decide),H8.mono (by decide),Qj.mono (by decide),H5.mono (by decide),trivial⟩ TB trivial trivial trivial) pL rfl si (λ_ _ _ _ _ _ us hl=>J.ln2 us hl λ_ _=>rfl)
  have Ue:J.jR l.prog w K mg base 2 "_law_good_area" 1 b7:=J.bh (ps:=["left"]) kb nb PU (J.aK (c:=eR) (k:=1) trivial ⟨Z9,trivial⟩ ⟨Qi.mono (by decide),trivial⟩ TB trivial trivial trivial) lN rfl mr (λ_ _ _ _ _ _ us hl=>J.uJ us hl λ_=>rfl)
  exact J.Js Fu (J.aK (c:=CF) (k:=6) trivial ⟨T7,Z1,Z0,Z8,trivial⟩ ⟨H2.mono (by decide),H5.mono (by decide),Ud.mono (by decide),Qj.mono (by decide),Ue.mono (by decide),trivial⟩ TB trivial trivial trivial) JJ rfl Mv
end K07
open PySem PySem.W PyProof.Rows
set_option maxRecDepth 100000 in
set_option maxHeartbeats 0 in
theorem PySem.Challenge.cw_onelook_k07_whole_areas_by_names_holds : PySem.Challenge.rw_onelook_k07_whole_areas_by_names.Holds := by
  refine K07.head ?_
  k_fill
  refine L2.walk_of (l:=PySem.Challenge.rw_onelook_k07_whole_areas_by_names) (n:=63) (k:=7) (x:="script") (CX:=fun w => J.CXJ PySem.Challenge.rw_onelook_k07_whole_areas_by_names.prog w) (sp:=fun w => J.spW _ 1 K07.F_law) rfl (by decide) rfl ⟨rfl,by decide,by decide⟩ (fun w h Y => PySem.W.kIn_of Y) ?F (fun w H a ns hl hO hS => J.law_sp K07.law_true H a ns hl (J.OnlyT.of hO) hS (J.tb_none ?Ta ?Tb ?Tc ?Td ?Te)) (fun _ _ _ _ _ z => z.elim fun _ y => y.elim fun _ x => x.2)
  case F=>
    intro w mg fa h KX G hmg
    refine' K07.all_mk KX G hmg ?d1 ?d2 ?d3 ?d4 ?d5 ?d6 ?d7 ?d8 ?d9 ?PB ?PC ?PD ?PF ?PH ?PJ ?PK ?PL ?PM ?PN ?PQ ?PR ?PU ?PV ?z0 ?z1 ?z2 ?z3 ?z4 ?z5 ?z6 ?z7 ?z8 ?z9 ?A8 ?v0 ?v1 ?v2 ?v3 ?v4 ?C7 ?Nt ?PX ?PY ?PZ ?C8 ?Nu ?P0 ?P1 ?P2 ?we ?Kj ?P4 ?P5 ?P6 ?P7 ?P8 ?P9 ?P_ ?Qa ?Qb ?Qc ?Qd ?Qe ?Qf ?Qg ?Qh
    case d1 | d2 | d3 | d4 | d5 | d6 | d7 | d8 | d9 | PB | PC | PD | PF | PH | PJ | PK | PL | PM | PN | PQ | PR | PU | PV=>refine' J.HP ?a ?l ?c ?k;(case a=>k_is);(case l=>k_is);(case c=>k_is);(case k=>k_is)
    case z0 | z1 | z2 | z3 | z4 | z5 | z6 | z7 | z8 | z9 | A8 | v0 | v1 | v2 | v3 | v4 | C7=>k_is
    case Nt=>k_exc
    case PX | PY | PZ | C8=>k_is
    case Nu=>k_exc
    case P0 | P1 | P2 | we=>k_is
    case Kj=>k_exc
    case P4 | P5 | P6=>k_is
    case P7 | P8 | P9 | P_ | Qa | Qb | Qc | Qd | Qe | Qf | Qg | Qh=>kit_is
  (case Ta=>k_is)
  (case Tb=>k_is)
  (case Tc=>k_is)
  (case Td=>k_is)
  (case Te=>k_is)
