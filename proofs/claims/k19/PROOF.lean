import PyProof.Rows.All
import Wide.All
import OpenK.AllK
import Wide.FinOn
import Lean
import PyProof.EqAt
import PyProof.EqKinds
import PyProof.TupleCall
import PySem.Challenge.RW_onelook_k19_areas_looked_at
open PySem.Around renaming under→FZ,under_plainId→Gg
open Array renaming all_eq_true_iff_forall_mem→F9,length_toList→zD,toList_extract→MM
open Bool renaming and_eq_true→cw,eq_iff_iff→wB,false_eq_true→lU,false_ne_true→bz,or_eq_false_iff→Gu,or_eq_true→AG
open PySem.Builtin.Dict_items renaming ownsTuple→Jl
open PySem.Builtin.List renaming listTooLong→nC
open PySem.Builtin.Range renaming rangeSize→qm,small→Jr
open PySem.Builtin.Slice renaming sliceAdjust→zW,sliceApplied→HH,slicePlaces→uT
open PySem.Builtin.Str renaming occurrences→Ht
open PySem.Builtin.Tuple renaming tupleExact→nq,tupleHashOf→GN,tupleIsExact→Jh,tupleItemsOf→uC
open PySem.Builtin renaming divisionGoesByPylong→Js
open PySem.Calls renaming Name_function_global→G6,callWith_builtin→uW,evalArgs_plain→uX,spliced_cons→ni,spliced_nil→uQ
open Classical renaming propDecidable→AZ
open PySem.Code renaming isFrame→zS
open PySem.EntryCells renaming newEntry→Ig
open PySem.F renaming slot_int_rmul→uY,typeOf_object_class→A2
open False renaming elim→ae
open ForInStep renaming yield→qe
open PySem.Heap renaming MadeExcOf→Ar,SameBut→kZ,get?_push_of_some→a7,get?_push_size→bM,get?_update_other→nu,get?_update_self→uV,lt_size→aV,size_push→uN
open PySem.Heap.SameBut renaming update→Jm
open Int renaming fmod_lt_of_pos→ij,fmod_nonneg_of_pos→gy
open PyProof.Rows.IsTup renaming new→qw
open List renaming all_cons→cF,any_cons→dz,any_eq_true→CL,append_assoc→Ab,append_nil→gP,contains_cons→A3,drop_eq_getElem_cons→AW,drop_length→AX,drop_of_length_le→Jd,drop_zero→vn,eq_nil_of_length_eq_zero→vc,extract_eq_take_drop→Je,filterMap_cons→qi,filter_cons_of_neg→Ba,filter_cons_of_pos→A_,find?_cons→iD,findIdx?_cons→A9,flatten_append→CH,flatten_cons→nz,foldl→nA,foldl_cons→Ac,getD_eq_getElem?_getD→vp,getElem?_append_left→fq,getElem?_append_right→jJ,getElem?_cons_succ→CG,getElem?_cons_zero→CF,getElem?_eq_getElem→dD,getElem?_map→fu,getElem?_replicate→HE,getElem?_set_ne→dy,getElem?_set_self→m8,length→k9,length_append→iB,length_cons→nh,length_map→bT,length_set→zZ,length_take→nj,lookup→jH,lookup_cons→dZ,map_append→dc,map_congr_left→vY,map_cons→bb,map_map→eR,map_nil→qC,mem_append_left→GX,mem_append_right→gN,mem_cons_of_mem→bN,mem_cons_self→cG,mem_of_getElem?→HF,nil_append→nD,of_mem_zip→zU,range→dJ,range_succ→mX,replicate→aN,replicate_succ→fP,set_cons_succ→xI,set_cons_zero→xH,size_toArray→aT,take_append_drop→EJ
open PySem.NameKind renaming cell→di,free→dh
open Nat renaming le_of_eq→j8,le_of_lt→wC,le_refl→ay,le_succ→mF,le_trans→a5,lt_irrefl→fO,lt_of_lt_of_le→bp,lt_trans→wR,min_le_right→qu,mul_comm→wL,mul_le_mul→xJ,ne_of_gt→mE,ne_of_lt→bx,sub_eq_zero_of_le→EK,sub_self→mJ,succ_le_succ→qf,zero_add→mY,zero_le→bV
open Ne renaming symm→bq
open PySem.Obj renaming data_mapFields→mI,isFreed_of_fields→wU,mapFields→gQ,mapSeq→j_
open Option renaming isSome_some→D8,map_some→mQ
open Or renaming inr→jf
open PySem.PassesOwn renaming leaving→rj
open Prod renaming ext→mG
open PySem.PyData renaming canLayAll0→j3,depthAll→eX,eqv→aI,eqvAll→eB,list→w6,strOk→aM,tuple→ji
open PyProof.Rows renaming callWith_type1→qo,intBits_le→FA,slot_tuple_getitem→qv,Keyed→WG
open PySem.SeqAt.EqAt renaming int_none→Dv,int_str→Du,none_int→Dz,none_str→DA,same→DB,str_int→Dx,str_none→Dy
open PySem.SeqAt renaming readOf→mR
open PySem.Str renaming ofString→jd
open Subtype renaming ext→wA
open True renaming intro→eZ
open PySem.Txt renaming slice→jl
open PySem.Value renaming builtin→mO,int→fN,none→bL,ref→aH,str→jZ,type→mD
open PySem renaming Addr→V_,Around→V',FuncData→Wa,NameKind→Wb,Program→Wc,Shared→Wd,Value→We,World→Wf,behindInMarks→Wg,binaryOp→Wh,bootBuiltins→Wi,codeAny→Wj,compPost→Wl,compareOp→Wm,foldedSetIterable→Wn,isSubtype_type→Wq,mainGlobals→Wt,sizeLine→Wu,starEach→Ww,wpAny→Wx,wpAny_bind→Wy,wpAny_dictEntries→Wz,wpAny_holding→WA,wpAny_mono→WB,wpAny_newObj_type→WC,wpAny_pure→WD,wpAny_truthy_bool→WE
noncomputable section
set_option Elab.async false
set_option linter.all false
set_option maxRecDepth 100000
namespace L2
open PySem PySem.Spec PyProof.Rows
inductive Key where
 | inl (i:Int) | inr (x:Str) | non
 deriving DecidableEq
def mZ:Key->We->Bool
 | .inl k,v=>Value.isInt k v
 | .inr x,v=>Value.isStrOf x v
 | .non,v=>(match v with | .none=>true | _=>false)
def Dt(w:Wf):Key->Int
 | .inl k=>hashInt k
 | .inr x=>hashStr w x
 | .non=>reduceHash 4238894112
theorem cE:∀{k:Key}{v:We},mZ k v=true->(∃i t,k=Key.inl i/\v=fN i t)\/(∃x t,k=Key.inr x/\v=jZ x t)\/(k=Key.non/\v=bL)
 | .inl i,v,h=>by
  obtain⟨t,e⟩:=Value.isInt_shape (k:=i) (v:=v) h
  exact .inl ⟨i,t,rfl,e⟩
 | .inr x,v,h=>by
  obtain⟨t,e⟩:=Value.isStrOf_shape (x:=x) (v:=v) h
  exact .inr (.inl ⟨x,t,rfl,e⟩)
 | .non,v,h=>by
  cases v<;>first | exact .inr (.inr ⟨rfl,rfl⟩) | (unfold mZ at h;cases h)
theorem xX(i:Int)(t:Tok):mZ (.inl i) (.int i t)=true:=by simp[mZ,Value.isInt]
theorem xY(x:Str)(t:Tok):mZ (.inr x) (.str x t)=true:=by simp[mZ,Value.isStrOf]
theorem GK(a b:Int):decide ((Key.inl a:Key)=Key.inl b)=(a == b):=by
 by_cases e:a=b
 ·subst e;simp
 ·have h:¬(Key.inl a:Key)=Key.inl b:=λq=>e (Key.inl.inj q)
  rw[decide_eq_false h]
  exact(beq_eq_false_iff_ne.mpr e).symm
theorem GL(a b:Str):decide ((Key.inr a:Key)=Key.inr b)=decide (a=b):=by
 by_cases e:a=b
 ·subst e;simp
 ·have h:¬(Key.inr a:Key)=Key.inr b:=λq=>e (Key.inr.inj q)
  rw[decide_eq_false h,decide_eq_false e]
theorem m6{prog:Wc}{w:Wf}{A:V'}{E:We->Wd->Prop}{s:Wd}{Q:Int->Wd->Prop}(h:Q (reduceHash 4238894112) { s with toks:=s.toks+1 }):Wx (model prog w) A (PySem.pyHash .none) Q E s :=
 PySem.W.pyHash_slot (T:="NoneType") rfl F.slot_NoneType_hash F.entry_NoneType_hash (F.args_NoneType_hash_1 _) (beq_builtin_none _) (.inl rfl) (Wy (WD (Wy (wpAny_mkInt (WD ⟨_,_,rfl,h⟩)))))
def bE(prog:Wc)(w:Wf):PySem.KeyKind prog w Key where
 is:=mZ
 hash:=Dt w
 inj:=λv a b ha hb=>by
  rcases cE ha with ⟨i,t,rfl,rfl⟩ | ⟨x,t,rfl,rfl⟩ | ⟨rfl,rfl⟩<;>rcases cE hb with ⟨j,u,rfl,e⟩ | ⟨y,u,rfl,e⟩ | ⟨rfl,e⟩<;>cases e<;>rfl
 byValue:=λk v h=>by
  rcases cE h with ⟨i,t,rfl,rfl⟩ | ⟨x,t,rfl,rfl⟩ | ⟨rfl,rfl⟩<;>rfl
 pyHash:=λhv h=>by
  rcases cE hv with ⟨i,t,rfl,rfl⟩ | ⟨x,t,rfl,rfl⟩ | ⟨rfl,rfl⟩
  ·exact wpAny_pyHash_int h
  ·exact wpAny_pyHash_str h
  ·exact m6 h
 eqBool:=λ{A E s a b u v Q} hu hv h=>by
  have no:a≠b->Q false s:=λn=>by rw[decide_eq_false n] at h;exact h
  rcases cE hu with ⟨i,t,rfl,rfl⟩ | ⟨x,t,rfl,rfl⟩ | ⟨rfl,rfl⟩<;>rcases cE hv with ⟨j,u,rfl,rfl⟩ | ⟨y,u,rfl,rfl⟩ | ⟨rfl,rfl⟩
  ·rw[GK] at h;exact wpAny_eqBool_int h
  ·exact Du i t y u _ _ _ _ (no nofun)
  ·exact Dv i t _ _ _ _ (no nofun)
  ·exact Dx x t j u _ _ _ _ (no nofun)
  ·rw[GL] at h;exact wpAny_eqBool_str h
  ·exact Dy x t _ _ _ _ (no nofun)
  ·exact Dz j u _ _ _ _ (no nofun)
  ·exact DA y u _ _ _ _ (no nofun)
  ·exact DB .none _ _ _ _ (by simpa using h)
 «strs»:=λk x t v h=>by
  rcases cE h with ⟨i,u,rfl,e⟩ | ⟨y,u,rfl,e⟩ | ⟨rfl,e⟩<;>cases e
  cases v<;>rfl
theorem sh(prog:Wc)(w:Wf)(i:Int)(t:Tok):(bE prog w).is (.inl i) (.int i t)=true:=xX i t
theorem si(prog:Wc)(w:Wf)(x:Str)(t:Tok):(bE prog w).is (.inr x) (.str x t)=true:=xY x t
end L2
namespace NK
open PySem L2
def kd:Nat->PyData->Bool
 | _,.none=>true
 | _,.int _=>true
 | _,.str x=>aM x
 | n+1,.tuple xs=>xs.all (kd n)
 | _,_=>false
def kh(w:Wf):Nat->PyData->Int
 | _,.none=>Dt w .non
 | _,.int i=>Dt w (.inl i)
 | _,.str x=>Dt w (.inr x)
 | n+1,.tuple xs=>reduceHash (GN (xs.map (kh w n)))
 | _,_=>0
def Lp:Nat->PyData->Nat
 | n+1,.tuple xs=>(xs.map (Lp n)).sum+1
 | _,_=>1
def Rd(h:Heap)(v:We)(d:PyData):Prop:=∃as,Reads h v d as
inductive wy(h:Heap):List We->List PyData->Prop
 | nil:wy h [] []
 | cons {v:We} {d:PyData} {vs:List We} {ds:List PyData}:Rd h v d->wy h vs ds->wy h (v::vs) (d::ds)
theorem wy.of{h:Heap}:∀{vs:List We}{ds:List PyData}{as:List V_},ReadsAll h vs ds as->wy h vs ds
 | _,_,_,.nil=> .nil
 | _,_,_,.cons r rs=> .cons ⟨_,r⟩ (wy.of rs)
theorem wy.all{h:Heap}{vs:List We}{ds:List PyData}(r:wy h vs ds):∃as,ReadsAll h vs ds as:=by
 induction r with
 | nil=>exact⟨_,.nil⟩
 | cons a _ ih=>
  obtain⟨as,ra⟩:=a
  obtain⟨bs,rb⟩:=ih
  exact⟨_,.cons ra rb⟩
theorem Rd.tup{h:Heap}{v:We}{xs:List PyData}(r:Rd h v (.tuple xs)):∃a o vs n,v= .ref a/\h.get? a=some o/\o.cls= .type "tuple"/\o.data= .seq vs n/\wy h vs.toList xs:=by
 obtain⟨as,r⟩:=r
 cases r with
 | tuple h1 h2 h3 h4=>exact⟨_,_,_,_,rfl,h1,h2,h3,.of h4⟩
section
variable {prog:Wc} {w:Wf} {E:We->Wd->Prop}
theorem pk{n:Nat}(ih:∀(d:PyData)(v:We)(A:V')(s:Wd)(Q:Int->Wd->Prop),kd n d=true->Rd s.heap v d->A.units+n < cLine->Q (kh w n d) { s with toks:=s.toks+Lp n d }->Wx (model prog w) A (pyHash v) Q E s) :
  ∀(xs:List PyData)(vs:List We)(A:V')(s:Wd)(b:Array Int)(Q:Array Int->Wd->Prop),xs.all (kd n)=true->wy s.heap vs xs->A.units+n < cLine->
  (∀b':Array Int,b'.toList=b.toList++xs.map (kh w n)->Q b' { s with toks:=s.toks+(xs.map (Lp n)).sum })->
  Wx (model prog w) A (forIn vs b λx r=>do let h <-pyHash x;pure PUnit.unit;pure (qe (r.push h))) Q E s
 | [],_,A,s,b,Q,_,x,_,h=>by cases x;exact WD (h b (by simp))
 | k::xs,_,A,s,b,Q,hk,x,hu,h=>by
  cases x with
  | cons x1 x2=>
   rw[cF,cw] at hk
   rw[List.forIn_cons]
   refine Wy (Wy (ih k _ A s _ hk.1 x1 hu ?_))
   refine Wy (WD (WD ?_))
   exact pk ih xs _ A _ _ Q hk.2 x2 hu λb' hb=>by
    have:=h b' (by rw[hb];simp)
    rw[bb,List.sum_cons,<-Nat.add_assoc] at this
    exact this
theorem GP:∀(n:Nat)(d:PyData)(v:We)(A:V')(s:Wd)(Q:Int->Wd->Prop),kd n d=true->Rd s.heap v d->A.units+n < cLine->Q (kh w n d) { s with toks:=s.toks+Lp n d }->Wx (model prog w) A (pyHash v) Q E s:=by
 intro n
 induction n with
 | zero=>
  intro d v A s Q hk r hu h
  obtain⟨as,r⟩:=r
  cases r with
  | none=>exact m6 h
  | int i t=>exact wpAny_pyHash_int h
  | str x t=>exact wpAny_pyHash_str h
  | _=>simp[kd] at hk
 | succ n ih=>
  intro d v A s Q hk r hu h
  cases d with
  | tuple xs=>
   obtain⟨a,o,vs,m,rfl,h1,h2,h3,h4⟩:=r.tup
   refine PySem.W.pyHash_slot (T:="tuple") ⟨o,h1,h2⟩ F.slot_tuple_hash F.entry_tuple_hash (F.args_tuple_hash_1 _) (beq_builtin_none _) (.inr (by omega)) ?_
   show Wx _ _ (uC (.ref a) >>= _) _ _ s
   refine Wy (wpAny_tupleItemsOf h1 h3 ?_)
   refine Wy ?_
   rw[<-Array.forIn_toList]
   refine pk ih xs vs.toList A.in1 s #[] _ hk h4 (by simp only[Around.in1_units];omega) λb hb=>?_
   show Wx _ _ (retInt (GN b.toList)) _ _ _
   rw[hb]
   exact Wy (wpAny_mkInt (WD ⟨_,_,rfl,h⟩))
  | none=>obtain⟨as,r⟩:=r;cases r;exact m6 h
  | int i=>obtain⟨as,r⟩:=r;cases r;exact wpAny_pyHash_int h
  | str x=>obtain⟨as,r⟩:=r;cases r;exact wpAny_pyHash_str h
  | _=>simp[kd] at hk
end
theorem uD:∀(n:Nat)(d:PyData),kd n d=true->d.canLay0=true/\d.depth<=n:=by
 intro n
 induction n with
 | zero=>
  intro d h
  cases d with
  | none=>exact⟨rfl,ay _⟩
  | int i=>exact⟨rfl,ay _⟩
  | str x=>exact⟨h,ay _⟩
  | _=>simp[kd] at h
 | succ n ih=>
  intro d h
  cases d with
  | none=>exact⟨rfl,bV _⟩
  | int i=>exact⟨rfl,bV _⟩
  | str x=>exact⟨h,bV _⟩
  | tuple xs=>
   have hx:xs.all (kd n)=true:=h
   have key:∀xs:List PyData,xs.all (kd n)=true->j3 xs=true/\eX xs<=n:=by
    intro xs
    induction xs with
    | nil=>intro _;exact⟨rfl,bV _⟩
    | cons x r ihr=>
     intro h
     rw[cF,cw] at h
     obtain⟨a,b⟩:=ih x h.1
     obtain⟨c,e⟩:=ihr h.2
     refine⟨?_,?_⟩
     ·show(PyData.canLay0 x&&j3 r)=true
      rw[a,c];rfl
     ·show max x.depth (eX r)<=n
      omega
   obtain⟨a,b⟩:=key xs hx
   exact⟨a,qf b⟩
  | _=>simp[kd] at h
theorem wz:∀(n:Nat)(d e:PyData),kd n d=true->kd n e=true->(aI d e=true↔d=e):=by
 intro n
 induction n with
 | zero=>
  intro d e h k
  cases d<;>cases e<;>first | (simp[kd] at h;done) | (simp[kd] at k;done) | simp[aI]
 | succ n ih=>
  intro d e h k
  cases d with
  | tuple xs=>
   cases e with
   | tuple ys=>
    have key:∀xs ys:List PyData,xs.all (kd n)=true->ys.all (kd n)=true->(eB xs ys=true↔xs=ys):=by
     intro xs
     induction xs with
     | nil=>intro ys _ _;cases ys<;>simp[eB]
     | cons x r ihr=>
      intro ys h k
      cases ys with
      | nil=>simp[eB]
      | cons y t=>
       rw[cF,cw] at h k
       show(aI x y&&eB r t)=true↔_
       rw[cw,ih x y h.1 k.1,ihr t h.2 k.2,List.cons.injEq]
    show eB xs ys=true↔_
    rw[key xs ys h k,PyData.tuple.injEq]
   | _=>first | (simp[kd] at k;done) | simp[aI]
  | _=>cases e<;>first | (simp[kd] at h;done) | (simp[kd] at k;done) | simp[aI]
def FU:PyData->Bool
 | .tuple _=>true
 | _=>false
def KD:Type:={ d:PyData // kd 8 d=true/\FU d=true }
instance:DecidableEq KD:=λx y=>decidable_of_iff (aI x.1 y.1=true) ((wz 8 x.1 y.1 x.2.1 y.2.1).trans ⟨wA,λh=>by rw[h]⟩)
theorem KD.eqv{x y:KD}:aI x.1 y.1=decide (x=y):=by
 rw[wB,wz 8 x.1 y.1 x.2.1 y.2.1,decide_eq_true_eq]
 exact⟨wA,λh=>by rw[h]⟩
theorem DC{h h':Heap}{d0:V_}{o:Obj}{es ep}(ho:h.get? d0=some o)(hd:o.data= .dict es ep)(hs:kZ d0 h h'):∀(n:Nat)(d:PyData)(v:We),kd n d=true->Rd h v d->Rd h' v d:=by
 intro n
 induction n with
 | zero=>
  intro d v hk r
  obtain⟨as,r⟩:=r
  cases r with
  | none=>exact⟨_,.none⟩
  | int i t=>exact⟨_,.int i t⟩
  | str x t=>exact⟨_,.str x t⟩
  | _=>simp[kd] at hk
 | succ n ih=>
  intro d v hk r
  cases d with
  | tuple xs=>
   obtain⟨a,o',vs,m,rfl,h1,h2,h3,h4⟩:=r.tup
   have ne:a≠d0:=λz=>by
    subst z
    rw[h1] at ho
    cases ho
    rw[h3] at hd
    cases hd
   have key:∀(vs:List We)(xs:List PyData),xs.all (kd n)=true->wy h vs xs->wy h' vs xs:=by
    intro vs xs hx r
    induction r with
    | nil=>exact .nil
    | cons a _ ihr=>
     rw[cF,cw] at hx
     exact .cons (ih _ _ hx.1 a) (ihr hx.2)
   obtain⟨as,ra⟩:=(key _ _ hk h4).all
   exact⟨_,.tuple ((hs.2 a ne).trans h1) h2 h3 ra⟩
  | none=>obtain⟨as,r⟩:=r;cases r;exact⟨_,.none⟩
  | int i=>obtain⟨as,r⟩:=r;cases r;exact⟨_,.int _ _⟩
  | str x=>obtain⟨as,r⟩:=r;cases r;exact⟨_,.str _ _⟩
  | _=>simp[kd] at hk
section
variable {prog:Wc} {w:Wf} {A:V'} {E:We->Wd->Prop} {s:Wd}
theorem DD:∀(n:Nat)(d:PyData)(v:We)(Q:Bool->Wd->Prop),kd n d=true->Rd s.heap v d->Q true s->Wx (model prog w) A (eqIsQuiet n v) Q E s:=by
 intro n
 induction n with
 | zero=>
  intro d v Q hk r h
  obtain⟨as,r⟩:=r
  cases r with
  | none=>rw[eqIsQuiet_byValue 0 rfl];exact WD h
  | int i t=>rw[eqIsQuiet_byValue 0 rfl];exact WD h
  | str x t=>rw[eqIsQuiet_byValue 0 rfl];exact WD h
  | _=>simp[kd] at hk
 | succ n ih=>
  intro d v Q hk r h
  cases d with
  | tuple xs=>
   obtain⟨a,o,vs,m,rfl,h1,h2,h3,h4⟩:=r.tup
   have hT:s.TypeIs (.ref a) "tuple":=⟨o,h1,h2⟩
   unfold eqIsQuiet
   refine Wy (wpAny_specialOf hT F.slot_tuple_eq.lookup ?_)
   show Wx _ _ (isInstance (.ref a) (.type "tuple") >>= _) _ _ s
   refine Wy (wpAny_isInstance hT isSubtype_tuple_tuple ?_)
   simp only[Bool.not_true,lU,if_false]
   refine Wy (wpAny_seqItems h1 h3 ?_)
   refine Wy ?_
   show Wx _ _ (forIn vs _ _) _ _ s
   rw[<-Array.forIn_toList]
   refine wpAny_forIn_list _ (λrest r s'=>r.1=none/\s'=s/\∃ds,ds.all (kd n)=true/\wy s.heap rest ds) _ ?_ ?_ _ _ ⟨rfl,rfl,xs,hk,h4⟩
   ·rintro v rest r s' ⟨hr,rfl,ds,hds,hall⟩
    cases hall with
    | cons ra rr=>
     rw[cF,cw] at hds
     refine Wy (ih _ _ _ hds.1 ra ?_)
     simp only[Bool.not_true,lU,if_false]
     exact WD ⟨rfl,rfl,_,hds.2,rr⟩
   ·rintro⟨r1,r2⟩ s' ⟨hr,rfl,_⟩
    simp only at hr
    subst hr
    exact WD h
  | none=>obtain⟨as,r⟩:=r;cases r;rw[eqIsQuiet_byValue _ rfl];exact WD h
  | int i=>obtain⟨as,r⟩:=r;cases r;rw[eqIsQuiet_byValue _ rfl];exact WD h
  | str x=>obtain⟨as,r⟩:=r;cases r;rw[eqIsQuiet_byValue _ rfl];exact WD h
  | _=>simp[kd] at hk
end
def gA(prog:Wc)(w:Wf):HeapKind prog w KD where
 is:=λh k a=>Rd h (.ref a) k.1
 hash:=λk=>kh w 8 k.1
 draws:=λk=>Lp 8 k.1
 room:=λA=>A.units+8 < cLine
 inj:=λ{h a x y} hx hy=>by
  obtain⟨as,hx⟩:=hx
  obtain⟨bs,hy⟩:=hy
  exact wA (SeqAt.Reads.unique _ _ _ _ _ (uD 8 _ x.2.1).1 hx hy)
 keeps:=λ{h h' k a d o es ep} x ho hd hs=>DC ho hd hs 8 _ _ k.2.1 x
 pyHash:=λ{A E s k a Q} hu hk h=>GP 8 _ _ A s Q k.2.1 hk hu h
 eqBool:=λ{A E s x y a b Q} hu hx hy h=>by
  obtain⟨as,hx⟩:=hx
  obtain⟨bs,hy⟩:=hy
  obtain⟨l1,d1⟩:=uD 8 _ x.2.1
  obtain⟨l2,d2⟩:=uD 8 _ y.2.1
  refine SeqAt.eqBoolOverData prog w A E s _ _ _ _ as bs Q hx hy l1 l2 ?_ ?_
  ·have:min x.1.depth y.1.depth<=8:=by omega
   have VI:A.units+8 < cLine:=hu
   omega
  ·rw[KD.eqv];exact h
 quiet:=λ{A E s k a Q} hk h=>DD 8 _ _ Q k.2.1 hk h
end NK
namespace L2
open PySem PySem.Spec PyProof.Rows
inductive V where
 | non | bl (b:Bool) | int (i:Int) | str (x:Str) | GQ (b:Array UInt8) | oN (b:UInt64) | ref (a:V_) | ty (n:String)
 deriving DecidableEq
def RelV:V->We->Prop
 | .non,u=>u=bL
 | .bl b,u=>u=Value.bool b
 | .int i,u=>∃t,u=fN i t
 | .str x,u=>∃t,u=jZ x t
 | .GQ b,u=>∃t,u=Value.bytes b t
 | .oN b,u=>∃t,u=Value.float b t
 | .ref a,u=>u=aH a
 | .ty n,u=>u=mD n
abbrev Vals:List V->List We->Prop:=Paired RelV
theorem Vals.length{xs:List V}{us:List We}(r:Vals xs us):xs.length=us.length:=Paired.length r
theorem Vals.get:∀{xs:List V}{us:List We}{i:Nat}{x:V},Vals xs us->xs[i]? =some x->∃u,us[i]? =some u/\RelV x u
 | _,_,_,_,.nil,e=>by simp at e
 | _,_,0,_,.cons r _,e=>by simp at e;subst e;exact⟨_,rfl,r⟩
 | _,_,i+1,x,.cons _ t,e=>by
  obtain⟨u,h1,h2⟩:=Vals.get (i:=i) (x:=x) t (by simpa using e)
  exact⟨u,by simpa using h1,h2⟩
theorem Vals.set{x:V}{u:We}(r:RelV x u):∀{xs:List V}{us:List We}(i:Nat),Vals xs us->Vals (xs.set i x) (us.set i u)
 | _,_,_,.nil=> .nil
 | _,_,0,.cons _ t=> .cons r t
 | _,_,i+1,.cons q t=> .cons q (Vals.set r i t)
theorem Vals.append:∀{xs ys:List V}{us ws:List We},Vals xs us->Vals ys ws->Vals (xs++ys) (us++ws)
 | _,_,_,_,.nil,s=>s
 | _,_,_,_,.cons r t,s=> .cons r (Vals.append t s)
theorem Vals.take:∀{xs:List V}{us:List We}(n:Nat),Vals xs us->Vals (xs.take n) (us.take n)
 | _,_,0,_=> .nil
 | _,_,_+1,.nil=> .nil
 | _,_,n+1,.cons r t=> .cons r (Vals.take n t)
theorem Vals.drop:∀{xs:List V}{us:List We}(n:Nat),Vals xs us->Vals (xs.drop n) (us.drop n)
 | _,_,0,r=>r
 | _,_,_+1,.nil=> .nil
 | _,_,n+1,.cons _ t=>Vals.drop n t
def iA:Option V->Option We->Prop
 | some v,some u=>RelV v u
 | none,none=>True
 | _,_=>False
def KV{κ:Type}:List (κ×V)->List (κ×We)->Prop:=Paired λ(p:κ×V)(q:κ×We)=>p.1=q.1/\RelV p.2 q.2
def kV:Key->V
 | .inl i=> .int i
 | .inr x=> .str x
 | .non=> .non
inductive HO where
 | dN (kvs:List (NK.KD×V))
  | lst (xs:List V)
  | tup (xs:List V)
  | dK (kvs:List (Key×V)) | dT (kvs:List (List Key×V))
  | set (S:Int->Bool) (n:Nat)
  | ins (C dx:V_) (fs:List (Str×V))
  | own (x:V_)
  | xd (fs:List (Str×V))
  | met (f x:V_)
  | Pf (lo hi:Int)
  | lV (o:Obj) (u:HO)
  | k6 (ps:Array We)
  | ext (φ:Heap->Prop)
abbrev Hp:=V_->Option HO
def upd(H:Hp)(a:V_)(o:HO):Hp:=λb=>if b=a then some o else H b
theorem bc{H:Hp}{a:V_}{o:HO}:upd H a o a=some o:=by unfold upd;rw[if_pos rfl]
theorem aZ{H:Hp}{a b:V_}{o:HO}(h:b≠a):upd H a o b=H b:=by unfold upd;rw[if_neg h]
theorem FV{H:Hp}{a b:V_}{o u:HO}(h:H a=some o)(h':H b=some u)(d:o≠u):a≠b:=by
 intro e;subst e;rw[h] at h';exact d (Option.some.inj h')
theorem dw{H:Hp}{a b:V_}{o:HO}(h:H a=some o)(h':H b=none):a≠b:=by
 intro e;subst e;rw[h] at h';cases h'
def qg(h:Heap)(a:V_):Prop:=∀o,h.get? a=some o->o.dict=none
theorem qg.new(h:Heap)(us:Array We):qg (h.push { cls:=.type "tuple",data:=.seq us }) h.objs.size:=λo q=>by
 rw[bM _ rfl] at q
 cases q
 rfl
def KA(H:Hp):Nat->V->PyData->Prop
 | _,.non,.none=>True
 | _,.int i,.int j=>i=j
 | _,.str x,.str y=>x=y
 | n+1,.ref a,.tuple ds=>∃vs,H a=some (.tup vs)/\Paired (KA H n) vs ds
 | _,_,_=>False
section
variable (P:Wc) (w:Wf)
def cC(H:Hp)(h:Heap)(a:V_):HO->Prop
 | .lst xs=>xs.length<=Wu/\∃(its:List We)(n:Nat),Vals xs its/\h.get? a=some { cls:=.type "list",data:=.seq its.toArray n }
 | .tup xs=>xs.length<=Wu/\∃its:List We,Vals xs its/\IsTup h a its.toArray/\qg h a
 | .dN kvs=>kvs.length<=Wu/\(a == sysModules)=false/\∃xs:List (NK.KD×V_×We),
   Paired (λ(p:NK.KD×V)(q:NK.KD×V_×We)=>p.1=q.1/\KA H 8 (.ref q.2.1) p.1.1/\RelV p.2 q.2.2) kvs xs/\
   ∃o es ep,h.get? a=some o/\o.ExactDict/\o.data= .dict es ep/\es.toList=xs.map (entryOfKey (NK.gA P w))/\(xs.map (·.1)).Nodup
 | .dK kvs=>kvs.length<=Wu/\(a == sysModules)=false/\∃vs,KV kvs vs/\h.DictOf (bE P w) a vs
 | .dT kvs=>kvs.length<=Wu/\(a == sysModules)=false/\∃xs:List (List Key×V_×We),
   Paired (λ(p:List Key×V)(q:List Key×V_×We)=>p.1=q.1/\H q.2.1=some (.tup (p.1.map kV))/\RelV p.2 q.2.2) kvs xs/\
   ∃o es ep,h.get? a=some o/\o.ExactDict/\o.data= .dict es ep/\es.toList=xs.map (entryOfKey (tupleKind (bE P w)))/\(xs.map (·.1)).Nodup
 | .set S n=>h.SetOf (intKind P w) a S n
 | .ins C dx fs=>H dx=some (.own a)/\fs.length<=1000/\dx≠a/\h.get? a=some (PySem.W.instObj C dx)/\
   ∃mA,h.Ns1 dx mA/\(∀f,iA (fs.lookup f) (mA f))/\PySem.Within mA (fs.map (·.1))
 | .own _=>∃o,h.get? a=some o
 | .xd fs=>∃mA,h.Ns1 a mA/\∀f,iA (fs.lookup f) (mA f)
 | .Pf lo hi=>∃t u v,h.get? a=some { cls:=.type "range",data:=.fields #[.int lo t,.int hi u,.int 1 v] }
 | .lV o u=>h.get? a=some o/\cC H h a u
 | .k6 ps=>h.get? a=some { cls:=.none,data:=.fields ps }
 | .met f x=>h.get? a=some (PySem.W.methodObj (.ref f) (.ref x))
 | .ext φ=>φ h/\(∃o,h.get? a=some o)/\∀h1 h2:Heap,φ h1->(∀o,h1.get? a=some o->h2.get? a=some o)->φ h2
def ip(H:Hp)(h:Heap):Prop:=∀a o,H a=some o->cC P w H h a o
end
section
variable {P:Wc} {w:Wf} {H H':Hp} {h h':Heap} {a:V_} {o:HO}
theorem KA.rd(x:ip P w H h):∀(n:Nat)(v:V)(d:PyData)(u:We),KA H n v d->RelV v u->NK.Rd h u d:=by
  intro n
  induction n with
  | zero=>
    intro v d u x r
    cases v<;>cases d<;>first | exact ae x | skip
    · cases r;exact⟨_,.none⟩
    · obtain⟨t,rfl⟩:=r;cases (show _=_ from x);exact⟨_,.int _ _⟩
    · obtain⟨t,rfl⟩:=r;cases (show _=_ from x);exact⟨_,.str _ _⟩
  | succ n ih=>
    intro v d u x' r
    cases v with
    | ref a=>
      cases d with
      | tuple ds=>
        obtain⟨vs,e,p⟩:=x'
        obtain⟨_,its,rv,⟨o,ho,hc,k,hd⟩,_⟩:=x a _ e
        cases (show u=aH a from r)
        have key:∀(vs:List V)(its:List We)(ds:List PyData),Vals vs its->Paired (KA H n) vs ds->NK.wy h its ds:=by
          intro vs its ds rv p
          induction p generalizing its with
          | nil=>cases rv;exact .nil
          | cons a _ ihr=>
            cases rv with
            | cons r1 r2=>exact .cons (ih _ _ _ a r1) (ihr _ r2)
        obtain⟨as,ra⟩:=(key _ _ _ rv p).all
        exact⟨_,.tuple ho hc hd (by simpa using ra)⟩
      | _=>exact ae x'
    | non => cases d <;> first | exact False.elim x' | skip
             cases r;exact⟨_,.none⟩
    | int i => cases d <;> first | exact False.elim x' | skip
               obtain⟨t,rfl⟩:=r;cases (show _=_ from x');exact⟨_,.int _ _⟩
    | str z => cases d <;> first | exact False.elim x' | skip
               obtain⟨t,rfl⟩:=r;cases (show _=_ from x');exact⟨_,.str _ _⟩
    | _=>cases d<;>exact ae x'
theorem cC.lt(x:cC P w H h a o):a < h.objs.size:=by
 cases o with
 | lst xs=>obtain⟨_,_,_,_,e⟩:=x;exact aV e
 | tup xs=>obtain⟨_,_,_,p,_⟩:=x;exact p.lt
 | dK kvs=>obtain⟨_,_,_,_,o,_,_,e,_⟩:=x;exact aV e
 | dT kvs=>obtain⟨_,_,_,_,o,_,_,e,_⟩:=x;exact aV e
 | dN kvs=>obtain⟨_,_,_,_,o,_,_,e,_⟩:=x;exact aV e
 | set S n=>obtain⟨o,_,_,_,e,_⟩:=x;exact aV e
 | ins C dx fs=>obtain⟨_,_,_,e,_⟩:=x;exact aV e
 | own y=>obtain⟨_,e⟩:=x;exact aV e
 | xd fs=>obtain⟨_,⟨_,_,_,e,_⟩,_⟩:=x;exact aV e
 | Pf lo hi=>obtain⟨_,_,_,e⟩:=x;exact aV e
 | lV ob u=>obtain⟨e,_⟩:=x;exact aV e
 | k6 ps=>exact aV (show h.get? a=some _ from x)
 | met f y=>exact aV (show h.get? a=some _ from x)
 | ext φ=>obtain⟨_,⟨_,e⟩,_⟩:=x;exact aV e
theorem Paired.xZ{α β:Type}{F G:α->β->Prop}:∀{l₁:List α}{l₂:List β},Paired F l₁ l₂->(∀a b,F a b->G a b)->Paired G l₁ l₂
 | _,_,.nil,_=> .nil
 | _,_,.cons r t,f=> .cons (f _ _ r) (Paired.xZ t f)
theorem KA.stay(ht:∀b xs,H b=some (.tup xs)->H' b=some (.tup xs)):∀(n:Nat)(v:V)(d:PyData),KA H n v d->KA H' n v d:=by
 intro n
 induction n with
 | zero=>intro v d x;cases v<;>cases d<;>first | exact x | exact ae x
 | succ n ih=>
  intro v d x
  cases v with
  | ref a=>
   cases d with
   | tuple ds=>
    obtain⟨vs,e,p⟩:=x
    exact⟨vs,ht _ _ e,Paired.xZ p λv d=>ih v d⟩
   | _=>exact ae x
  | _=>cases d<;>first | exact x | exact ae x
theorem cC.stay(x:cC P w H h a o)(k:∀b u,(b=a\/H b=some (.own a))->h.get? b=some u->h'.get? b=some u)
  (ho:∀b,H b=some (.own a)->H' b=some (.own a))(ht:∀b xs,H b=some (.tup xs)->H' b=some (.tup xs)):cC P w H' h' a o:=by
 induction o with
 | lst xs=>obtain⟨z,its,n,r,e⟩:=x;exact⟨z,its,n,r,k _ _ (.inl rfl) e⟩
 | tup xs=>obtain⟨z,us,r,⟨ob,e,c⟩,nd⟩:=x;exact⟨z,us,r,⟨ob,k _ _ (.inl rfl) e,c⟩,λo q=>by rw[k _ _ (.inl rfl) e] at q;cases q;exact nd _ e⟩
 | dK kvs=>obtain⟨z,y,vs,r,ob,es,ep,e,c⟩:=x;exact⟨z,y,vs,r,ob,es,ep,k _ _ (.inl rfl) e,c⟩
 | dT kvs=>
  obtain⟨z,y,xs,r,ob,es,ep,e,c⟩:=x
  exact⟨z,y,xs,Paired.xZ r λp q z=>⟨z.1,ht _ _ z.2.1,z.2.2⟩,ob,es,ep,k _ _ (.inl rfl) e,c⟩
 | dN kvs=>
  obtain⟨z,y,xs,r,ob,es,ep,e,c⟩:=x
  exact⟨z,y,xs,Paired.xZ r λp q z=>⟨z.1,KA.stay ht _ _ _ z.2.1,z.2.2⟩,ob,es,ep,k _ _ (.inl rfl) e,c⟩
 | set S n=>obtain⟨ob,es,ep,t,e,c⟩:=x;exact⟨ob,es,ep,t,k _ _ (.inl rfl) e,c⟩
 | ins C dx fs=>
  obtain⟨d,z,ne,e,mA,⟨od,es,ep,e2,c⟩,r⟩:=x
  exact⟨ho _ d,z,ne,k _ _ (.inl rfl) e,mA,⟨od,es,ep,k _ _ (.inr d) e2,c⟩,r⟩
 | own y=>obtain⟨ob,e⟩:=x;exact⟨ob,k _ _ (.inl rfl) e⟩
 | xd fs=>obtain⟨mA,⟨od,es,ep,e,c⟩,r⟩:=x;exact⟨mA,⟨od,es,ep,k _ _ (.inl rfl) e,c⟩,r⟩
 | Pf lo hi=>obtain⟨t,u,v,e⟩:=x;exact⟨t,u,v,k _ _ (.inl rfl) e⟩
 | lV ob u ih=>obtain⟨e,q⟩:=x;exact⟨k _ _ (.inl rfl) e,ih q⟩
 | k6 ps=>
  have e:h.get? a=some { cls:=.none,data:=.fields ps }:=x
  show h'.get? a=some { cls:=.none,data:=.fields ps }
  exact k a _ (.inl rfl) e
 | met f y=>
  have e:h.get? a=some (PySem.W.methodObj (.ref f) (.ref y)):=x
  show h'.get? a=some (PySem.W.methodObj (.ref f) (.ref y))
  exact k a _ (.inl rfl) e
 | ext φ=>obtain⟨p,⟨o,e⟩,st⟩:=x;exact⟨st _ _ p λo q=>k _ _ (.inl rfl) q,⟨o,k _ _ (.inl rfl) e⟩,st⟩
theorem ip.lt(x:ip P w H h)(e:H a=some o):a < h.objs.size:=(x a o e).lt
theorem ip.fresh(x:ip P w H h)(e:h.objs.size<=a):H a=none:=by
 cases q:H a with
 | none=>rfl
 | some u=>exact absurd (bp (x.lt q) e) (fO _)
theorem ip.kept(x:ip P w H h)(k:∀b u,h.get? b=some u->h'.get? b=some u):ip P w H h':=λa o e=>
 (x a o e).stay (λb u _ q=>k b u q) (λ_ q=>q) λ_ _ q=>q
theorem ip.laid(x:ip P w H h)(k:∀b u,h.get? b=some u->h'.get? b=some u)(hp:h.objs.size<=a)(new:cC P w (upd H a o) h' a o):ip P w (upd H a o) h':=λb u e=>by
 have hn:=x.fresh hp
 by_cases hb:b=a
 ·subst hb;rw[bc] at e;cases e;exact new
 ·rw[aZ hb] at e
  exact(x b u e).stay (λc v _ q=>k c v q) (λc q=>by rw[aZ (dw q hn)];exact q) λc xs q=>by rw[aZ (dw q hn)];exact q
end
def Rd(H:Hp)(a:V_)(u:HO):Prop:=H a=some u\/∃o,H a=some (.lV o u)
theorem Rd.ok{P:Wc}{w:Wf}{H:Hp}{h:Heap}{a:V_}{u:HO}(r:Rd H a u)(x:ip P w H h):cC P w H h a u:=by
 rcases r with r | ⟨o,r⟩
 ·exact x a u r
 ·obtain⟨_,q⟩:=x a _ r
  exact q
def Lq:Option HO->Prop
 | some (.lst _)=>True
 | some (.dK _)=>True
 | some (.dT _)=>True
 | some (.dN _)=>True
 | some (.set _ _)=>True
 | some (.ins _ _ _)=>True
 | some (.ext _)=>True
 | _=>False
section
variable {P:Wc} {w:Wf} {H:Hp} {h h':Heap} {x e:V_} {o':HO}
theorem ip.write(ok:ip P w H h)(mu:Lq (H x))(he:e=x\/H e=some (.own x))(k:∀b u,b≠e->h.get? b=some u->h'.get? b=some u)(K7:∃u,h'.get? e=some u)
  (new:cC P w (upd H x o') h' x o'):ip P w (upd H x o') h':=λb u q=>by
 have Lr:∀c y,H c=some (.own y)->c≠x:=λc y r z=>by subst z;rw[r] at mu;exact mu
 have Pg:∀c xs,H c=some (.tup xs)->c≠x:=λc xs r z=>by subst z;rw[r] at mu;exact mu
 by_cases hb:b=x
 ·subst hb;rw[bc] at q;cases q;exact new
 ·rw[aZ hb] at q
  by_cases GR:b=e
  ·have q':H b=some (.own x):=by
    rcases he with z | z
    ·exact absurd (GR.trans z) hb
    ·rw[GR];exact z
   rw[q] at q';cases q'
   obtain⟨v,hv⟩:=K7
   exact⟨v,by rw[GR];exact hv⟩
  ·refine(ok b u q).stay (λc v hc r=>k c v ?_ r) (λc r=>by rw[aZ (Lr c b r)];exact r) λc xs r=>by rw[aZ (Pg c xs r)];exact r
   rcases hc with rfl | hc
   ·exact GR
   ·rintro rfl
    rcases he with z | z
    ·exact Lr c b hc z
    ·rw[hc] at z;cases z;exact hb rfl
end
structure Un(fs ex:List V_)(H H':Hp)(h h':Heap):Prop where
 keep:∀b o,h.get? b=some o->H b=none->b∉fs->b∉ex->h'.get? b=some o
 slot:∀b o,h.get? b=some o->H b=none->b∈fs->b∉ex->∃sl,h'.get? b=some { o with slots:=sl }
 free:∀b o,h.get? b=some o->H b=none->b∉ex->H' b=none
 there:∀b o,h.get? b=some o->b∉ex->∃o',h'.get? b=some o'
 tups:∀b xs,H b=some (.tup xs)->H' b=some (.tup xs)
 mq:∀b o u,H b=some (.lV o u)->H' b=some (.lV o u)
 oO:∀b ps,H b=some (.k6 ps)->∃more,H' b=some (.k6 (ps++more))
section
variable {fs fs' ex ex':List V_} {H H1 H2:Hp} {h h1 h2 h':Heap} {a x e:V_} {o:HO}
theorem Un.any(u:Un fs ex H H1 h h1){b:V_}{ob:Obj}(q:h.get? b=some ob)(n:H b=none)(hx:b∉ex):∃sl,h1.get? b=some { ob with slots:=sl }:=by
 by_cases hb:b∈fs
 ·exact u.slot b ob q n hb hx
 ·exact⟨ob.slots,u.keep b ob q n hb hx⟩
theorem Un.kept(k:∀b u,h.get? b=some u->h'.get? b=some u):Un fs ex H H h h' :=
 ⟨λb ob q _ _ _=>k b ob q,λb ob q _ _ _=>⟨ob.slots,k b ob q⟩,λ_ _ _ n _=>n,λb ob q _=>⟨ob,k b ob q⟩,λ_ _ q=>q,λ_ _ _ q=>q,λ_ ps q=>⟨#[],by rw[q];simp⟩⟩
theorem Un.refl:Un fs ex H H h h:=Un.kept λ_ _ q=>q
theorem Un.laid(k:∀b u,h.get? b=some u->h'.get? b=some u)(hp:h.objs.size<=a)(hn:H a=none):Un fs ex H (upd H a o) h h' where
 keep:=λb u q _ _ _=>k b u q
 slot:=λb u q _ _ _=>⟨u.slots,k b u q⟩
 free:=λb u q n _=>by rw[aZ (bx (bp (aV q) hp))];exact n
 there:=λb u q _=>⟨u,k b u q⟩
 tups:=λb xs q=>by rw[aZ (dw q hn)];exact q
 mq:=λb u xs q=>by rw[aZ (dw q hn)];exact q
 oO:=λb ps q=>⟨#[],by rw[aZ (dw q hn),q];simp⟩
theorem Un.write(mu:Lq (H x))(he:e=x\/H e=some (.own x))(k:∀b u,b≠e->h.get? b=some u->h'.get? b=some u)(K7:∃u,h'.get? e=some u):Un fs ex H (upd H x o) h h':=by
 have hx:∀b,H b=none->b≠x:=λb n z=>by subst z;rw[n] at mu;exact mu
 have hb:∀b,H b=none->b≠e:=λb n z=>by
  subst z
  rcases he with r | r
  ·exact hx b n r
  ·rw[n] at r;cases r
 have hm:∀b u,H b=some u->¬Lq (some u)->b≠x:=λb u q nm z=>by subst z;rw[q] at mu;exact nm mu
 refine⟨λb u q n _ _=>k b u (hb b n) q,λb u q n _ _=>⟨u.slots,k b u (hb b n) q⟩,λb u q n _=>by rw[aZ (hx b n)];exact n,λb u q _=>?_,
  λb xs q=>by rw[aZ (hm b _ q λz=>z)];exact q,λb u xs q=>by rw[aZ (hm b _ q λz=>z)];exact q,λb ps q=>⟨#[],by rw[aZ (hm b _ q λz=>z),q];simp⟩⟩
 by_cases GR:b=e
 ·subst GR;exact K7
 ·exact⟨u,k b u GR q⟩
end
def Oe(h:Heap)(H:Hp):List V_:=(dJ h.objs.size).filter λa=>(H a).isSome
def qh(h:Heap)(H:Hp):Heap:=PySem.W.hideAll h (Oe h H)
theorem x8(h:Heap)(H:Hp):(qh h H).objs.size=h.objs.size:=PySem.W.hideAll_size _ _
theorem zA{h:Heap}{H:Hp}{b:V_}{o:Obj}(e:h.get? b=some o)(n:H b=none):(qh h H).get? b=some o :=
 PySem.W.hideAll_get _ e λhm=>by
  have q:(H b).isSome=true:=(List.mem_filter.mp hm).2
  rw[n] at q;simp at q
theorem DE{h:Heap}{H:Hp}{b:V_}{o:Obj}(e:(qh h H).get? b=some o):h.get? b=some o/\H b=none:=by
 have e':h.get? b=some o:=PySem.W.of_hideAll (Oe h H) e
 refine⟨e',?_⟩
 cases q:H b with
 | none=>rfl
 | some x=>
  have hm:b∈Oe h H:=List.mem_filter.mpr ⟨List.mem_range.mpr (aV e'),by simp[q]⟩
  have z:(qh h H).get? b=none:=PySem.W.hideAll_none (Oe h H) hm
  rw[z] at e;cases e
structure Mod(K:PySem.W.Frag)(mg:Str->Option We)(base:Heap):Prop where
 K8:K.In base
 glob:base.Ns Wt mg
 blt:∃mb,base.Ns builtinsNs mb/\∀x:Str,x≠"__name__"->mb x=Wi x
 nolimit:base.NoLimit
structure Cx where
 prog:Wc
 w:Wf
 K:PySem.W.Frag
 mg:Str->Option We
 base:Heap
 A:V'
 N:List Str
 s₀:Wd
 H₀:Hp
 env:Env
 outer:List Env
 stack:List Env
 ex:List V_
 fn:Str->Bool
 calm:Bool
 pn:List (V_×Obj)
 xe:We->Wd->Prop
def frs(l:List Env):List V_:=l.filterMap (·.frame)
abbrev Cx.fs(X:Cx):List V_:=frs X.outer
def Ph(sc:Scope)(x:Str):Prop:=sc.names.lookup x=some .local\/sc.names.lookup x=some .cell\/sc.names.lookup x=some .free
def Loc(sc:Scope)(x:Str):Prop:=sc.names.lookup x=some .local\/sc.names.lookup x=some .cell
def Look(env:Env)(h:Heap)(m:Str->Option We)(x:Str)(u:We):Prop :=
 (env.kindOf x=some .local/\m x=some u)\/((env.kindOf x=some .cell\/env.kindOf x=some .free)/\∃c,env.cells.lookup x=some c/\h.IsCell c (some u))
structure Cx.Ok(X:Cx):Prop where
 mod:Mod X.K X.mg X.base
 kind:X.env.scope.kind= .function
 glob:X.env.globals=Wt
 blt:X.env.builtins=builtinsNs
 above:X.s₀.heap.objs.size<=X.env.locals
 inj:∀x y c,X.env.cells.lookup x=some c->X.env.cells.lookup y=some c->x=y
 has:∀x,(X.env.kindOf x=some .cell\/X.env.kindOf x=some .free)->∃c,X.env.cells.lookup x=some c
 Pj:∀x c,X.fn x=true->X.env.cells.lookup x=some c->X.s₀.heap.objs.size<=c
 hd:X.calm=true->X.A.handled=none
 frames:X.A.frames=some X.stack
 stk:X.stack=X.outer\/(X.stack=X.env::X.outer/\X.env.frame=some X.env.locals)
 VJ:∀b∈X.ex,b≠X.env.locals/\∀x c,X.env.cells.lookup x=some c->c≠b
 bs:∀b o,X.base.get? b=some o->X.s₀.heap.get? b=some o/\X.H₀ b=none
 GU:X.base.objs.size<=X.s₀.heap.objs.size
 GV:∀b o,X.base.get? b=some o->b∉X.ex
 Ls:∀b∈X.ex,b∉X.fs
 m7:X.s₀.heap.FunFrames X.base X.outer
 K9:∀b∈X.fs,X.H₀ b=none
structure Inv(X:Cx)(pins:List (V_×Obj))(σ:List (Option V))(H:Hp)(s:Wd):Prop where
 ok:X.Ok
 os:s.os=X.s₀.os
 bare:AllBare s.gens
 base:Un X.fs X.ex X.H₀ H X.s₀.heap s.heap
 loc:∃m,s.heap.Ns X.env.locals m/\∀(i:Nat)(x:Str)(v:V),X.N[i]? =some x->σ[i]? =some (some v)->Ph X.env.scope x->∃u,RelV v u/\Look X.env s.heap m x u
 cell:∀x c,X.env.cells.lookup x=some c->∃v,s.heap.IsCell c v
 free:H X.env.locals=none
 lW:∀x c,X.env.cells.lookup x=some c->H c=none
 pin:∀p∈X.pn++pins,s.heap.get? p.1=some p.2/\H p.1=none/\p.1≠X.env.locals/\p.1∉X.fs/\∀v,p.2.data≠.cell v
 hok:ip X.prog X.w H s.heap
 len:σ.length=X.N.length
section
variable {X:Cx} {pins:List (V_×Obj)} {σ:List (Option V)} {H H':Hp} {s:Wd} {h':Heap}
theorem Cx.Ok.Pk(ok:X.Ok){b:V_}{o:Obj}(e:X.base.get? b=some o):b∉X.fs:=λhb=>by
 have:=(ok.m7.mem hb).1
 rw[e] at this;cases this
theorem Inv.bs(I:Inv X pins σ H s):∀b o,X.base.get? b=some o->s.heap.get? b=some o/\H b=none:=λb o e=>
 ⟨I.base.keep b o (I.ok.bs b o e).1 (I.ok.bs b o e).2 (I.ok.Pk e) (I.ok.GV b o e),I.base.free b o (I.ok.bs b o e).1 (I.ok.bs b o e).2 (I.ok.GV b o e)⟩
theorem Inv.bk(I:Inv X pins σ H s):∀b o,X.base.get? b=some o->s.heap.get? b=some o:=λb o e=>(I.bs b o e).1
theorem Inv.mod(I:Inv X pins σ H s):Mod X.K X.mg X.base:=I.ok.mod
theorem Inv.pq(I:Inv X pins σ H s):X.K.In s.heap:=I.ok.mod.K8.keeps I.bk
theorem Inv.lt(I:Inv X pins σ H s):X.env.locals < s.heap.objs.size:=let ⟨_,hn,_⟩:=I.loc;hn.lt
theorem Inv.sz(I:Inv X pins σ H s):X.s₀.heap.objs.size<=s.heap.objs.size:=a5 I.ok.above (wC I.lt)
theorem Inv.Pl(I:Inv X pins σ H s){a:V_}(h:s.heap.objs.size<=a):a∉X.fs:=λhb=>by
 obtain⟨_,o,ho,_⟩:=I.ok.m7.mem hb
 exact absurd (bp (aV ho) (a5 I.sz h)) (fO _)
theorem Inv.GW(I:Inv X pins σ H s):∀x c,X.env.cells.lookup x=some c->c≠X.env.locals:=λx c e z=>by
 obtain⟨v,o,ho,hd⟩:=I.cell x c e
 obtain⟨m,⟨o',es,ep,ho',hd',_⟩,_⟩:=I.loc
 rw[z,ho'] at ho;cases ho;rw[hd'] at hd;cases hd
theorem Inv.m7(I:Inv X pins σ H s):s.heap.FunFrames X.base X.outer:=by
 have all:∀(l:List Env),(∀b∈frs l,b∈X.fs)->X.s₀.heap.FunFrames X.base l->s.heap.FunFrames X.base l:=by
  intro l
  induction l with
  | nil=>intro _ _;trivial
  | cons env r ih=>
   intro hs hl
   obtain⟨hk,⟨L,o,hf,hn,ho,hd⟩,hr⟩:=hl
   have hL:L∈X.fs:=hs L (by unfold frs;rw[qi,hf];exact cG)
   obtain⟨sl,e⟩:=I.base.slot L o ho (I.ok.K9 L hL) hL λz=>I.ok.Ls L z hL
   exact⟨hk,⟨L,_,hf,hn,e,hd⟩,ih (λb hb=>hs b (by unfold frs;rw[qi,hf];exact bN _ hb)) hr⟩
 exact all X.outer (λ_ hb=>hb) I.ok.m7
theorem Inv.stack(I:Inv X pins σ H s):s.heap.FunFrames X.base X.stack:=by
 rcases I.ok.stk with e | ⟨e,hf⟩
 ·rw[e];exact I.m7
 ·rw[e]
  obtain⟨m,hn,_⟩:=I.loc
  refine .cons (by rw[I.ok.kind];decide) hf hn ?_ I.m7
  exact Heap.get?_none_of_le (a5 I.ok.GU I.ok.above)
theorem Inv.qj(I:Inv X pins σ H s):∀b∈frs X.stack,b∈X.env.locals::X.fs:=λb hb=>by
 rcases I.ok.stk with e | ⟨e,hf⟩
 ·rw[e] at hb;exact bN _ hb
 ·rw[e] at hb
  unfold frs at hb
  rw[qi,hf] at hb
  exact hb
theorem Inv.qk(I:Inv X pins σ H s):∀b∈frs X.stack,H b=none:=λb hb=>by
 rcases List.mem_cons.mp (I.qj b hb) with e | hb
 ·rw[e];exact I.free
 ·obtain⟨_,o,ho,_⟩:=I.ok.m7.mem hb
  exact I.base.free b o ho (I.ok.K9 b hb) λz=>I.ok.Ls b z hb
theorem Inv.step{g':Array GenState}{t':Nat}{d':Drawn}{ch:List V_}(I:Inv X pins σ H s)
  (hch:∀b∈ch,(b∈X.ex\/X.s₀.heap.objs.size<=b)/\b≠X.env.locals/\(∀x c,X.env.cells.lookup x=some c->c≠b)/\∀p∈X.pn++pins,p.1≠b)
  (keep:∀b o,b≠X.env.locals->b∉X.fs->b∉ch->s.heap.get? b=some o->H b=none->h'.get? b=some o)
  (slot:∀b o,b≠X.env.locals->b∈X.fs->b∉ch->s.heap.get? b=some o->H b=none->∃sl,h'.get? b=some { o with slots:=sl })(free:∀b o,b∉ch->s.heap.get? b=some o->H b=none->H' b=none)
  (there:∀b o,b∉ch->s.heap.get? b=some o->∃o',h'.get? b=some o')
  (tups:∀b xs,H b=some (.tup xs)->H' b=some (.tup xs))(mq:∀b o u,H b=some (.lV o u)->H' b=some (.lV o u))(oO:∀b ps,H b=some (.k6 ps)->∃more,H' b=some (.k6 (ps++more)))
  (ns:∀m,s.heap.Ns X.env.locals m->h'.Ns X.env.locals m)(hok:ip X.prog X.w H' h')(hg:AllBare g') :
  Inv X pins σ H' { s with heap:=h',gens:=g',drawn:=d',toks:=t' }:=by
 have Sf:∀b o,X.s₀.heap.get? b=some o->b≠X.env.locals:=λb o e=>bx (bp (aV e) I.ok.above)
 have Of:∀b o,X.s₀.heap.get? b=some o->b∉X.ex->b∉ch:=λb o e hx hb=>by
  rcases(hch b hb).1 with z | z
  ·exact hx z
  ·exact absurd (bp (aV e) z) (fO _)
 have cellK:∀x c,X.env.cells.lookup x=some c->∀v,s.heap.IsCell c v->h'.IsCell c v:=λx c e v ⟨o,ho,hd⟩=>by
  have Lu:c∉ch:=λz=>(hch c z).2.2.1 x c e rfl
  by_cases hc:c∈X.fs
  ·obtain⟨sl,q⟩:=slot c o (I.GW x c e) hc Lu ho (I.lW x c e)
   exact⟨_,q,hd⟩
  ·exact⟨o,keep c o (I.GW x c e) hc Lu ho (I.lW x c e),hd⟩
 refine⟨I.ok,I.os,hg,⟨λb o e n hb hx=>?_,λb o e n hb hx=>?_,λb o e n hx=>?_,λb o e hx=>?_,λb xs e=>tups b xs (I.base.tups b xs e),λb o xs e=>mq b o xs (I.base.mq b o xs e),λb ps e=>?_⟩,?_,λx c e=>?_,?_,λx c e=>?_,λp hp=>?_,hok,I.len⟩
 ·exact keep b o (Sf b o e) hb (Of b o e hx) (I.base.keep b o e n hb hx) (I.base.free b o e n hx)
 ·obtain⟨sl,e1⟩:=I.base.slot b o e n hb hx
  obtain⟨T5,e2⟩:=slot b _ (Sf b o e) hb (Of b o e hx) e1 (I.base.free b o e n hx)
  exact⟨T5,e2⟩
 ·obtain⟨o',e1⟩:=I.base.there b o e hx
  exact free b o' (Of b o e hx) e1 (I.base.free b o e n hx)
 ·obtain⟨o',e1⟩:=I.base.there b o e hx
  exact there b o' (Of b o e hx) e1
 ·obtain⟨m1,e1⟩:=I.base.oO b ps e
  obtain⟨m2,e2⟩:=oO b _ e1
  exact⟨m1++m2,by rw[e2,Array.append_assoc]⟩
 ·obtain⟨m,hn,hl⟩:=I.loc
  refine⟨m,ns m hn,λi x v e1 e2 e3=>?_⟩
  obtain⟨u,r,l⟩:=hl i x v e1 e2 e3
  refine⟨u,r,?_⟩
  rcases l with l | ⟨k,c,e,z⟩
  ·exact .inl l
  ·exact .inr ⟨k,c,e,cellK x c e _ z⟩
 ·obtain⟨v,z⟩:=I.cell x c e
  exact⟨v,cellK x c e v z⟩
 ·obtain⟨m,⟨o,_,_,ho,_⟩,_⟩:=I.loc
  exact free _ o (λz=>(hch _ z).2.1 rfl) ho I.free
 ·obtain⟨v,o,ho,hd⟩:=I.cell x c e
  exact free c o (λz=>(hch c z).2.2.1 x c e rfl) ho (I.lW x c e)
 ·obtain⟨e,n,ne,nf,d⟩:=I.pin p hp
  have Lu:p.1∉ch:=λz=>(hch p.1 z).2.2.2 p hp rfl
  exact⟨keep p.1 p.2 ne nf Lu e n,free p.1 p.2 Lu e n,ne,nf,d⟩
theorem Inv.un{t':Nat}(I:Inv X pins σ H s)(u:Un X.fs [] H H' s.heap h')(hok:ip X.prog X.w H' h'):Inv X pins σ H' { s with heap:=h',toks:=t' }:=by
 obtain⟨m,⟨o,es,ep,ho,r⟩,_⟩:=id I.loc
 obtain⟨sl,hL⟩:=u.any ho I.free (by simp)
 exact I.step (g':=s.gens) (d':=s.drawn) (ch:=[]) (λ_ z=>nomatch z) (λb o _ hb _ e n=>u.keep b o e n hb (by simp)) (λb o _ hb _ e n=>u.slot b o e n hb (by simp)) (λb o _ e n=>u.free b o e n (by simp)) (λb o _ e=>u.there b o e (by simp)) u.tups u.mq u.oO (λm' hm=>by
  obtain⟨o',es',Pm,ho',r'⟩:=hm
  rw[ho] at ho';cases ho'
  exact⟨_,es',Pm,hL,r'⟩) hok I.bare
theorem Inv.call{g':Array GenState}{t':Nat}{d':Drawn}{ch:List V_}(I:Inv X pins σ H s)(u:Un (frs X.stack) ch H H' s.heap h')(hok:ip X.prog X.w H' h')(hg:AllBare g')
  (hch:∀b∈ch,(b∈X.ex\/X.s₀.heap.objs.size<=b)/\b≠X.env.locals/\(∀x c,X.env.cells.lookup x=some c->c≠b)/\∀p∈X.pn++pins,p.1≠b) :
  Inv X pins σ H' { s with heap:=h',gens:=g',drawn:=d',toks:=t' }:=by
 obtain⟨m,⟨o,es,ep,ho,r⟩,_⟩:=id I.loc
 obtain⟨sl,hL⟩:=u.any ho I.free λz=>(hch _ z).2.1 rfl
 exact I.step (ch:=ch) hch (λb o hL hb hc e n=>u.keep b o e n (λz=>(List.mem_cons.mp (I.qj b z)).elim hL hb) hc) (λb o _ _ hc e n=>u.any e n hc) (λb o hc e n=>u.free b o e n hc) (λb o hc e=>u.there b o e hc) u.tups u.mq u.oO (λm' hm=>by
  obtain⟨o',es',Pm,ho',r'⟩:=hm
  rw[ho] at ho';cases ho'
  exact⟨_,es',Pm,hL,r'⟩) hok hg
theorem Inv.turned{t':Nat}{it:V_}(I:Inv X pins σ H s)(k:∀b o,b≠it->s.heap.get? b=some o->h'.get? b=some o)(hn:H it=none)(hL:it≠X.env.locals)
  (h1:it∈X.ex\/X.s₀.heap.objs.size<=it)(h2:∀x c,X.env.cells.lookup x=some c->c≠it)(h3:∀p∈X.pn++pins,p.1≠it):Inv X pins σ H { s with heap:=h',toks:=t' }:=by
 have Sg:∀b u,H b=some u->b≠it:=λb u e z=>by rw[z,hn] at e;cases e
 refine I.step (g':=s.gens) (d':=s.drawn) (ch:=[it]) (λb hb=>?_) (λb o _ _ hc e _=>k b o (λz=>hc (by simp[z])) e) (λb o _ _ hc e _=>⟨o.slots,k b o (λz=>hc (by simp[z])) e⟩) (λ_ _ _ _ n=>n)
  (λb o hc e=>⟨o,k b o (λz=>hc (by simp[z])) e⟩) (λ_ _ e=>e) (λ_ _ _ e=>e) (λb ps e=>⟨#[],by rw[e];simp⟩) (λm hm=>?_) (λb u e=>?_) I.bare
 ·have e:b=it:=by simpa using hb
  subst e
  exact⟨h1,hL,h2,h3⟩
 ·obtain⟨o,es,ep,ho,r⟩:=hm
  exact⟨o,es,ep,k _ o (bq hL) ho,r⟩
 ·refine(I.hok b u e).stay (λc v hc q=>k c v ?_ q) (λ_ q=>q) λ_ _ q=>q
  rcases hc with z | z
  ·rw[z];exact Sg b u e
  ·exact Sg c _ z
theorem Inv.tok(I:Inv X pins σ H s)(t:Nat):Inv X pins σ H { s with toks:=t }:=I.un (h':=s.heap) (t':=t) Un.refl I.hok
theorem Inv.kept{t':Nat}(I:Inv X pins σ H s)(k:∀b u,s.heap.get? b=some u->h'.get? b=some u):Inv X pins σ H { s with heap:=h',toks:=t' }:=I.un (Un.kept k) (I.hok.kept k)
theorem Inv.laid{a:V_}{o:HO}{t':Nat}(I:Inv X pins σ H s)(k:∀b u,s.heap.get? b=some u->h'.get? b=some u)(hp:s.heap.objs.size<=a)(new:cC X.prog X.w (upd H a o) h' a o) :
  Inv X pins σ (upd H a o) { s with heap:=h',toks:=t' }:=I.un (Un.laid k hp (I.hok.fresh hp)) (I.hok.laid k hp new)
theorem Inv.write{x e:V_}{o:HO}{t':Nat}(I:Inv X pins σ H s)(mu:Lq (H x))(he:e=x\/H e=some (.own x))(k:∀b u,b≠e->s.heap.get? b=some u->h'.get? b=some u)(K7:∃u,h'.get? e=some u)
  (new:cC X.prog X.w (upd H x o) h' x o):Inv X pins σ (upd H x o) { s with heap:=h',toks:=t' }:=I.un (Un.write mu he k K7) (I.hok.write mu he k K7 new)
theorem Inv.wF{wG:List (V_×Obj)}(I:Inv X pins σ H s)(h:∀p∈wG,s.heap.get? p.1=some p.2/\H p.1=none/\p.1≠X.env.locals/\p.1∉X.fs/\∀v,p.2.data≠.cell v):Inv X wG σ H s :=
 ⟨I.ok,I.os,I.bare,I.base,I.loc,I.cell,I.free,I.lW,λp hp=>(List.mem_append.mp hp).elim (λz=>I.pin p (GX _ z)) (h p),I.hok,I.len⟩
theorem sj{N:List Str}(hN:N.Nodup){i j:Nat}{x:Str}(a:N[i]? =some x)(b:N[j]? =some x):i=j:=by
 obtain⟨h1,e1⟩:=List.getElem?_eq_some_iff.mp a
 obtain⟨h2,e2⟩:=List.getElem?_eq_some_iff.mp b
 exact(List.getElem_inj hN).mp (e1.trans e2.symm)
theorem pv{M:Model}{A:V'}{E:We->Wd->Prop}{i:Nat}{x:Str}{v:V}{u:We}{Q:Unit->Wd->Prop}(I:Inv X pins σ H s)(hN:X.N.Nodup)(hi:X.N[i]? =some x)(hx:Loc X.env.scope x)(r:RelV v u)
  (h:∀s',Inv X pins (σ.set i (some v)) H s'->(∃a,kZ a s.heap s'.heap/\(a=X.env.locals\/X.env.cells.lookup x=some a))->Q () s')(hf:X.fn x=true\/X.env.scope.names.lookup x=some .local:=by first | exact .inl rfl | exact .inr rfl | assumption):Wx M A (storeName X.env x u) Q E s:=by
 obtain⟨m,hn,hl⟩:=id I.loc
 have hcls:(X.env.scope.kind == .class||(X.env.scope.kind == .module&&X.env.locals != X.env.globals))=false:=by rw[I.ok.kind];rfl
 have Lv:i < σ.length:=by rw[I.len];exact(List.getElem?_eq_some_iff.mp hi).1
 have GW:=I.GW
 have tracked:∀{a:V_}{h':Heap},(∃o,s.heap.get? a=some o/\H a=none)->kZ a s.heap h'->ip X.prog X.w H h':=λ{a h'} ha hs b ob e=>by
  obtain⟨_,_,hfree⟩:=ha
  refine(I.hok b ob e).stay (λc w' hc q=>(hs.2 c ?_).trans q) (λ_ q=>q) λ_ _ q=>q
  rintro rfl
  rcases hc with rfl | hc
  ·rw[hfree] at e;cases e
  ·rw[hfree] at hc;cases hc
 rcases hx with hk | hk
 ·refine wpAny_storeName_local hk hn (λh' hn' hs=>?_) hcls
  obtain⟨oL,_,_,T6,_⟩:=id hn
  refine h _ ⟨I.ok,I.os,I.bare,⟨λb o e n hb hx=>?_,λb o e n hb hx=>?_,I.base.free,λb o e hx=>?_,I.base.tups,I.base.mq,I.base.oO⟩,⟨_,hn',λj y v' e1 e2 e3=>?_⟩,λy c e=>?_,I.free,I.lW,λp hp=>?_,tracked ⟨oL,T6,I.free⟩ hs,by simpa using I.len⟩ ⟨_,hs,.inl rfl⟩
  ·exact(hs.2 b (bx (bp (aV e) I.ok.above))).trans (I.base.keep b o e n hb hx)
  ·obtain⟨sl,e1⟩:=I.base.slot b o e n hb hx
   exact⟨sl,(hs.2 b (bx (bp (aV e) I.ok.above))).trans e1⟩
  ·obtain⟨o',e1⟩:=I.base.there b o e hx
   exact⟨o',(hs.2 b (bx (bp (aV e) I.ok.above))).trans e1⟩
  ·by_cases hj:j=i
   ·subst hj
    rw[hi] at e1;cases e1
    rw[m8 Lv] at e2
    cases e2
    exact⟨u,r,.inl ⟨hk,by simp⟩⟩
   ·rw[dy (bq hj)] at e2
    obtain⟨u',r',q⟩:=hl j y v' e1 e2 e3
    refine⟨u',r',?_⟩
    rcases q with ⟨k,e⟩ | ⟨k,c,e,z⟩
    ·refine .inl ⟨k,?_⟩
     have:y≠x:=λe=>hj (sj hN e1 (e ▸ hi))
     simp[this,e]
    ·exact .inr ⟨k,c,e,z.sameBut hs (GW y c e)⟩
  ·obtain⟨w',z⟩:=I.cell y c e
   exact⟨w',z.sameBut hs (GW y c e)⟩
  ·obtain⟨e,n,ne,nf,d⟩:=I.pin p hp
   exact⟨(hs.2 p.1 ne).trans e,n,ne,nf,d⟩
 ·have hfn:X.fn x=true:=by
   rcases hf with z | z
   ·exact z
   ·rw[z] at hk;cases hk
  obtain⟨c,hc⟩:=I.ok.has x (.inl hk)
  obtain⟨w',z⟩:=I.cell x c hc
  refine wpAny_storeName_cell I.ok.kind hk hc z (λh' hc' hs=>?_)
  obtain⟨oc,hoc,Pn⟩:=id z
  refine h { s with heap:=h' } ⟨I.ok,I.os,I.bare,⟨λb o e n hb hx=>?_,λb o e n hb hx=>?_,I.base.free,λb o e hx=>?_,I.base.tups,I.base.mq,I.base.oO⟩,⟨m,hn.sameBut hs (bq (GW x c hc)),λj y v' e1 e2 e3=>?_⟩,λy c' e=>?_,I.free,I.lW,λp hp=>?_,tracked ⟨oc,hoc,I.lW x c hc⟩ hs,by simpa using I.len⟩ ⟨c,hs,.inr hc⟩
  ·exact(hs.2 b (bx (bp (aV e) (I.ok.Pj x c hfn hc)))).trans (I.base.keep b o e n hb hx)
  ·obtain⟨sl,e1⟩:=I.base.slot b o e n hb hx
   exact⟨sl,(hs.2 b (bx (bp (aV e) (I.ok.Pj x c hfn hc)))).trans e1⟩
  ·obtain⟨o',e1⟩:=I.base.there b o e hx
   exact⟨o',(hs.2 b (bx (bp (aV e) (I.ok.Pj x c hfn hc)))).trans e1⟩
  ·by_cases hj:j=i
   ·subst hj
    rw[hi] at e1;cases e1
    rw[m8 Lv] at e2
    cases e2
    exact⟨u,r,.inr ⟨.inl hk,c,hc,hc'⟩⟩
   ·rw[dy (bq hj)] at e2
    obtain⟨u',r',q⟩:=hl j y v' e1 e2 e3
    refine⟨u',r',?_⟩
    rcases q with q | ⟨k,c',e,z'⟩
    ·exact .inl q
    ·refine .inr ⟨k,c',e,z'.sameBut hs ?_⟩
     rintro rfl
     exact hj (sj hN e1 (I.ok.inj _ _ _ e hc ▸ hi))
  ·by_cases hcc:c'=c
   ·subst hcc;exact⟨_,hc'⟩
   ·obtain⟨w2,z2⟩:=I.cell y c' e
    exact⟨w2,z2.sameBut hs hcc⟩
  ·obtain⟨e,n,ne,nf,d⟩:=I.pin p hp
   refine⟨(hs.2 p.1 ?_).trans e,n,ne,nf,d⟩
   intro q
   rw[q,hoc] at e
   have q':oc=p.2:=Option.some.inj e
   exact d w' (by rw[<-q'];exact Pn)
theorem m_{M:Model}{A:V'}{E:We->Wd->Prop}{i:Nat}{x:Str}{v:V}{u:We}{Q:Unit->Wd->Prop}(I:Inv X pins σ H s)(hN:X.N.Nodup)(hi:X.N[i]? =some x)(hx:Loc X.env.scope x)(r:RelV v u)
  (h:∀s',Inv X pins (σ.set i (some v)) H s'->Q () s')(hf:X.fn x=true\/X.env.scope.names.lookup x=some .local:=by first | exact .inl rfl | exact .inr rfl | assumption):Wx M A (storeName X.env x u) Q E s :=
 pv I hN hi hx r (λs' I' _=>h s' I') hf
theorem Inv.Lw{s':Wd}{ch:List V_}(I:Inv X pins σ H s)(ho:s'.os=s.os)(u:Un (frs X.stack) ch H H' s.heap s'.heap)(hok:ip X.prog X.w H' s'.heap)(hg:AllBare s'.gens)
  (hch:∀b∈ch,(b∈X.ex\/X.s₀.heap.objs.size<=b)/\b≠X.env.locals/\(∀x c,X.env.cells.lookup x=some c->c≠b)/\∀p∈X.pn++pins,p.1≠b):Inv X pins σ H' s':=by
 obtain⟨h',g',d',t',o'⟩:=s'
 have e:o'=s.os:=ho
 subst e
 exact I.call (g':=g') (t':=t') (d':=d') u hok hg hch
end
abbrev XK:=We->Option V_->Hp->Prop
abbrev St:=List (Option V)
abbrev VK:=V->Hp->Prop
abbrev TE:=St->Hp->VK->Prop
abbrev TT:=St->Hp->(Bool->Hp->Prop)->Prop
abbrev TA:=St->Hp->(List V->Hp->Prop)->Prop
structure Ends where
 nx:St->Hp->Prop
 rt:VK
 bk:St->Hp->Prop:=λ_ _=>False
 ct:St->Hp->Prop:=λ_ _=>False
abbrev TS:=Ends->St->Hp->Prop
def EP(X:Cx)(pins:List (V_×Obj))(σ:St)(Q:VK)(u:We)(s':Wd):Prop:=∃v H',Inv X pins σ H' s'/\RelV v u/\Q v H'
def TP(X:Cx)(pins:List (V_×Obj))(σ:St)(Q:Bool->Hp->Prop)(b:Bool)(s':Wd):Prop:=∃H',Inv X pins σ H' s'/\Q b H'
def AP(X:Cx)(pins:List (V_×Obj))(σ:St)(Q:List V->Hp->Prop)(us:List We)(s':Wd):Prop:=∃vs H',Inv X pins σ H' s'/\Vals vs us/\Q vs H'
def SP(X:Cx)(pins:List (V_×Obj))(D:Ends)(f:Flow)(s':Wd):Prop :=
 match f with
 | .next=>∃σ' H',Inv X pins σ' H' s'/\D.nx σ' H'
 | .brk=>∃σ' H',Inv X pins σ' H' s'/\D.bk σ' H'
 | .cont=>∃σ' H',Inv X pins σ' H' s'/\D.ct σ' H'
 | .ret u=>∃v σ' H',Inv X pins σ' H' s'/\RelV v u/\D.rt v H'
def PE(X:Cx)(e:Expr)(t:TE):Prop :=
 ∀(pins:List (V_×Obj))(s:Wd)(σ:St)(H:Hp)(Q:VK),Inv X pins σ H s->t σ H Q->Wx (model X.prog X.w) X.A (eval e X.env) (EP X pins σ Q) X.xe s
def PT(X:Cx)(e:Expr)(t:TT):Prop :=
 ∀(pins:List (V_×Obj))(s:Wd)(σ:St)(H:Hp)(Q:Bool->Hp->Prop),Inv X pins σ H s->t σ H Q->Wx (model X.prog X.w) X.A (isTrue e X.env (eval e X.env)) (TP X pins σ Q) X.xe s
def PW(X:Cx)(e:Expr)(t:TT):Prop :=
 ∀(whole:Sem We)(pins:List (V_×Obj))(s:Wd)(σ:St)(H:Hp)(Q:Bool->Hp->Prop),Inv X pins σ H s->t σ H Q->Wx (model X.prog X.w) X.A (isTrue e X.env whole) (TP X pins σ Q) X.xe s
def PA(X:Cx)(es:List Expr)(t:TA):Prop :=
 ∀(pos:Pos)(pins:List (V_×Obj))(s:Wd)(σ:St)(H:Hp)(Q:List V->Hp->Prop),Inv X pins σ H s->t σ H Q->Wx (model X.prog X.w) X.A (spliced (backTo pos (Ww es X.env))) (AP X pins σ Q) X.xe s
def PS(X:Cx)(st:Stmt)(t:TS):Prop :=
 ∀(pins:List (V_×Obj))(s:Wd)(σ:St)(H:Hp)(D:Ends),Inv X pins σ H s->t D σ H->Wx (model X.prog X.w) X.A (exec st X.env) (SP X pins D) X.xe s
def zB(X:Cx)(st:List Stmt)(t:TS):Prop :=
 ∀(pins:List (V_×Obj))(s:Wd)(σ:St)(H:Hp)(D:Ends),Inv X pins σ H s->t D σ H->Wx (model X.prog X.w) X.A (execs st X.env) (SP X pins D) X.xe s
theorem a8{α:Type}{t:Sem α}{Q Q':α->Wd->Prop}{M:Model}{A:V'}{E:We->Wd->Prop}{s:Wd}(h:Wx M A t Q E s)(hQ:∀a s,Q a s->Q' a s):Wx M A t Q' E s:=WB h hQ λ_ _ x=>x
section
variable {X:Cx}
def Po(i:Nat):TE:=λσ H Q=>∃v,σ[i]? =some (some v)/\Q v H
def tC(v:V):TE:=λ_ H Q=>Q v H
theorem GY{i:Nat}{x:Str}{pos:Pos}(hN:X.N[i]? =some x)(hv:Ph X.env.scope x)(hd:(x == ("__debug__":Str))=false:=by decide)(hcd:(x == ("__classdict__":Str))=false:=by decide):PE X (.Name x pos) (Po i):=by
 intro pins s σ H Q I h
 obtain⟨v,e,h⟩:=h
 obtain⟨m,hn,hl⟩:=I.loc
 obtain⟨u,r,l⟩:=hl i x v hN e hv
 have fin:EP X pins σ Q u s:=⟨v,H,I,r,h⟩
 rcases l with ⟨hk,hm⟩ | ⟨hk,c,hc,hcell⟩
 ·exact wpAny_Name (wpAny_loadName_local I.ok.kind hk hn hm fin) hd
 ·rcases hk with hk | hk
  ·exact wpAny_Name (wpAny_loadName_cell I.ok.kind hk hc hcell fin) hd
  ·exact wpAny_Name (wpAny_loadName_free I.ok.kind hk hc hcell fin hcd) hd
theorem GZ{i j pos}:PE X (.Constant (.int i) j pos) (tC (.int i)):=λ_ _ _ H _ I h=>wpAny_Constant_int ⟨.int i,H,I.tok _,⟨_,rfl⟩,h⟩
theorem Ly{b j pos}:PE X (.Constant (.bool b) j pos) (tC (.bl b)):=λ_ _ _ H _ I h=>Constant_bool ⟨.bl b,H,I,rfl,h⟩
theorem G0{j pos}:PE X (.Constant .none j pos) (tC .non):=λ_ _ _ H _ I h=>Constant_none ⟨.non,H,I,rfl,h⟩
theorem G5{x j pos}:PE X (.Constant (.str x) j pos) (tC (.str x)):=λ_ _ _ H _ I h=>Calls.Constant_str ⟨.str x,H,I.tok _,⟨_,rfl⟩,h⟩
def Gl(X:Cx)(x:Str):Prop:=X.env.kindOf x=some .globalImplicit
theorem ql{E:We->Wd->Prop}{pins:List (V_×Obj)}{s:Wd}{σ:St}{H:Hp}{x:Str}{u:We}{pos:Pos}{Q:We->Wd->Prop}(I:Inv X pins σ H s)(hg:Gl X x)(hm:X.mg x=some u)(h:Q u s)
  (hd:(x == ("__debug__":Str))=false:=by decide):Wx (model X.prog X.w) X.A (eval (.Name x pos) X.env) Q E s :=
 G6 I.ok.kind hg (Calls.loadGlobal_global (by rw[I.ok.glob];exact I.mod.glob.keeps I.bk) hm h) hd
theorem k7{E:We->Wd->Prop}{pins:List (V_×Obj)}{s:Wd}{σ:St}{H:Hp}{x:Str}{u:We}{pos:Pos}{Q:We->Wd->Prop}(I:Inv X pins σ H s)(hg:Gl X x)(hm:X.mg x=none)(hv:Wi x=some u)(h:Q u s)
  (hn:x≠"__name__":=by decide)(hd:(x == ("__debug__":Str))=false:=by decide):Wx (model X.prog X.w) X.A (eval (.Name x pos) X.env) Q E s:=by
 obtain⟨mb,h1,h2⟩:=I.mod.blt
 exact G6 I.ok.kind hg (Calls.loadGlobal_builtin (by rw[I.ok.glob];exact I.mod.glob.keeps I.bk) hm (by rw[I.ok.blt];exact h1.keeps I.bk) ((h2 x hn).trans hv) h) hd
theorem gL{x:Str}{v:V}{u:We}{pos:Pos}(hg:Gl X x)(hm:X.mg x=some u)(r:RelV v u)(hd:(x == ("__debug__":Str))=false:=by decide):PE X (.Name x pos) (tC v) :=
 λ_ _ _ H _ I h=>ql I hg hm ⟨v,H,I,r,h⟩ hd
theorem DF{x:Str}{v:V}{u:We}{pos:Pos}(hg:Gl X x)(hm:X.mg x=none)(hv:Wi x=some u)(r:RelV v u)(hn:x≠"__name__":=by decide)(hd:(x == ("__debug__":Str))=false:=by decide):PE X (.Name x pos) (tC v) :=
 λ_ _ _ H _ I h=>k7 I hg hm hv ⟨v,H,I,r,h⟩ hn hd
variable {a b:Expr} {ta tb:TE} {pos:Pos}
variable {tA Og:TT} {rest:List Expr}
def Pp(t u:TT):TT:=λσ H Q=>t σ H λc H1=>if c=true then u σ H1 Q else Q false H1
def T7(t u:TT):TT:=λσ H Q=>t σ H λc H1=>if c=true then Q true H1 else u σ H1 Q
def Pq(t:TT):TT:=λσ H Q=>t σ H λc H1=>Q (!c) H1
theorem DG(ha:PT X a tA):PW X (.BoolOp .And [a] pos) tA:=by
 intro wh pins s σ H Q I h
 refine isTrue_and (a8 (ha pins s σ H Q I h) λc s1 e=>?_)
 cases c with
 | true=>exact isTrue_and_nil e
 | false=>exact e
theorem G7(ha:PT X a tA):PW X (.BoolOp .Or [a] pos) tA:=by
 intro wh pins s σ H Q I h
 refine isTrue_or (a8 (ha pins s σ H Q I h) λc s1 e=>?_)
 cases c with
 | false=>exact isTrue_or_nil e
 | true=>exact e
theorem G8(ha:PT X a tA)(hb:PW X (.BoolOp .And (b::rest) pos) Og):PW X (.BoolOp .And (a::b::rest) pos) (Pp tA Og):=by
 intro wh pins s σ H Q I h
 refine isTrue_and (a8 (ha pins s σ H _ I h) λc s1 ⟨H1,I1,q1⟩=>?_)
 cases c with
 | true=>exact hb wh pins s1 σ H1 Q I1 q1
 | false=>exact⟨H1,I1,q1⟩
theorem Lz(ha:PT X a tA)(hb:PW X (.BoolOp .Or (b::rest) pos) Og):PW X (.BoolOp .Or (a::b::rest) pos) (T7 tA Og):=by
 intro wh pins s σ H Q I h
 refine isTrue_or (a8 (ha pins s σ H _ I h) λc s1 ⟨H1,I1,q1⟩=>?_)
 cases c with
 | true=>exact⟨H1,I1,q1⟩
 | false=>exact hb wh pins s1 σ H1 Q I1 q1
theorem G9(ha:PT X a tA):PT X (.UnaryOp .Not a pos) (Pq tA):=by
 intro pins s σ H Q I h
 exact isTrue_not (ha pins s σ H (λc H1=>Q (!c) H1) I h)
def LA(ta tb:TE):TE:=λσ H Q=>ta σ H λx H1=>∃c,x= .bl c/\if c=true then tb σ H1 Q else Q (.bl false) H1
theorem G_{op}{t:TE}(h:PE X a t):PE X (.BoolOp op [a] pos) t:=λpins s σ H Q I hw=>BoolOp_one (h pins s σ H Q I hw)
theorem Ha(ha:PE X a ta)(hb:PE X (.BoolOp .And (b::rest) pos) tb):PE X (.BoolOp .And (a::b::rest) pos) (LA ta tb):=by
 intro pins s σ H Q I h
 refine BoolOp_and (a8 (ha pins s σ H _ I h) λv s1 ⟨x,H1,I1,r1,q1⟩=>?_)
 obtain⟨c,rfl,q1⟩:=q1
 cases r1
 refine WE ?_
 cases c with
 | true=>exact hb pins s1 σ H1 Q I1 q1
 | false=>exact⟨.bl false,H1,I1,rfl,q1⟩
def T8(t:TT)(ta tb:TE):TE:=λσ H Q=>t σ H λc H1=>if c=true then ta σ H1 Q else tb σ H1 Q
theorem zC{c:Expr}(hc:PT X c tA)(ha:PE X a ta)(hb:PE X b tb):PE X (.IfExp c a b pos) (T8 tA ta tb):=by
 intro pins s σ H Q I h
 refine wpAny_IfExp (a8 (hc pins s σ H _ I h) λd s1 ⟨H1,I1,q1⟩=>?_)
 cases d with
 | true=>exact ha pins s1 σ H1 Q I1 q1
 | false=>exact hb pins s1 σ H1 Q I1 q1
end
def jY(K:PySem.W.Frag)(H:Hp)(a:V_)(xs:List V):Prop :=
 Rd H a (.lst xs)\/
  ∃(o:Obj)(its:Array We)(n:Nat),K.lookup a=some o/\o.cls= .type "list"/\o.dict=none/\o.data= .seq its n/\its.size<=Wu/\Vals xs its.toList
def eM(K:PySem.W.Frag)(H:Hp)(a:V_)(xs:List V):Prop :=
 Rd H a (.tup xs)\/
  ∃(o:Obj)(its:Array We)(n:Nat),K.lookup a=some o/\o.cls= .type "tuple"/\o.data= .seq its n/\its.size<=Wu/\Vals xs its.toList
def Pr:We->Option V
 | .none=>some .non
 | .bool b=>some (.bl b)
 | .int i _=>some (.int i)
 | .str x _=>some (.str x)
 | .bytes b _=>some (.GQ b)
 | .float b _=>some (.oN b)
 | .ref a=>some (.ref a)
 | .type n=>some (.ty n)
 | _=>none
theorem RelV.abs{x:V}{u:We}(r:RelV x u):Pr u=some x:=by
 cases x with
 | non=>cases r;rfl
 | bl _=>cases r;rfl
 | int _=>obtain⟨t,rfl⟩:=r;rfl
 | str _=>obtain⟨t,rfl⟩:=r;rfl
 | GQ _=>obtain⟨t,rfl⟩:=r;rfl
 | oN _=>obtain⟨t,rfl⟩:=r;rfl
 | ref _=>cases r;rfl
 | ty _=>cases r;rfl
theorem RelV.inj{x y:V}{u:We}(r:RelV x u)(q:RelV y u):x=y:=Option.some.inj (r.abs.symm.trans q.abs)
theorem Vals.inj:∀{xs ys:List V}{us:List We},Vals xs us->Vals ys us->xs=ys
 | _,_,_,.nil,.nil=>rfl
 | _,_,_,.cons r t,.cons r' t'=>by rw[r.inj r',Vals.inj t t']
section
variable {X:Cx} {pins:List (V_×Obj)} {σ:St} {H:Hp} {s:Wd} {a:V_} {xs ys:List V}
theorem jY.of{K:PySem.W.Frag}(h:H a=some (.lst xs)):jY K H a xs:=.inl (.inl h)
theorem eM.of{K:PySem.W.Frag}(h:H a=some (.tup xs)):eM K H a xs:=.inl (.inl h)
theorem Inv.list(I:Inv X pins σ H s)(h:jY X.K H a xs):∃its:List We,Vals xs its/\PlainL s.heap a its.toArray/\xs.length<=Wu:=by
 rcases h with h | ⟨o,its,n,hk,hc,hd,hs,hz,r⟩
 ·obtain⟨z,its,n,r,e⟩:=h.ok I.hok
  exact⟨its,r,⟨_,n,e,rfl,rfl,rfl⟩,z⟩
 ·refine⟨its.toList,r,⟨o,n,I.pq a o hk,hc,hd,by simpa using hs⟩,?_⟩
  have e:=r.length
  simp only[zD] at e
  omega
theorem Inv.tuple(I:Inv X pins σ H s)(h:eM X.K H a xs):∃its:List We,Vals xs its/\IsTup s.heap a its.toArray/\xs.length<=Wu:=by
 rcases h with h | ⟨o,its,n,hk,hc,hs,hz,r⟩
 ·obtain⟨z,its,r,p,_⟩:=h.ok I.hok
  exact⟨its,r,p,z⟩
 ·refine⟨its.toList,r,⟨o,I.pq a o hk,hc,n,by simpa using hs⟩,?_⟩
  have e:=r.length
  simp only[zD] at e
  omega
theorem Inv.zE(I:Inv X pins σ H s)(h:jY X.K H a xs)(h':jY X.K H a ys):xs=ys:=by
 obtain⟨its,r,⟨o,n,e,_,_,d⟩,_⟩:=I.list h
 obtain⟨its',r',⟨o',n',e',_,_,d'⟩,_⟩:=I.list h'
 rw[e] at e';cases e'
 rw[d] at d'
 injection d' with d1 _
 have:its=its':=by simpa using congrArg Array.toList d1
 subst this
 exact r.inj r'
theorem Inv.x9(I:Inv X pins σ H s)(h:eM X.K H a xs)(h':eM X.K H a ys):xs=ys:=by
 obtain⟨its,r,⟨o,e,_,n,d⟩,_⟩:=I.tuple h
 obtain⟨its',r',⟨o',e',_,n',d'⟩,_⟩:=I.tuple h'
 rw[e] at e';cases e'
 rw[d] at d'
 injection d' with d1 _
 have:its=its':=by simpa using congrArg Array.toList d1
 subst this
 exact r.inj r'
end
section
variable {X:Cx} {pins:List (V_×Obj)} {σ:St} {H:Hp} {s:Wd} {E:We->Wd->Prop}
end
section
variable {X:Cx} {st:Stmt} {rest:List Stmt} {t u:TS} {e:Expr} {te:TE} {pos:Pos}
def LB:TS:=λD σ H=>D.nx σ H
def Pu(t u:TS):TS:=λD σ H=>t { D with nx:=u D } σ H
theorem DH:zB X [] LB:=λ_ _ σ H _ I h=>wpAny_execs_nil ⟨σ,H,I,h⟩
theorem zF(h1:PS X st t)(h2:zB X rest u):zB X (st::rest) (Pu t u):=by
 intro pins s σ H D I h
 refine wpAny_execs_cons (a8 (h1 pins s σ H { D with nx:=u D } I h) λf s1 q=>?_)
 cases f with
 | next=>
  obtain⟨σ',H',I',q⟩:=q
  exact h2 pins s1 σ' H' D I' q
 | ret v=>exact q
 | brk=>exact q
 | cont=>exact q
theorem DI(h1:PS X st t):zB X [st] t:=by
 intro pins s σ H D I h
 refine wpAny_execs_cons (a8 (h1 pins s σ H D I h) λf s1 q=>?_)
 cases f with
 | next=>exact wpAny_execs_nil q
 | ret v=>exact q
 | brk=>exact q
 | cont=>exact q
theorem Inv.quiet{pins:List (V_×Obj)}{σ:St}{H:Hp}{s:Wd}(I:Inv X pins σ H s):interactive X.env=false:=by simp[interactive,I.ok.kind]
def LC(te:TE):TS:=λD σ H=>te σ H λ_ H1=>D.nx σ H1
theorem DJ(he:PE X e te)(hs:swapsWith e none pos.line X.env=pure false:=by rfl):PS X (.Expr e pos) (LC te):=by
 intro pins s σ H D I h
 exact wpAny_Expr_any (a8 (he pins s σ H _ I h) λv s1 ⟨x,H1,I1,r1,q1⟩=>⟨σ,H1,I1,q1⟩) I.quiet hs
def Pw(te:TE):TS:=λD σ H=>te σ H D.rt
theorem Hd(he:PE X e te):PS X (.Return (some e) pos) (Pw te):=by
 intro pins s σ H D I h
 exact wpAny_Return_some (a8 (he pins s σ H _ I h) λv s1 ⟨x,H1,I1,r1,q1⟩=>⟨x,σ,H1,I1,r1,q1⟩)
def LD:TS:=λD _ H=>D.rt .non H
theorem DK:PS X (.Return none pos) LD:=λ_ _ σ H _ I h=>wpAny_Return_none ⟨.non,σ,H,I,rfl,h⟩
def Px(c:TT)(t u:TS):TS:=λD σ H=>c σ H λb H1=>if b=true then t D σ H1 else u D σ H1
theorem LG{c:Expr}{a b:List Stmt}{tc:TT}(hc:PT X c tc)(ha:zB X a t)(hb:zB X b u):PS X (.If c a b pos) (Px tc t u):=by
 intro pins s σ H D I h
 refine wpAny_If (a8 (hc pins s σ H _ I h) λd s1 ⟨H1,I1,q1⟩=>?_)
 cases d with
 | true=>exact ha pins s1 σ H1 D I1 q1
 | false=>exact hb pins s1 σ H1 D I1 q1
def zG:TS:=λ_ _ _=>False
theorem zH:PS X st zG:=λ_ _ _ _ _ _ h=>h.elim
theorem x_{sts:List Stmt}:zB X sts zG:=λ_ _ _ _ _ _ h=>h.elim
end
abbrev TG:=V->St->Hp->(St->Hp->Prop)->Prop
abbrev FW:=List V->St->Hp->(St->Hp->Prop)->Prop
def PG(X:Cx)(target:Expr)(t:TG):Prop :=
 ∀(pins:List (V_×Obj))(s:Wd)(σ:St)(H:Hp)(v:V)(u:We)(Q:St->Hp->Prop),Inv X pins σ H s->RelV v u->t v σ H Q->
  Wx (model X.prog X.w) X.A (assign target X.env u) (λ_ s'=>∃σ' H',Inv X pins σ' H' s'/\Q σ' H') X.xe s
def LH(X:Cx)(ts:List Expr)(t:FW):Prop :=
 ∀(pins:List (V_×Obj))(s:Wd)(σ:St)(H:Hp)(vs:List V)(us:List We)(Q:St->Hp->Prop),Inv X pins σ H s->Vals vs us->t vs σ H Q->
  Wx (model X.prog X.w) X.A (assignInOrder ((assignEach ts X.env).map (·.2)) us) (λ_ s'=>∃σ' H',Inv X pins σ' H' s'/\Q σ' H') X.xe s
abbrev DL:=V->V->V->Hp->(Hp->Prop)->Prop
def LI(X:Cx)(t:DL):Prop :=
 ∀(pins:List (V_×Obj))(s:Wd)(σ:St)(H:Hp)(o i v:V)(ov iv u:We)(Q:Hp->Prop),Inv X pins σ H s->RelV o ov->RelV i iv->RelV v u->t o i v H Q->
  Wx (model X.prog X.w) X.A (setItem ov iv u) (λ_ s'=>∃H',Inv X pins σ H' s'/\Q H') X.xe s
section
variable {X:Cx} {pos:Pos}
def sr(i:Nat):TG:=λv σ H Q=>Q (σ.set i (some v)) H
theorem j6{i:Nat}{x:Str}(hN:X.N.Nodup)(hi:X.N[i]? =some x)(hx:Loc X.env.scope x)(hf:X.fn x=true\/X.env.scope.names.lookup x=some .local:=by first | exact .inl rfl | exact .inr rfl | assumption):PG X (.Name x pos) (sr i):=by
 intro pins s σ H v u Q I r h
 exact wpAny_assign_Name (m_ I hN hi hx r (λs' I'=>⟨_,H,I',h⟩) hf)
def ak:FW:=λvs σ H Q=>vs=[]/\Q σ H
def af(t:TG)(u:FW):FW:=λvs σ H Q=>∃v r,vs=v::r/\t v σ H λσ' H'=>u r σ' H' Q
theorem DM:LH X [] ak:=by
 intro pins s σ H vs us Q I r h
 obtain⟨e,h⟩:=h
 subst e
 cases r
 exact assignInOrder_nil ⟨σ,H,I,h⟩
theorem zI{e:Expr}{es:List Expr}{t:TG}{u:FW}(h1:PG X e t)(h2:LH X es u)
  (hs:(assignEach (e::es) X.env).map (·.2)=assign e X.env::(assignEach es X.env).map (·.2):=by rfl):LH X (e::es) (af t u):=by
 intro pins s σ H vs us Q I r h
 obtain⟨v,vr,e1,h⟩:=h
 subst e1
 cases r with
 | cons r rr=>
  rw[hs]
  refine assignInOrder_cons (a8 (h1 pins s σ H _ _ _ I r h) λ_ s1 ⟨σ1,H1,I1,q1⟩=>?_)
  exact h2 pins s1 σ1 H1 _ _ Q I1 rr q1
def a4(K:PySem.W.Frag)(n:Nat)(t:FW):TG:=λv σ H Q=>∃a xs,v= .ref a/\eM K H a xs/\xs.length=n/\t xs σ H Q
theorem Hf{es:List Expr}{k:Nat}{t:FW}{n:Nat}(hc:X.calm=true)(h:LH X es t)
  (hn:(assignEach es X.env).length=n:=by rfl)(hst:(assignEach es X.env).findIdx? (·.1)=none:=by rfl):PG X (.Tuple es k pos) (a4 X.K n t):=by
 intro pins s σ H v u Q I r hw
 obtain⟨a,xs,e1,hq,hl,hw⟩:=hw
 subst e1
 cases r
 obtain⟨its,rv,ht,hz⟩:=I.tuple hq
 refine assign_Tuple_tuple (I.ok.hd hc) ht (by simp[hn,<-hl,rv.length]) hst λh' hx=>?_
 have I1:Inv X pins σ H { s with heap:=h' }:=I.kept (t':=s.toks) λb o e=>hx b o (bx (aV e)) e
 exact h pins _ σ H xs _ Q I1 (by simpa using rv) hw
def Py(to ti:TE)(t:DL):TG:=λv σ H Q=>to σ H λo H1=>ti σ H1 λi H2=>t o i v H2 λH3=>Q σ H3
theorem Hg{o i:Expr}{to ti:TE}{t:DL}(ho:PE X o to)(hi:PE X i ti)(hs:LI X t)
  (ha:∀v,assign (.Subscript o i pos) X.env v=(do
   let ov <-holding [v] (eval o X.env)
   let iv <-holding [v,ov] (eval i X.env)
   standAt pos
   holding [v,ov,iv] (setItem ov iv v)
   release [v,ov,iv] []):=by intro _;rfl):PG X (.Subscript o i pos) (Py to ti t):=by
 intro pins s σ H v u Q I r h
 rw[ha]
 refine Wy (WA (a8 (ho pins s σ H _ I h) λov s1 ⟨x,H1,I1,r1,q1⟩=>?_))
 refine Wy (WA (a8 (hi pins s1 σ H1 _ I1 q1) λiv s2 ⟨y,H2,I2,r2,q2⟩=>?_))
 refine Wy (wpAny_standAt (Wy (WA (a8 (hs pins s2 σ H2 x y v ov iv u _ I2 r1 r2 r q2) λ_ s3 ⟨H3,I3,q3⟩=>?_))))
 exact wpAny_release ⟨σ,H3,I3,q3⟩
def LJ(te:TE)(g:TG):TS:=λD σ H=>te σ H λx H1=>g x σ H1 D.nx
theorem zJ{tg e:Expr}{te:TE}{g:TG}(he:PE X e te)(hg:PG X tg g)(hs:swapsWithSole [tg] e pos.line X.env=pure false:=by rfl)(hw:swappedStores [tg] e X.env=pure none:=by rfl)
  (h1:(assignEach [tg] X.env).map (·.2)=[assign tg X.env]:=by rfl):PS X (.Assign [tg] e pos) (LJ te g):=by
 intro pins s σ H D I h
 refine wpAny_Assign_stores (a8 (he pins s σ H _ I h) λv s1 ⟨x,H1,I1,r1,q1⟩=>?_) hs hw
 rw[h1]
 exact a8 (hg pins s1 σ H1 x v _ I1 r1 q1) λ_ s2 q=>q
theorem Hh{i:Nat}{x:Str}{e:Expr}{te:TE}{pos':Pos}(hN:X.N.Nodup)(hi:X.N[i]? =some x)(hx:Loc X.env.scope x)(he:PE X e te)(hs:swapsWith e (some (.Name x pos')) pos.line X.env=pure false:=by rfl)(hf:X.fn x=true\/X.env.scope.names.lookup x=some .local:=by first | exact .inl rfl | exact .inr rfl | assumption) :
  PS X (.Assign [.Name x pos'] e pos) (LJ te (sr i)):=by
 intro pins s σ H D I h
 refine wpAny_Assign_Name (a8 (he pins s σ H _ I h) λv s1 ⟨y,H1,I1,r1,q1⟩=>?_) hs
 exact m_ I1 hN hi hx r1 (λs2 I2=>⟨_,H1,I2,q1⟩) hf
end
section
variable {X:Cx} {pos:Pos}
end
structure It where
 go:Nat->Hp->Prop
 zr:Nat->Hp->V->Hp->Prop
 stop:Nat->Hp->Prop
def fJ(X:Cx)(pins:List (V_×Obj))(H:Hp)(b:V_):Prop :=
 H b=none/\b≠X.env.locals/\b∉X.fs/\(b∈X.ex\/X.s₀.heap.objs.size<=b)/\(∀x c,X.env.cells.lookup x=some c->c≠b)/\∀p∈X.pn++pins,p.1≠b
theorem Inv.zK{X:Cx}{pins:List (V_×Obj)}{σ:St}{H H':Hp}{s:Wd}{b:V_}(I:Inv X pins σ H s)(hb:s.heap.objs.size<=b)(hn:H' b=none):fJ X pins H' b:=by
 refine⟨hn,mE (bp I.lt hb),I.Pl hb,.inr (a5 I.sz hb),λx c e z=>?_,λp hp z=>?_⟩
 ·obtain⟨v,q⟩:=I.cell x c e
  exact absurd (bp q.lt (by rw[z];exact hb)) (fO _)
 ·exact absurd (bp (aV (I.pin p hp).1) (by rw[z];exact hb)) (fO _)
structure Turn(P:Wc)(w:Wf)(K:PySem.W.Frag)(tg:Expr)(J:It)(fp:List V_)(it:V_)(tn:Nat->Heap->Prop):Prop where
 mem:it∈fp
 obj:∀i h,tn i h->∀b∈fp,∃o,h.get? b=some o/\∀v,o.data≠.cell v
 keep:∀i h h',tn i h->(∀b∈fp,∀o,h.get? b=some o->h'.get? b=some o)->tn i h'
 item:∀(X:Cx),X.prog=P->X.w=w->X.K=K->X.calm=true->∀(i:Nat)(pins:List (V_×Obj))(s:Wd)(σ:St)(H:Hp)(E:We->Wd->Prop),Inv X pins σ H s->(∀b∈fp,fJ X pins H b)->tn i s.heap->J.go i H->
  Wx (model P w) X.A (pyNext (.ref it)) (λr s1=>∃u,r=some u/\
   Wx (model P w) X.A (letOwnedTupleGo tg (.ref it) u) (λ_ s2=>∃x H',Inv X pins σ H' s2/\RelV x u/\J.zr i H x H'/\tn (i+1) s2.heap/\∀b∈fp,H' b=none) E s1) E s
 done:∀(X:Cx),X.prog=P->X.w=w->X.K=K->X.calm=true->∀(i:Nat)(pins:List (V_×Obj))(s:Wd)(σ:St)(H:Hp)(E:We->Wd->Prop),Inv X pins σ H s->(∀b∈fp,fJ X pins H b)->tn i s.heap->J.stop i H->
  Wx (model P w) X.A (pyNext (.ref it)) (λr s1=>r=none/\Inv X pins σ H s1) E s
 self:∀(A:V')(i:Nat)(s:Wd)(Q:We->Wd->Prop)(E:We->Wd->Prop),tn i s.heap->Q (.ref it) s->Wx (model P w) A (pyIter (.ref it)) Q E s
abbrev TI:=St->Hp->(It->Hp->Prop)->Prop
def Sh(X:Cx)(pins:List (V_×Obj))(σ:St)(tg:Expr)(R:It->Hp->Prop)(itv:We)(s2:Wd):Prop :=
 ∃(it:V_)(fp:List V_)(tn:Nat->Heap->Prop)(J:It)(H':Hp),itv= .ref it/\Inv X pins σ H' s2/\Turn X.prog X.w X.K tg J fp it tn/\tn 0 s2.heap/\(∀b∈fp,fJ X pins H' b)/\R J H'
def PI(X:Cx)(tg iter:Expr)(wi:TI):Prop :=
 ∀(pins:List (V_×Obj))(s:Wd)(σ:St)(H:Hp)(R:It->Hp->Prop),Inv X pins σ H s->wi σ H R->
  Wx (model X.prog X.w) X.A (eval iter X.env) (λv s1=>Wx (model X.prog X.w) X.A (pyIter v) (Sh X pins σ tg R) X.xe s1) X.xe s
theorem pz{M:Model}{A:V'}{E:We->Wd->Prop}{s:Wd}{tg:Expr}{it:V_}{u:We}{o:Obj}{n:String}{vs:Array We}{Q:Unit->Wd->Prop}(ho:s.heap.get? it=some o)(hc:o.cls= .type n)(hd:o.data= .fields vs)
    (hn:["enumerate","zip","dict_itemiterator","dict_reverseitemiterator","odict_iterator","itertools.zip_longest","itertools.pairwise"].contains n=false)(hQ:Q () s):Wx M A (letOwnedTupleGo tg (.ref it) u) Q E s:=by
  unfold letOwnedTupleGo
  cases tg<;>first
    | exact WD hQ
    | (cases u<;>first
        | exact WD hQ
        | (refine Wy (wpAny_load ho ?_)
           rw[hc,hd]
           show Wx M A (if(["enumerate","zip","dict_itemiterator","dict_reverseitemiterator","odict_iterator","itertools.zip_longest","itertools.pairwise"].contains n&&vs[0]? == some (rawInt _))=true then _ else _) Q E s
           rw[if_neg (by intro h;rw[hn,Bool.false_and] at h;cases h)]
           exact WD hQ))
def Si(K:PySem.W.Frag)(a:V_):It :=
 ⟨λi H=>∃xs x,jY K H a xs/\xs[i]? =some x,λi H x H'=>H'=H/\∀xs,jY K H a xs->xs[i]? =some x,λi H=>∃xs,jY K H a xs/\xs.length<=i⟩
def Sj(K:PySem.W.Frag)(a:V_):It :=
 ⟨λi H=>∃xs x,eM K H a xs/\xs[i]? =some x,λi H x H'=>H'=H/\∀xs,eM K H a xs->xs[i]? =some x,λi H=>∃xs,eM K H a xs/\xs.length<=i⟩
def FX(lo:Int)(n:Nat):It:=⟨λi _=>i < n,λi H x H'=>H'=H/\x= .int (lo+i),λi _=>n<=i⟩
theorem ya{P:Wc}{w:Wf}{K:PySem.W.Frag}{tg:Expr}(a it:V_):Turn P w K tg (Si K a) [it] it (λi h=>h.IsListIter it a i) where
 mem:=by simp
 obj:=λi h st b hb=>by
  have e:b=it:=by simpa using hb
  subst e
  obtain⟨o,e,c,d⟩:=st
  exact⟨o,e,λv z=>by rw[d] at z;cases z⟩
 keep:=λi h h' st k=>st.at λo e=>k it (by simp) o e
 item:=by
  intro X hP hw hK hc i pins s σ H E I hf st hg
  subst hP hw hK
  obtain⟨xs,x,hq,hx⟩:=hg
  obtain⟨its,rv,p,hz⟩:=I.list hq
  obtain⟨u,hu,ru⟩:=rv.get hx
  obtain⟨f0,f1,f2,f3,f4,f5⟩:=hf it (by simp)
  refine wpAny_pyNext_list_item st p.isList (x:=u) (by simpa using hu) λh' st' sb=>?_
  have I1:Inv X pins σ H { s with heap:=h' }:=I.turned (t':=s.toks) (λb o hb e=>(sb.2 b hb).trans e) f0 f1 f3 f4 f5
  obtain⟨o,e,c,d⟩:=id st'
  exact⟨u,rfl,pz (s:={ s with heap:=h' }) e c d (by decide) ⟨x,H,I1,ru,⟨rfl,λys hy=>by rw[I.zE hy hq];exact hx⟩,st',λb hb=>(hf b hb).1⟩⟩
 done:=by
  intro X hP hw hK hc i pins s σ H E I hf st hg
  subst hP hw hK
  obtain⟨xs,hq,hx⟩:=hg
  obtain⟨its,rv,p,hz⟩:=I.list hq
  obtain⟨f0,f1,f2,f3,f4,f5⟩:=hf it (by simp)
  have hl:=rv.length
  exact wpAny_pyNext_list_end (I.ok.hd hc) st p.isList (by simp;omega) λh' eb=>⟨rfl,I.turned (t':=s.toks) (λb o hb e=>eb b o hb e) f0 f1 f3 f4 f5⟩
 self:=λ_ _ _ _ _ st h=>wpAny_pyIter_listiter st h
theorem uE{P:Wc}{w:Wf}{K:PySem.W.Frag}{tg:Expr}(a it:V_):Turn P w K tg (Sj K a) [it] it (λi h=>h.IsTupleIter it a i) where
 mem:=by simp
 obj:=λi h st b hb=>by
  have e:b=it:=by simpa using hb
  subst e
  obtain⟨o,e,c,d⟩:=st
  exact⟨o,e,λv z=>by rw[d] at z;cases z⟩
 keep:=λi h h' st k=>st.at λo e=>k it (by simp) o e
 item:=by
  intro X hP hw hK hc i pins s σ H E I hf st hg
  subst hP hw hK
  obtain⟨xs,x,hq,hx⟩:=hg
  obtain⟨its,rv,p,hz⟩:=I.tuple hq
  obtain⟨u,hu,ru⟩:=rv.get hx
  obtain⟨f0,f1,f2,f3,f4,f5⟩:=hf it (by simp)
  refine wpAny_pyNext_tuple_item st (show s.heap.IsTuple a its.toArray from p) (x:=u) (by simpa using hu) λh' st' sb=>?_
  have I1:Inv X pins σ H { s with heap:=h' }:=I.turned (t':=s.toks) (λb o hb e=>(sb.2 b hb).trans e) f0 f1 f3 f4 f5
  obtain⟨o,e,c,d⟩:=id st'
  exact⟨u,rfl,pz (s:={ s with heap:=h' }) e c d (by decide) ⟨x,H,I1,ru,⟨rfl,λys hy=>by rw[I.x9 hy hq];exact hx⟩,st',λb hb=>(hf b hb).1⟩⟩
 done:=by
  intro X hP hw hK hc i pins s σ H E I hf st hg
  subst hP hw hK
  obtain⟨xs,hq,hx⟩:=hg
  obtain⟨its,rv,p,hz⟩:=I.tuple hq
  obtain⟨f0,f1,f2,f3,f4,f5⟩:=hf it (by simp)
  have hl:=rv.length
  exact wpAny_pyNext_tuple_end (I.ok.hd hc) st (show s.heap.IsTuple a its.toArray from p) (by simp;omega) λh' eb=>⟨rfl,I.turned (t':=s.toks) (λb o hb e=>eb b o hb e) f0 f1 f3 f4 f5⟩
 self:=λ_ _ _ _ _ st h=>wpAny_pyIter_tupleiter st h
theorem uF{P:Wc}{w:Wf}{K:PySem.W.Frag}{tg:Expr}(it:V_)(lo:Int)(n:Nat):Turn P w K tg (FX lo n) [it] it (λi h=>IsRangeIter h it (lo+(i:Nat) * 1) ((n:Int) - (i:Nat)) 1) where
 mem:=by simp
 obj:=λi h st b hb=>by
  have e:b=it:=by simpa using hb
  subst e
  exact⟨_,st,λv z=>by
   have z':Data.fields _=Data.cell v:=z
   cases z'⟩
 keep:=λi h h' st k=>k it (by simp) _ st
 item:=by
  intro X hP hw hK hc i pins s σ H E I hf st hg
  subst hP hw hK
  obtain⟨f0,f1,f2,f3,f4,f5⟩:=hf it (by simp)
  have W:=Walks.range (prog:=X.prog) (w:=X.w) (I.ok.hd hc) it lo 1 n
  refine W.item i s _ _ hg st λv h' tk hv st' kk=>?_
  obtain⟨t,rfl⟩:=hv
  have I1:Inv X pins σ H { s with heap:=h',toks:=tk }:=I.turned (λb o hb e=>kk b o (by simpa using hb) e) f0 f1 f3 f4 f5
  refine⟨_,rfl,pz (s:={ s with heap:=h',toks:=tk }) (n:="range_iterator") st' rfl rfl (by decide) ⟨.int (lo+i),H,I1,⟨t,?_⟩,⟨rfl,rfl⟩,st',λb hb=>(hf b hb).1⟩⟩
  rw[Int.mul_one]
 done:=by
  intro X hP hw hK hc i pins s σ H E I hf st hg
  subst hP hw hK
  obtain⟨f0,f1,f2,f3,f4,f5⟩:=hf it (by simp)
  exact wpAny_pyNext_range_end (I.ok.hd hc) st (by have:n<=i:=hg;omega) λh' eb=>⟨rfl,I.turned (t':=s.toks) (λb o hb e=>eb b o hb e) f0 f1 f3 f4 f5⟩
 self:=λ_ _ _ _ _ st h=>wpAny_pyIter_rangeiter st h
section
variable {X:Cx} {tg:Expr}
theorem su{pins:List (V_×Obj)}{σ:St}{H:Hp}{s:Wd}{R:It->Hp->Prop}{E:We->Wd->Prop}{lo hi:Int}{t u v:Tok}{tk:Nat}(I:Inv X pins σ H s)(h1:-(2 ^ 62)<=lo)(h2:lo < 2 ^ 62)(h3:-(2 ^ 62)<=hi)(h4:hi < 2 ^ 62)
  (q:R (FX lo (hi - lo).toNat) H):Wx (model X.prog X.w) X.A (pyIter (.ref s.heap.objs.size)) (Sh X pins σ tg R) E { s with heap:=s.heap.push { cls:=.type "range",data:=.fields #[.int lo t,.int hi u,.int 1 v] },toks:=tk }:=by
 refine wpAny_pyIter_range (IsRange.new ..) (small_one h1 h2 h3 h4) ?_
 have I1:Inv X pins σ H { s with heap:=s.heap.push { cls:=.type "range",data:=.fields #[.int lo t,.int hi u,.int 1 v] },toks:=tk }:=I.kept λb o e=>a7 _ e
 refine⟨(s.heap.push { cls:=.type "range",data:=.fields #[.int lo t,.int hi u,.int 1 v] }).objs.size,[(s.heap.push { cls:=.type "range",data:=.fields #[.int lo t,.int hi u,.int 1 v] }).objs.size],_,_,H,rfl,
  I1.kept (t':=tk) λb o e=>a7 _ e,uF _ lo (hi - lo).toNat,?_,λb hb=>?_,q⟩
 ·have e1:lo+((0:Nat):Int) * 1=lo:=by simp
  have e2:(((hi - lo).toNat:Nat):Int) - ((0:Nat):Int)=qm lo hi 1:=by rw[rangeSize_one];split<;>omega
  show IsRangeIter _ _ (lo+((0:Nat):Int) * 1) ((((hi - lo).toNat:Nat):Int) - ((0:Nat):Int)) 1
  rw[e1,e2]
  exact bM _ rfl
 ·have e:b=(s.heap.push { cls:=.type "range",data:=.fields #[.int lo t,.int hi u,.int 1 v] }).objs.size:=by simpa using hb
  subst e
  exact I1.zK (ay _) (I1.hok.fresh (ay _))
def LK(ta:TA):TI:=λσ H R=>ta σ H λvs H1=>∃j:Int,vs=[.int j]/\-(2 ^ 62)<=j/\j < 2 ^ 62/\R (FX 0 j.toNat) H1
def LL(ta:TA):TI:=λσ H R=>ta σ H λvs H1=>∃i j:Int,vs=[.int i,.int j]/\(-(2 ^ 62)<=i/\i < 2 ^ 62/\-(2 ^ 62)<=j/\j < 2 ^ 62)/\R (FX i (j - i).toNat) H1
theorem pA{a:Expr}{ta:TA}{p pos:Pos}(hg:Gl X "range")(hm:X.mg "range"=none)(ha:PA X [a] ta)(hs:Ww [a] X.env=[(false,eval a X.env)]:=by rfl):PI X tg (.Call (.Name "range" p) [a] [] pos) (LK ta):=by
 intro pins s σ H R I h
 refine Call_ (k7 I hg hm boot_range (qo (a8 (ha pos pins s σ H _ I h) λus s1 ⟨vs,H1,I1,r1,q1⟩=>?_) hs rfl))
 obtain⟨j,e,q1,q2,q⟩:=q1
 subst e
 cases r1 with
 | cons r rr=>
  cases rr
  obtain⟨t,rfl⟩:=r
  exact call_range_1 (su I1 (by omega) (by omega) q1 q2 (by simpa using q))
theorem pB{a b:Expr}{ta:TA}{p pos:Pos}(hg:Gl X "range")(hm:X.mg "range"=none)(ha:PA X [a,b] ta)(hs:Ww [a,b] X.env=[(false,eval a X.env),(false,eval b X.env)]:=by rfl)(hs2:Ww [b] X.env=[(false,eval b X.env)]:=by rfl) :
  PI X tg (.Call (.Name "range" p) [a,b] [] pos) (LL ta):=by
 intro pins s σ H R I h
 refine Call_ (k7 I hg hm boot_range (qo (a8 (ha pos pins s σ H _ I h) λus s1 ⟨vs,H1,I1,r1,q1⟩=>?_) (by rw[hs,hs2]) (by rw[hs2];rfl)))
 obtain⟨i,j,e,⟨q1,q2,q3,q4⟩,q⟩:=q1
 subst e
 cases r1 with
 | cons r rr=>
  cases rr with
  | cons r' rr=>
   cases rr
   obtain⟨t,rfl⟩:=r
   obtain⟨t',rfl⟩:=r'
   exact call_range_2 (su I1 q1 q2 q3 q4 q)
def Pz(wi:TI)(g:TG)(tb:TS):TS:=λD σ H=>wi σ H λJ H1=>∃W:Nat->Nat->St->Hp->Prop,(∃m,W 0 m σ H1)/\∀i m σ H,W i m σ H->
 (J.stop i H/\D.nx σ H)\/(J.go i H/\∃N:St->Hp->Prop,(∀σ' H',N σ' H'->∃m',m' < m/\W (i+1) m' σ' H')/\∀x H',J.zr i H x H'->g x σ H' λσ2 H2=>tb { D with nx:=N,ct:=N,bk:=D.nx } σ2 H2)
def fo(fp:List V_)(h:Heap):List (V_×Obj):=fp.filterMap λb=>(h.get? b).map λo=>(b,o)
theorem gM{fp:List V_}{h:Heap}{b:V_}{o:Obj}(hb:b∈fp)(e:h.get? b=some o):(b,o)∈fo fp h:=List.mem_filterMap.mpr ⟨b,hb,by rw[e];rfl⟩
theorem yb{fp:List V_}{h:Heap}{p:V_×Obj}(hp:p∈fo fp h):p.1∈fp/\h.get? p.1=some p.2:=by
 obtain⟨b,hb,e⟩:=List.mem_filterMap.mp hp
 cases q:h.get? b with
 | none=>rw[q] at e;cases e
 | some o=>
  rw[q] at e
  have e':(b,o)=p:=Option.some.inj e
  subst e'
  exact⟨hb,q⟩
theorem Inv.pinned{pins:List (V_×Obj)}{σ:St}{H:Hp}{s:Wd}{fp:List V_}(I:Inv X pins σ H s)(hf:∀b∈fp,fJ X pins H b)(ho:∀b∈fp,∃o,s.heap.get? b=some o/\∀v,o.data≠.cell v):Inv X (pins++fo fp s.heap) σ H s :=
 I.wF λp hp=>(List.mem_append.mp hp).elim (λz=>I.pin p (gN _ z)) λz=>by
  obtain⟨hb,e⟩:=yb z
  obtain⟨f0,f1,f2,_⟩:=hf p.1 hb
  obtain⟨o,e',d⟩:=ho p.1 hb
  rw[e] at e';cases e'
  exact⟨e,f0,f1,f2,d⟩
theorem Inv.j7{pins pl:List (V_×Obj)}{σ:St}{H:Hp}{s:Wd}(I:Inv X (pins++pl) σ H s):Inv X pins σ H s:=I.wF λp hp=>I.pin p (gN _ (GX _ hp))
theorem qp{iter:Expr}{body:List Stmt}{wi:TI}{g:TG}{tb:TS}{pos:Pos}(hp:PassesOwn (model X.prog X.w) X.A X.env X.xe)(hc:X.calm=true)(hi:PI X tg iter wi)(hg:PG X tg g)(hb:zB X body tb)
  (hs:∀x,Wn iter X.env x=pure x:=by intro _;rfl):PS X (.For tg iter body [] pos) (Pz wi g tb):=by
 intro pins s σ H D I h
 refine wpAny_For (a8 (hi pins s σ H _ I h) λv s1 h1=>a8 h1 λitv s2 h2=>?_) hs
 obtain⟨it,fp,tn,J,H2,e,I2,T,st2,f2,W,⟨m0,w0⟩,turn⟩:=h2
 subst e
 -- what stays true of the Hi objects through the loop
 have Hj:∀{H':Hp},(∀b∈fp,H' b=none)->∀b∈fp,fJ X pins H' b:=λhn b hb=>⟨hn b hb,(f2 b hb).2⟩
 refine codeAny_forLoop_any (λn s'=>∃i σ' H',Inv X pins σ' H' s'/\tn i s'.heap/\(∀b∈fp,H' b=none)/\W i n σ' H') ?_ m0 ⟨0,σ,H2,I2,st2,λb hb=>(f2 b hb).1,w0⟩
 rintro n s3 ⟨i,σ3,H3,I3,st3,Sk,w3⟩
 rcases turn i n σ3 H3 w3 with ⟨stop,qn⟩ | ⟨go,N,hN,step⟩
 ·refine wpAny_passesOwn hp (a8 (T.done X rfl rfl rfl hc i pins s3 σ3 H3 X.xe I3 (Hj Sk) st3 stop) λr s4 ⟨hr,I4⟩=>?_)
  subst hr
  exact wpAny_execs_nil ⟨σ3,H3,I4,qn⟩
 ·refine wpAny_passesOwn hp (a8 (T.item X rfl rfl rfl hc i pins s3 σ3 H3 X.xe I3 (Hj Sk) st3 go) λr s4 ⟨u,hr,h4⟩=>?_)
  subst hr
  refine wpAny_passesOwn hp (a8 h4 λ_ s5 ⟨x,H5,I5,r5,y5,zL,Oh⟩=>?_)
  have T9:=I5.pinned (Hj Oh) (T.obj _ _ zL)
  refine wpAny_passesOwn hp (a8 (hg _ s5 σ3 H5 x u _ T9 r5 (step x H5 y5)) λ_ s6 ⟨σ6,H6,I6,q6⟩=>?_)
  refine wpAny_passesOwn hp (a8 (hb _ s6 σ6 H6 _ I6 q6) λf s7 q7=>?_)
  have again:∀{σ7:St}{H7:Hp},Inv X (pins++fo fp s5.heap) σ7 H7 s7->N σ7 H7->∃m,m < n/\∃i σ' H',Inv X pins σ' H' s7/\tn i s7.heap/\(∀b∈fp,H' b=none)/\W i m σ' H':=λ{σ7 H7} I7 n7=>by
   obtain⟨m',hm,w7⟩:=hN σ7 H7 n7
   refine⟨m',hm,i+1,σ7,H7,I7.j7,T.keep _ _ _ zL λb hb o e=>(I7.pin (b,o) (gN _ (gN _ (gM hb e)))).1,λb hb=>?_,w7⟩
   obtain⟨o,e,d⟩:=T.obj _ _ zL b hb
   exact(I7.pin (b,o) (gN _ (gN _ (gM hb e)))).2.1
  cases f with
  | next=>obtain⟨σ7,H7,I7,n7⟩:=q7;exact again I7 n7
  | cont=>obtain⟨σ7,H7,I7,n7⟩:=q7;exact again I7 n7
  | brk=>obtain⟨σ7,H7,I7,q7⟩:=q7;exact⟨σ7,H7,I7.j7,q7⟩
  | ret v=>obtain⟨x7,σ7,H7,I7,r7,q7⟩:=q7;exact⟨x7,σ7,H7,I7.j7,r7,q7⟩
end
abbrev R2:=V->V->Hp->VK->Prop
def eF(X:Cx)(f:We->We->Sem We)(r:R2):Prop :=
 ∀(pins:List (V_×Obj))(s:Wd)(σ:St)(H:Hp)(x y:V)(v u:We)(Q:VK),Inv X pins σ H s->RelV x v->RelV y u->r x y H Q->
  Wx (model X.prog X.w) X.A (f v u) (EP X pins σ Q) X.xe s
def PB(X:Cx)(f:We->Sem We)(r:V->Hp->VK->Prop):Prop :=
 ∀(pins:List (V_×Obj))(s:Wd)(σ:St)(H:Hp)(x:V)(v:We)(Q:VK),Inv X pins σ H s->RelV x v->r x H Q->
  Wx (model X.prog X.w) X.A (f v) (EP X pins σ Q) X.xe s
def cH(X:Cx)(f:We)(r:List V->Hp->VK->Prop):Prop :=
 ∀(pins:List (V_×Obj))(s:Wd)(σ:St)(H:Hp)(xs:List V)(us:List We)(Q:VK),Inv X pins σ H s->Vals xs us->r xs H Q->
  Wx (model X.prog X.w) X.A (call f us) (EP X pins σ Q) X.xe s
def PC(X:Cx)(r:V->Hp->(Bool->Hp->Prop)->Prop):Prop :=
 ∀(pins:List (V_×Obj))(s:Wd)(σ:St)(H:Hp)(x:V)(v:We)(Q:Bool->Hp->Prop),Inv X pins σ H s->RelV x v->r x H Q->
  Wx (model X.prog X.w) X.A (truthy v) (TP X pins σ Q) X.xe s
def LM(r:R2)(ta tb:TE):TE:=λσ H Q=>ta σ H λx H1=>tb σ H1 λy H2=>r x y H2 Q
def T_(r:V->Hp->VK->Prop)(ta:TE):TE:=λσ H Q=>ta σ H λx H1=>r x H1 Q
def rI(C:Int->Int->Prop)(g:Int->Int->V):R2:=λx y H Q=>∃i j,x= .int i/\y= .int j/\C i j/\Q (g i j) H
def Hk(g:Int->Int->V):R2:=λx y H Q=>∃i j,x= .int i/\y= .int j/\Q (g i j) H
def rU(g:Int->V):V->Hp->VK->Prop:=λx H Q=>∃i,x= .int i/\Q (g i) H
section
variable {X:Cx} {a b c:Expr} {ta tb tc:TE} {pos:Pos}
theorem Hl(ha:PE X a ta)(hb:PE X b tb){pins:List (V_×Obj)}{s:Wd}{σ:St}{H:Hp}{R:V->V->Hp->Prop}(I:Inv X pins σ H s)
  (h:ta σ H λx H1=>tb σ H1 λy H2=>R x y H2){Q:We->Wd->Prop}{f:We->We->Sem We}
  (hf:∀v u s2 x y H2,Inv X pins σ H2 s2->RelV x v->RelV y u->R x y H2->Wx (model X.prog X.w) X.A (f v u) Q X.xe s2) :
  Wx (model X.prog X.w) X.A (eval a X.env) (λv s₁=>Wx (model X.prog X.w) X.A (eval b X.env) (λu s₂=>Wx (model X.prog X.w) X.A (f v u) Q X.xe s₂) X.xe s₁) X.xe s:=by
 refine a8 (ha pins s σ H _ I h) λv s1 ⟨x,H1,I1,r1,q1⟩=>?_
 refine a8 (hb pins s1 σ H1 _ I1 q1) λu s2 ⟨y,H2,I2,r2,q2⟩=>?_
 exact hf v u s2 x y H2 I2 r1 r2 q2
theorem LN{op:Operator}{r:R2}(ho:eF X (Wh op) r)(ha:PE X a ta)(hb:PE X b tb):PE X (.BinOp a op b pos) (LM r ta tb):=by
 intro pins s σ H Q I h
 exact wpAny_BinOp (Hl ha hb I h λv u s2 x y H2 I2 rx ry q=>ho pins s2 σ H2 x y v u Q I2 rx ry q)
theorem LO{op:UnaryOp}{r:V->Hp->VK->Prop}(ho:PB X (unaryOp op) r)(ha:PE X a ta):PE X (.UnaryOp op a pos) (T_ r ta):=by
 intro pins s σ H Q I h
 exact UnaryOp_ (a8 (ha pins s σ H _ I h) λv s1 ⟨x,H1,I1,r1,q1⟩=>ho pins s1 σ H1 x v Q I1 r1 q1)
theorem Oi{f:We->We->Sem We}{C:Int->Int->Prop}{g:Int->Int->Int}
  (rule:∀(i j:Int)(t u:Tok)(s:Wd)(Q:We->Wd->Prop)(E:We->Wd->Prop),C i j->Q (.int (g i j) s.toks) { s with toks:=s.toks+1 }->Wx (model X.prog X.w) X.A (f (.int i t) (.int j u)) Q E s) :
  eF X f (rI C λi j=> .int (g i j)):=by
 intro pins s σ H x y v u Q I rx ry h
 obtain⟨i,j,rfl,rfl,hc,q⟩:=h
 obtain⟨t,rfl⟩:=rx
 obtain⟨t',rfl⟩:=ry
 exact rule i j t t' s _ _ hc ⟨.int (g i j),H,I.tok _,⟨_,rfl⟩,q⟩
theorem LP{f:We->We->Sem We}{g:Int->Int->Int}
  (rule:∀(i j:Int)(t u:Tok)(s:Wd)(Q:We->Wd->Prop)(E:We->Wd->Prop),Q (.int (g i j) s.toks) { s with toks:=s.toks+1 }->Wx (model X.prog X.w) X.A (f (.int i t) (.int j u)) Q E s) :
  eF X f (Hk λi j=> .int (g i j)):=by
 intro pins s σ H x y v u Q I rx ry h
 obtain⟨i,j,rfl,rfl,q⟩:=h
 obtain⟨t,rfl⟩:=rx
 obtain⟨t',rfl⟩:=ry
 exact rule i j t t' s _ _ ⟨.int (g i j),H,I.tok _,⟨_,rfl⟩,q⟩
theorem Hm{f:We->We->Sem We}{g:Int->Int->Bool}
  (rule:∀(i j:Int)(t u:Tok)(s:Wd)(Q:We->Wd->Prop)(E:We->Wd->Prop),Q (.bool (g i j)) s->Wx (model X.prog X.w) X.A (f (.int i t) (.int j u)) Q E s) :
  eF X f (Hk λi j=> .bl (g i j)):=by
 intro pins s σ H x y v u Q I rx ry h
 obtain⟨i,j,rfl,rfl,q⟩:=h
 obtain⟨t,rfl⟩:=rx
 obtain⟨t',rfl⟩:=ry
 exact rule i j t t' s _ _ ⟨.bl (g i j),H,I,rfl,q⟩
def PD(i j:Int):Prop:=0<=j/\j<=1000000/\i.natAbs < 2 ^ 64
theorem Hn:eF X (Wh .Add) (Hk λi j=> .int (i+j)):=LP λ_ _ _ _ _ _ _ q=>add_int q
theorem Ho:eF X (Wh .Sub) (Hk λi j=> .int (i - j)):=LP λ_ _ _ _ _ _ _ q=>sub_int q
theorem Hq:eF X (Wh .Pow) (rI PD λi j=> .int (i ^ j.toNat)):=Oi λ_ _ _ _ _ _ _ hc q=>pow_int_small hc.1 hc.2.1 hc.2.2 q
theorem T'{f:We->Sem We}{g:Int->Int}
  (rule:∀(i:Int)(t:Tok)(s:Wd)(Q:We->Wd->Prop)(E:We->Wd->Prop),Q (.int (g i) s.toks) { s with toks:=s.toks+1 }->Wx (model X.prog X.w) X.A (f (.int i t)) Q E s) :
  PB X f (rU λi=> .int (g i)):=by
 intro pins s σ H x v Q I rx h
 obtain⟨i,rfl,q⟩:=h
 obtain⟨t,rfl⟩:=rx
 exact rule i t s _ _ ⟨.int (g i),H,I.tok _,⟨_,rfl⟩,q⟩
theorem Hr:PB X (unaryOp .USub) (rU λi=> .int (-i)):=T' λ_ _ _ _ _ q=>neg_int q
end
section
variable {X:Cx} {a b c:Expr} {ta tb tc:TE} {pos:Pos}
theorem qq{pins:List (V_×Obj)}{σ:St}{H:Hp}{s:Wd}{Q:VK}{k k':Bool}(I:Inv X pins σ H s)(q:Q (.bl k) H)(e:k=k'):EP X pins σ Q (.bool k') s:=by
 subst e
 exact⟨.bl k,H,I,rfl,q⟩
theorem LQ:eF X (Wm .Lt) (Hk λi j=> .bl (decide (i < j))):=Hm λ_ _ _ _ _ _ _ q=>lt_int q
theorem LR:eF X (Wm .LtE) (Hk λi j=> .bl (decide (i<=j))):=Hm λ_ _ _ _ _ _ _ q=>le_int q
theorem LS:eF X (Wm .Gt) (Hk λi j=> .bl (decide (j < i))):=Hm λ_ _ _ _ _ _ _ q=>gt_int q
theorem yc:eF X (Wm .Lt) (λx y H Q=>∃i j,x= .str i/\y= .str j/\Q (.bl (decide (i.cps.toList < j.cps.toList))) H):=by
 intro pins s σ H x y v u Q I rx ry h
 obtain⟨i,j,rfl,rfl,q⟩:=h
 obtain⟨t,rfl⟩:=rx
 obtain⟨t',rfl⟩:=ry
 exact lt_str (qq I q rfl)
theorem yd:eF X (Wm .In) (λx y H Q=>∃i j,x= .str i/\y= .str j/\Q (.bl (!(Ht j i 0 j.length 1).isEmpty)) H):=by
 intro pins s σ H x y v u Q I rx ry h
 obtain⟨i,j,rfl,rfl,q⟩:=h
 obtain⟨t,rfl⟩:=rx
 obtain⟨t',rfl⟩:=ry
 exact in_str (qq I q rfl)
theorem Hu:eF X (Wm .Is) (λx y H Q=>y= .non/\Q (.bl (decide (x= .non))) H):=by
 intro pins s σ H x y v u Q I rx ry h
 obtain⟨rfl,q⟩:=h
 cases ry
 refine is_none_gen (qq I q ?_)
 cases x<;>first
  | (cases rx;rfl)
  | (obtain⟨t,rfl⟩:=rx;rfl)
theorem DN:eF X (Wm .IsNot) (λx y H Q=>y= .non/\Q (.bl (!decide (x= .non))) H):=by
 intro pins s σ H x y v u Q I rx ry h
 obtain⟨rfl,q⟩:=h
 cases ry
 refine isnot_none_gen (qq I q ?_)
 cases x<;>first
  | (cases rx;rfl)
  | (obtain⟨t,rfl⟩:=rx;rfl)
theorem DO{op:CmpOp}{r:R2}(ho:eF X (Wm op) r)(ha:PE X a ta)(hb:PE X b tb)(hm:Wg op b=false):PE X (.Compare a [op] [b] pos) (LM r ta tb):=by
 intro pins s σ H Q I h
 exact wpAny_Compare1 (Hl ha hb I h λv u s2 x y H2 I2 rx ry q=>ho pins s2 σ H2 x y v u Q I2 rx ry q) hm
def FY(t:TE):TT:=λσ H Q=>t σ H λx H'=>∃k,x= .bl k/\Q k H'
theorem DP{op:CmpOp}{r:R2}(ho:eF X (Wm op) r)(ha:PE X a ta)(hb:PE X b tb)(hm:Wg op b=false):PT X (.Compare a [op] [b] pos) (FY (LM r ta tb)):=by
 intro pins s σ H Q I h
 refine wpAny_isTrue_Compare1 (a8 (ha pins s σ H _ I h) λv s1 ⟨x,H1,I1,r1,q1⟩=>a8 (hb pins s1 σ H1 _ I1 q1) λu s2 ⟨y,H2,I2,r2,q2⟩=>
  a8 (ho pins s2 σ H2 x y v u _ I2 r1 r2 q2) λc s3 ⟨z,H3,I3,r3,k,e,q3⟩=>?_) hm
 subst e
 cases r3
 exact WE ⟨H3,I3,q3⟩
def uG(r r':R2)(ta tb tc:TE):TE:=λσ H Q=>ta σ H λx H1=>tb σ H1 λy H2=>r x y H2 λz H3=>∃k,z= .bl k/\
 (if k=true then tc σ H3 λw' H4=>r' y w' H4 Q else Q (.bl false) H3)
theorem zM{op op':CmpOp}{r r':R2}(ho:eF X (Wm op) r)(ho':eF X (Wm op') r')(ha:PE X a ta)(hb:PE X b tb)(hc:PE X c tc)
  (hm:lastMarks [op,op'] [b,c]=false:=by with_unfolding_all rfl):PE X (.Compare a [op,op'] [b,c] pos) (uG r r' ta tb tc):=by
 intro pins s σ H Q I h
 refine Compare_chain (a8 (ha pins s σ H _ I h) λv s1 ⟨x,H1,I1,r1,q1⟩=>chain_link (a8 (hb pins s1 σ H1 _ I1 q1) λu s2 ⟨y,H2,I2,r2,q2⟩=>
  a8 (ho pins s2 σ H2 x y v u _ I2 r1 r2 q2) λd s3 ⟨z,H3,I3,r3,k,e,q3⟩=>?_)) hm
 subst e
 cases r3
 refine WE ?_
 cases k with
 | false=>exact ite_ff ⟨.bl false,H3,I3,rfl,q3⟩
 | true=>exact ite_tt (chain_last (a8 (hc pins s3 σ H3 _ I3 q3) λw' s4 ⟨z',H4,I4,r4,q4⟩=>ho' pins s4 σ H4 y z' u w' Q I4 r2 r4 q4))
theorem zN{op op':CmpOp}{r r':R2}(ho:eF X (Wm op) r)(ho':eF X (Wm op') r')(ha:PE X a ta)(hb:PE X b tb)(hc:PE X c tc)
  (hm:lastMarks [op,op'] [b,c]=false:=by with_unfolding_all rfl):PT X (.Compare a [op,op'] [b,c] pos) (FY (uG r r' ta tb tc)):=by
 intro pins s σ H Q I h
 refine isTrue_chain (a8 (ha pins s σ H _ I h) λv s1 ⟨x,H1,I1,r1,q1⟩=>test_link (a8 (hb pins s1 σ H1 _ I1 q1) λu s2 ⟨y,H2,I2,r2,q2⟩=>
  a8 (ho pins s2 σ H2 x y v u _ I2 r1 r2 q2) λd s3 ⟨z,H3,I3,r3,k,e,q3⟩=>?_)) hm
 subst e
 cases r3
 refine WE ?_
 cases k with
 | false=>
  obtain⟨k',e',q'⟩:=q3
  cases e'
  exact ite_ff ⟨H3,I3,q'⟩
 | true=>
  refine ite_tt (test_last (a8 (hc pins s3 σ H3 _ I3 q3) λw' s4 ⟨z',H4,I4,r4,q4⟩=>a8 (ho' pins s4 σ H4 y z' u w' _ I4 r2 r4 q4) λd' s5 ⟨z2,H5,I5,r5,k2,e2,q5⟩=>?_))
  subst e2
  cases r5
  exact WE ⟨H5,I5,q5⟩
def LU(K:PySem.W.Frag)(x:V)(H:Hp)(k:Bool):Prop :=
 match x with
 | .non=>k=false
 | .bl b=>k=b
 | .int i=>k=(i != 0)
 | .str y=>y.length<=Wu/\k=((y.length:Int) != 0)
 | .GQ y=>y.size<=Wu/\k=((y.size:Int) != 0)
 | .ref p=>(∃xs,jY K H p xs/\k= !xs.isEmpty)\/(∃xs,eM K H p xs/\k= !xs.isEmpty)\/∃kvs,H p=some (.dK kvs)/\k= !kvs.isEmpty
 | _=>False
theorem uH{κ:Type}{kvs:List (κ×V)}{vs:List (κ×We)}(r:KV kvs vs):(!vs.isEmpty)= !kvs.isEmpty:=by
 cases r<;>rfl
theorem ng{xs:List V}{its:List We}(r:Vals xs its):(!its.toArray.isEmpty)= !xs.isEmpty:=by
 cases r<;>simp
theorem jG:(Wu:Nat) < 2 ^ 63:=by rw[sizeLine_eq];decide
theorem Hv:PC X (λx H Q=>∃k,LU X.K x H k/\Q k H):=by
 intro pins s σ H x v Q I rx h
 obtain⟨k,e,q⟩:=h
 have hl:=jG
 have hs:Wu=16777216:=sizeLine_eq
 cases x with
 | non=>
  cases rx
  have e':k=false:=e
  subst e'
  exact truthy_none ⟨H,I,q⟩
 | bl b=>
  cases rx
  have e':k=b:=e
  subst e'
  exact WE ⟨H,I,q⟩
 | int i=>
  obtain⟨t,rfl⟩:=rx
  have e':k=(i != 0):=e
  subst e'
  exact PySem.P.truthy_int ⟨H,I,q⟩
 | str y=>
  obtain⟨t,rfl⟩:=rx
  obtain⟨hy,e'⟩:y.length<=Wu/\k=((y.length:Int) != 0):=e
  subst e'
  exact PySem.P.truthy_str (by omega) ⟨H,I.tok _,q⟩
 | GQ y=>
  obtain⟨t,rfl⟩:=rx
  obtain⟨hy,e'⟩:y.size<=Wu/\k=((y.size:Int) != 0):=e
  subst e'
  exact PySem.W.truthy_bytes (by omega) ⟨H,I.tok _,q⟩
 | ref p=>
  cases rx
  have e':(∃xs,jY X.K H p xs/\k= !xs.isEmpty)\/(∃xs,eM X.K H p xs/\k= !xs.isEmpty)\/∃kvs,H p=some (.dK kvs)/\k= !kvs.isEmpty:=e
  rcases e' with ⟨xs,hx,e'⟩ | ⟨xs,hx,e'⟩ | ⟨kvs,hx,e'⟩
  ·subst e'
   obtain⟨its,r,pl,hz⟩:=I.list hx
   have hlen:=r.length
   exact wpAny_truthy_list pl.isList (by simp only[aT];omega) ⟨H,I.tok _,by rw[ng r];exact q⟩
  ·subst e'
   obtain⟨its,r,pl,hz⟩:=I.tuple hx
   have hlen:=r.length
   exact truthy_tuple pl (by simp only[aT];omega) ⟨H,I.tok _,by rw[ng r];exact q⟩
  ·subst e'
   obtain⟨hz,hS,vs,r,m⟩:kvs.length<=Wu/\(p == sysModules)=false/\∃vs,KV kvs vs/\s.heap.DictOf (bE X.prog X.w) p vs:=I.hok p _ hx
   have hlen:kvs.length=vs.length:=Paired.length r
   exact wpAny_truthy_dict hS m (by omega) ⟨H,I.tok _,by rw[uH r];exact q⟩
 | _=>exact(show False from e).elim
theorem zO(ha:PE X a ta)(he:∀whole,isTrue a X.env whole=(do let v <-whole;standAt a.pos;holding [v] (truthy v))) :
  PT X a (λσ H Q=>ta σ H λx H'=>∃k,LU X.K x H' k/\Q k H'):=by
 intro pins s σ H Q I h
 exact isTrue_plain (a8 (ha pins s σ H _ I h) λv s1 ⟨x,H1,I1,r1,q1⟩=>Hv pins s1 σ H1 x v Q I1 r1 q1) (he _)
theorem uI:eF X (Wh .Add) (λx y H Q=>∃i j,x= .str i/\y= .str j/\i.length+j.length<=Wu/\Q (.str (i++j)) H):=by
 intro pins s σ H x y v u Q I rx ry h
 obtain⟨i,j,rfl,rfl,hz,q⟩:=h
 obtain⟨t,rfl⟩:=rx
 obtain⟨t',rfl⟩:=ry
 exact add_str (λt' tk=>⟨.str (i++j),H,I.tok _,⟨_,rfl⟩,q⟩) hz
theorem vals1{x:V}{us:List We}(r:Vals [x] us):∃u,us=[u]/\RelV x u:=by
 cases r with
 | cons r1 r2=>cases r2;exact⟨_,rfl,r1⟩
theorem vals2{x y:V}{us:List We}(r:Vals [x,y] us):∃u w',us=[u,w']/\RelV x u/\RelV y w':=by
 cases r with
 | cons r1 r2=>
  cases r2 with
  | cons r3 r4=>cases r4;exact⟨_,_,rfl,r1,r3⟩
theorem zP:cH X (.builtin "abs") (λxs H Q=>∃i,xs=[.int i]/\Q (.int (if i < 0 then -i else i)) H):=by
 intro pins s σ H xs us Q I r h
 obtain⟨i,rfl,q⟩:=h
 obtain⟨u,rfl,t,rfl⟩:=vals1 r
 exact call_abs_int λu tk=>⟨.int (if i < 0 then -i else i),H,I.tok _,⟨_,rfl⟩,q⟩
theorem ye(hc:X.calm=true):cH X (.builtin "max") (λxs H Q=>∃i j,xs=[.int i,.int j]/\Q (.int (if j > i then j else i)) H):=by
 intro pins s σ H xs us Q I r h
 obtain⟨i,j,rfl,q⟩:=h
 obtain⟨u,w',rfl,⟨t,rfl⟩,⟨t',rfl⟩⟩:=vals2 r
 refine max_two_ints (I.ok.hd hc) λh' tk k=>⟨_,H,I.kept k,?_,q⟩
 by_cases hj:j > i
 ·rw[if_pos hj,if_pos hj];exact⟨_,rfl⟩
 ·rw[if_neg hj,if_neg hj];exact⟨_,rfl⟩
theorem yf(hc:X.calm=true):cH X (.builtin "min") (λxs H Q=>∃i j,xs=[.int i,.int j]/\Q (.int (if j < i then j else i)) H):=by
 intro pins s σ H xs us Q I r h
 obtain⟨i,j,rfl,q⟩:=h
 obtain⟨u,w',rfl,⟨t,rfl⟩,⟨t',rfl⟩⟩:=vals2 r
 refine min_two_ints (I.ok.hd hc) λh' tk k=>⟨_,H,I.kept k,?_,q⟩
 by_cases hj:j < i
 ·rw[if_pos hj,if_pos hj];exact⟨_,rfl⟩
 ·rw[if_neg hj,if_neg hj];exact⟨_,rfl⟩
theorem qr:cH X (.type "str") (λxs H Q=>∃i,xs=[.int i]/\i.natAbs.log2 < 1920/\Q (.str (toString i)) H):=by
 intro pins s σ H xs us Q I r h
 obtain⟨i,rfl,hz,q⟩:=h
 obtain⟨u,rfl,t,rfl⟩:=vals1 r
 exact PySem.P.str_of_int hz ⟨.str _,H,I.tok _,⟨_,rfl⟩,q⟩
end
structure uJ(h:Heap)(x dx C:V_)(mA:Str->Option We):Prop where
 obj:h.get? x=some (PySem.W.instObj C dx)
 ns:h.Ns1 dx mA
 ne:dx≠x
theorem yg{h:Heap}{dx:V_}{mA:Str->Option We}(n:h.Ns1 dx mA):∃od,h.get? dx=some od/\∀name,PySem.W.lookIn name od=some (mA name):=by
 obtain⟨o,es,ep,ho,hd,hk,_,hm⟩:=n
 refine⟨o,ho,λname=>?_⟩
 have e:=hm name
 unfold nsFind findBy at e
 rw[<-Array.find?_toList] at e
 unfold PySem.W.lookIn
 rw[hd]
 dsimp only
 split
 ·rename_i y q
  rw[q] at e
  exact congrArg some e
 ·rename_i q
  rw[q] at e
  have a:es.toList.any (·.refKey)=false:=by
   rw[List.any_eq_false]
   intro y hy
   obtain⟨z,t,hkey⟩:=hk y (Array.mem_toList_iff.mp hy)
   simp[DictEntry.refKey,hkey]
  have a':¬es.toList.any (·.refKey)=true:=by rw[a];exact bz
  rw[if_neg a']
  exact congrArg some e
theorem uJ.look{h:Heap}{x dx C:V_}{mA:Str->Option We}(I:uJ h x dx C mA):∃od,PySem.W.InstAt h x (PySem.W.instObj C dx) C (some od)/\∀name,PySem.W.lookIn name od=some (mA name) :=
 let ⟨od,ho,hl⟩:=yg I.ns
 ⟨od,⟨I.obj,rfl,rfl,ho⟩,hl⟩
section
variable {prog:Wc} {w:Wf} {A:V'} {E:We->Wd->Prop} {s:Wd} {K:PySem.W.Frag} {x dx C f:V_} {mA:Str->Option We} {name:Str} {v:We}
theorem get_map{expr:Bool}{Q:We->Wd->Prop}(X:K.In s.heap)(I:uJ s.heap x dx C mA)(hg:PySem.W.plainGet K C name=true)(hh:PySem.W.hasDictIn K C=true)
  (ha:PySem.W.findIn K (.ref C) name=some none)(hv:mA name=some v)(hv':PySem.W.handedIn v=true)(h:Q v { s with toks:=s.toks+1 }) :
  Wx (model prog w) A (getAttr (.ref x) name expr) Q E s:=by
 obtain⟨od,J,hl⟩:=I.look
 exact PySem.W.get_value X J (PySem.W.plainGet_of hg).1 (PySem.W.findObj_own hh ha rfl (by rw[hl,hv])) hv' h
theorem zQ{pl:Sem Bool}{Q:We×List We->Wd->Prop}(X:K.In s.heap)(I:uJ s.heap x dx C mA)(hg:PySem.W.plainGet K C name=true)
  (hf:PySem.W.findIn K (.ref C) name=some (some (.ref f)))(ht:PySem.W.isFn K (.ref f)=true)(hv:mA name=none)(h:Q (.ref f,[.ref x]) s) :
  Wx (model prog w) A (getMethod (.ref x) name pl) Q E s:=by
 obtain⟨od,J,hl⟩:=I.look
 exact PySem.W.method_fn X J (PySem.W.plainGet_of hg).1 (PySem.W.plainGet_of hg).2 hf (beq_iff_eq.mp ht) (by show(PySem.W.lookIn name od).map (·.isSome)=some false;rw[hl,hv];rfl) h
theorem DQ{ns:List Str}{Q:Unit->Wd->Prop}(X:K.In s.heap)(I:uJ s.heap x dx C mA)
  (hs:PySem.W.findIn K (.ref C) "__setattr__"=some (some (.builtin "object.__setattr__")))(hp:PySem.W.plainOver K C=true)(ht:PySem.W.takerIn K C name=some none)(hh:PySem.W.hasDictIn K C=true)
  (hw:PySem.Within mA ns)(hsz:ns.length<=Wu)
  (h:∀h',uJ h' x dx C (λy=>if y=name then some v else mA y)->kZ dx s.heap h'->Q () { s with heap:=h',toks:=s.toks+2 }) :
  Wx (model prog w) A (setAttr (.ref x) name v) Q E s:=by
 obtain⟨od,J,hl⟩:=I.look
 refine PySem.W.set_plain X J hs (PySem.W.osa_open (s:={ s with toks:=s.toks+1 }) (r:=none) X J hp ht λb=>?_)
 obtain⟨cd,hc,hd'⟩:=PySem.W.any_some hh
 have hx:s.heap.get? x=some ⟨.ref C,some dx,.plain,#[]⟩:=I.obj
 refine Wy (WD (Wy (Wy (wpAny_loadPart hx (Wy (PySem.W.Looks.here (s:={ s with toks:=s.toks+1 }) (PySem.W.looks_clsIn X hc) ?_))))))
 rw[hd']
 refine WD (a:=some dx) (Wy (WD (Wy ?_)))
 refine wpAny_nsSet1 (s:={ s with toks:=s.toks+1 }) I.ns λh' hn2 hs2=>?_
 obtain⟨oD,esD,VL,Ua,Ub,Uc⟩:=hn2.count (PySem.Within.cons name v hw)
 refine Wy (wpAny_lookBehind Ua (by rw[Ub];exact pastItsLine_dict (a5 Uc (by rw[nh];omega))) ?_)
 exact WD (h _ ⟨(hs2.2 _ (bq I.ne)).trans I.obj,hn2,I.ne⟩ hs2)
theorem zR{R:Result->Wd->Prop}{vs:List We}{kw:List (Str×We)}(X:K.In s.heap)(hm:PySem.W.makesIn K C=true)
  (hi:PySem.W.findIn K (.ref C) "__init__"=some (some (.ref f)))(hf:PySem.W.typeIn K (.ref f)=some (.type "function"))
  (h:Wj (model prog w) (A.under (.builtin "type.__call__" ⟨.ref C::vs,kw⟩)) (.call (.ref f) ⟨.ref (s.heap.objs.size+1)::vs,kw⟩) (PySem.W.InitBack (s.heap.objs.size+1) R)
   { s with heap:=(s.heap.push PySem.W.emptyDict).push (PySem.W.instObj C s.heap.objs.size) }) :
  Wj (model prog w) A (.call (.ref C) ⟨vs,kw⟩) R s:=by
 obtain⟨hh,g,d,t,os⟩:=s
 exact PySem.W.make_core (PySem.W.makes_of X hm) (PySem.W.looks_findIn X hi) (λself=>PySem.W.bind_fn X self hf) (.inl rfl) h
end
def gO(f:Str)(v:V):List (Str×V)->List (Str×V)
 | []=>[(f,v)]
 | (g,x)::r=>if g=f then(g,v)::r else(g,x)::gO f v r
theorem lX(f g:Str)(v:V):∀fs:List (Str×V),(gO f v fs).lookup g=if g=f then some v else fs.lookup g
 | []=>by
  show jH g [(f,v)]=_
  by_cases h:g=f
  ·have hb:(g == f)=true:=beq_iff_eq.mpr h
   simp only[jH,hb,if_pos h]
  ·have hb:(g == f)=false:=beq_eq_false_iff_ne.mpr h
   simp only[jH,hb,if_neg h]
 | (k,x)::r=>by
  have ih:=lX f g v r
  rw[show gO f v ((k,x)::r)=(if k=f then(k,v)::r else(k,x)::gO f v r) from rfl]
  by_cases hk:k=f
  ·rw[if_pos hk]
   by_cases h:g=k
   ·have hb:(g == k)=true:=beq_iff_eq.mpr h
    simp only[jH,hb,if_pos (h.trans hk)]
   ·have hb:(g == k)=false:=beq_eq_false_iff_ne.mpr h
    simp only[jH,hb,if_neg (λe:g=f=>h (e.trans hk.symm))]
  ·rw[if_neg hk]
   by_cases h:g=k
   ·have hb:(g == k)=true:=beq_iff_eq.mpr h
    simp only[jH,hb,if_neg (λe:g=f=>hk (h.symm.trans e))]
   ·have hb:(g == k)=false:=beq_eq_false_iff_ne.mpr h
    simp only[jH,hb]
    exact ih
theorem k8(f:Str)(v:V):∀fs:List (Str×V),f∈(gO f v fs).map (·.1)/\∀g,g∈fs.map (·.1)->g∈(gO f v fs).map (·.1)
 | []=>⟨by simp[gO],λg h=>by simp at h⟩
 | (k,x)::r=>by
  obtain⟨i1,i2⟩:=k8 f v r
  rw[show gO f v ((k,x)::r)=(if k=f then(k,v)::r else(k,x)::gO f v r) from rfl]
  by_cases hk:k=f
  ·rw[if_pos hk]
   subst hk
   exact⟨by simp,λg h=>by simpa using h⟩
  ·rw[if_neg hk]
   refine⟨?_,λg h=>?_⟩
   ·rw[bb]
    exact bN _ i1
   ·rw[bb] at h ⊢
    rcases List.mem_cons.mp h with e | e
    ·exact List.mem_cons.mpr (.inl e)
    ·exact bN _ (i2 g e)
theorem lY(f:Str)(v:V):∀fs:List (Str×V),(gO f v fs).length<=fs.length+1
 | []=>by simp[gO]
 | (k,x)::r=>by
  have ih:=lY f v r
  rw[show gO f v ((k,x)::r)=(if k=f then(k,v)::r else(k,x)::gO f v r) from rfl]
  by_cases hk:k=f
  ·rw[if_pos hk,nh,nh];omega
  ·rw[if_neg hk,nh,nh];omega
theorem iA.some_of{v:V}{o:Option We}(r:iA (some v) o):∃u,o=some u/\RelV v u:=by
 cases o with
 | none=>exact(show False from r).elim
 | some u=>exact⟨u,rfl,r⟩
theorem iA.none_of{o:Option We}(r:iA none o):o=none:=by
 cases o with
 | none=>rfl
 | some u=>exact(show False from r).elim
theorem yh{v:V}{u:We}(r:RelV v u):PySem.W.handedIn u=true:=by
 cases v with
 | non=>cases (show u=bL from r);rfl
 | bl b=>cases (show u=Value.bool b from r);rfl
 | int i=>obtain⟨t,e⟩:=(show ∃t,u=fN i t from r);cases e;rfl
 | str x=>obtain⟨t,e⟩:=(show ∃t,u=jZ x t from r);cases e;rfl
 | GQ b=>obtain⟨t,e⟩:=(show ∃t,u=Value.bytes b t from r);cases e;rfl
 | oN b=>obtain⟨t,e⟩:=(show ∃t,u=Value.float b t from r);cases e;rfl
 | ref a=>cases (show u=aH a from r);rfl
 | ty n=>cases (show u=mD n from r);rfl
section
variable {P:Wc} {w:Wf} {H H':Hp} {h h':Heap} {a C dx:V_} {fs fs':List (Str×V)}
theorem qt(hok:ip P w H h)(e:H a=some (.ins C dx fs)):∃mA,uJ h a dx C mA/\(∀f,iA (fs.lookup f) (mA f))/\PySem.Within mA (fs.map (·.1))/\fs.length<=1000/\H dx=some (.own a):=by
 obtain⟨d,z,ne,ob,mA,n,r,q⟩:=(show cC P w H h a (.ins C dx fs) from hok a _ e)
 exact⟨mA,⟨ob,n,ne⟩,r,q,z,d⟩
end
structure zt(K:PySem.W.Frag)(C:V_):Prop where
 pg:PySem.W.plainGet K C Str.empty=true
 hd:PySem.W.hasDictIn K C=true
 po:PySem.W.plainOver K C=true
 sa:PySem.W.findIn K (.ref C) "__setattr__"=some (some (.builtin "object.__setattr__"))
theorem zt.get{K:PySem.W.Frag}{C:V_}(c:zt K C)(f:Str):PySem.W.plainGet K C f=true:=c.pg
def jI(K:PySem.W.Frag)(C:V_)(f:Str):Prop:=PySem.W.findIn K (.ref C) f=some none
theorem jI.LV{K:PySem.W.Frag}{C:V_}{f:Str}(n:jI K C f):PySem.W.takerIn K C f=some none:=by
 unfold PySem.W.takerIn
 rw[show PySem.W.findIn K (.ref C) f=some none from n]
 rfl
structure Meth(K:PySem.W.Frag)(C:V_)(m:Str)(f:V_):Prop where
 at_:PySem.W.findIn K (.ref C) m=some (some (.ref f))
 fn:PySem.W.isFn K (.ref f)=true
 kp:PySem.W.keepIn K (.ref f)=true
section
variable {X:Cx} {pins:List (V_×Obj)} {σ:St} {H:Hp} {s:Wd} {a C dx:V_} {fs:List (Str×V)} {f:Str} {v:V} {A:V'} {E:We->Wd->Prop}
theorem uK{b:Bool}{Q:We->Wd->Prop}(I:Inv X pins σ H s)(e:H a=some (.ins C dx fs))(c:zt X.K C)(n:jI X.K C f)(l:fs.lookup f=some v)
  (h:∀u s',Inv X pins σ H s'->RelV v u->Q u s'):Wx (model X.prog X.w) A (getAttr (.ref a) f b) Q E s:=by
 obtain⟨mA,O,r,_,_,_⟩:=qt I.hok e
 obtain⟨u,hu,ru⟩:=iA.some_of (v:=v) (o:=mA f) (by rw[<-l];exact r f)
 exact get_map I.pq O (c.get f) c.hd n hu (yh ru) (h u _ (I.tok _) ru)
theorem uL{m:Str}{g:V_}{pl:Sem Bool}{Q:We×List We->Wd->Prop}(I:Inv X pins σ H s)(e:H a=some (.ins C dx fs))(c:zt X.K C)(k:Meth X.K C m g)(l:fs.lookup m=none)
  (h:Q (.ref g,[.ref a]) s):Wx (model X.prog X.w) A (getMethod (.ref a) m pl) Q E s:=by
 obtain⟨mA,O,r,_,_,_⟩:=qt I.hok e
 have hn:mA m=none:=iA.none_of (by rw[<-l];exact r m)
 exact zQ I.pq O (c.get m) k.at_ k.fn hn h
theorem uM{y:V}{u:We}{Q:Unit->Wd->Prop}(I:Inv X pins σ H s)(e:H a=some (.ins C dx fs))(c:zt X.K C)(n:jI X.K C f)(hl:fs.length < 1000)(ry:RelV y u)
  (h:∀s',Inv X pins σ (upd H a (.ins C dx (gO f y fs))) s'->Q () s'):Wx (model X.prog X.w) A (setAttr (.ref a) f u) Q E s:=by
 obtain⟨mA,O,r,wi,_,ho⟩:=qt I.hok e
 have hz:(fs.map (·.1)).length<=Wu:=by rw[bT,sizeLine_eq];omega
 refine DQ I.pq O c.sa c.po n.LV c.hd wi hz λh' O' sb=>h _ ?_
 have hd:∃o,h'.get? dx=some o:=let ⟨o,_,_,e',_⟩:=O'.ns;⟨o,e'⟩
 refine I.write (x:=a) (e:=dx) (by rw[e];exact eZ) (.inr ho) (λb q hb z=>(sb.2 b hb).trans z) hd ?_
 refine⟨by rw[aZ O.ne];exact ho,?_,O.ne,O'.obj,_,O'.ns,λg=>?_,λg hg=>?_⟩
 ·have:=lY f y fs;omega
 ·show iA ((gO f y fs).lookup g) (if g=f then some u else mA g)
  rw[lX]
  by_cases q:g=f
  ·rw[if_pos q,if_pos q];exact ry
  ·rw[if_neg q,if_neg q];exact r g
 ·by_cases q:g=f
  ·rw[q];exact(k8 f y fs).1
  ·refine(k8 f y fs).2 g (wi g λz=>hg ?_)
   show(if g=f then some u else mA g)=none
   rw[if_neg q];exact z
theorem Inv.made(I:Inv X pins σ H s):Inv X pins σ (upd (upd H s.heap.objs.size (.own (s.heap.objs.size+1))) (s.heap.objs.size+1) (.ins C s.heap.objs.size []))
  { s with heap:=(s.heap.push PySem.W.emptyDict).push (PySem.W.instObj C s.heap.objs.size) }:=by
 have e1:(s.heap.push PySem.W.emptyDict).get? s.heap.objs.size=some PySem.W.emptyDict:=bM s.heap rfl
 have e2:((s.heap.push PySem.W.emptyDict).push (PySem.W.instObj C s.heap.objs.size)).get? (s.heap.objs.size+1)=some (PySem.W.instObj C s.heap.objs.size):=by
  have:=bM (s.heap.push PySem.W.emptyDict) (o:=PySem.W.instObj C s.heap.objs.size) rfl
  rwa [uN] at this
 have e3:(s.heap.push PySem.W.emptyDict).Ns s.heap.objs.size (λ_=>none):=⟨PySem.W.emptyDict,#[],_,e1,rfl,(λe he=>absurd he (by simp)),λ_=>rfl⟩
 have I1:=I.laid (a:=s.heap.objs.size) (o:=.own (s.heap.objs.size+1)) (h':=s.heap.push PySem.W.emptyDict) (t':=s.toks) (λb u q=>a7 _ q) (ay _) ⟨_,e1⟩
 refine I1.laid (a:=s.heap.objs.size+1) (o:=.ins C s.heap.objs.size []) (t':=s.toks) (λb u q=>a7 _ q) (j8 (uN _ _)) ?_
 have ne:s.heap.objs.size≠s.heap.objs.size+1:=bx (Nat.lt_succ_self _)
 refine⟨by rw[aZ ne,bc],bV _,ne,e2,λ_=>none,(Heap.Ns1.of_empty e3).at λo q=>a7 _ q,λ_=>eZ,λy hy=>absurd rfl hy⟩
theorem DR{prog:Wc}{w:Wf}{env:Env}{e:Expr}{f:Str}{pos:Pos}{s:Wd}{Q:We->Wd->Prop}(hb:attributeBase e f env (eval e env)=eval e env)
  (h:Wx (model prog w) A (eval e env) (λo s₁=>Wx (model prog w) A (getAttr o f true) Q E s₁) E s):Wx (model prog w) A (eval (.Attribute e f pos) env) Q E s :=
 Attribute_any_ h (by rw[arm_eval_Attribute,hb])
end
def PF(K:PySem.W.Frag)(ta:TE)(f:Str):TE:=λσ H Q=>ta σ H λx H1=>∃a C dx fs v,x= .ref a/\H1 a=some (.ins C dx fs)/\zt K C/\jI K C f/\fs.lookup f=some v/\Q v H1
def PH(K:PySem.W.Frag)(ta tv:TE)(f:Str):TS:=λD σ H=>tv σ H λy H1=>ta σ H1 λx H2=>∃a C dx fs,x= .ref a/\H2 a=some (.ins C dx fs)/\zt K C/\jI K C f/\fs.length < 1000/\
 D.nx σ (upd H2 a (.ins C dx (gO f y fs)))
section
variable {X:Cx} {o e value:Expr} {f:Str} {pos pos' tpos:Pos} {ta tv:TE}
theorem Hw(he:PE X e ta)(hb:attributeBase e f X.env (eval e X.env)=eval e X.env):PE X (.Attribute e f pos) (PF X.K ta f):=by
 intro pins s σ H Q I h
 refine DR hb (a8 (he pins s σ H _ I h) λu s1 ⟨x,H1,I1,rx,a,C,dx,fs,v,ex,ea,c,n,l,q⟩=>?_)
 subst ex
 obtain rfl:u=aH a:=rx
 exact uK I1 ea c n l λu' s2 I2 ru=>⟨v,H1,I2,ru,q⟩
theorem Hx(ha:PE X o ta)(hv:PE X value tv)(hs:swapsWith value (some (.Attribute o f pos')) pos.line X.env=pure false):PS X (.Assign [.Attribute o f pos'] value pos) (PH X.K ta tv f):=by
 intro pins s σ H D I h
 refine plainObj_wpAny_Assign_Attribute (a8 (hv pins s σ H _ I h) λu s1 ⟨y,H1,I1,ry,q⟩=>a8 (ha pins s1 σ H1 _ I1 q) λov s2 ⟨x,H2,I2,rx,a,C,dx,fs,ex,ea,c,n,l,q2⟩=>?_) hs
 subst ex
 obtain rfl:ov=aH a:=rx
 exact uM I2 ea c n l ry λs3 I3=>⟨σ,_,I3,q2⟩
end
section
variable {X:Cx} {pins:List (V_×Obj)} {σ:St} {H:Hp} {s:Wd} {A:V'} {E:We->Wd->Prop} {Q:We->Wd->Prop} {c:We} {b:Bool}
end
structure e7(k:Nat)(A:V'):Prop where
 hd:A.handled=none
 dp:A.depth+3 * k+5 < recursionLimit
 un:A.units+16 * k+200 < cLine
theorem e7.mono{j k:Nat}{A:V'}(r:e7 k A)(h:j<=k):e7 j A:=⟨r.hd,by have:=r.dp;omega,by have:=r.un;omega⟩
theorem e7.deeper{k:Nat}{A:V'}(r:e7 (k+1) A)(env:Env):e7 k (A.deeper env) :=
 ⟨r.hd,by have:=r.dp;show A.depth+1+3 * k+5 < _;omega,by have:=r.un;show A.units+3+16 * k+200 < _;omega⟩
theorem uO{A:V'}{C:V_}{us:List We}{kw:List (Str×We)}:(A.under (.builtin "type.__call__" ⟨.ref C::us,kw⟩)).depth=A.depth+1:=by
 first | rfl | simp[FZ,Code.weight,Code.isCreation,Code.isGuard,Code.isCaller,Code.frames,zS,guardIds]
theorem uP{A:V'}{C:V_}{us:List We}{kw:List (Str×We)}:(A.under (.builtin "type.__call__" ⟨.ref C::us,kw⟩)).units=A.units+1:=by
 first | rfl | simp[FZ,Code.cUnits,Code.frames,zS]
theorem e7.make{k:Nat}{A:V'}(r:e7 (k+1) A)(C:V_)(us:List We)(kw:List (Str×We)):e7 k (A.under (.builtin "type.__call__" ⟨.ref C::us,kw⟩)) :=
 ⟨r.hd,by have:=r.dp;rw[uO];omega,by have:=r.un;rw[uP];omega⟩
theorem e7.depth{k:Nat}{A:V'}(r:e7 k A):A.depth < recursionLimit:=by have:=r.dp;omega
def PJ:TA:=λ_ H Q=>Q [] H
def LW(ta:TE)(tr:TA):TA:=λσ H Q=>ta σ H λx H1=>tr σ H1 λxs H2=>Q (x::xs) H2
section
variable {X:Cx} {e:Expr} {es:List Expr} {te:TE} {t:TA} {pos:Pos}
theorem Hy:PA X [] PJ:=λ_ _ _ _ H Q I h=>uQ ⟨[],H,I,.nil,h⟩
theorem DS(ha:PE X e te)(hr:PA X es t)(hs:Ww (e::es) X.env=(false,eval e X.env)::Ww es X.env:=by rfl):PA X (e::es) (LW te t):=by
 intro pos pins s σ H Q I h
 rw[hs]
 show Wx _ _ (spliced ((false,eval e X.env)::backTo pos (Ww es X.env))) _ _ s
 refine ni (a8 (ha pins s σ H _ I h) λu s1 ⟨x,H1,I1,r1,q1⟩=>?_)
 exact a8 (hr pos pins s1 σ H1 _ I1 q1) λus s2 ⟨xs,H2,I2,r2,q2⟩=>⟨x::xs,H2,I2,.cons r1 r2,q2⟩
def PK(t:TA):TE:=λσ H Q=>t σ H λxs H1=>xs.length<=Wu/\∀p,H1 p=none->Q (.ref p) (upd H1 p (.tup xs))
def PL(t:TA):TE:=λσ H Q=>t σ H λxs H1=>xs.length<=Wu/\∀p,H1 p=none->Q (.ref p) (upd H1 p (.lst xs))
theorem Hz{x1}(h:PA X es t):PE X (.Tuple es x1 pos) (PK t):=by
 intro pins s σ H Q I hq
 refine wpAny_Tuple_spliced (a8 (h pos pins s σ H _ I hq) λus s1 ⟨xs,H1,I1,r,z,q⟩=>⟨by rw[<-r.length];exact z,?_⟩)
 have hf:H1 s1.heap.objs.size=none:=I1.hok.fresh (ay _)
 refine⟨.ref s1.heap.objs.size,upd H1 s1.heap.objs.size (.tup xs),I1.laid (t':=s1.toks) (λb u e=>a7 _ e) (ay _) ?_,rfl,q _ hf⟩
 exact⟨z,us,r,⟨_,bM _ rfl,rfl,_,rfl⟩,qg.new _ _⟩
theorem HA(h:PA X es t):PE X (.List es pos) (PL t):=by
 intro pins s σ H Q I hq
 refine wpAny_List_spliced (a8 (h pos pins s σ H _ I hq) λus s1 ⟨xs,H1,I1,r,z,q⟩=>⟨by rw[<-r.length];exact z,?_⟩)
 have hf:H1 s1.heap.objs.size=none:=I1.hok.fresh (ay _)
 refine⟨.ref s1.heap.objs.size,upd H1 s1.heap.objs.size (.lst xs),I1.laid (t':=s1.toks) (λb u e=>a7 _ e) (ay _) ?_,rfl,q _ hf⟩
 exact⟨z,us,0,r,bM _ rfl⟩
end
abbrev Sp:=List V->Hp->VK->XK->Prop
abbrev yi:=List Env->Hp->Wd->XK->We->Wd->Prop
structure sv(P:Wc)(w:Wf)(K:PySem.W.Frag)(mg:Str->Option We)(base:Heap)(A:V')(outer:List Env)(s:Wd)(H:Hp):Prop where
 frames:A.frames=some outer
 mod:Mod K mg base
 bs:∀b o,base.get? b=some o->s.heap.get? b=some o/\H b=none
 GU:base.objs.size<=s.heap.objs.size
 m7:s.heap.FunFrames base outer
 K9:∀b∈frs outer,H b=none
 hok:ip P w H s.heap
 bare:AllBare s.gens
def CE(outer:List Env)(P:Wc)(w:Wf)(H:Hp)(s:Wd)(Q:VK)(u:We)(s':Wd):Prop :=
 ∃v H',s'.os=s.os/\AllBare s'.gens/\Un (frs outer) [] H H' s.heap s'.heap/\ip P w H' s'.heap/\RelV v u/\Q v H'
def CR(CX:yi)(outer:List Env)(P:Wc)(w:Wf)(H:Hp)(s:Wd)(Q:VK)(E:XK)(r:Result)(s':Wd):Prop :=
 match r with
 | .ok (.ret u)=>CE outer P w H s Q u s'
 | .ok _=>False
 | .error e=>CX outer H s E e s'
structure FnOk(P:Wc)(w:Wf)(K:PySem.W.Frag)(mg:Str->Option We)(base:Heap)(CX:yi)(k:Nat)(f:V_)(fd:Wa)(ps:List Str)(sp:Sp):Prop where
 len:∀vs H Q E,sp vs H Q E->vs.length=ps.length
 run:∀(A:V')(outer:List Env)(s:Wd)(H:Hp)(args:Args)(us:List We)(vs:List V)(Q:VK)(E:XK),e7 k A->sv P w K mg base A outer s H->BindsTo s fd args (ps.zip us)->Vals vs us->sp vs H Q E->
  Wj (model P w) A (.call (.ref f) args) (CR CX outer P w H s Q E) s
theorem FnOk.mono{P:Wc}{w:Wf}{K:PySem.W.Frag}{mg:Str->Option We}{base:Heap}{CX:yi}{j k:Nat}{f:V_}{fd:Wa}{ps:List Str}{sp:Sp}(F:FnOk P w K mg base CX j f fd ps sp)(h:j<=k) :
  FnOk P w K mg base CX k f fd ps sp:=⟨F.len,λA outer s H args us vs Q E hr=>F.run A outer s H args us vs Q E (hr.mono h)⟩
theorem sv.make{P:Wc}{w:Wf}{K:PySem.W.Frag}{mg:Str->Option We}{base:Heap}{A:V'}{outer:List Env}{s:Wd}{H:Hp}(e:sv P w K mg base A outer s H)(C:V_)(us:List We)(kw:List (Str×We)) :
  sv P w K mg base (A.under (.builtin "type.__call__" ⟨.ref C::us,kw⟩)) outer s H:=⟨by first | exact e.frames | (simpa [FZ,Code.envs,zS,pushEnvs] using e.frames),e.mod,e.bs,e.GU,e.m7,e.K9,e.hok,e.bare⟩
section
variable {X:Cx} {pins:List (V_×Obj)} {σ:St} {H:Hp} {s s':Wd}
theorem Inv.HB(I:Inv X pins σ H s):sv X.prog X.w X.K X.mg X.base X.A X.stack s H :=
 ⟨I.ok.frames,I.ok.mod,I.bs,a5 I.ok.GU I.sz,I.stack,I.qk,I.hok,I.bare⟩
theorem Inv.after{Q:VK}{u:We}(I:Inv X pins σ H s)(h:CE X.stack X.prog X.w H s Q u s'):EP X pins σ Q u s':=by
 obtain⟨v,H',os,bare,un,hok,r,q⟩:=h
 obtain⟨hh,g,d,t,os'⟩:=s'
 obtain rfl:os'=s.os:=os
 exact⟨v,H',I.call (h':=hh) (g':=g) (d':=d) (t':=t) (ch:=[]) un hok bare (λb z=>absurd z (by simp)),r,q⟩
end
def LX(C:V_)(sp:Sp)(HC:List V)(E:XK)(t:TA):TE:=λσ H Q=>t σ H λvs H1=>∀x dx,H1 x=none->H1 dx=none->dx≠x->
 sp (.ref x::(vs++HC)) (upd (upd H1 dx (.own x)) x (.ins C dx [])) (λv H2=>v= .non/\Q (.ref x) H2) E
def Binds(K:PySem.W.Frag)(fd:Wa)(ps:List Str)(ds:List We):Prop :=
 ∀(s:Wd)(us:List We),K.In s.heap->(us++ds).length=ps.length->BindsTo s fd ⟨us,[]⟩ (ps.zip (us++ds))
theorem Binds.all{K:PySem.W.Frag}{fd:Wa}{ps:List Str}(h:∀us:List We,us.length=ps.length->bindArgs fd ⟨us,[]⟩=pure (ps.zip us)):Binds K fd ps []:=λs us _ hl=>by
 rw[gP] at hl ⊢
 exact .of_eq (h us hl)
def Passes(CX:yi)(X:Cx)(E:XK):Prop:=∀(pins:List (V_×Obj))(σ:St)(H:Hp)(s:Wd)(e:We)(s':Wd),Inv X pins σ H s->CX X.stack H s E e s'->X.xe e s'
section
variable {X:Cx} {CX:yi} {k:Nat} {f C:V_} {fd:Wa} {ps:List Str} {sp:Sp} {HC:List V} {ds:List We} {E:XK} {x m:Str} {p pos apos:Pos} {e o:Expr} {es:List Expr} {ta:TE} {t:TA}
structure Mk(K:PySem.W.Frag)(C f:V_):Prop where
 makes:PySem.W.makesIn K C=true
 init:PySem.W.findIn K (.ref C) "__init__"=some (some (.ref f))
 fn:PySem.W.isFn K (.ref f)=true
 kp:PySem.W.keepIn K (.ref C)=true
theorem zT{pins:List (V_×Obj)}{σ:St}{H:Hp}{s:Wd}{Q:VK}{us:List We}{vs:List V}(M:Mk X.K C f)(F:FnOk X.prog X.w X.K X.mg X.base CX k f fd ps sp)(hr:e7 (k+1) X.A)(hb:Binds X.K fd ps ds)(hd:Vals HC ds)
  (hx:Passes CX X E)(I:Inv X pins σ H s)(r:Vals vs us)
  (h:∀x dx,H x=none->H dx=none->dx≠x->sp (.ref x::(vs++HC)) (upd (upd H dx (.own x)) x (.ins C dx [])) (λv H2=>v= .non/\Q (.ref x) H2) E) :
  Wx (model X.prog X.w) X.A (call (.ref C) us) (EP X pins σ Q) X.xe s:=by
 have hq:=h (s.heap.objs.size+1) s.heap.objs.size (I.hok.fresh (mF _)) (I.hok.fresh (ay _)) (bx (Nat.lt_succ_self _))
 have I2:=Inv.made (C:=C) I
 have r2:Vals (V.ref (s.heap.objs.size+1)::(vs++HC)) (aH (s.heap.objs.size+1)::(us++ds)):=.cons rfl (r.append hd)
 have hl:(aH (s.heap.objs.size+1)::us++ds).length=ps.length:=by
  have e:=r2.length
  rw[F.len _ _ _ _ hq] at e
  exact e.symm
 refine wpAny_call (zR (f:=f) I.pq M.makes M.init (beq_iff_eq.mp M.fn) (codeAny_mono (F.run _ X.stack _ _ ⟨aH (s.heap.objs.size+1)::us,[]⟩ (aH (s.heap.objs.size+1)::(us++ds)) _ _ E (hr.make C us [])
  (I2.HB.make C us []) (hb _ (aH (s.heap.objs.size+1)::us) I2.pq hl) r2 hq) λr s' hq'=>?_))
 cases r with
 | error e=>exact hx pins σ _ _ e s' I2 hq'
 | ok fl=>
  cases fl with
  | ret u=>
   obtain⟨v,H',I3,rv,ev,q3⟩:=I2.after hq'
   subst ev
   exact⟨rv,⟨V.ref (s.heap.objs.size+1),H',I3,rfl,q3⟩⟩
  | next=>exact ae hq'
  | brk=>exact ae hq'
  | cont=>exact ae hq'
theorem DT(M:Mk X.K C f)(F:FnOk X.prog X.w X.K X.mg X.base CX k f fd ps sp)(hr:e7 (k+1) X.A)(hg:Gl X x)(hm:X.mg x=some (.ref C))(hb:Binds X.K fd ps ds)(hd:Vals HC ds)(hx:Passes CX X E)
  (ha:PA X (e::es) t)(hdb:(x == ("__debug__":Str))=false:=by decide)(he:Ww (e::es) X.env=(false,eval e X.env)::Ww es X.env:=by rfl)(hpl:(backTo pos (Ww es X.env)).any (·.1)=false:=by rfl) :
  PE X (.Call (.Name x p) (e::es) [] pos) (LX C sp HC E t):=by
 intro pins s σ H Q I h
 refine wpAny_Call_Name_kw (ql I hg hm ?_ hdb)
 refine PySem.W.callWith_K (h₀:=X.base) I.ok.mod.K8 M.kp (a8 (ha pos pins s σ H _ I h) λus s1 ⟨vs,H1,I1,r,q⟩=>⟨I1.pq,?_⟩) he hpl
 exact zT M F hr hb hd hx I1 r q
end
section
variable {X:Cx} {CX:yi} {k:Nat} {f C:V_} {fd:Wa} {ps ks:List Str} {sp:Sp} {E:XK} {x m:Str} {p pos apos kpos:Pos} {e o:Expr} {es:List Expr} {kws:List Keyword} {te ta:TE} {t tk:TA} {nm:Option Str}
variable {g:List We->List We->List We} {gV:List V->List V->List V}
end
structure FnScope(N P:List Str)(sc:Scope):Prop where
 kind:sc.kind= .function
 co:sc.isCoroutine=false
 gen:sc.isGenerator=false
 nd:N.Nodup
 pre:N.take P.length=P
 par:∀x∈P,sc.names.lookup x=some .local\/sc.names.lookup x=some .cell
 HD:∀y∈sc.names,y.2≠.free
theorem pC{kindOf:Str->Option Wb}{x:Str}:∀{binds:List (Str×We)}{m:Str->Option We},(∀v,(x,v)∉binds)->bindL kindOf binds m x=m x
 | [],_,_=>rfl
 | (n,v)::r,m,h=>by
  unfold bindL
  rw[pC λw hw=>h w (bN _ hw)]
  split
  ·have:x≠n:=by rintro rfl;exact h v cG
   simp[this]
  ·rfl
theorem pD{kindOf:Str->Option Wb}{x:Str}:∀{binds:List (Str×We)}{m:Str->Option We},(∀v,(x,v)∉binds)->bindC kindOf binds m x=m x
 | [],_,_=>rfl
 | (n,v)::r,m,h=>by
  unfold bindC
  rw[pD λw hw=>h w (bN _ hw)]
  split
  ·rfl
  ·have:x≠n:=by rintro rfl;exact h v cG
   simp[this]
theorem pE{kindOf:Str->Option Wb}{x:Str}{v:We}:∀{P:List Str}{vs:List We}{i:Nat}{m:Str->Option We},P.Nodup->P[i]? =some x->vs[i]? =some v->kindOf x=some .local->
  bindL kindOf (P.zip vs) m x=some v
 | [],_,_,_,_,h,_,_=>by simp at h
 | _::_,[],_,_,_,_,h,_=>by simp at h
 | p::P,w::vs,0,m,nd,h1,h2,hk=>by
  simp at h1 h2;subst h1;subst h2
  show bindL kindOf ((p,w)::P.zip vs) m p=_
  unfold bindL
  rw[pC λv hv=>(List.nodup_cons.mp nd).1 (zU hv).1,if_pos hk]
  simp
 | p::P,w::vs,i+1,m,nd,h1,h2,hk=>by
  show bindL kindOf ((p,w)::P.zip vs) m x=_
  unfold bindL
  exact pE (i:=i) (List.nodup_cons.mp nd).2 (by simpa using h1) (by simpa using h2) hk
theorem pF{kindOf:Str->Option Wb}{x:Str}{v:We}:∀{P:List Str}{vs:List We}{i:Nat}{m:Str->Option We},P.Nodup->P[i]? =some x->vs[i]? =some v->kindOf x≠some .local->
  bindC kindOf (P.zip vs) m x=some v
 | [],_,_,_,_,h,_,_=>by simp at h
 | _::_,[],_,_,_,_,h,_=>by simp at h
 | p::P,w::vs,0,m,nd,h1,h2,hk=>by
  simp at h1 h2;subst h1;subst h2
  show bindC kindOf ((p,w)::P.zip vs) m p=_
  unfold bindC
  rw[pD λv hv=>(List.nodup_cons.mp nd).1 (zU hv).1,if_neg hk]
  simp
 | p::P,w::vs,i+1,m,nd,h1,h2,hk=>by
  show bindC kindOf ((p,w)::P.zip vs) m x=_
  unfold bindC
  exact pF (i:=i) (List.nodup_cons.mp nd).2 (by simpa using h1) (by simpa using h2) hk
def start(N:List Str)(vs:List V):St:=vs.map some++aN (N.length - vs.length) none
def oP(CX:yi)(P:Wc)(w:Wf)(K:PySem.W.Frag)(mg:Str->Option We)(base:Heap)(N:List Str)(qual:Str)(scope:Scope)(f:V_)(cd:We)(A:V')(outer:List Env)(s:Wd)(H:Hp)(E:XK):Cx where
 prog:=P
 w:=w
 K:=K
 mg:=mg
 base:=base
 A:=A.deeper (envOfC qual scope s.heap.objs.size f cd)
 N:=N
 s₀:=s
 H₀:=H
 env:=envOfC qual scope s.heap.objs.size f cd
 outer:=outer
 stack:=envOfC qual scope s.heap.objs.size f cd::outer
 ex:=[]
 calm:=true
 fn:=λ_=>true
 pn:=[]
 xe:=λe s'=>Wx (model P w) (A.deeper (envOfC qual scope s.heap.objs.size f cd)) (leaving (envOfC qual scope s.heap.objs.size f cd) e) (λ_ s''=>CX outer H s E e s'') (λe' s''=>CX outer H s E e' s'') s'
theorem sx{sc:Scope}{n:Nat}{x:Str}(h:sc.names.lookup x=some .cell):∃c,(cellsFrom n sc.names []).lookup x=some c:=by
 have q:=PySem.W.cellsFrom_some sc.names n [] (.inl h)
 exact Option.isSome_iff_exists.mp q
theorem yj{CX:yi}{P:Wc}{w:Wf}{K:PySem.W.Frag}{mg:Str->Option We}{base:Heap}{N ps:List Str}{qual:Str}{scope:Scope}{f:V_}{cd:We}{A:V'}{outer:List Env}{s s1:Wd}{H:Hp}{E:XK}{us:List We}{vs:List V}
  (S:FnScope N ps scope)(hd:A.handled=none)(e0:sv P w K mg base A outer s H)(hl:vs.length=ps.length)(r:Vals vs us)
  (x:InCallC s s.heap.objs.size (bindL (envOfC qual scope s.heap.objs.size f cd).kindOf (ps.zip us) λ_=>none) (cellsFrom (s.heap.objs.size+1) scope.names []) (bindC (envOfC qual scope s.heap.objs.size f cd).kindOf (ps.zip us) λ_=>none) s1) :
  Inv (oP CX P w K mg base N qual scope f cd A outer s H E) [] (start N vs) H s1:=by
 have hpl:ps.length<=N.length:=by have:=congrArg k9 S.pre;rw[nj] at this;omega
 obtain⟨h1,tk,rfl,hk⟩:=x.done
 have LY:∀b:V_,b∉(oP CX P w K mg base N qual scope f cd A outer s H E).ex:=λb z=>absurd (show b∈([]:List V_) from z) (by simp)
 refine⟨⟨e0.mod,S.kind,rfl,rfl,ay _,λy z c h1 h2=>?_,λy hy=>?_,λy c _ h=>?_,λ_=>hd,Around.frames_deeper e0.frames,.inr ⟨rfl,rfl⟩,λb z=>absurd z (LY b),e0.bs,e0.GU,λb _ _=>LY b,λb z=>absurd z (LY b),e0.m7,e0.K9⟩,
  rfl,e0.bare,Un.kept hk,⟨_,x.toInCall.ns,λi y v h1 h2 h3=>?_⟩,λy c h=>⟨_,x.cell y c h⟩,e0.hok.fresh (ay _),λy c h=>?_,λp hp=>absurd (show p∈([]:List (V_×Obj)) from hp) (by simp),e0.hok.kept hk,?_⟩
 ·exact name_of_addr x.apart (PySem.mem_of_lookup h1) (PySem.mem_of_lookup h2)
 ·have hy:scope.names.lookup y=some .cell\/scope.names.lookup y=some .free:=hy
  rcases hy with hy | hy
  ·exact sx hy
  ·exact absurd rfl (S.HD _ (PySem.mem_of_lookup hy))
 ·exact wC (x.above y c (PySem.mem_of_lookup h))
 ·have hi:i < vs.length:=by
   unfold start at h2
   by_cases hi:i < vs.length
   ·exact hi
   ·rw[jJ (by simpa using hi)] at h2
    rw[HE] at h2
    split at h2<;>cases h2
  have ha:vs[i]? =some v:=by
   unfold start at h2
   rw[fq (by simpa using hi),fu] at h2
   cases e:vs[i]? with
   | none=>rw[e] at h2;cases h2
   | some a=>rw[e] at h2;cases h2;rfl
  obtain⟨u,hu,rv⟩:=r.get ha
  have hp:ps[i]? =some y:=by
   rw[<-S.pre,List.getElem?_take_of_lt (by omega)];exact h1
  have Sl:ps.Nodup:=by rw[<-S.pre];exact S.nd.sublist (List.take_sublist _ _)
  refine⟨u,rv,?_⟩
  rcases S.par y (HF hp) with k | k
  ·exact .inl ⟨k,pE Sl hp hu k⟩
  ·obtain⟨c,e⟩:=sx (n:=s.heap.objs.size+1) k
   refine .inr ⟨.inl k,c,e,?_⟩
   have q:=x.cell y c e
   rw[pF Sl hp hu (by show scope.names.lookup y≠_;rw[k];decide)] at q
   exact q
 ·exact e0.hok.fresh (wC (x.above y c (PySem.mem_of_lookup h)))
 ·unfold start
  show _=N.length
  rw[iB,bT,List.length_replicate]
  omega
theorem LZ{CX:yi}{P:Wc}{w:Wf}{K:PySem.W.Frag}{mg:Str->Option We}{base:Heap}{k:Nat}{f:V_}{name qual:Str}{params:Arguments}{body:List Stmt}{scope:Scope}{dV kV doc pm cdv ct oc:We}{an od:Option V_}
  {osl:Array (Option We)}{N ps:List Str}{sp:Sp}(lk:K.lookup f=some ⟨oc,od,.func (PySem.W.fnOf name qual params body scope dV kV doc pm an cdv ct),osl⟩)(hcd:PySem.W.codeIn K cdv qual=true)(S:FnScope N ps scope)
  (len:∀vs H Q E,sp vs H Q E->vs.length=ps.length)
  (hbody:∀(A:V')(outer:List Env)(s:Wd)(H:Hp)(vs:List V)(Q:VK)(E:XK),e7 k (A.deeper (envOfC qual scope s.heap.objs.size f cdv))->sp vs H Q E->
   ∃t,zB (oP CX P w K mg base N qual scope f cdv A outer s H E) body t/\t { nx:=λ_ H'=>Q .non H',rt:=Q } (start N vs) H) :
  FnOk P w K mg base CX (k+1) f (PySem.W.fnOf name qual params body scope dV kV doc pm an cdv ct) ps sp:=by
 refine⟨len,λA outer s H args us vs Q E hr e0 hb r K_=>?_⟩
 have hl:=len _ _ _ _ K_
 have KX:K.In s.heap:=e0.mod.K8.keeps λb o e=>(e0.bs b o e).1
 have lim:s.heap.NoLimit:=e0.mod.nolimit.keeps λb o e=>(e0.bs b o e).1
 have hkind:∀y∈ps.zip us,scope.names.lookup y.1=some .local\/(scope.names.lookup y.1=some .cell/\((cellsFrom (s.heap.objs.size+1) scope.names []).lookup y.1).isSome=true):=λ⟨n,v⟩ hy=>by
  rcases S.par n (zU hy).1 with q | q
  ·exact .inl q
  ·exact .inr ⟨q,PySem.W.cellsFrom_some _ _ _ (.inl q)⟩
 refine codeAny_call_function hr.depth (KX _ _ lk) rfl S.co S.gen rfl (PySem.W.codeRec_of KX hcd) (hb _ _ _ _ ?_)
 refine wpAny_newFunctionEnv_cells S.kind hkind λenv he s1 x=>?_
 subst he
 refine⟨lim.keeps x.toInCall.keep,codeAny_func ?_⟩
 obtain⟨t,ht,hq⟩:=hbody A outer s H vs Q E (hr.deeper _) K_
 have I:Inv (oP CX P w K mg base N qual scope f cdv A outer s H E) [] (start N vs) H s1:=yj S hr.hd e0 hl r x
 refine WB (ht [] s1 (start N vs) H _ I hq) (λfl s' hs=>?_) λe s' hs=>hs
 have fin:∀{σ':St}{H':Hp}{v:V}{u:We},Inv (oP CX P w K mg base N qual scope f cdv A outer s H E) [] σ' H' s'->RelV v u->Q v H'->CE outer P w H s Q u s' :=
  λ{σ' H' v u} J rv q=>⟨v,H',J.os,J.bare,J.base,J.hok,rv,q⟩
 cases fl with
 | ret u=>
  obtain⟨v,σ',H',J,rv,q⟩:=hs
  exact fin J rv q
 | next=>
  obtain⟨σ',H',J,q⟩:=hs
  exact fin (v:=V.non) (u:=bL) J rfl q
 | brk=>
  obtain⟨_,_,_,q⟩:=hs
  exact ae q
 | cont=>
  obtain⟨_,_,_,q⟩:=hs
  exact ae q
section
variable {X:Cx} {x:Str} {p pos:Pos} {e:Expr} {es:List Expr} {t:TA} {id T:String} {r:List V->Hp->VK->Prop}
def Sm(r:List V->Hp->VK->Prop)(t:TA):TE:=λσ H Q=>t σ H λvs H1=>r vs H1 Q
theorem zV(hc:cH X (.builtin id) r)(hg:Gl X x)(hm:X.mg x=none)(hv:Wi x=some (.builtin id))(ha:PA X (e::es) t)(hn:x≠"__name__":=by decide)(hdb:(x == ("__debug__":Str))=false:=by decide)
  (he:Ww (e::es) X.env=(false,eval e X.env)::Ww es X.env:=by rfl)(hpl:(backTo pos (Ww es X.env)).any (·.1)=false:=by rfl):PE X (.Call (.Name x p) (e::es) [] pos) (Sm r t):=by
 intro pins s σ H Q I h
 refine wpAny_Call_Name_kw (k7 I hg hm hv ?_ hn hdb)
 exact PyProof.Rows.callWith_builtin1 (a8 (ha pos pins s σ H _ I h) λus s1 ⟨vs,H1,I1,r1,q1⟩=>hc pins s1 σ H1 vs us Q I1 r1 q1) he hpl
theorem yk(hc:cH X (.type T) r)(hg:Gl X x)(hm:X.mg x=none)(hv:Wi x=some (.type T))(ha:PA X (e::es) t)(hn:x≠"__name__":=by decide)(hdb:(x == ("__debug__":Str))=false:=by decide)
  (he:Ww (e::es) X.env=(false,eval e X.env)::Ww es X.env:=by rfl)(hpl:(backTo pos (Ww es X.env)).any (·.1)=false:=by rfl):PE X (.Call (.Name x p) (e::es) [] pos) (Sm r t):=by
 intro pins s σ H Q I h
 refine wpAny_Call_Name_kw (k7 I hg hm hv ?_ hn hdb)
 exact qo (a8 (ha pos pins s σ H _ I h) λus s1 ⟨vs,H1,I1,r1,q1⟩=>hc pins s1 σ H1 vs us Q I1 r1 q1) he hpl
end
end L2
namespace HT
open PySem PyProof.Rows
section
open PySem.SeqAt
open PySem.AutoSeq1 (wpAny_loadPart')
open PySem.MeetsSeq PySem.MeetsSeq2 PySem.MeetsSeq3
end
section
variable {prog:Wc} {w:Wf} {A:V'} {E:We->Wd->Prop} {s:Wd}
theorem DU{t b:V_}{vs ws:List We}{Q:We->Wd->Prop}(ht:IsTup s.heap t vs.toArray)(hb:IsTup s.heap b ws.toArray)(hv:vs≠[])
  (h1:ws=[]->Q (.ref t) s)(h2:ws≠[]->Q (.ref s.heap.objs.size) { s with heap:=s.heap.push { cls:=.type "tuple",data:=.seq (vs++ws).toArray } })
  (hsz:vs.length+ws.length<=Wu):Wx (model prog w) A (Wh .Add (.ref t) (.ref b)) Q E s:=by
 obtain⟨⟨cls,dd,data,sl⟩,ho,hc,n,hd⟩:=id ht
 obtain⟨⟨PM,dd2,data2,sl2⟩,ho2,hc2,n2,hd2⟩:=id hb
 simp only at hc hd hc2 hd2
 subst hc hd hc2 hd2
 have e:vs.toArray++ws.toArray=(vs++ws).toArray:=by simp
 by_cases hw:ws=[]
 ·exact concat_meets ⟨_,ho,rfl⟩ ⟨_,ho2,rfl⟩ noFill_tuple_add seq_tuple_add PySem.F.slot_tuple_add PySem.F.entry_tuple_add (PySem.F.args_tuple_add_2 _ _)
   (tuple_addW1 t b vs.toArray ws.toArray n n2 dd dd2 sl sl2 (by simpa using hv) (by simp[hw])) ⟨ho,ho2,h1 hw⟩
 ·refine concat_meets ⟨_,ho,rfl⟩ ⟨_,ho2,rfl⟩ noFill_tuple_add seq_tuple_add PySem.F.slot_tuple_add PySem.F.entry_tuple_add (PySem.F.args_tuple_add_2 _ _)
   (tuple_addW2 t b vs.toArray ws.toArray n n2 dd dd2 sl sl2 (by simpa using hv) (by simpa using hw) (by rw[aT,aT];exact hsz)) ⟨ho,ho2,?_⟩
  rw[e]
  exact h2 hw
def cD(n d:Nat):Option Int->Nat
 | none=>d
 | some v=>if v < 0 then(v+(n:Int)).toNat else min v.toNat n
theorem HG(n d:Nat)(hd:d<=n)(o:Option Int):cD n d o<=n:=by
 cases o with
 | none=>exact hd
 | some v=>
  show(if v < 0 then(v+(n:Int)).toNat else min v.toNat n)<=n
  by_cases hv:v < 0
  ·rw[if_pos hv];omega
  ·rw[if_neg hv];exact qu _ _
theorem wH(v:Int)(n d:Nat):(if v < 0 then max (v+(n:Int)) 0 else min v (n:Int))=((cD n d (some v):Nat):Int):=by
 show(if v < 0 then max (v+(n:Int)) 0 else min v (n:Int))=(((if v < 0 then(v+(n:Int)).toNat else min v.toNat n):Nat):Int)
 by_cases hv:v < 0
 ·simp only[if_pos hv];omega
 ·simp only[if_neg hv];omega
theorem uR(lo hi:Option Int)(n:Nat):zW lo hi 1 (n:Int)=(((cD n 0 lo:Nat):Int),((cD n n hi:Nat):Int)):=by
 have h1:¬((1:Int) < 0):=by omega
 unfold zW
 simp only[h1,if_false]
 refine mG ?_ ?_
 ·cases lo with
  | none=>rfl
  | some v=>exact wH v n 0
 ·cases hi with
  | none=>rfl
  | some v=>exact wH v n n
theorem uS(i j:Nat):uT (i:Int) (j:Int) 1=j - i:=by
 unfold uT
 have h1:(1:Int) > 0:=by omega
 simp only[h1,if_true,Int.ediv_one]
 split<;>omega
theorem nk{v:We}{o:Option Int}{Q:Option Int->Wd->Prop}(p:IsPart v o)(h:Q o s):Wx (model prog w) A (Builtin.Slice.slicePartIndex v) Q E s:=by
 cases p with
 | none=>exact slicePart_none h
 | int i t=>exact slicePart_int h
theorem gB{sl:V_}{vl vu:We}{lo hi:Option Int}{n:Nat}{Q:Int×Int×Nat->Wd->Prop}(hs:s.heap.IsSliceOf sl vl vu .none)(pl:IsPart vl lo)(pu:IsPart vu hi)
  (h:Q (((cD n 0 lo:Nat):Int),1,cD n n hi - cD n 0 lo) s):Wx (model prog w) A (HH (.ref sl) (pure (n:Int))) Q E s:=by
 obtain⟨os,hos,hcs,hds⟩:=id hs
 unfold HH Builtin.Slice.sliceFields
 refine Wy (Wy (wpAny_field hos hds (x:=vl) rfl (Wy (wpAny_field hos hds (x:=vu) rfl (Wy (wpAny_field hos hds (x:=.none) rfl (WD ?_)))))))
 refine Wy (slicePart_none ?_)
 show Wx _ _ (if((1:Int) == 0)=true then _ else _) _ _ s
 rw[if_neg (by decide)]
 refine Wy (nk pl (Wy (nk pu (Wy (WD ?_)))))
 show Wx _ _ (match zW lo hi 1 (n:Int) with | (lo,hi)=>pure (lo,(1:Int),uT lo hi 1)) _ _ s
 rw[uR lo hi n]
 show Wx _ _ (pure (((cD n 0 lo:Nat):Int),(1:Int),uT ((cD n 0 lo:Nat):Int) ((cD n n hi:Nat):Int) 1)) _ _ s
 rw[uS]
 exact WD h
theorem zX(xs:Array We)(i k:Nat):((dJ k).filterMap λ(m:Nat)=>xs[((i:Int)+(m:Int) * 1).toNat]?).toArray=((xs.toList.drop i).take k).toArray:=by
 have e:(λ(m:Nat)=>xs[((i:Int)+(m:Int) * 1).toNat]?)=λm=>xs[i+m]?:=by
  funext m
  have:((i:Int)+(m:Int) * 1).toNat=i+m:=by omega
  rw[this]
 rw[e]
 have:=pick_run xs i k
 rw[List.filterMap_map] at this
 have e2:((λx=>xs[x]?) ∘ λx=>i+x)=λm=>xs[i+m]?:=rfl
 rw[e2] at this
 rw[this]
theorem j9{t sl:V_}{items:Array We}{vl vu:We}{lo hi:Option Int}{Q:We->Wd->Prop}(ht:IsTup s.heap t items)(hs:s.heap.IsSliceOf sl vl vu .none)(pl:IsPart vl lo)(pu:IsPart vu hi)
  (hw:¬(cD items.size 0 lo=0/\cD items.size items.size hi=items.size))
  (h:Q (.ref s.heap.objs.size) { s with heap:=s.heap.push { cls:=.type "tuple",data:=.seq ((items.toList.drop (cD items.size 0 lo)).take (cD items.size items.size hi - cD items.size 0 lo)).toArray } })
  (hsz:items.size<=Wu):Wx (model prog w) A (getItem (.ref t) (.ref sl)) Q E s:=by
 have wI:sizeOk (.seq ((items.toList.drop (cD items.size 0 lo)).take (cD items.size items.size hi - cD items.size 0 lo)).toArray):=by
  show((items.toList.drop (cD items.size 0 lo)).take (cD items.size items.size hi - cD items.size 0 lo)).toArray.size<=Wu
  rw[aT,nj,List.length_drop,zD]
  omega
 have hj:cD items.size items.size hi<=items.size:=HG _ _ (ay _) hi
 obtain⟨os,hos,hcs,hds⟩:=id hs
 have Ud:s.TypeIs (.ref sl) "slice":=⟨os,hos,hcs⟩
 unfold getItem
 try with_reducible refine WA ?_
 first | refine Wy (WD ?_) | skip
 refine Wy (wpAny_sequenceKey ht.typeIs (by decide) ?_)
 refine Wy (wpAny_callSpecial?_slot (name:=jd "__getitem__") ht.typeIs qv
  (wpAny_call_entry qv ht.typeIs entry_tuple_getitem ?_ (args_tuple_getitem _ _)))
 show Wx _ _ (uC (.ref t) >>= _) _ _ s
 refine Wy (tupleItemsOf_ ht ?_)
 refine Wy (wpAny_typeOf Ud ?_)
 rw[if_pos (by decide)]
 refine Wy (gB hs pl pu ?_)
 have hno:¬((((cD items.size 0 lo:Nat):Int) == 0&&(1:Int) == 1&&(cD items.size items.size hi - cD items.size 0 lo) == items.size)=true):=by
  intro q
  rw[cw,cw] at q
  have q1:((cD items.size 0 lo:Nat):Int)=0:=eq_of_beq q.1.1
  have q2:cD items.size items.size hi - cD items.size 0 lo=items.size:=eq_of_beq q.2
  exact hw ⟨by omega,by omega⟩
 show Wx _ _ (if(((cD items.size 0 lo:Nat):Int) == 0&&(1:Int) == 1&&(cD items.size items.size hi - cD items.size 0 lo) == items.size)=true then _ else _) _ _ s
 rw[if_neg hno,zX]
 first
  | exact Wy (m:=nq _) (WC (WD ⟨_,rfl,WD h⟩) wI)
  | exact Wy (m:=nq _) (WC (Wy (WD (WD ⟨_,rfl,WD h⟩))) wI)
  | exact Wy (Wy (m:=nq _) (WC (WD (WD ⟨_,rfl,WD h⟩)) wI))
  | exact Wy (Wy (m:=nq _) (WC (WD ⟨_,rfl,WD h⟩) wI))
end
end HT
namespace L2
open PySem PySem.Spec PyProof.Rows
abbrev TO:=St->Hp->(Option Int->Hp->Prop)->Prop
def PO(X:Cx)(e:Option Expr)(t:TO):Prop :=
 ∀(pins:List (V_×Obj))(s:Wd)(σ:St)(H:Hp)(Q:Option Int->Hp->Prop),Inv X pins σ H s->t σ H Q->
  Wx (model X.prog X.w) X.A (evalPart e X.env) (λu s'=>∃o H',Inv X pins σ H' s'/\IsPart u o/\Q o H') X.xe s
def DV:TO:=λ_ H Q=>Q none H
def L3(t:TE):TO:=λσ H Q=>t σ H λx H1=>∃i,x= .int i/\Q (some i) H1
section
variable {X:Cx} {e:Expr} {te:TE} {lo hi:Option Expr} {tl th:TO} {pos p2:Pos}
theorem DW:PO X none DV:=by
 intro pins s σ H Q I h
 rw[evalPart_none]
 exact WD ⟨none,H,I,.none,h⟩
theorem DX(h:PE X e te):PO X (some e) (L3 te):=by
 intro pins s σ H Q I hw
 rw[evalPart_some]
 refine a8 (h pins s σ H _ I hw) λu s1 ⟨x,H1,I1,r1,q1⟩=>?_
 obtain⟨i,rfl,q⟩:=q1
 obtain⟨t,rfl⟩:=r1
 exact⟨some i,H1,I1,.int i t,q⟩
def Dn(X:Cx)(r:V->Option Int->Option Int->Hp->VK->Prop):Prop :=
 ∀(pins:List (V_×Obj))(s:Wd)(σ:St)(H:Hp)(x:V)(v vl vu:We)(lo hi:Option Int)(sl:V_)(Q:VK),Inv X pins σ H s->RelV x v->s.heap.IsSliceOf sl vl vu .none->IsPart vl lo->IsPart vu hi->r x lo hi H Q->
  ∃T id,typeLookup (.type T) "__getitem__"=pure (some (.builtin id))/\s.TypeIs v T/\Wx (model X.prog X.w) X.A (getItem v (.ref sl)) (EP X pins σ Q) X.xe s
theorem Dn.or{r r':V->Option Int->Option Int->Hp->VK->Prop}(h:Dn X r)(h':Dn X r'):Dn X (λx lo hi H Q=>r x lo hi H Q\/r' x lo hi H Q):=by
 intro pins s σ H x v vl vu lo hi sl Q I rx hs pl pu q
 rcases q with q | q
 ·exact h pins s σ H x v vl vu lo hi sl Q I rx hs pl pu q
 ·exact h' pins s σ H x v vl vu lo hi sl Q I rx hs pl pu q
def Ue(r:V->Option Int->Option Int->Hp->VK->Prop)(te:TE)(tl th:TO):TE:=λσ H Q=>te σ H λx H1=>tl σ H1 λl H2=>th σ H2 λu H3=>r x l u H3 Q
theorem nr{r:V->Option Int->Option Int->Hp->VK->Prop}(hr:Dn X r)(he:PE X e te)(hl:PO X lo tl)(hu:PO X hi th):PE X (.Subscript e (.Slice lo hi none p2) pos) (Ue r te tl th):=by
 intro pins s σ H Q I h
 refine Subscript_ (a8 (he pins s σ H _ I h) λv s1 ⟨x,H1,I1,r1,q1⟩=>?_)
 refine wpAny_Slice (a8 (hl pins s1 σ H1 _ I1 q1) λvl s2 ⟨l,H2,I2,pl,q2⟩=>a8 (hu pins s2 σ H2 _ I2 q2) λvu s3 ⟨u,H3,I3,pu,q3⟩=>?_)
 rw[evalPart_none]
 refine WD ?_
 have I4:Inv X pins σ H3 { s3 with heap:=s3.heap.push { cls:=.type "slice",data:=.fields #[vl,vu,.none] } }:=I3.kept (t':=s3.toks) λb ob q=>a7 _ q
 obtain⟨T,id,hT,ht,hg⟩:=hr pins { s3 with heap:=s3.heap.push { cls:=.type "slice",data:=.fields #[vl,vu,.none] } } σ H3 x v vl vu l u s3.heap.objs.size Q I4 r1 (Heap.IsSliceOf.new ..) pl pu q3
 show Wx (model X.prog X.w) X.A (subscriptTail e (.Slice lo hi none p2) v (.ref s3.heap.objs.size)) (EP X pins σ Q) X.xe { s3 with heap:=s3.heap.push { cls:=.type "slice",data:=.fields #[vl,vu,.none] } }
 exact tail_any (ops:=[.ref s3.heap.objs.size,v]) ht hT hg (by with_unfolding_all rfl)
def oQ(xs:List V)(lo hi:Option Int):List V:=(xs.drop (HT.cD xs.length 0 lo)).take (HT.cD xs.length xs.length hi - HT.cD xs.length 0 lo)
theorem lZ(xs:List V)(lo hi:Option Int):(oQ xs lo hi).length<=xs.length:=by
 unfold oQ
 rw[nj,List.length_drop]
 omega
def PN(K:PySem.W.Frag):V->Option Int->Option Int->Hp->VK->Prop:=λx lo hi H Q=>∃a xs,x= .ref a/\eM K H a xs/\
 ¬(HT.cD xs.length 0 lo=0/\HT.cD xs.length xs.length hi=xs.length)/\∀p,H p=none->Q (.ref p) (upd H p (.tup (oQ xs lo hi)))
theorem zY:Dn X (PN X.K):=by
 intro pins s σ H x v vl vu lo hi sl Q I rx hs pl pu h
 obtain⟨a,xs,rfl,hx,hw,q⟩:=h
 cases rx
 obtain⟨its,r,ht,hz⟩:=I.tuple hx
 have hlen:its.toArray.size=xs.length:=by rw[aT];exact r.length.symm
 refine⟨"tuple",_,PyProof.Rows.slot_tuple_getitem.lookup,ht.typeIs,?_⟩
 refine HT.j9 ht hs pl pu (by rw[hlen];exact hw) ?_ (by rw[hlen];exact hz)
 rw[hlen]
 refine⟨.ref s.heap.objs.size,_,I.laid (t':=s.toks) (o:=.tup (oQ xs lo hi)) (λb ob q=>a7 _ q) (ay _) ?_,rfl,q _ (I.hok.fresh (ay _))⟩
 exact⟨a5 (lZ xs lo hi) hz,_,(r.drop (HT.cD xs.length 0 lo)).take (HT.cD xs.length xs.length hi - HT.cD xs.length 0 lo),qw _ _,qg.new _ _⟩
def L4(K:PySem.W.Frag):R2:=λx y H Q=>∃a b xs ys,x= .ref a/\y= .ref b/\eM K H a xs/\eM K H b ys/\xs≠[]/\xs.length+ys.length<=Wu/\
 (ys=[]->Q (.ref a) H)/\(ys≠[]->∀p,H p=none->Q (.ref p) (upd H p (.tup (xs++ys))))
theorem Vals.qx{xs:List V}{us:List We}(r:Vals xs us):us=[]↔xs=[]:=by
 cases r with
 | nil=>simp
 | cons _ _=>simp
theorem DY:eF X (Wh .Add) (L4 X.K):=by
 intro pins s σ H x y v u Q I rx ry h
 obtain⟨a,b,xs,ys,rfl,rfl,ha,hb,hx,hz,q1,q2⟩:=h
 cases rx
 cases ry
 obtain⟨its,r1,p1,_⟩:=I.tuple ha
 obtain⟨its2,r2,p2,_⟩:=I.tuple hb
 refine HT.DU p1 p2 (λz=>hx (r1.qx.mp z)) (λz=>⟨.ref a,H,I,rfl,q1 (r2.qx.mp z)⟩) (λz=>?_) (by rw[<-r1.length,<-r2.length];exact hz)
 refine⟨.ref s.heap.objs.size,_,I.laid (t':=s.toks) (o:=.tup (xs++ys)) (λb ob q=>a7 _ q) (ay _) ?_,rfl,q2 (λw=>z (r2.qx.mpr w)) _ (I.hok.fresh (ay _))⟩
 exact⟨by rw[iB];exact hz,_,r1.append r2,qw _ _,qg.new _ _⟩
end
def ym(n:Nat)(i:Int):Option Nat:=if 0<=i then(if i < n then some i.toNat else none) else if -(n:Int)<=i then some (i+n).toNat else none
def kX{α:Type}(xs:List α)(i:Int):Option α:=(ym xs.length i).bind λj=>xs[j]?
theorem wJ{n:Nat}{i:Int}{j:Nat}(h:ym n i=some j):seqIndex? i n=some j/\j < n/\-(n:Int)<=i/\i < n:=by
 unfold ym at h
 by_cases h0:0<=i
 ·rw[if_pos h0] at h
  by_cases h1:i < n
  ·rw[if_pos h1] at h
   have e:i.toNat=j:=Option.some.inj h
   exact⟨by rw[seqIndex_of h0 h1,e],by omega,by omega,h1⟩
  ·rw[if_neg h1] at h;cases h
 ·rw[if_neg h0] at h
  by_cases h1:-(n:Int)<=i
  ·rw[if_pos h1] at h
   have e:(i+n).toNat=j:=Option.some.inj h
   exact⟨by rw[seqIndex_neg (by omega) h1,e],by omega,h1,by omega⟩
  ·rw[if_neg h1] at h;cases h
theorem mH{α:Type}{xs:List α}{i:Int}{v:α}(h:kX xs i=some v):∃j,seqIndex? i xs.length=some j/\xs[j]? =some v/\j < xs.length/\-(xs.length:Int)<=i/\i < xs.length:=by
 unfold kX at h
 cases e:ym xs.length i with
 | none=>rw[e] at h;cases h
 | some j=>
  rw[e] at h
  obtain⟨h1,h2,h3,h4⟩:=wJ e
  exact⟨j,h1,h,h2,h3,h4⟩
theorem je{α:Type}{xs:List α}{j:Nat}{v:α}(h:xs[j]? =some v):kX xs (j:Int)=some v:=by
 have hj:j < xs.length:=(List.getElem?_eq_some_iff.mp h).1
 have e:ym xs.length (j:Int)=some j:=by
  unfold ym
  rw[if_pos (by omega),if_pos (by omega)];simp
 unfold kX;rw[e];exact h
def wK(b:Expr):Prop:=∀o i,subscripted b false o i=operate [o,i] (getItem o i)
def DZ(X:Cx)(r:R2):Prop :=
 ∀(value slice:Expr)(pins:List (V_×Obj))(s:Wd)(σ:St)(H:Hp)(x y:V)(v u:We)(Q:VK),Inv X pins σ H s->RelV x v->RelV y u->r x y H Q->
  subscripted slice false v u=operate [v,u] (getItem v u)->Wx (model X.prog X.w) X.A (subscriptTail value slice v u) (EP X pins σ Q) X.xe s
def Oj(X:Cx)(id:String)(r:V->List V->Hp->VK->Prop):Prop :=
 ∀(pins:List (V_×Obj))(s:Wd)(σ:St)(H:Hp)(x:V)(xs:List V)(v:We)(us:List We)(Q:VK),Inv X pins σ H s->RelV x v->Vals xs us->r x xs H Q->
  Wx (model X.prog X.w) X.A (call (.builtin id) (v::us)) (EP X pins σ Q) X.xe s
section
variable {X:Cx} {a b:Expr} {ta tb:TE} {pos:Pos}
theorem DZ.or{r r':R2}(h:DZ X r)(h':DZ X r'):DZ X (λx y H Q=>r x y H Q\/r' x y H Q):=by
 intro value slice pins s σ H x y v u Q I rx ry q hs
 rcases q with q | q
 ·exact h value slice pins s σ H x y v u Q I rx ry q hs
 ·exact h' value slice pins s σ H x y v u Q I rx ry q hs
theorem L5{r:R2}(hr:DZ X r)(ha:PE X a ta)(hb:PE X b tb)(hs:wK b):PE X (.Subscript a b pos) (LM r ta tb):=by
 intro pins s σ H Q I h
 exact Subscript_ (Hl ha hb I h λv u s2 x y H2 I2 rx ry q=>hr a b pins s2 σ H2 x y v u Q I2 rx ry q (hs _ _))
def L6(K:PySem.W.Frag):R2:=λx y H Q=>∃p xs i v,x= .ref p/\y= .int i/\jY K H p xs/\kX xs i=some v/\Q v H
def L7(K:PySem.W.Frag):R2:=λx y H Q=>∃p xs i v,x= .ref p/\y= .int i/\eM K H p xs/\kX xs i=some v/\Q v H
def L8:R2:=λx y H Q=>∃z i c,x= .str z/\y= .int i/\z.length<=Wu/\kX z.cps.toList i=some c/\Q (.str ⟨#[c]⟩) H
theorem D0:DZ X (L6 X.K):=by
 intro value slice pins s σ H x y v u Q I rx ry h hs
 obtain⟨p,xs,i,z,rfl,rfl,hq,he,q⟩:=h
 cases rx
 obtain⟨t,rfl⟩:=ry
 obtain⟨its,r,pl,hz⟩:=I.list hq
 obtain⟨j,h1,h2,h3,h4,h5⟩:=mH he
 obtain⟨w,ew,rw'⟩:=r.get h2
 have hl:=r.length
 have hn:=jG
 have fin:EP X pins σ Q w s:=⟨z,H,I,rw',q⟩
 by_cases h0:0<=i
 ·have hj:i.toNat=j:=by
   rw[seqIndex_of h0 h5] at h1
   exact Option.some.inj h1
  exact item_listR pl.isList h0 (by omega) (by rw[hj];simpa using ew) fin hs
 ·have hj:(i+(its.toArray.size:Int)).toNat=j:=by
   rw[seqIndex_neg (by omega) h4] at h1
   rw[aT,<-hl]
   exact Option.some.inj h1
  exact subscriptTail_builtinR (x:=w) pl.isList.typeIs slot_list_getitem.lookup
   (wpAny_getItem_list_neg (Q:=λr s'=>r=w/\EP X pins σ Q r s') pl.isList (by omega) (by rw[aT]<;>omega) (by omega) (by rw[hj];simpa using ew) ⟨rfl,fin⟩) hs
theorem HI:DZ X (L7 X.K):=by
 intro value slice pins s σ H x y v u Q I rx ry h hs
 obtain⟨p,xs,i,z,rfl,rfl,hq,he,q⟩:=h
 cases rx
 obtain⟨t,rfl⟩:=ry
 obtain⟨its,r,pl,hz⟩:=I.tuple hq
 obtain⟨j,h1,h2,h3,h4,h5⟩:=mH he
 obtain⟨w,ew,rw'⟩:=r.get h2
 have hl:=r.length
 have hn:=jG
 have fin:EP X pins σ Q w s:=⟨z,H,I,rw',q⟩
 exact subscriptTail_builtinR (x:=w) pl.typeIs slot_tuple_getitem.lookup
  (getItem_tuple (j:=j) (Q:=λr s'=>r=w/\EP X pins σ Q r s') pl (by omega) (by omega) (by rw[aT,<-hl];exact h1) (by simpa using ew) ⟨rfl,fin⟩) hs
theorem HJ:DZ X L8:=by
 intro value slice pins s σ H x y v u Q I rx ry h hs
 obtain⟨z,i,c,rfl,rfl,hz,he,q⟩:=h
 obtain⟨t,rfl⟩:=rx
 obtain⟨t',rfl⟩:=ry
 obtain⟨j,h1,h2,h3,h4,h5⟩:=mH he
 have hl:z.cps.toList.length=z.length:=by simp[Str.length]
 rw[hl] at h1 h4 h5
 have hn:=jG
 exact tail_any (typeIs_str s z t) slot_str_getitem.lookup (getItem_str (c:=c) (by
  have e1:decide (i < -(2 ^ 63:Int))=false:=decide_eq_false (by omega)
  have e2:decide (i >= 2 ^ 63)=false:=decide_eq_false (by omega)
  rw[e1,e2,Bool.or_false]) (by rw[h1];simpa using h2) ⟨.str ⟨#[c]⟩,H,I.tok _,⟨_,rfl⟩,q⟩) hs
def Sn(K:PySem.W.Frag):R2:=λx y H Q=>L6 K x y H Q\/L7 K x y H Q\/L8 x y H Q
theorem HK:DZ X (Sn X.K):=D0.or (HI.or HJ)
theorem uU(its:List We)(n j:Nat)(u:We):j_ (·.setIfInBounds j u) { cls:=.type "list",data:=.seq its.toArray n }={ cls:=.type "list",data:=.seq (its.set j u).toArray n }:=by
 simp[j_]
theorem Inv.lst{pins:List (V_×Obj)}{σ:St}{H:Hp}{s:Wd}{p:V_}{xs:List V}(I:Inv X pins σ H s)(h:H p=some (.lst xs)) :
  ∃(its:List We)(n:Nat),Vals xs its/\s.heap.get? p=some { cls:=.type "list",data:=.seq its.toArray n }/\xs.length<=Wu:=by
 obtain⟨z,its,n,r,e⟩:=I.hok p _ h
 exact⟨its,n,r,e,z⟩
theorem Inv.HL{pins:List (V_×Obj)}{σ:St}{H:Hp}{s:Wd}{p:V_}{xs ys:List V}{its its':List We}{n n':Nat}{f:Obj->Obj}(I:Inv X pins σ H s)(h:H p=some (.lst xs))
  (ho:s.heap.get? p=some { cls:=.type "list",data:=.seq its.toArray n })(hf:f { cls:=.type "list",data:=.seq its.toArray n }={ cls:=.type "list",data:=.seq its'.toArray n' })(r:Vals ys its')(hz:ys.length<=Wu)(t:Nat) :
  Inv X pins σ (upd H p (.lst ys)) { s with heap:=s.heap.update p f,toks:=t }:=by
 have e:(s.heap.update p f).get? p=some { cls:=.type "list",data:=.seq its'.toArray n' }:=by
  rw[uV f ho (by rw[hf]<;>rfl),hf]
 refine I.write (x:=p) (e:=p) (by rw[h];trivial) (.inl rfl) (λb u hb q=>(nu _ _ (bq hb)).trans q) ⟨_,e⟩ ?_
 exact⟨hz,its',n',r,e⟩
def L9:V->V->V->Hp->(Hp->Prop)->Prop:=λo i v H Q=>∃p xs k j,o= .ref p/\i= .int k/\H p=some (.lst xs)/\ym xs.length k=some j/\Q (upd H p (.lst (xs.set j v)))
theorem set_list:LI X L9:=by
 intro pins s σ H o i v ov iv u Q I ro ri rv h
 obtain⟨p,xs,k,j,rfl,rfl,hp,hj,q⟩:=h
 cases ro
 obtain⟨t,rfl⟩:=ri
 obtain⟨its,n,r,ho,hz⟩:=I.lst hp
 obtain⟨h1,h2,h3,h4⟩:=wJ hj
 have hl:=r.length
 have hn:=jG
 have I':Inv X pins σ (upd H p (.lst (xs.set j v))) { s with heap:=s.heap.update p (j_ (·.setIfInBounds j u)) } :=
  I.HL hp ho (uU its n j u) (r.set rv j) (by rw[zZ];exact hz) s.toks
 by_cases h0:0<=k
 ·have hk:k.toNat=j:=by
   rw[seqIndex_of h0 h4] at h1
   exact Option.some.inj h1
  exact PySem.W.ki_setAt ho h0 (by omega) (by rw[aT,<-hl];exact h4) (by rw[hk];exact⟨_,I',q⟩)
 ·have hk:(k+(its.toArray.size:Int)).toNat=j:=by
   rw[seqIndex_neg (by omega) h3] at h1
   rw[aT,<-hl]
   exact Option.some.inj h1
  exact PySem.W.ki_setBack ho (by omega) (by rw[aT,<-hl];exact h3) (by omega) (by rw[hk];exact⟨_,I',q⟩)
theorem qy(lo hi:Option Int)(n:Nat):(sliceBounds lo hi none n).1=((HT.cD n 0 lo:Nat):Int)/\(sliceBounds lo hi none n).2.1=((HT.cD n n hi:Nat):Int)/\(sliceBounds lo hi none n).2.2=1:=by
 refine⟨?_,?_,rfl⟩
 ·cases lo with
  | none=>simp[sliceBounds,HT.cD]
  | some i=>
   simp only[sliceBounds,HT.cD,Option.getD_none,show(1:Int) > 0 by decide,if_true]
   by_cases h:i < 0
   ·simp only[h,if_true]<;>omega
   ·simp only[h,if_false]<;>omega
 ·cases hi with
  | none=>simp[sliceBounds,HT.cD]
  | some i=>
   simp only[sliceBounds,HT.cD,Option.getD_none,show(1:Int) > 0 by decide,if_true]
   by_cases h:i < 0
   ·simp only[h,if_true]<;>omega
   ·simp only[h,if_false]<;>omega
theorem oR(its:List We)(lo hi:Option Int):slicePick its.toArray lo hi none=((its.drop (HT.cD its.length 0 lo)).take (HT.cD its.length its.length hi - HT.cD its.length 0 lo)).toArray:=by
 obtain⟨h1,h2,h3⟩:=qy lo hi its.toArray.size
 unfold slicePick
 rw[h1,h2,h3]
 simp only[sliceRange_one,pick_run,aT]<;>rfl
def PQ(K:PySem.W.Frag):V->Option Int->Option Int->Hp->VK->Prop:=λx lo hi H Q=>∃a xs,x= .ref a/\jY K H a xs/\∀p,H p=none->Q (.ref p) (upd H p (.lst (oQ xs lo hi)))
theorem D1:Dn X (PQ X.K):=by
 intro pins s σ H x v vl vu lo hi sl Q I rx hs pl pu h
 obtain⟨a,xs,rfl,hx,q⟩:=h
 cases rx
 obtain⟨its,r,ht,hz⟩:=I.list hx
 have hlen:=r.length
 refine⟨"list",_,slot_list_getitem.lookup,ht.isList.typeIs,?_⟩
 refine wpAny_getItem_list_slice ht.isList hs pl pu .none (by simp) ?_ (by rw[aT]<;>omega)
 rw[oR,<-hlen]
 refine⟨.ref s.heap.objs.size,_,I.laid (t':=s.toks) (o:=.lst (oQ xs lo hi)) (λb ob q=>a7 _ q) (ay _) ?_,rfl,q _ (I.hok.fresh (ay _))⟩
 exact⟨a5 (lZ xs lo hi) hz,_,0,(r.drop (HT.cD xs.length 0 lo)).take (HT.cD xs.length xs.length hi - HT.cD xs.length 0 lo),bM _ rfl⟩
def jB:V->Bool
 | .non=>true
 | .bl _=>true
 | .int _=>true
 | .str _=>true
 | _=>false
def D2:V->V->Bool
 | .non,.non=>true
 | .bl a,.bl b=>a == b
 | .bl a,.int b=>(if a then 1 else 0) == b
 | .int a,.bl b=>a == (if b then 1 else 0)
 | .int a,.int b=>a == b
 | .str a,.str b=>a == b
 | _,_=>false
theorem HM{A:V'}{s:Wd}{y x:V}{u v:We}(ry:RelV y u)(rx:RelV x v)(fy:jB y=true)(fx:jB x=true):SeqAt.EqAt A s u v (D2 y x):=by
 cases y with
 | non=>
  cases ry
  cases x with
  | non=>cases rx;exact DB _
  | bl b=>cases rx;exact SeqAt.EqAt.none_bool b
  | int b=>obtain⟨t,rfl⟩:=rx;exact Dz b t
  | str b=>obtain⟨t,rfl⟩:=rx;exact DA b t
  | _=>exact absurd (show false=true from fx) bz
 | bl a=>
  cases ry
  cases x with
  | non=>cases rx;exact SeqAt.EqAt.bool_none a
  | bl b=>cases rx;exact SeqAt.EqAt.bool_bool a b
  | int b=>obtain⟨t,rfl⟩:=rx;exact SeqAt.EqAt.bool_int a b t
  | str b=>obtain⟨t,rfl⟩:=rx;exact SeqAt.EqAt.bool_str a b t
  | _=>exact absurd (show false=true from fx) bz
 | int a=>
  obtain⟨t',rfl⟩:=ry
  cases x with
  | non=>cases rx;exact Dv a t'
  | bl b=>cases rx;exact SeqAt.EqAt.int_bool a t' b
  | int b=>obtain⟨t,rfl⟩:=rx;exact SeqAt.EqAt.int_int a t' b t
  | str b=>obtain⟨t,rfl⟩:=rx;exact Du a t' b t
  | _=>exact absurd (show false=true from fx) bz
 | str a=>
  obtain⟨t',rfl⟩:=ry
  cases x with
  | non=>cases rx;exact Dy a t'
  | bl b=>cases rx;exact SeqAt.EqAt.str_bool a t' b
  | int b=>obtain⟨t,rfl⟩:=rx;exact Dx a t' b t
  | str b=>obtain⟨t,rfl⟩:=rx;exact SeqAt.EqAt.str_str a t' b t
  | _=>exact absurd (show false=true from fx) bz
 | _=>exact absurd (show false=true from fy) bz
def D3(x:V)(u:We):Bool:=match u with
 | .none=>D2 .non x
 | .bool b=>D2 (.bl b) x
 | .int i _=>D2 (.int i) x
 | .str z _=>D2 (.str z) x
 | _=>false
theorem z_{x y:V}{u:We}(r:RelV y u)(f:jB y=true):D3 x u=D2 y x:=by
 cases y with
 | non=>cases r;rfl
 | bl b=>cases r;rfl
 | int i=>obtain⟨t,rfl⟩:=r;rfl
 | str z=>obtain⟨t,rfl⟩:=r;rfl
 | _=>exact absurd (show false=true from f) bz
theorem qz{x:V}:∀{xs:List V}{us:List We},Vals xs us->xs.all jB=true->us.any (D3 x)=xs.any λy=>D2 y x
 | _,_,.nil,_=>rfl
 | y::xs,u::us,.cons r t,f=>by
  rw[cF,cw] at f
  rw[dz,dz,z_ r f.1,qz t f.2]
theorem ny{A:V'}{s:Wd}{x:V}{v:We}(rx:RelV x v)(fx:jB x=true):∀{xs:List V}{us:List We},Vals xs us->xs.all jB=true->∀u∈us,SeqAt.EqAt A s u v (D3 x u)
 | _,_,.nil,_=>λu hu=>by cases hu
 | y::xs,u::us,.cons r t,f=>λu' hu=>by
  rw[cF,cw] at f
  rcases List.mem_cons.mp hu with rfl | hu
  ·rw[z_ r f.1];exact HM r rx f.1 fx
  ·exact ny rx fx t f.2 u' hu
def Ol(x:V)(xs:List V):Bool:=xs.any λy=>D2 y x
def Ug(K:PySem.W.Frag)(neg:Bool):R2:=λx y H Q=>∃p xs,y= .ref p/\(jY K H p xs\/eM K H p xs)/\jB x=true/\xs.all jB=true/\Q (.bl (if neg then !Ol x xs else Ol x xs)) H
theorem yn:eF X (Wm .In) (Ug X.K false):=by
 intro pins s σ H x y v u Q I rx ry h
 obtain⟨p,xs,rfl,hq,fx,fs,q⟩:=h
 cases ry
 rcases hq with hq | hq
 ·obtain⟨its,r,pl,hz⟩:=I.list hq
  refine SeqAt.in_listAt (D3 x) pl.isList (λw hw=>ny rx fx r fs w (by simpa using hw)) ⟨.bl _,H,I,rfl,?_⟩
  rw[show its.toArray.any (D3 x)=its.any (D3 x) by simp,qz r fs]
  exact q
 ·obtain⟨its,r,pl,hz⟩:=I.tuple hq
  refine SeqAt.in_tupleAt (D3 x) pl (λw hw=>ny rx fx r fs w (by simpa using hw)) ⟨.bl _,H,I,rfl,?_⟩
  rw[show its.toArray.any (D3 x)=its.any (D3 x) by simp,qz r fs]
  exact q
theorem qA:cH X (.builtin "len") (λxs H Q=>∃p ys,xs=[.ref p]/\(jY X.K H p ys\/eM X.K H p ys)/\Q (.int ys.length) H):=by
 intro pins s σ H xs us Q I r h
 obtain⟨p,ys,rfl,hq,q⟩:=h
 obtain⟨u,rfl,rx⟩:=vals1 r
 cases rx
 have hn:=jG
 rcases hq with hq | hq
 ·obtain⟨its,r',pl,hz⟩:=I.list hq
  have hlen:=r'.length
  exact Calls.call_len_list pl.isList (by simp only[aT]<;>omega) ⟨.int ys.length,H,I.tok _,⟨s.toks+1,by rw[aT,hlen]⟩,q⟩
 ·obtain⟨its,r',pl,hz⟩:=I.tuple hq
  have hlen:=r'.length
  exact len_tuple pl (by simp only[aT]<;>omega) ⟨.int ys.length,H,I.tok _,⟨s.toks+1,by rw[aT,hlen]⟩,q⟩
theorem qB:cH X (.builtin "len") (λxs H Q=>∃z,xs=[.str z]/\z.length<=Wu/\Q (.int z.length) H):=by
 intro pins s σ H xs us Q I r h
 obtain⟨z,rfl,hz,q⟩:=h
 obtain⟨u,rfl,t,rfl⟩:=vals1 r
 have hn:=jG
 exact len_str (by omega) ⟨.int z.length,H,I.tok _,⟨_,rfl⟩,q⟩
theorem cH.or{f:We}{r r':List V->Hp->VK->Prop}(h:cH X f r)(h':cH X f r'):cH X f (λxs H Q=>r xs H Q\/r' xs H Q):=by
 intro pins s σ H xs us Q I rs q
 rcases q with q | q
 ·exact h pins s σ H xs us Q I rs q
 ·exact h' pins s σ H xs us Q I rs q
theorem oS:cH X (.type "tuple") (λxs H Q=>∃p ys,xs=[.ref p]/\((jY X.K H p ys/\∀l,H l=none->Q (.ref l) (upd H l (.tup ys)))\/(eM X.K H p ys/\Q (.ref p) H))):=by
 intro pins s σ H xs us Q I r h
 obtain⟨p,ys,rfl,h⟩:=h
 obtain⟨u,rfl,rx⟩:=vals1 r
 cases rx
 rcases h with ⟨hq,q⟩ | ⟨hq,q⟩
 ·obtain⟨its,r',pl,hz⟩:=I.list hq
  have hlen:=r'.length
  refine call_tuple_list pl.isList (λh' kp=>?_) (by simp only[aT]<;>omega)
  have I1:Inv X pins σ H { s with heap:=h' }:=I.kept (t':=s.toks) kp
  have I2:Inv X pins σ (upd H h'.objs.size (.tup ys)) { s with heap:=h'.push { cls:=.type "tuple",data:=.seq its.toArray } } :=
   I1.laid (t':=s.toks) (λb o e=>a7 _ e) (ay _) (show cC X.prog X.w _ _ _ (.tup ys) from⟨hz,its,r',qw _ _,qg.new _ _⟩)
  exact⟨.ref h'.objs.size,_,I2,rfl,q _ (I1.hok.fresh (ay _))⟩
 ·obtain⟨its,r',pl,hz⟩:=I.tuple hq
  exact call_tuple_same pl ⟨.ref p,H,I,rfl,q⟩
def So(K:PySem.W.Frag)(T:String)(x:V)(H:Hp):Prop:=match x with
 | .str _=>T="str"
 | .int _=>T="int"
 | .ref p=>(T="list"/\∃xs,jY K H p xs)\/(T="tuple"/\((∃o,K.lookup p=some o/\o.cls= .type "tuple"/\o.dict=none)\/∃xs,H p=some (.tup xs)))\/
   (T="dict"/\((∃kvs,H p=some (.dK kvs))\/∃kvs,H p=some (.dT kvs)))\/(T="set"/\∃S n,H p=some (.set S n))\/(T="dict"/\∃kvs,H p=some (.dN kvs))
 | _=>False
theorem HN{pins:List (V_×Obj)}{σ:St}{H:Hp}{s:Wd}{T:String}{x:V}{v:We}(I:Inv X pins σ H s)(r:RelV x v)(ty:So X.K T x H) :
  s.TypeIs v T/\∀a,v= .ref a->∃ob,s.heap.get? a=some ob/\ob.dict=none:=by
 cases x with
 | str z=>
  obtain⟨t,rfl⟩:=r
  cases (show T="str" from ty)
  exact⟨typeIs_str s z t,λ_ e=>nomatch e⟩
 | int i=>
  obtain⟨t,rfl⟩:=r
  cases (show T="int" from ty)
  exact⟨typeIs_int s i t,λ_ e=>nomatch e⟩
 | ref p=>
  cases r
  rcases ty with ⟨rfl,xs,hq⟩ | ⟨rfl,⟨o,hk,hc,hd⟩ | ⟨xs,hk⟩⟩ | ⟨rfl,hk⟩ | ⟨rfl,S,n,hk⟩ | ⟨rfl,kvs,hk⟩
  ·obtain⟨its,_,pl,_⟩:=I.list hq
   refine⟨pl.isList.typeIs,λa e=>?_⟩
   cases e
   obtain⟨o,n,e,c,hd,_⟩:=pl
   exact⟨o,e,hd⟩
  ·refine⟨⟨o,I.pq p o hk,hc⟩,λa e=>?_⟩
   cases e
   exact⟨o,I.pq _ o hk,hd⟩
  ·obtain⟨_,_,_,⟨o,e1,e2,_⟩,nd⟩:=I.hok p _ hk
   refine⟨⟨o,e1,e2⟩,λa e=>?_⟩
   cases e
   exact⟨o,e1,nd o e1⟩
  ·have z:∃o,s.heap.get? p=some o/\o.ExactDict:=by
    rcases hk with ⟨kvs,hk⟩ | ⟨kvs,hk⟩
    ·obtain⟨_,_,_,_,o,_,_,e,ex,_⟩:=I.hok p _ hk
     exact⟨o,e,ex⟩
    ·obtain⟨_,_,_,_,o,_,_,e,ex,_⟩:=I.hok p _ hk
     exact⟨o,e,ex⟩
   obtain⟨o,e,ex⟩:=z
   refine⟨⟨o,e,ex.1⟩,λa e2=>?_⟩
   cases e2
   exact⟨o,e,ex.2.1⟩
  ·obtain⟨o,_,_,_,e,ex,_⟩:=I.hok p _ hk
   refine⟨⟨o,e,ex.1⟩,λa e2=>?_⟩
   cases e2
   exact⟨o,e,ex.2.1⟩
  ·obtain⟨_,_,_,_,o,_,_,e,ex,_⟩:=I.hok p _ hk
   refine⟨⟨o,e,ex.1⟩,λa e2=>?_⟩
   cases e2
   exact⟨o,e,ex.2.1⟩
 | _=>exact ae ty
def Uh(K:PySem.W.Frag)(T:String)(r:V->List V->Hp->VK->Prop)(to:TE)(t:TA):TE:=λσ H Q=>to σ H λx H1=>So K T x H1/\t σ H1 λxs H2=>r x xs H2 Q
variable {o e:Expr} {es:List Expr} {to:TE} {t:TA} {name:Str} {apos cpos:Pos} {T id:String} {r:V->List V->Hp->VK->Prop}
theorem L_(pa:PlainAttrs T)(slot:Slot T name id)(hty:typeOf (.builtin id)=pure (.type "method_descriptor"))(hm:Oj X id r)(ho:PE X o to)(ha:PA X (e::es) t)
  (hbase:attributeBase o name X.env (eval o X.env)=eval o X.env:=by rfl)
  (hfew:((backTo cpos (Ww (e::es) X.env)).all (λx=> !x.1)&&(backToKw cpos (keywordEach [] X.env)).all (λx=>x.1.isSome)
   &&decide ((e::es).length+([]:List Keyword).length+(if([]:List Keyword).isEmpty then 0 else 1) < 30))=true:=by rfl)
  (hline:(apos.endLine == cpos.line)=true:=by rfl)(hs:Ww (e::es) X.env=(false,eval e X.env)::Ww es X.env:=by rfl)(hplain:(backTo cpos (Ww es X.env)).any (·.1)=false:=by rfl) :
  PE X (.Call (.Attribute o name apos) (e::es) [] cpos) (Uh X.K T r to t):=by
 intro pins s σ H Q I h
 refine wpAny_Call_method_late hbase hfew hline rfl (a8 (ho pins s σ H _ I h) λv s1 ⟨x,H1,I1,r1,ty,q1⟩=>?_)
 obtain⟨h1,h2⟩:=HN I1 r1 ty
 refine⟨T,id,pa,slot,hty,h1,h2,?_⟩
 have hA:=ha cpos pins s1 σ H1 _ I1 q1
 rw[hs] at hA ⊢
 refine uW (by show(false||(backTo cpos (Ww es X.env)).any (·.1))=false;rw[hplain]<;>rfl) (uX ?_)
 exact a8 hA λus s2 ⟨vs,H2,I2,r2,q2⟩=>hm pins s2 σ H2 x vs v us Q I2 r1 r2 q2
/- xs.append(e),list.index on a Aa tuple .. are Oj facts of 06m -/
end
def PR(X:Cx)(id:String)(r:V->List V->Hp->VK->Prop):Prop :=
 ∀(pins:List (V_×Obj))(s:Wd)(σ:St)(H:Hp)(x:V)(xs:List V)(v:We)(us:List We)(Q:VK),Inv X pins σ H s->RelV x v->Vals xs us->r x xs H Q->
  Wx (model X.prog X.w) X.A (call (.builtin id) (v::us)) (EP X pins σ Q) X.xe s
theorem Vals.one:∀{x:V}{us:List We},Vals [x] us->∃u,us=[u]/\RelV x u
 | _,_,.cons r .nil=>⟨_,rfl,r⟩
theorem Vals.rep{xs:List V}{us:List We}(h:Vals xs us):∀k:Nat,Vals (aN k xs).flatten (aN k us).flatten
 | 0=> .nil
 | k+1=>by
  rw[fP,fP,nz,nz]
  exact Vals.append h (Vals.rep h k)
theorem foldl_rep(its:List We):∀(k:Nat)(acc:List We),
  nA (λx1 x2=>x1++x2) acc.toArray (aN k its.toArray)=(acc++(aN k its).flatten).toArray
 | 0,acc=>by simp
 | k+1,acc=>by
  have e:acc.toArray++its.toArray=(acc++its).toArray:=by simp
  have e2:(acc++its)++(aN k its).flatten=acc++(aN (k+1) its).flatten:=by
   rw[fP,nz,Ab]
  rw[<-e2,<-foldl_rep its k (acc++its),<-e,fP,Ac]
section
variable {X:Cx} {pins:List (V_×Obj)} {σ:St} {H:Hp} {s:Wd} {l b:V_} {xs ys zs:List V}
theorem Inv.HP{its its':List We}{n:Nat}{f:Array We->Array We}{t':Nat}(I:Inv X pins σ H s)(hH:H l=some (.lst xs))
  (e:s.heap.get? l=some { cls:=.type "list",data:=.seq its.toArray n })(hf:f its.toArray=its'.toArray)(hv:Vals ys its')(hz:ys.length<=Wu) :
  Inv X pins σ (upd H l (.lst ys)) { s with heap:=s.heap.update l (j_ f),toks:=t' }:=by
 have q:=PySem.IsL.update e f
 rw[hf] at q
 refine I.write (x:=l) (e:=l) (by rw[hH];exact trivial) (.inl rfl) (λb' u hb hu=>(nu s.heap (j_ f) (bq hb)).trans hu) ⟨_,q⟩ ?_
 exact⟨hz,its',_,hv,q⟩
theorem Inv.HQ{its:List We}{t':Nat}(I:Inv X pins σ H s)(hv:Vals ys its)(hz:ys.length<=Wu) :
  Inv X pins σ (upd H s.heap.objs.size (.lst ys)) { s with heap:=s.heap.push { cls:=.type "list",data:=.seq its.toArray },toks:=t' } :=
 I.laid (λ_ _ q=>a7 _ q) (ay _) ⟨hz,its,0,hv,bM _ rfl⟩
theorem Inv.fresh(I:Inv X pins σ H s):H s.heap.objs.size=none:=I.hok.fresh (ay _)
theorem Inv.Ad(I:Inv X pins σ H s)(hH:H l=some (.lst xs)):xs.length<=Wu/\∃(its:List We)(n:Nat),Vals xs its/\xs.length=its.length/\s.heap.get? l=some { cls:=.type "list",data:=.seq its.toArray n }:=by
 obtain⟨z,its,n,r,e⟩:=I.hok l _ hH
 exact⟨z,its,n,r,r.length,e⟩
theorem nB{n:Nat}(h:n<=Wu):nC n=false:=by
 unfold nC
 exact decide_eq_false (by omega)
end
section
variable {X:Cx}
def D4:V->List V->Hp->VK->Prop:=λx vs H Q=>∃l xs y,x= .ref l/\vs=[y]/\H l=some (.lst xs)/\xs.length < Wu/\Q .non (upd H l (.lst (xs++[y])))
theorem yo:PR X "list.append" D4:=by
 intro pins s σ H x vs v us Q I rx rv h
 obtain⟨l,xs,y,rfl,rfl,hH,hz,q⟩:=h
 cases rx
 obtain⟨u,rfl,ru⟩:=rv.one
 obtain⟨z,its,n,r,hl,e⟩:=I.Ad hH
 refine call_meets F.slot_list_append ⟨_,e,rfl⟩ F.entry_list_append (F.args_list_append_2 _ _) (PySem.list_append l its.toArray n u (by rw[aT];omega)) ⟨e,?_⟩
 refine⟨.non,_,I.HP (its':=its++[u]) hH e (by simp) (r.append (.cons ru .nil)) ?_,rfl,q⟩
 rw[iB,List.length_singleton]
 omega
def D5:V->List V->Hp->VK->Prop:=λx vs H Q=>∃l b xs zs,x= .ref l/\vs=[.ref b]/\H l=some (.lst xs)/\H b=some (.lst zs)/\xs.length+zs.length<=Wu/\Q .non (upd H l (.lst (xs++zs)))
theorem yp:PR X "list.extend" D5:=by
 intro pins s σ H x vs v us Q I rx rv h
 obtain⟨l,b,xs,zs,rfl,rfl,hH,hB,hz,q⟩:=h
 cases rx
 obtain⟨u,rfl,ru⟩:=rv.one
 cases ru
 obtain⟨z,its,n,r,hl,e⟩:=I.Ad hH
 obtain⟨z2,its2,n2,r2,hl2,e2⟩:=I.Ad hB
 have hsz:its.toArray.size+its2.toArray.size<=Wu:=by rw[aT,aT];omega
 have sy:¬(!its.toArray.isEmpty&&nC (its.toArray.size+its2.toArray.size))=true:=by
  rw[nB hsz,Bool.and_false]
  exact bz
 refine call_meets F.slot_list_extend ⟨_,e,rfl⟩ F.entry_list_extend (F.args_list_extend_2 _ _)
  (AutoSeq1.list_extend_list_list_0 l its.toArray n b its2.toArray n2 sy (by rw[aT];omega) (by omega)) ⟨e,e2,?_⟩
 refine⟨.non,_,I.HP (its':=its++its2) hH e (by simp) (r.append r2) ?_,rfl,q⟩
 rw[iB]
 omega
def PU:R2:=λx y H Q=>∃l k xs,x= .ref l/\y= .int k/\H l=some (.lst xs)/\-(2 ^ 63)<=k/\k < 2 ^ 63/\xs.length * k.toNat<=Wu/\
 ∀p,H p=none->Q (.ref p) (upd H p (.lst (aN k.toNat xs).flatten))
theorem len_rep{α:Type}(xs:List α)(k:Nat):(aN k xs).flatten.length=k * xs.length:=by
 induction k with
 | zero=>simp
 | succ k ih=>rw[fP,nz,iB,ih,Nat.succ_mul,Nat.add_comm]
theorem HR:eF X (Wh .Mult) PU:=by
 intro pins s σ H x y v u Q I rx ry h
 obtain⟨l,k,xs,rfl,rfl,hH,h1,h2,hz,q⟩:=h
 cases rx
 obtain⟨t,rfl⟩:=ry
 obtain⟨z,its,n,r,hl,e⟩:=I.Ad hH
 have hlen:its.toArray.size * k.toNat<=Wu:=by rw[aT,<-hl];exact hz
 have hcap:¬its.toArray.size * k.toNat > (2 ^ 63 - 1) / 8:=by
  have:(Wu:Nat)<=(2 ^ 63 - 1) / 8:=by decide
  omega
 have hfit:¬(!Builtin.List.listFitsIndex k)=true:=by
  rw[fitsIndex_both h1 h2]
  exact bz
 have sy:¬nC (its.toArray.size * k.toNat)=true:=by
  rw[nB hlen]
  exact bz
 have hnew:nA (λx1 x2=>x1++x2) #[] (aN (if its.toArray.isEmpty=true then 0 else k.toNat) its.toArray)=(aN k.toNat its).flatten.toArray:=by
  have f0:∀m:Nat,nA (λx1 x2=>x1++x2) #[] (aN m its.toArray)=(aN m its).flatten.toArray:=λm=>by
   have:=foldl_rep its m []
   rw[nD] at this
   exact this
  rw[f0]
  cases its with
  | nil=>simp
  | cons a r'=>rw[if_neg (by simp)]
 refine wpAny_binaryOp_repeat_ref (T:="list") (U:="int") (by decide) ⟨_,e,rfl⟩ (λs'=>typeIs_int s' k t) noFill_list_mul F.fills_int_mul uY repeat_list F.slot_int_index.lookup
  (call_meets uY (typeIs_int s k t) F.entry_int_rmul (F.args_int_rmul_2 _ _) (int___rmul___int_list k t l its.toArray n)
   ⟨e,rfl,⟨_,e,rfl⟩,call_meets F.slot_list_mul ⟨_,e,rfl⟩ F.entry_list_mul (F.args_list_mul_2 _ _) (AutoListH.list___mul___list_int_3 l its.toArray n k t hfit hcap sy) ⟨e,?_⟩⟩)
 rw[hnew]
 exact⟨.ref _,_,I.HQ (t':=s.toks) (r.rep k.toNat) (by rw[len_rep,wL];exact hz),rfl,q _ I.fresh⟩
end
section
variable {prog:Wc} {w:Wf} {A:V'} {E:We->Wd->Prop} {s:Wd}
set_option maxRecDepth 100000 in
end
section
variable {X:Cx}
end
end L2
namespace Att
open PySem PySem.W PySem.Calls PyProof.Rows
theorem mr{P:Params}{h:Heap}:∀(ns:List Int)(vs:List We),WellAll P h vs (ns.map WData.int)->IntsAre vs ns:=by
 intro ns
 induction ns with
 | nil=>
  intro vs w
  rw[qC] at w
  cases w
  exact .nil
 | cons n ns ih=>
  intro vs w
  rw[bb] at w
  cases w with
  | cons a b=>
   cases a
   exact .cons _ _ (ih _ b)
theorem yq{l:OpenLaw}{n:Nat}(hn:l.most=some n){P:Params}{h:Heap}{args:List WData}{vals:List We}
  (hpre:l.row.toRowW.claim.pre args=true)(hwl:WellAll P h vals args) :
  ∃a vs ns,vals=[aH a]/\args=[WData.list (ns.map WData.int)]/\h.get? a=some { cls:=.type "list",data:=.seq vs.toArray }/\IntsAre vs ns/\ns.length<=n:=by
 have hsh:WShape.hasAll [] args [.list .int]=true:=(pre_splitW hpre).1
 have hc:l.pre.holds [] { args:=args }=true:=(pre_splitW hpre).2
 obtain⟨d,r,rfl,h1,h2⟩:=hasAllW_cons hsh
 obtain rfl:=hasAllW_nil h2
 obtain⟨xs,rfl,h3⟩:=hasW_list h1
 obtain⟨ns,rfl⟩:=items_int h3
 have hlen:ns.length<=n:=by
  unfold OpenLaw.pre at hc
  have h4:(WTm.not (.lt (.lit (.int (n:Int))) (.len (.arg 0)))).holds [] { args:=[.list (ns.map .int)] }=true:=by
   have h4:=(holds_andW hc).1
   rw[hn] at h4
   exact h4
  have h5:=condW_of h4 (w_not (w_lt w_lit (w_len_list (w_arg rfl))))
  rw[bT] at h5
  refine Nat.le_of_not_lt λq=>?_
  have q':(n:Int) < ((ns.length:Nat):Int):=by omega
  first
   | (rw[decide_eq_true q'] at h5;exact absurd h5 (by decide))
   | (simp at h5;omega)
 cases hwl with
 | cons w1 w2=>
  cases w2
  cases w1 with
  | list ho hall=>exact⟨_,_,ns,rfl,rfl,ho,mr ns _ hall,hlen⟩
theorem yt(l:OpenLaw)(args:List WData):l.row.toRowW.claim.post args (.bool true) args=true :=
 postW_of (r:=l.row.toRowW) (X:=(true == true))
  (show WShape.has [] (.bool true) .bool=true by first | rfl | decide | simp[WShape.has,WShape.arms,WShape.armsAll])
  (show(WTm.eq .res (.lit (.bool true))).value [] { args:=args,res:=some (.bool true),after:=args }=some (.bool (true == true)) from w_eq_bool (w_res rfl) w_lit) rfl
theorem sA{l:OpenLaw}{n:Nat}{q:Wc}{loose:List Str}{XP:(Str->Option We)->Heap->Prop}{YP:Wf->Heap->Prop}{d:DefRec}
  (hn:l.most=some n)(hdf:d.params.defaults=[])
  (call:∀(w:Wf)(s₀ s₁:Wd)(mg mb:Str->Option We)(fa:V_)(o:Obj)(pm cd doc:We)(a:V_)(vs:List We)(ns:List Int),
   Ground q loose [] XP w s₀ mg mb s₁.heap->YP w s₁.heap->
   s₁.heap.get? fa=some o->o.data= .func (docDef d.name d.params d.body d.scope pm cd doc)->s₁.heap.CodeRec cd d.name->mg d.name=some (.ref fa)->
   s₁.heap.get? a=some { cls:=.type "list",data:=.seq vs.toArray }->IntsAre vs ns->ns.length<=n->s₁.gens=#[]->
   Wj (model l.prog w) callerA (.call (.ref fa) ⟨[.ref a],[]⟩) (λr s'=>r= .ok (.ret (.bool true))/\OldK s₁.heap s'.heap/\s'.os=s₁.os/\AllBare s'.gens) s₁) :
  WalkO q loose XP YP l.row.toRowW d [] (λf vs=>PySem.call f vs):=by
 intro w s₀ s₁ mg mb G Y fa o pm cd doc dV kV ho hd hcd hD hmg hg args vals as hpre hlay hrd hwl hlo
 obtain rfl:dV= .none:=Dflts.none hD hdf
 obtain rfl:kV= .none:=Dflts.noKw hD
 obtain⟨a,vs,ns,rfl,rfl,hobj,hints,hlen⟩:=yq hn hpre hwl
 refine enter_call (codeAny_mono (call w s₀ s₁ mg mb fa o pm cd doc a vs ns G Y ho (fd_plain hd) hcd hmg hobj hints hlen hg) λr s' hq=>?_)
 obtain⟨rfl,h2,h3,h4⟩:=hq
 exact⟨.inl ⟨.bool true,.bool true,[],rfl,λ_=>rfl,.bool true,yt l _,λ_=>⟨List.Pairwise.nil,λ_ hm=>(nomatch hm)⟩⟩,h2,h3,h4⟩
section
variable {prog:Wc} {w:Wf} {A:V'} {E:We->Wd->Prop} {s:Wd} {K:Frag}
end
end Att
namespace L2
open PySem PySem.Spec PyProof.Rows
theorem pG:∀{vs:List We}{ns:List Int},IntsAre vs ns->Vals (ns.map V.int) vs
 | _,_,.nil=> .nil
 | _,_,.cons n t h=> .cons ⟨t,rfl⟩ (pG h)
def D6(H:Hp):Prop:=∀b,H b=none\/∃o xs,H b=some (.lV o (.lst xs))
theorem Ae{P:Wc}{w:Wf}{K:PySem.W.Frag}{mg mb:Str->Option We}{CX:yi}{k:Nat}{fa a:V_}{fd:Wa}{x:Str}{sp:Sp}{s₁:Wd}{vs:List We}{ns:List Int}
  (KX:K.In s₁.heap)(hns:s₁.heap.Ns Wt mg)(hb:s₁.heap.Ns builtinsNs mb)(Ui:∀x:Str,x≠"__name__"->mb x=Wi x)(hlim:s₁.heap.NoLimit)(hg:s₁.gens=#[])
  (ha:s₁.heap.get? a=some { cls:=.type "list",data:=.seq vs.toArray })(hi:IntsAre vs ns)(hl:ns.length<=Wu)(hr:e7 k callerA)
  (F:∀base:Heap,K.In base->base.Ns Wt mg->FnOk P w K mg base CX k fa fd [x] sp)(hbind:∀(s:Wd)(u:We),BindsTo s fd ⟨[u],[]⟩ [(x,u)])
  (K_:∀H:Hp,D6 H->jY K H a (ns.map V.int)->sp [.ref a] H (λv _=>v= .bl true) λ_ _ _=>False)
  (PV:∀H e s',CX [] H s₁ (λ_ _ _=>False) e s'->False) :
  Wj (model P w) callerA (.call (.ref fa) ⟨[.ref a],[]⟩) (λr s'=>r= .ok (.ret (.bool true))/\OldK s₁.heap s'.heap/\s'.os=s₁.os/\AllBare s'.gens) s₁:=by
 have rv:=pG hi
 have PX:=hi.length
 -- from an abstract heap in which nothing but the script may be tracked
 have core:∀H:Hp,D6 H->jY K H a (ns.map V.int)->ip P w H s₁.heap->(∀b,H b≠none->b=a)->(H a≠none->K.lookup a=none)->
   Wj (model P w) callerA (.call (.ref fa) ⟨[.ref a],[]⟩) (λr s'=>r= .ok (.ret (.bool true))/\OldK s₁.heap s'.heap/\s'.os=s₁.os/\AllBare s'.gens) s₁:=by
  intro H hO hS hok hA hK
  have wM:∀{b:V_}{o:Obj},s₁.heap.get? b=some o->H b=none->(qh s₁.heap H).get? b=some o:=λe n=>zA e n
  have LY:∀{b:V_}{o:Obj}{es:Array DictEntry}{ep:Nat},s₁.heap.get? b=some o->o.data= .dict es ep->H b=none:=λ{b o es ep} e d=>by
   cases q:H b with
   | none=>rfl
   | some u=>
    have e':b=a:=hA b (by rw[q];simp)
    subst e'
    rw[ha] at e;cases e
    have d':Data.seq vs.toArray _=Data.dict es ep:=d
    cases d'
  have Om:∀{b:V_}{m:Str->Option We},s₁.heap.Ns b m->(qh s₁.heap H).Ns b m:=λ{b m} ⟨o,es,ep,e,d,r⟩=>⟨o,es,ep,wM e (LY e d),d,r⟩
  have Sq:K.In (qh s₁.heap H):=λb o e=>wM (KX b o e) (by
   cases q:H b with
   | none=>rfl
   | some u=>
    have e':b=a:=hA b (by rw[q];simp)
    subst e'
    rw[hK (by rw[q];simp)] at e;cases e)
  have hM:Mod K mg (qh s₁.heap H):=⟨Sq,Om hns,⟨mb,Om hb,Ui⟩,let ⟨mc,h1,h2⟩:=hlim;⟨mc,Om h1,h2⟩⟩
  have e0:sv P w K mg (qh s₁.heap H) callerA [] s₁ H:=⟨rfl,hM,λb o e=>DE e,j8 (x8 _ _),trivial,λb hb=>absurd (show b∈([]:List V_) from hb) (by simp),hok,.of_eq hg⟩
  refine codeAny_mono ((F _ Sq (Om hns)).run callerA [] s₁ H ⟨[.ref a],[]⟩ [.ref a] [.ref a] _ _ hr e0 (hbind s₁ (.ref a)) (.cons rfl .nil) (K_ H hO hS)) λr s' h=>?_
  cases r with
  | error e=>exact(PV H e s' h).elim
  | ok fl=>
   cases fl with
   | next=>exact ae h
   | brk=>exact ae h
   | cont=>exact ae h
   | ret u=>
    obtain⟨v,H',os,bare,un,PY,r',q⟩:=h
    have q':v= .bl true:=q
    subst q'
    obtain rfl:u=Value.bool true:=r'
    refine⟨rfl,OldK.of_keep λb o e=>?_,os,bare⟩
    cases q:H b with
    | none=>exact un.keep b o e q (by intro z;exact absurd (show b∈([]:List V_) from z) (by simp)) (by simp)
    | some u=>
     rcases hO b with z | ⟨ob,xs,z⟩
     ·rw[q] at z;cases z
     ·have z2:=un.mq b ob _ z
      obtain⟨e1,_⟩:=hok b _ z
      obtain⟨e2,_⟩:=PY b _ z2
      rw[e] at e1;cases e1
      exact e2
 cases hk:K.lookup a with
 | some o=>
  -- the script is one of the Aa own objects
  have e:=KX a o hk
  rw[ha] at e
  cases e
  refine core (λ_=>none) (λ_=> .inl rfl) (.inr ⟨_,vs.toArray,_,hk,rfl,rfl,rfl,by rw[aT,PX];exact hl,by simpa using rv⟩) (λb u z=>by have z':(none:Option HO)=some u:=z;cases z') (λb z=>absurd rfl z) λz=>absurd rfl z
 | none=>
  refine core (λb=>if b=a then some (.lV { cls:=.type "list",data:=.seq vs.toArray } (.lst (ns.map V.int))) else none) (λb=>?_) (.inl (.inr ⟨{ cls:=.type "list",data:=.seq vs.toArray },if_pos rfl⟩)) (λb u z=>?_) (λb z=>?_) λ_=>hk
  ·by_cases hb:b=a
   ·exact .inr ⟨_,_,if_pos hb⟩
   ·exact .inl (if_neg hb)
  ·by_cases hb:b=a
   ·have z':=(if_pos hb).symm.trans z
    cases z'
    subst hb
    exact⟨ha,by rw[bT];exact hl,vs,_,rv,ha⟩
   ·have z':=(if_neg hb).symm.trans z
    cases z'
  ·by_cases hb:b=a
   ·exact hb
   ·exact absurd (if_neg hb) z
abbrev KOf{K:PySem.W.Frag}{h:Heap}(_:K.In h):PySem.W.Frag:=K
theorem walk_of{l:PySem.W.OpenLaw}{n k:Nat}{q:Wc}{loose:List Str}{XP:(Str->Option We)->Heap->Prop}{YP:Wf->Heap->Prop}{d:DefRec}{K:Params->PySem.W.Frag}{CX:Wf->yi}{sp:Wf->Sp}{x:Str}
  (hn:l.most=some n)(hn2:n<=Wu)(hdf:d.params.defaults=[])(hr:e7 k callerA)
  (hY:∀(w:Wf)(h:Heap),YP w h->(K w.params).In h)
  (F:∀(w:Wf)(mg:Str->Option We)(fa:V_)(h:Heap),(K w.params).In h->h.Ns Wt mg->mg d.name=some (.ref fa)->
   ∃fd:Wa,(∀(s:Wd)(u:We),BindsTo s fd ⟨[u],[]⟩ [(x,u)])/\
    ∀base:Heap,(K w.params).In base->base.Ns Wt mg->FnOk l.prog w (K w.params) mg base (CX w) k fa fd [x] (sp w))
  (K_:∀(w:Wf)(H:Hp)(a:V_)(ns:List Int),ns.length<=n->D6 H->jY (K w.params) H a (ns.map V.int)->sp w [.ref a] H (λv _=>v= .bl true) λ_ _ _=>False)
  (PV:∀(w:Wf)(H:Hp)(s:Wd)(e:We)(s':Wd),CX w [] H s (λ_ _ _=>False) e s'->False) :
  PySem.W.WalkO q loose XP YP l.row.toRowW d [] (λf vs=>PySem.call f vs):=by
 refine Att.sA hn hdf λw s₀ s₁ mg mb fa o pm cd doc a vs ns G Y ho hd hcd hmg hobj hints hlen hg=>?_
 have KX:=hY w _ Y
 obtain⟨fd,hb,hF⟩:=F w mg fa _ KX G.T.g hmg
 exact Ae KX G.T.g G.T.b G.T.builtins G.T.nolimit hg hobj hints (a5 hlen hn2) hr hF hb (λH hO hS=>K_ w H a ns hlen hO hS) λH e s'=>PV w H s₁ e s'
end L2
/- VM Uj Oo (shape;VN,My.* are Sr):
   My.VO: a structure of the addresses Uk your Ss names (classes,K');My.Txt K t: a structure (Prop) of the equations over K;
   My.HS:{K} {implicit addresses ..} (e1:nsIn K Wt "law"=some (some (.ref f))) (e2:K.lookup f=some ⟨oc,od,.func (fnOf "law" "law" params body scope dV kV doc pm an cdv ct),sl⟩) (e3:codeIn K cdv "law"=true) ..:∃t,My.Txt K t
set_option maxRecDepth 100000 in
set_option maxHeartbeats 0 in
theorem PySem.Challenge.cw_LID_holds:PySem.Challenge.rw_LID.Holds:=by
 w_on;o_law;k_head;(case hw=>w_witness2)
 k_fill
 refine L2.walk_of (l:=PySem.Challenge.rw_LID) (n:=63) (k:=40) (x:="script") (CX:=fun w => ..) (sp:=fun _ => My.sp_law) rfl (by decide) rfl ⟨rfl,by decide,by decide⟩ (fun w h Y => PySem.W.kIn_of Y) ?F ?S ?C
 case F=>
  intro w mg fa h KX G hmg
  have T:∃t,My.Txt (L2.KOf KX) t:=by
   dsimp only[L2.KOf] -- K Ul stand as «<heap const> w.params» for k_is
   refine' My.HS ?e1 ?e2 ?e3 ..
   (case e1=>PySem.W.k_is) -- in the order: a name -> its address -> its object -> its parts
   (case e2=>PySem.W.k_is)
   ..
  obtain⟨t,T⟩:=T
  have e0:=hmg.symm.trans (PySem.W.mg_of KX G T.law)
  cases e0 -- fa is the Su own address
  exact⟨_,λs u=> .of_eq rfl,λbase kb nb=>My.HU T kb nb⟩ -- if «.of_eq rfl» comes VP early: refine' ⟨_,?b,λbase kb nb=>My.HU T kb nb⟩;exact λs u=> .of_eq rfl
 case S=>exact λw H a ns hl hO hS=> ..
 case C=>exact ..
(the tactic k_is has no namespace: write k_is) -/
namespace L2
open PySem PySem.Spec PyProof.Rows
def inClass(s:Stmt)(j:Nat):Stmt:=match s with
 | .ClassDef _ _ _ body _ _ _ _ _ _ _=>body.getD j (.Pass ⟨0,0,0,0⟩)
 | _=> .Pass ⟨0,0,0,0⟩
def defArgs(s:Stmt):Arguments:=match s with
 | .FunctionDef _ a _ _ _ _ _ _ _ _=>a
 | _=>{ posonlyargs:=[],args:=[],vararg:=none,kwonlyargs:=[],kw_defaults:=[],kwarg:=none,defaults:=[] }
def defBody(s:Stmt):List Stmt:=match s with
 | .FunctionDef _ _ b _ _ _ _ _ _ _=>b
 | _=>[]
def defScope(s:Stmt):Scope:=match s with
 | .FunctionDef _ _ _ _ _ _ sc _ _ _=>sc
 | _=>{ kind:=.function,names:=[],isGenerator:=false,isCoroutine:=false }
abbrev CX0:yi:=λ_ _ _ _ _ _=>False
structure D7(K:PySem.W.Frag)(x qual:Str)(st:Stmt)(f:V_)(fd:Wa):Prop where
 ex:∃(oc:We)(od:Option V_)(kV doc pm:We)(an:Option V_)(cdv ct:We)(osl:Array (Option We)),
  fd=PySem.W.fnOf x qual (defArgs st) (defBody st) (defScope st) .none kV doc pm an cdv ct/\K.lookup f=some ⟨oc,od,.func fd,osl⟩/\PySem.W.codeIn K cdv qual=true
 kp:PySem.W.keepIn K (.ref f)=true
section
variable {P:Wc} {w:Wf} {K:PySem.W.Frag} {mg:Str->Option We} {base:Heap}
theorem D7.binds{x qual:Str}{st:Stmt}{f:V_}{fd:Wa}{ps:List Str}(F:D7 K x qual st f fd)
  (h:∀(kV doc pm:We)(an:Option V_)(cdv ct:We)(us:List We),us.length=ps.length->bindArgs (PySem.W.fnOf x qual (defArgs st) (defBody st) (defScope st) .none kV doc pm an cdv ct) ⟨us,[]⟩=pure (ps.zip us)):Binds K fd ps []:=by
 obtain⟨oc,od,kV,doc,pm,an,cdv,ct,osl,rfl,lk,hcd⟩:=F.ex
 exact .all (h kV doc pm an cdv ct)
theorem uZ{x qual:Str}{st:Stmt}{f:V_}{oc:We}{od an:Option V_}{osl:Array (Option We)}{kV doc pm cdv ct:We}(l:K.lookup f=some ⟨oc,od,.func (PySem.W.fnOf x qual (defArgs st) (defBody st) (defScope st) .none kV doc pm an cdv ct),osl⟩)
  (c:PySem.W.codeIn K cdv qual=true)(k:PySem.W.keepIn K (.ref f)=true):D7 K x qual st f (PySem.W.fnOf x qual (defArgs st) (defBody st) (defScope st) .none kV doc pm an cdv ct):=⟨⟨oc,od,kV,doc,pm,an,cdv,ct,osl,rfl,l,c⟩,k⟩
end
section
variable {X:Cx}
end
section
variable {κ : Type} [DecidableEq κ]
def ke(kvs : List (κ×V))(k : κ) : Option V := (kvs.find? λkv=>decide (kv.1=k)).map (·.2)
def putK(kvs : List (κ×V))(k : κ)(v : V) : List (κ×V) :=
 if(kvs.any λkv=>decide (kv.1=k))=true then kvs.map (λkv=>if kv.1=k then(kv.1, v) else kv) else kvs++[(k, v)]
theorem iC{p : κ×V}{r : List (κ×V)}{k : κ}(e : p.1=k) : ke (p::r) k=some p.2 := by simp[ke, iD, e]
theorem iE{p : κ×V}{r : List (κ×V)}{k : κ}(e : ¬p.1=k) : ke (p::r) k=ke r k := by simp[ke, iD, e]
theorem nE(k : κ) : ∀kvs : List (κ×V), (kvs.any λkv=>decide (kv.1=k))=(ke kvs k).isSome
 | []=>rfl
 | p::r=>by
  rw[dz]
  by_cases e : p.1=k
  ·simp only[iC e, decide_eq_true e, Bool.true_or, D8]
  ·rw[iE e, decide_eq_false e, Bool.false_or];exact nE k r
theorem iF(kvs : List (κ×V))(k : κ)(v : V) : (putK kvs k v).length<=kvs.length+1 := by
 unfold putK
 split
 ·rw[bT];omega
 ·rw[iB, nh, List.length_nil];omega
theorem iA.pH{o : Option V}{u : Option We}(r : iA o u) : o.isSome=u.isSome := by
 cases o with
 | none=>cases u with
  | none=>rfl
  | some _=>exact(show False from r).elim
 | some _=>cases u with
  | none=>exact(show False from r).elim
  | some _=>rfl
theorem iA.getD{o : Option V}{u : Option We}{d : V}{d' : We}(r : iA o u)(rd : RelV d d') : RelV (o.getD d) (u.getD d') := by
 cases o with
 | none=>cases u with
  | none=>exact rd
  | some _=>exact(show False from r).elim
 | some _=>cases u with
  | none=>exact(show False from r).elim
  | some _=>exact r
theorem KV.val{kvs : List (κ×V)}{vs : List (κ×We)}(r : KV kvs vs)(k : κ) : iA (ke kvs k) (valueAt vs k) := by
 unfold KV at r
 induction r with
 | nil=>exact eZ
 | @cons p q ps qs h t ih=>
  obtain⟨h1, h2⟩ := h
  by_cases e : p.1=k
  ·have e' : q.1=k := h1.symm.trans e
   have b : valueAt (q::qs) k=some q.2 := by simp[valueAt, iD, e']
   rw[iC e, b];exact h2
  ·have e' : ¬q.1=k := λz=>e (h1.trans z)
   have b : valueAt (q::qs) k=valueAt qs k := by simp[valueAt, iD, e']
   rw[iE e, b];exact ih
theorem KV.any{kvs : List (κ×V)}{vs : List (κ×We)}(r : KV kvs vs)(k : κ) : (kvs.any λkv=>decide (kv.1=k))=vs.any λkv=>decide (kv.1=k) := by
 unfold KV at r
 induction r with
 | nil=>rfl
 | cons h t ih=>rw[dz, dz, ih, h.1]
theorem KV.repl{kvs : List (κ×V)}{vs : List (κ×We)}(r : KV kvs vs)(k : κ){y : V}{u : We}(ry : RelV y u) :
  KV (kvs.map λkv=>if kv.1=k then(kv.1, y) else kv) (vs.map λkv=>if kv.1=k then(kv.1, u) else kv) := by
 unfold KV at r ⊢
 induction r with
 | nil=>exact .nil
 | @cons p q ps qs h t ih=>
  rw[bb, bb]
  refine .cons ?_ ih
  obtain⟨h1, h2⟩ := h
  by_cases e : p.1=k
  ·rw[if_pos e, if_pos (h1.symm.trans e)];exact⟨h1, ry⟩
  ·rw[if_neg e, if_neg (λz=>e (h1.trans z))];exact⟨h1, h2⟩
theorem KV.put{kvs : List (κ×V)}{vs : List (κ×We)}(r : KV kvs vs)(k : κ){y : V}{u : We}(ry : RelV y u) : KV (putK kvs k y) (stored vs k u) := by
 unfold putK stored
 rw[r.any k]
 by_cases e : (vs.any λkv=>decide (kv.1=k))=true
 ·rw[if_pos e, if_pos e];exact r.repl k ry
 ·rw[if_neg e, if_neg e];exact Paired.snoc r ⟨rfl, ry⟩
theorem KV.length{kvs : List (κ×V)}{vs : List (κ×We)}(r : KV kvs vs) : kvs.length=vs.length := Paired.length r
end
theorem wN{P : Wc}{w : Wf}{k : Key}{u : We}(r : RelV (kV k) u) : (bE P w).is k u=true := by
 cases k with
 | inl i=>obtain⟨t, e⟩ := (show ∃t, u=fN i t from r);subst e;exact sh P w i t
 | inr x=>obtain⟨t, e⟩ := (show ∃t, u=jZ x t from r);subst e;exact si P w x t
 | non=>rw[show u=bL from r];rfl
theorem pI{P : Wc}{w : Wf} : ∀{ks : List Key}{us : List We}, Vals (ks.map kV) us->ItemsAre (bE P w) ks us
 | [], _, r=>by rw[qC] at r;cases r;exact .nil
 | k::ks, _, r=>by
  rw[bb] at r
  cases r with
  | cons h t=>exact .cons (wN h) (pI t)
abbrev KT(H : Hp) : List (List Key×V)->List (List Key×V_×We)->Prop := Paired λp q=>p.1=q.1/\H q.2.1=some (.tup (p.1.map kV))/\RelV p.2 q.2.2
theorem KT.val{H : Hp}{kvs : List (List Key×V)}{xs : List (List Key×V_×We)}(r : KT H kvs xs)(k : List Key) : iA (ke kvs k) ((atKey xs k).map (·.2)) := by
 induction r with
 | nil=>exact eZ
 | @cons p q ps qs h t ih=>
  obtain⟨h1, _, h2⟩ := h
  by_cases e : p.1=k
  ·have e' : q.1=k := h1.symm.trans e
   have b : atKey (q::qs) k=some q.2 := by simp[atKey, iD, e']
   rw[iC e, b];exact h2
  ·have e' : ¬q.1=k := λz=>e (h1.trans z)
   have b : atKey (q::qs) k=atKey qs k := by simp[atKey, iD, e']
   rw[iE e, b];exact ih
theorem KT.repl{H : Hp}{kvs : List (List Key×V)}{xs : List (List Key×V_×We)}(r : KT H kvs xs)(k : List Key){y : V}{u : We}(ry : RelV y u) :
  KT H (kvs.map λkv=>if kv.1=k then(kv.1, y) else kv) (xs.map (putAt k u)) := by
 induction r with
 | nil=>exact .nil
 | @cons p q ps qs h t ih=>
  rw[bb, bb]
  refine .cons ?_ ih
  obtain⟨h1, h2, h3⟩ := h
  unfold putAt
  by_cases e : p.1=k
  ·rw[if_pos e, if_pos (h1.symm.trans e)];exact⟨h1, h2, ry⟩
  ·rw[if_neg e, if_neg (λz=>e (h1.trans z))];exact⟨h1, h2, h3⟩
theorem KT.put{H : Hp}{kvs : List (List Key×V)}{xs : List (List Key×V_×We)}(r : KT H kvs xs)(k : List Key){b : V_}{y : V}{u : We}(hb : H b=some (.tup (k.map kV)))(ry : RelV y u) :
  KT H (putK kvs k y) (storedH xs k b u) := by
 have e : (kvs.any λkv=>decide (kv.1=k))=(atKey xs k).isSome := by
  rw[nE, (r.val k).pH, Option.isSome_map]
 unfold putK storedH
 rw[e]
 by_cases q : (atKey xs k).isSome=true
 ·rw[if_pos q, if_pos q];exact r.repl k ry
 ·rw[if_neg q, if_neg q];exact Paired.snoc r ⟨rfl, hb, ry⟩
theorem KT.keeps{H H' : Hp}{kvs : List (List Key×V)}{xs : List (List Key×V_×We)}(r : KT H kvs xs)(ht : ∀b ys, H b=some (.tup ys)->H' b=some (.tup ys)) : KT H' kvs xs :=
 Paired.xZ r λ_ _ z=>⟨z.1, ht _ _ z.2.1, z.2.2⟩
section
variable {P : Wc} {w : Wf} {H : Hp} {h : Heap} {a : V_}
theorem Af{u : HO}(ok : ip P w H h)(e : Rd H a u) : cC P w H h a u := e.ok ok
theorem wO{kvs : List (Key×V)}(ok : ip P w H h)(e : Rd H a (.dK kvs)) : kvs.length<=Wu/\(a == sysModules)=false/\∃vs, KV kvs vs/\h.DictOf (bE P w) a vs :=
 show cC P w H h a (.dK kvs) from Af ok e
theorem L'{kvs : List (Key×V)}(ok : ip P w H h)(e : H a=some (.dK kvs)) : kvs.length<=Wu/\(a == sysModules)=false/\∃vs, KV kvs vs/\h.DictOf (bE P w) a vs := wO ok (.inl e)
theorem qD{ks : List Key}(ok : ip P w H h)(e : H a=some (.tup (ks.map kV))) : (tupleKind (bE P w)).is h ks a := by
 obtain⟨_, its, r, ⟨o, h1, h2, n, h3⟩, _⟩ := (show cC P w H h a (.tup (ks.map kV)) from ok a _ e)
 exact⟨o, its.toArray, n, h1, h2, h3, by simpa using pI r⟩
theorem wQ{kvs : List (List Key×V)}(ok : ip P w H h)(e : Rd H a (.dT kvs)) : kvs.length<=Wu/\(a == sysModules)=false/\
  ∃xs, KT H kvs xs/\h.DictOfH (tupleKind (bE P w)) a xs := by
 obtain⟨z, y, xs, r, o, es, ep, h1, h2, h3, h4, h5⟩ := (show cC P w H h a (.dT kvs) from Af ok e)
 refine⟨z, y, xs, r, o, es, ep, h1, h2, h3, h4, λx hx=>?_, h5⟩
 have all : ∀{l : List (List Key×V)}{m : List (List Key×V_×We)}, KT H l m->∀x∈m, (tupleKind (bE P w)).is h x.1 x.2.1 := by
  intro l m q
  induction q with
  | nil=>intro x hx;exact nomatch hx
  | @cons p q ps qs hq t ih=>
   intro x hx
   rcases List.mem_cons.mp hx with e | hx
   ·subst e
    exact qD ok (by rw[<-hq.1];exact hq.2.1)
   ·exact ih x hx
 exact all r x hx
theorem Ma{kvs : List (List Key×V)}(ok : ip P w H h)(e : H a=some (.dT kvs)) : kvs.length<=Wu/\(a == sysModules)=false/\
  ∃xs, KT H kvs xs/\h.DictOfH (tupleKind (bE P w)) a xs := wQ ok (.inl e)
end
def u5(H : Hp)(a : V_)(y : V)(r : Option V) : Prop :=
 (∃kvs k, Rd H a (.dK kvs)/\y=kV k/\r=ke kvs k)\/∃kvs k b, Rd H a (.dT kvs)/\y= .ref b/\H b=some (.tup (k.map kV))/\r=ke kvs k
def qE(H : Hp)(a : V_)(y v : V)(H' : Hp) : Prop :=
 (∃kvs k, H a=some (.dK kvs)/\y=kV k/\kvs.length < Wu/\H'=upd H a (.dK (putK kvs k v)))\/
 ∃kvs k b, H a=some (.dT kvs)/\y= .ref b/\H b=some (.tup (k.map kV))/\kvs.length < Wu/\H'=upd H a (.dT (putK kvs k v))
theorem u5.k{H : Hp}{a : V_}{kvs : List (Key×V)}{k : Key}(e : H a=some (.dK kvs)) : u5 H a (kV k) (ke kvs k) := .inl ⟨kvs, k, .inl e, rfl, rfl⟩
theorem qE.k{H : Hp}{a : V_}{kvs : List (Key×V)}{k : Key}{v : V}(e : H a=some (.dK kvs))(hl : kvs.length < Wu) : qE H a (kV k) v (upd H a (.dK (putK kvs k v))) := .inl ⟨kvs, k, e, rfl, hl, rfl⟩
theorem qE.t{H : Hp}{a b : V_}{kvs : List (List Key×V)}{k : List Key}{v : V}(e : H a=some (.dT kvs))(eb : H b=some (.tup (k.map kV)))(hl : kvs.length < Wu) :
  qE H a (.ref b) v (upd H a (.dT (putK kvs k v))) := .inr ⟨kvs, k, b, e, rfl, eb, hl, rfl⟩
section
variable {X : Cx} {pins : List (V_×Obj)} {σ : St} {H : Hp} {s : Wd} {a : V_} {y v : V} {u r : We} {o : Option V} {A : V'} {E : We->Wd->Prop}
theorem Inv.big(I : Inv X pins σ H s) : sysModules < s.heap.objs.size := by
 have h : Wt < s.heap.objs.size := (I.mod.glob.keeps I.bk).lt
 exact wR (by decide) h
theorem qF{h' : Heap}{t' : Nat}{ob : HO}(I : Inv X pins σ H s)(mu : Lq (H a))(hs : kZ a s.heap h')(he : ∃q, h'.get? a=some q)(new : cC X.prog X.w (upd H a ob) h' a ob) :
  Inv X pins σ (upd H a ob) { s with heap := h', toks := t' } :=
 I.write (x := a) (e := a) mu (.inl rfl) (λb q hb z=>(hs.2 b hb).trans z) he new
theorem HV{P : Wc}{w : Wf}{H' : Hp}{h' : Heap}{kvs : List (Key×V)}{vs : List (Key×We)}(z : kvs.length<=Wu)(hd : (a == sysModules)=false)(rel : KV kvs vs)(dd : h'.DictOf (bE P w) a vs) :
  cC P w H' h' a (.dK kvs) :=⟨z, hd, vs, rel, dd⟩
theorem yu{H' : Hp}{Q : Unit->Wd->Prop}(hu : A.units+1 < cLine)(I : Inv X pins σ H s)(g : qE H a y v H')(ry : RelV y u)(rv : RelV v r)(h : ∀s', Inv X pins σ H' s'->Q () s') :
  Wx (model X.prog X.w) A (setItem (.ref a) u r) Q E s := by
 rcases g with ⟨kvs, k, e, ey, l, eH⟩ | ⟨kvs, k, b, e, ey, eb, l, eH⟩
 ·subst ey eH
  obtain⟨z, hd, vs, rel, dd⟩ := L' I.hok e
  have hz : vs.length<=Wu := by rw[<-rel.length];exact z
  have hl : (putK kvs k v).length<=Wu := by have := iF kvs k v;omega
  refine wpAny_setItem_pairs (hsz := hz) (wN ry) dd λh' HW hs=>h _ ?_
  have he : ∃q, h'.get? a=some q := let ⟨q, _, _, hq, _⟩ := HW;⟨q, hq⟩
  exact qF I (by rw[e];exact eZ) hs he (HV hl hd (rel.put k rv) HW)
 ·subst ey eH
  cases (show u=aH b from ry)
  obtain⟨z, hd, xs, rel, dd⟩ := Ma I.hok e
  have hz : xs.length<=Wu := by rw[<-Paired.length rel];exact z
  have hl : (putK kvs k v).length<=Wu := by have := iF kvs k v;omega
  refine wpAny_setItem_heap (hsz := hz) (tupleKind_room_in1 hu) (qD I.hok eb) dd λh' HW hs=>h _ ?_
  obtain⟨q, es, ep, hq, h2, h3, h4, _, h5⟩ := HW
  refine qF I (by rw[e];exact eZ) hs ⟨q, hq⟩ ⟨hl, hd, _, (rel.put k eb rv).keeps λc ys ec=>?_, q, es, ep, hq, h2, h3, h4, h5⟩
  rw[aZ (FV ec e (λz=>nomatch z))]
  exact ec
end
section
variable {X : Cx} {pins : List (V_×Obj)} {σ : St} {H : Hp} {s : Wd} {a : V_} {kvs : List (Key×V)} {k : Key} {u : We} {A : V'} {E : We->Wd->Prop}
end
def HX(i : Expr) : Prop := ∀ov iv, subscripted i false ov iv=operate [ov, iv] (getItem ov iv)
theorem D9{prog : Wc}{w : Wf}{A : V'}{E : We->Wd->Prop}{s : Wd}{env : Env}{value slice : Expr}{pos : Pos}{T id : String}{Q : We->Wd->Prop}
  (hl : typeLookup (.type T) "__getitem__"=pure (some (.builtin id)))(hs : HX slice)
  (h : Wx (model prog w) A (eval value env) (λo s₁=>Wx (model prog w) A (eval slice env) (λi s₂=>s₂.TypeIs o T/\Wx (model prog w) A (getItem o i) Q E s₂) E s₁) E s) :
  Wx (model prog w) A (eval (.Subscript value slice pos) env) Q E s := by
 refine Subscript_ (WB h (λo s₁ h₁=>WB h₁ (λi s₂ h₂=>?_) λ_ _ x=>x) λ_ _ x=>x)
 obtain⟨hT, h₂⟩ := h₂
 unfold subscriptTail
 refine Wy ?_
 rw[getitemInPython_of_ne hT.not_modules]
 refine Wy (wpAny_specialOf hT hl ?_)
 have fin : Wx (model prog w) A (subscripted slice false o i) (λr s₃=>Wx (model prog w) A (letTemporaryGo value o r >>= λ_=>pure r) Q E s₃) E s₂ := by
  rw[hs o i]
  exact wpAny_operating (WB h₂ (λr s₃ h₃=>Wy (wpAny_letTemporaryGo (WD h₃))) λ_ _ x=>x)
 first
  | exact WD (Wy fin)
  | exact Wy (WD (Wy fin))
  | exact Wy fin
def Mb(td ty tv : TE) : TS := λD σ H=>tv σ H λv H1=>td σ H1 λx H2=>ty σ H2 λy H3=>∃a H4, x= .ref a/\qE H3 a y v H4/\D.nx σ H4
section
variable {X : Cx} {o i e value : Expr} {pos pos' tpos : Pos} {td ty tv : TE}
theorem D_(hu : X.A.units+1 < cLine)(ho : PE X o td)(hi : PE X i ty)(hv : PE X value tv)(hs : swapsWith value (some (.Subscript o i pos')) pos.line X.env=pure false) :
  PS X (.Assign [.Subscript o i pos'] value pos) (Mb td ty tv) := by
 intro pins s σ H D I h
 refine wpAny_Assign_Subscript (a8 (hv pins s σ H _ I h) λr s1 ⟨v, H1, I1, rv, q1⟩=>a8 (ho pins s1 σ H1 _ I1 q1) λu s2 ⟨x, H2, I2, rx, q2⟩=>a8 (hi pins s2 σ H2 _ I2 q2) λiv s3 ⟨y, H3, I3, ry, a, H4, ex, g, q3⟩=>?_) hs
 subst ex
 obtain rfl : u=aH a := rx
 exact yu hu I3 g ry rv λs4 I4=>⟨σ, H4, I4, q3⟩
end
theorem Ag{P : Wc}{w : Wf}{H : Hp}(h : Heap)(hb : sysModules < h.objs.size) : cC P w H (h.push { cls := .type "dict", data := .dict #[] }) h.objs.size (.dT []) :=
 ⟨bV _, beq_eq_false_iff_ne.mpr (bq (bx hb)), [], .nil, _, #[], 0, bM _ rfl, ⟨rfl, rfl, rfl⟩, rfl, rfl, List.nodup_nil⟩
def HY : TE := λ_ H Q=>∀p, H p=none->Q (.ref p) (upd H p (.dT []))
section
variable {X : Cx} {pos : Pos}
theorem Ah : PE X (.Dict [] [] pos) HY := λpins s σ H Q I h=>
 wpAny_Dict_empty ⟨.ref s.heap.objs.size, _, I.laid (a := s.heap.objs.size) (o := .dT []) (t' := s.toks) (λ_ _ q=>a7 _ q) (ay _) (Ag s.heap I.big), rfl, h _ (I.hok.fresh (ay _))⟩
end
structure M1(X : Cx)(o : Expr)(m : Str)(apos : Pos)(e : Expr)(cpos : Pos) : Prop where
 base : attributeBase o m X.env (eval o X.env)=eval o X.env
 few : ((backTo cpos (Ww [e] X.env)).all (λx=> !x.1)&&(backToKw cpos (keywordEach [] X.env)).all (λx=>x.1.isSome)
  &&decide (([e] : List Expr).length+([] : List Keyword).length+(if([] : List Keyword).isEmpty then 0 else 1) < 30))=true
 line : (apos.endLine == cpos.line)=true
 trees : backTo cpos (Ww [e] X.env)=[(false, eval e X.env)]
structure M2(X : Cx)(o : Expr)(m : Str)(apos : Pos)(e f : Expr)(cpos : Pos) : Prop where
 base : attributeBase o m X.env (eval o X.env)=eval o X.env
 few : ((backTo cpos (Ww [e, f] X.env)).all (λx=> !x.1)&&(backToKw cpos (keywordEach [] X.env)).all (λx=>x.1.isSome)
  &&decide (([e, f] : List Expr).length+([] : List Keyword).length+(if([] : List Keyword).isEmpty then 0 else 1) < 30))=true
 line : (apos.endLine == cpos.line)=true
 trees : backTo cpos (Ww [e, f] X.env)=[(false, eval e X.env), (false, eval f X.env)]
def Oq(H : Hp)(a : V_) : Prop := (∃kvs, Rd H a (.dK kvs))\/∃kvs, Rd H a (.dT kvs)
theorem Ai{X : Cx}{pins : List (V_×Obj)}{σ : St}{H : Hp}{s : Wd}{a : V_}(I : Inv X pins σ H s)(d : Oq H a) :
  s.TypeIs (.ref a) "dict"/\(∀b, aH a= .ref b->∃ob, s.heap.get? b=some ob/\ob.dict=none)/\(a == sysModules)=false := by
 rcases d with ⟨kvs, e⟩ | ⟨kvs, e⟩
 ·obtain⟨_, hd, vs, _, dd⟩ := wO I.hok e
  refine⟨dd.typeIs, λb q=>?_, hd⟩
  cases q
  obtain⟨ob, _, _, h1, h2, _⟩ := dd
  exact⟨ob, h1, h2.2.1⟩
 ·obtain⟨_, hd, xs, _, dd⟩ := wQ I.hok e
  refine⟨dd.typeIs, λb q=>?_, hd⟩
  cases q
  obtain⟨ob, _, _, h1, h2, _⟩ := dd
  exact⟨ob, h1, h2.2.1⟩
section
variable {X : Cx} {pins : List (V_×Obj)} {σ : St} {H : Hp} {s : Wd} {a : V_} {y d : V} {u r : We} {o : Option V} {A : V'} {E : We->Wd->Prop}
theorem HZ{Q : We->Wd->Prop}(hu : A.units+1 < cLine)(I : Inv X pins σ H s)(g : u5 H a y o)(ry : RelV y u)(h : ∀w' s', Inv X pins σ H s'->RelV (o.getD .non) w'->Q w' s') :
  Wx (model X.prog X.w) A (call (.builtin "dict.get") [.ref a, u]) Q E s := by
 rcases g with ⟨kvs, k, e, ey, l⟩ | ⟨kvs, k, b, e, ey, eb, l⟩
 ·subst ey
  obtain⟨z, hd, vs, rel, dd⟩ := wO I.hok e
  refine call_meetsIn PySem.F.slot_dict_get dd.typeIs PySem.F.entry_dict_get (PySem.F.args_dict_get_2 _ _) (meets_dict_get (bE X.prog X.w) a (wN ry) hd) ⟨_, dd.mapOf, h _ _ (I.tok _) ?_⟩
  rw[l]
  exact(rel.val k).getD rfl
 ·subst ey
  cases (show u=aH b from ry)
  obtain⟨z, hd, xs, rel, dd⟩ := wQ I.hok e
  refine call_meetsIn PySem.F.slot_dict_get dd.typeIs PySem.F.entry_dict_get (PySem.F.args_dict_get_2 _ _) (meetsH_dict_get (tupleKind (bE X.prog X.w)) a b hd) ⟨tupleKind_room_in1 hu, k, xs, qD I.hok eb, dd, h _ _ (I.tok _) ?_⟩
  rw[l]
  exact(rel.val k).getD rfl
theorem H_{Q : We->Wd->Prop}(hu : A.units+1 < cLine)(I : Inv X pins σ H s)(g : u5 H a y o)(ry : RelV y u)(rd : RelV d r)(h : ∀w' s', Inv X pins σ H s'->RelV (o.getD d) w'->Q w' s') :
  Wx (model X.prog X.w) A (call (.builtin "dict.get") [.ref a, u, r]) Q E s := by
 rcases g with ⟨kvs, k, e, ey, l⟩ | ⟨kvs, k, b, e, ey, eb, l⟩
 ·subst ey
  obtain⟨z, hd, vs, rel, dd⟩ := wO I.hok e
  refine call_meetsIn PySem.F.slot_dict_get dd.typeIs PySem.F.entry_dict_get (PySem.F.args_dict_get_3 _ _ _) (meets_dict_get_default (bE X.prog X.w) a (wN ry) hd r) ⟨_, dd.mapOf, h _ _ (I.tok _) ?_⟩
  rw[l]
  exact(rel.val k).getD rd
 ·subst ey
  cases (show u=aH b from ry)
  obtain⟨z, hd, xs, rel, dd⟩ := wQ I.hok e
  refine call_meetsIn PySem.F.slot_dict_get dd.typeIs PySem.F.entry_dict_get (PySem.F.args_dict_get_3 _ _ _) (meetsH_dict_get_default (tupleKind (bE X.prog X.w)) a b hd r) ⟨tupleKind_room_in1 hu, k, xs, qD I.hok eb, dd, h _ _ (I.tok _) ?_⟩
  rw[l]
  exact(rel.val k).getD rd
end
def Ia(td ty : TE) : TE := λσ H Q=>td σ H λx H1=>∃a, x= .ref a/\Oq H1 a/\ty σ H1 λy H2=>∃o, u5 H2 a y o/\Q (o.getD .non) H2
def Ib(td ty tx : TE) : TE := λσ H Q=>td σ H λx H1=>∃a, x= .ref a/\Oq H1 a/\ty σ H1 λy H2=>tx σ H2 λz H3=>∃o, u5 H3 a y o/\Q (o.getD z) H3
section
variable {X : Cx} {o e f : Expr} {apos cpos : Pos} {td ty tx : TE}
theorem Aj(hu : X.A.units+1 < cLine)(ho : PE X o td)(he : PE X e ty)(m : M1 X o "get" apos e cpos) : PE X (.Call (.Attribute o "get" apos) [e] [] cpos) (Ia td ty) := by
 intro pins s σ H Q I h
 refine wpAny_Call_method m.base m.few m.line PySem.F.plainAttrs_dict PySem.F.slot_dict_get PySem.F.type_dict_get (a8 (ho pins s σ H _ I h) λu s1 ⟨x, H1, I1, rx, a, ex, d, q1⟩=>?_)
 subst ex
 obtain rfl : u=aH a := rx
 obtain⟨t1, t2, _⟩ := Ai I1 d
 refine⟨t1, t2, ?_⟩
 rw[m.trees]
 refine uW rfl (uX (ni (a8 (he pins s1 σ H1 _ I1 q1) λiv s2 ⟨y, H2, I2, ry, ov, g, q2⟩=>uQ ?_)))
 exact HZ hu I2 g ry λw' s3 I3 rw'=>⟨_, H2, I3, rw', q2⟩
theorem sC(hu : X.A.units+1 < cLine)(ho : PE X o td)(he : PE X e ty)(hf : PE X f tx)(m : M2 X o "get" apos e f cpos) : PE X (.Call (.Attribute o "get" apos) [e, f] [] cpos) (Ib td ty tx) := by
 intro pins s σ H Q I h
 refine wpAny_Call_method m.base m.few m.line PySem.F.plainAttrs_dict PySem.F.slot_dict_get PySem.F.type_dict_get (a8 (ho pins s σ H _ I h) λu s1 ⟨x, H1, I1, rx, a, ex, d, q1⟩=>?_)
 subst ex
 obtain rfl : u=aH a := rx
 obtain⟨t1, t2, _⟩ := Ai I1 d
 refine⟨t1, t2, ?_⟩
 rw[m.trees]
 refine uW rfl (uX (ni (a8 (he pins s1 σ H1 _ I1 q1) λiv s2 ⟨y, H2, I2, ry, q2⟩=>
  ni (a8 (hf pins s2 σ H2 _ I2 q2) λfv s3 ⟨z, H3, I3, rz, ov, g, q3⟩=>uQ ?_))))
 exact H_ hu I3 g ry rz λw' s4 I4 rw'=>⟨_, H3, I4, rw', q3⟩
end
section
variable {X : Cx} {pins : List (V_×Obj)} {σ : St} {H : Hp} {s : Wd} {a : V_} {kvs : List (Key×V)} {A : V'} {E : We->Wd->Prop}
end
section
variable {X : Cx} {pins : List (V_×Obj)} {σ : St} {H : Hp} {s : Wd} {a : V_} {y : V} {u : We} {A : V'} {E : We->Wd->Prop}
end
end L2
namespace Att
open PySem PySem.W PySem.Calls PyProof.Rows
end Att
namespace L2
open PySem PySem.Spec PyProof.Rows
section
variable {X : Cx}
end
section
variable {κ : Type} [DecidableEq κ]
end
end L2
set_option maxHeartbeats 4000000
namespace J
open PySem PySem.Spec PyProof.Rows L2
def Ot(h base:Heap)(e:V_)(cls a0 fl:We):Prop :=
 ∃ox us T ot ws,h.get? e=some ox/\(ox.cls=cls/\us[2]? =some bL)/\ox.data= .fields us/\us[1]? =some (.ref T)/\base.get? T=none/\T≠e/\h.get? T=some ot/\ot.data= .fields ws/\ws[3]? =some fl
abbrev Ea(base:Heap)(l:List Env)(e:V_)(cls a0 fl:We)(h:Heap):Prop:=base.StaysIn h/\base.get? e=none/\h.FunFrames base l/\Ot h base e cls a0 fl
def Ak(base:Heap)(l:List Env)(e:V_)(cls a0:We)(L:V_)(h:Heap):Prop:=Ea base l e cls a0 (rawInt L) h
def Ie(base:Heap)(l:List Env)(e:V_)(cls a0:We)(h:Heap):Prop:=Ea base l e cls a0 .none h
section
variable {M:Model} {A:V'} {E:We->Wd->Prop} {s:Wd} {base:Heap} {env:Env} {outer l:List Env} {L e:V_} {cls a0 nt:We} {Q:Unit->Wd->Prop}
theorem u6{h h1:Heap}{S:List V_}{ox ob:Obj}{us ws:Array We}(so:Heap.SlotsOnly S h h1)(hS:S=l.filterMap (·.frame))(fs:h.FunFrames base l)(g1:h.get? e=some ox)(g3:ox.data= .fields us)(st:base.StaysIn h)(ne:base.get? e=none)(sz:1 < us.size)(g2:us[2]? =some bL)
  (d:ob.data= .fields ws)(w3:ws[3]? =some nt)(nf:ob.isFreed=false) :
  Ea base l e ox.cls a0 nt ((h1.push ob).update e (gQ (·.setIfInBounds 1 (.ref h1.objs.size))))/\h.UpToSlots ((h1.push ob).update e (gQ (·.setIfInBounds 1 (.ref h1.objs.size)))):=by
 have nS:e∉S:=λz=>by
  rw[hS] at z
  obtain⟨_,o2,q2,d2⟩:=fs.mem z
  rw[g1] at q2
  cases q2
  exact d2 us g3
 have q1:h1.get? e=some ox:=(so.2.1 e nS).trans g1
 have lt:e≠h1.objs.size:=bx (aV q1)
 have Sv:∀b o,b≠e->h1.get? b=some o->((h1.push ob).update e (gQ (·.setIfInBounds 1 (.ref h1.objs.size)))).get? b=some o:=λb o n q=>(nu _ _ (bq n)).trans (a7 _ q)
 have up:h.UpToSlots ((h1.push ob).update e (gQ (·.setIfInBounds 1 (.ref h1.objs.size)))):=λb o q n=>by
  obtain⟨sl,q2⟩:=so.2.2 b o q
  exact⟨sl,Sv b _ (λz=>by rw[z,g1] at q;cases q;exact n us g3) q2⟩
 have stay:base.StaysIn h1:=λb o q=>(so.2.1 b λz=>by
  rw[hS] at z
  rw[(fs.mem z).1] at q
  cases q).trans (st b o q)
 have fresh:base.get? h1.objs.size=none:=by
  cases z:base.get? h1.objs.size with
  | none=>rfl
  | some o=>exact absurd (aV (stay _ _ z)) (fO _)
 have d1:=mI g3 (·.setIfInBounds 1 (aH h1.objs.size))
 refine⟨⟨λb o q=>Sv b o (λz=>by rw[z,ne] at q;cases q) (stay b o q),ne,fs.of_keeps λb o q n=>?_,_,_,h1.objs.size,ob,ws,uV _ (a7 _ q1) (wU d1),⟨Obj.cls_mapFields _ _,?_⟩,d1,by simp[sz],fresh,bq lt,?_,d,w3⟩,up⟩
 ·obtain⟨sl,q2⟩:=up b o q n
  exact⟨_,q2,rfl⟩
 ·rw[Array.getElem?_setIfInBounds_ne (by decide)];exact g2
 ·exact(nu _ _ lt).trans (bM _ nf)
theorem Al{ox:Obj}{us:Array We}{head:We}{had:Bool}(hfr:A.frames=some (env::outer))(fs:s.heap.FunFrames base (env::outer))(hf:env.frame=some L)(g1:s.heap.get? e=some ox)(st:base.StaysIn s.heap)(ne:base.get? e=none)(g3:ox.data= .fields us)(sz:1 < us.size)(g2:us[2]? =some bL)
  (k:∀h',Ak base (env::outer) e ox.cls a0 L h'->s.heap.UpToSlots h'->Q () { s with heap:=h' }) :
  Wx M A (do let a <-frameOf env;let pl <-entryPlaceOf L had;let b <-Ig head a .none (rawInt L) .none pl;setField (.ref e) 1 b) Q E s:=by
 refine Wy (wpAny_frameOf_fun hfr fs hf λh1 so=>Wy (wpAny_entryPlaceOf λpl pp=>?_))
 have nS:e∉(env::outer).filterMap (·.frame):=λz=>by
  obtain⟨_,o2,q2,d2⟩:=fs.mem z
  rw[g1] at q2
  cases q2
  exact d2 us g3
 have q1:h1.get? e=some ox:=(so.2.1 e nS).trans g1
 simp only[Ig,newFields]
 refine Wy (WC (wpAny_setField (a7 _ q1) g3 sz ?_) (pp.sizeOk5 _ _ _ _ _))
 obtain⟨m,up⟩:=u6 (a0:=a0) (nt:=rawInt L) so rfl fs g1 g3 st ne sz g2 (ob:={ cls:=.type "traceback",dict:=none,data:=.fields ([head,.ref L,.none,rawInt L,.none]++(if pl.isEmpty then aN 6 bL else pl)).toArray }) rfl (by first | (simp;done) | (rcases pp with rfl | ⟨_,_,_,_,_,_,_,rfl⟩<;>simp)) rfl
 exact k _ m up
theorem Ih(hf:env.frame=some L)(x:Ot s.heap base e cls a0 (rawInt L))(k:Q () s):Wx M A (noteFrame (.ref e) env) Q E s:=by
 obtain⟨ox,us,T,ot,ws,g1,g2,g3,g4,g5,g6,g7,g8,g9⟩:=x
 unfold noteFrame
 simp only[hf]
 refine Wy (wpAny_field g1 g3 g4 ?_)
 rw[if_pos (by simp)]
 refine Wy (wpAny_field g7 g8 g9 ?_)
 rw[if_pos (by simp)]
 exact WD k
theorem F0(x:Ea base l e cls a0 nt s.heap)(k:∀h',Ie base l e cls a0 h'->s.heap.UpToSlots h'->Q () { s with heap:=h' }):Wx M A (setFlight (.ref e) none) Q E s:=by
 obtain⟨x1,x2,x3,ox,us,T,ot,ws,g1,g2,g3,g4,g5,g6,g7,g8,g9⟩:=x
 have sz:3 < ws.size:=(Array.getElem?_eq_some_iff.mp g9).1
 unfold setFlight
 refine Wy (wpAny_field g1 g3 g4 ?_)
 rw[if_pos (by simp)]
 refine wpAny_setField g7 g8 sz ?_
 generalize hu:s.heap.update T _=h'
 have ap:∀b,b≠T->h'.get? b=s.heap.get? b:=λb n=>by rw[<-hu];exact nu _ _ (bq n)
 have pl:∀b o,s.heap.get? b=some o->(∀vs,o.data≠.fields vs)->h'.get? b=some o:=λb o q n=>(ap b λz=>by rw[z,g7] at q;cases q;exact n ws g8).trans q
 refine k h' ⟨λb o q=>(ap b λz=>by rw[z,g5] at q;cases q).trans (x1 b o q),x2,x3.of_keeps λb o q n=>⟨o,pl b o q n,rfl⟩,ox,us,T,gQ (·.setIfInBounds 3 .none) ot,ws.setIfInBounds 3 .none,(ap e (bq g6)).trans g1,g2,g3,g4,g5,g6,?_,mI g8 _,?_⟩ λb o q n=>⟨o.slots,pl b o q n⟩
 ·rw[<-hu];exact uV _ g7 (wU (mI g8 _))
 ·simp[sz]
end
structure Lm where
 a:V_
 c:V_
 q:PySem.Str
 xs:List V
inductive Wv where
 | non
 | bl (b:Bool)
 | int (i:Int)
 | str (x:PySem.Str)
 | tup (ws:List Wv)
 | nG (ws:List Wv)
 | ref (l:Nat)
 | ty (n:String)
 | cls (c:PySem.Str)
 | sD (c:PySem.Str)
 | fn (p:Lm) (ws:List Wv)
inductive Ob where
 | lst (ws:List Wv)
 | oJ (ns:List Int)
 | dct (kvs:List (L2.Key×Wv))
 | l9 (kvs:List (List L2.Key×Wv))
 | wV (kvs:List (List L2.Key×Wv))
 | zu (kvs:List (L2.Key×Wv))
 | kY (kvs:List (NK.KD×Wv))
 | ins (c:PySem.Str) (fs:List (PySem.Str×Wv))
abbrev Hs:=List Ob
abbrev St:=L2.St
abbrev bA:=List (Option Wv)
abbrev Mp:=List V_
def Am(a C:V_):Heap->Prop:=λh=>∃o,h.get? a=some o/\o.cls= .ref C/\∃vs,o.data= .fields vs
def Ou(a C:V_)(u:Option HO):Prop:=∃o vs,u=some (.lV o (.ext (Am a C)))/\o.data= .fields vs/\vs[2]? =some bL
theorem F1{P:Wc}{w:Wf}{H:Hp}{h:Heap}{a C:V_}(ok:ip P w H h)(x:Ou a C (H a)):Am a C h:=let ⟨_,_,e,_⟩:=x;(ok a _ e).2.1
def ClsAt(K:PySem.W.Frag)(c:PySem.Str)(C:V_):Prop:=PySem.W.nsIn K Wt c=some (some (.ref C))
def An(c:V_)(q:PySem.Str):Heap->Prop:=λh=>h.CodeRec (.ref c) q
def bW:List PySem.Str:=["form_of","formula_by","turned","readied_content","ordered"]
def gR(K:PySem.W.Frag)(q:PySem.Str):Option V_:=match PySem.W.tabIn K q with
 | some (_,P)=>if(K.lookup P).isNone=true then some P else none
 | none=>none
def PZ(q:PySem.Str):PySem.Str:=(q++".<locals>.")++"<lambda>"
def qG(K:PySem.W.Frag)(H:Hp):Prop:=∀q P,q∈bW->gR K q=some P->∃ps,H P=some (.k6 ps)/\TriplesOk ps.toList/\∀pos cv,codeAmong pos ps.toList=some cv->∃c,cv= .ref c/\H c=some (.ext (An c (PZ q)))
theorem qG.keep{K:PySem.W.Frag}{H H':Hp}(t:qG K H)(h1:∀a ps,H a=some (.k6 ps)->H' a=some (.k6 ps))(h2:∀a φ,H a=some (.ext φ)->H' a=some (.ext φ)):qG K H':=λq P hq hP=>by
 obtain⟨ps,e1,e2,e3⟩:=t q P hq hP
 refine⟨ps,h1 _ _ e1,e2,λpos cv e=>?_⟩
 obtain⟨c,f1,f2⟩:=e3 pos cv e
 exact⟨c,f1,h2 _ _ f2⟩
def P0(K:PySem.W.Frag)(a:V_)(xs:List V):Prop:=∃(o:Obj)(its:Array We)(n:Nat),K.lookup a=some o/\o.cls= .type "tuple"/\o.data= .seq its n/\its.size<=Wu/\Vals xs its.toList
mutual
def ah(K:PySem.W.Frag)(m:Mp)(H:Hp):Wv->V->Prop
 | .non,v=>v= .non
 | .bl b,v=>v= .bl b
 | .int i,v=>v= .int i
 | .str x,v=>v= .str x/\aM x=true
 | .tup ws,v=>∃a xs,v= .ref a/\H a=some (.tup xs)/\ai K m H ws xs
 | .nG ws,v=>∃a xs,v= .ref a/\P0 K a xs/\ai K m H ws xs
 | .ref l,v=>∃a,v= .ref a/\m[l]? =some a
 | .ty n,v=>v= .ty n
 | .cls c,v=>∃C,v= .ref C/\ClsAt K c C
 | .sD c,v=>∃a C,v= .ref a/\ClsAt K c C/\Ou a C (H a)
 | .fn p ws,v=>v= .ref p.a/\H p.c=some (.ext (An p.c p.q))/\ai K m H ws p.xs
def ai(K:PySem.W.Frag)(m:Mp)(H:Hp):List Wv->List V->Prop
 | [],xs=>xs=[]
 | w::ws,xs=>∃x r,xs=x::r/\ah K m H w x/\ai K m H ws r
end
structure Ext(K:PySem.W.Frag)(m:Mp)(H:Hp)(m':Mp)(H':Hp):Prop where
 pre:∀(l:Nat)(a:V_),m[l]? =some a->m'[l]? =some a
 tup:∀(a:V_)(xs:List V),H a=some (.tup xs)->H' a=some (.tup xs)
 ext:∀(a:V_)(φ:Heap->Prop),H a=some (.ext φ)->H' a=some (.ext φ)
 lV:∀(a:V_)(o:Obj)(u:HO),H a=some (.lV o u)->H' a=some (.lV o u)
section
variable {K:PySem.W.Frag} {m m1 m2:Mp} {H H1 H2:Hp}
theorem Ext.refl:Ext K m H m H:=⟨λ_ _ h=>h,λ_ _ h=>h,λ_ _ h=>h,λ_ _ _ h=>h⟩
theorem Ext.trans(a:Ext K m H m1 H1)(b:Ext K m1 H1 m2 H2):Ext K m H m2 H2 :=
 ⟨λl x h=>b.pre l x (a.pre l x h),λx xs h=>b.tup x xs (a.tup x xs h),λx φ h=>b.ext x φ (a.ext x φ h),λx o u h=>b.lV x o u (a.lV x o u h)⟩
structure Ii(K:PySem.W.Frag)(m:Mp)(H:Hp)(m':Mp)(H':Hp):Prop where
 pre:∀(l:Nat)(a:V_),m[l]? =some a->m'[l]? =some a
 tup:∀(a:V_)(xs:List V),H a=some (.tup xs)->H' a=some (.tup xs)
 ext:∀(a:V_)(φ:Heap->Prop),H a=some (.ext φ)->H' a=some (.ext φ)
 fx:∀(a:V_)(o:Obj)(φ:Heap->Prop),H a=some (.lV o (.ext φ))->H' a=some (.lV o (.ext φ))
theorem Ext.z(e:Ext K m H m1 H1):Ii K m H m1 H1:=⟨e.pre,e.tup,e.ext,λa o φ h=>e.lV a o _ h⟩
mutual
theorem ah.l_(e:Ii K m H m1 H1):∀(w:Wv)(v:V),ah K m H w v->ah K m1 H1 w v
 | .non,v,h=>by unfold ah at h ⊢;exact h
 | .bl b,v,h=>by unfold ah at h ⊢;exact h
 | .int i,v,h=>by unfold ah at h ⊢;exact h
 | .str x,v,h=>by unfold ah at h ⊢;exact h
 | .ty n,v,h=>by unfold ah at h ⊢;exact h
 | .cls c,v,h=>by unfold ah at h ⊢;exact h
 | .sD c,v,h=>by
  unfold ah at h ⊢
  obtain⟨a,C,e1,e2,o,vs,e3,e4⟩:=h
  exact⟨a,C,e1,e2,o,vs,e.fx _ _ _ e3,e4⟩
 | .ref l,v,h=>by
  unfold ah at h ⊢
  obtain⟨a,e1,e2⟩:=h
  exact⟨a,e1,e.pre _ _ e2⟩
 | .tup ws,v,h=>by
  unfold ah at h ⊢
  obtain⟨a,xs,e1,e2,e3⟩:=h
  exact⟨a,xs,e1,e.tup _ _ e2,ai.l_ e ws xs e3⟩
 | .nG ws,v,h=>by
  unfold ah at h ⊢
  obtain⟨a,xs,e1,e2,e3⟩:=h
  exact⟨a,xs,e1,e2,ai.l_ e ws xs e3⟩
 | .fn p ws,v,h=>by
  unfold ah at h ⊢
  obtain⟨e1,e2,e3⟩:=h
  exact⟨e1,e.ext _ _ e2,ai.l_ e ws p.xs e3⟩
theorem ai.l_(e:Ii K m H m1 H1):∀(ws:List Wv)(xs:List V),ai K m H ws xs->ai K m1 H1 ws xs
 | [],xs,h=>by unfold ai at h ⊢;exact h
 | w::ws,xs,h=>by
  unfold ai at h ⊢
  obtain⟨x,r,e1,e2,e3⟩:=h
  exact⟨x,r,e1,ah.l_ e w x e2,ai.l_ e ws r e3⟩
end
theorem ah.mono(e:Ext K m H m1 H1)(w:Wv)(v:V)(h:ah K m H w v):ah K m1 H1 w v:=ah.l_ e.z w v h
theorem ai.mono(e:Ext K m H m1 H1)(ws:List Wv)(xs:List V)(h:ai K m H ws xs):ai K m1 H1 ws xs:=ai.l_ e.z ws xs h
theorem ai.nil:ai K m H [] []:=by unfold ai;rfl
theorem ai.cons{w:Wv}{x:V}{ws:List Wv}{xs:List V}(h:ah K m H w x)(t:ai K m H ws xs):ai K m H (w::ws) (x::xs):=by unfold ai;exact⟨x,xs,rfl,h,t⟩
theorem ai.length:∀{ws:List Wv}{xs:List V},ai K m H ws xs->ws.length=xs.length
 | [],xs,h=>by unfold ai at h;subst h;rfl
 | w::ws,xs,h=>by
  unfold ai at h
  obtain⟨x,r,e1,_,e3⟩:=h
  subst e1
  simp[ai.length e3]
theorem ai.get:∀{ws:List Wv}{xs:List V}{i:Nat}{w:Wv},ai K m H ws xs->ws[i]? =some w->∃x,xs[i]? =some x/\ah K m H w x
 | [],_,i,w,_,e=>by simp at e
 | a::ws,xs,0,w,h,e=>by
  unfold ai at h
  obtain⟨x,r,e1,e2,_⟩:=h
  subst e1
  simp at e
  subst e
  exact⟨x,rfl,e2⟩
 | a::ws,xs,i+1,w,h,e=>by
  unfold ai at h
  obtain⟨x,r,e1,_,e3⟩:=h
  subst e1
  obtain⟨y,f1,f2⟩:=ai.get (i:=i) (w:=w) e3 (by simpa using e)
  exact⟨y,by simpa using f1,f2⟩
theorem ai.append:∀{ws zs:List Wv}{xs ys:List V},ai K m H ws xs->ai K m H zs ys->ai K m H (ws++zs) (xs++ys)
 | [],_,xs,_,h,g=>by unfold ai at h;subst h;exact g
 | w::ws,zs,xs,ys,h,g=>by
  unfold ai at h
  obtain⟨x,r,e1,e2,e3⟩:=h
  subst e1
  exact ai.cons e2 (ai.append e3 g)
theorem ai.set:∀{ws:List Wv}{xs:List V}(i:Nat){w:Wv}{x:V},ai K m H ws xs->ah K m H w x->ai K m H (ws.set i w) (xs.set i x)
 | [],xs,i,w,x,h,_=>by unfold ai at h;subst h;exact ai.nil
 | a::ws,xs,0,w,x,h,g=>by
  unfold ai at h
  obtain⟨y,r,e1,e2,e3⟩:=h
  subst e1
  exact ai.cons g e3
 | a::ws,xs,i+1,w,x,h,g=>by
  unfold ai at h
  obtain⟨y,r,e1,e2,e3⟩:=h
  subst e1
  exact ai.cons e2 (ai.set i e3 g)
theorem ai.drop:∀{ws:List Wv}{xs:List V}(i:Nat),ai K m H ws xs->ai K m H (ws.drop i) (xs.drop i)
 | ws,xs,0,h=>by simpa using h
 | [],xs,i+1,h=>by unfold ai at h;subst h;simpa using ai.nil
 | a::ws,xs,i+1,h=>by
  unfold ai at h
  obtain⟨y,r,e1,e2,e3⟩:=h
  subst e1
  simpa using ai.drop i e3
theorem ai.take:∀{ws:List Wv}{xs:List V}(i:Nat),ai K m H ws xs->ai K m H (ws.take i) (xs.take i)
 | ws,xs,0,h=>by simpa using ai.nil
 | [],xs,i+1,h=>by unfold ai at h;subst h;simpa using ai.nil
 | a::ws,xs,i+1,h=>by
  unfold ai at h
  obtain⟨y,r,e1,e2,e3⟩:=h
  subst e1
  simpa using ai.cons e2 (ai.take i e3)
theorem ai.ints:∀(ns:List Int),ai K m H (ns.map Wv.int) (ns.map V.int)
 | []=>ai.nil
 | n::ns=>ai.cons (by unfold ah;rfl) (ai.ints ns)
end
def sE(K:PySem.W.Frag)(H:Hp)(a:V_)(ns:List Int):Prop :=
 (∃o,H a=some (.lV o (.lst (ns.map V.int))))\/
  ∃(o:Obj)(its:Array We)(n:Nat),K.lookup a=some o/\o.cls= .type "list"/\o.dict=none/\o.data= .seq its n/\its.size<=Wu/\Vals (ns.map V.int) its.toList
def RelK{κ:Type}(K:PySem.W.Frag)(m:Mp)(H:Hp)(kvs:List (κ×Wv))(xs:List (κ×V)):Prop:=kvs.map (·.1)=xs.map (·.1)/\ai K m H (kvs.map (·.2)) (xs.map (·.2))
def oT(K:PySem.W.Frag)(m:Mp)(H:Hp)(a:V_):Ob->Prop
 | .lst ws=>∃xs,H a=some (.lst xs)/\ai K m H ws xs
 | .oJ ns=>sE K H a ns
 | .dct kvs=>∃xs,H a=some (.dK xs)/\RelK K m H kvs xs
 | .l9 kvs=>∃xs,H a=some (.dT xs)/\RelK K m H kvs xs
 | .wV kvs=>∃o xs,H a=some (.lV o (.dT xs))/\RelK K m H kvs xs
 | .zu kvs=>∃o xs,H a=some (.lV o (.dK xs))/\RelK K m H kvs xs
 | .kY kvs=>∃xs,H a=some (.dN xs)/\RelK K m H kvs xs
 | .ins c fs=>∃C dx xs,H a=some (.ins C dx xs)/\ClsAt K c C/\RelK K m H fs xs
def Ob.mu:Ob->Bool
 | .oJ _=>false
 | _=>true
def Ob.wm:Ob->Bool
 | .oJ _=>false
 | .wV _=>false
 | .zu _=>false
 | _=>true
theorem Ob.Mc{o:Ob}(h:o.wm=true):o.mu=true:=by cases o<;>first | rfl | cases h
structure bw(K:PySem.W.Frag)(m:Mp)(st:Hs)(H:Hp):Prop where
 len:m.length=st.length
 obj:∀(l:Nat)(a:V_)(o:Ob),m[l]? =some a->st[l]? =some o->oT K m H a o
 inj:∀(l l':Nat)(a:V_)(o o':Ob),m[l]? =some a->m[l']? =some a->st[l]? =some o->st[l']? =some o'->o.mu=true->o'.mu=true->l=l'
 tab:qG K H
def aq(st:Hs)(l:Nat):Option (List Wv):=match st[l]? with
 | some (.lst ws)=>some ws
 | some (.oJ ns)=>some (ns.map Wv.int)
 | _=>none
section
variable {K:PySem.W.Frag} {m:Mp} {H:Hp} {st:Hs}
def Wr(u:Option HO):Prop:=u=none\/(∃ys,u=some (.lst ys))\/(∃ys,u=some (.dK ys))\/(∃ys,u=some (.dT ys))\/(∃ys,u=some (.dN ys))\/∃C dx fs,u=some (.ins C dx fs)
theorem Wr.ne{p a:V_}{u:HO}(hp:Wr (H p))(e:H a=some u)(n1:∀ys,u≠.lst ys)(n2:∀ys,u≠.dK ys)(n3:∀ys,u≠.dT ys)(n4:∀ys,u≠.dN ys)(n5:∀C dx fs,u≠.ins C dx fs:=by nofun):a≠p:=λz=>by
 subst z
 rcases hp with q | ⟨ys,q⟩ | ⟨ys,q⟩ | ⟨ys,q⟩ | ⟨ys,q⟩ | ⟨C,dx,fs,q⟩
 ·rw[q] at e;cases e
 ·rw[q] at e;cases e;exact n1 ys rfl
 ·rw[q] at e;cases e;exact n2 ys rfl
 ·rw[q] at e;cases e;exact n3 ys rfl
 ·rw[q] at e;cases e;exact n4 ys rfl
 ·rw[q] at e;cases e;exact n5 C dx fs rfl
theorem Ao{p a:V_}{o:HO}{xs:List V}(hp:Wr (H p))(h:H a=some (.tup xs)):upd H p o a=some (.tup xs):=by
 rw[aZ (hp.ne h nofun nofun nofun nofun)];exact h
theorem Ap{p a:V_}{o:HO}{ns:List Int}(hp:Wr (H p))(h:sE K H a ns):sE K (upd H p o) a ns:=by
 rcases h with ⟨o',h⟩ | h
 ·exact .inl ⟨o',by rw[aZ (hp.ne h nofun nofun nofun nofun)];exact h⟩
 ·exact .inr h
theorem Wr.of{u:Option HO}(h:u=none\/∃ys,u=some (.lst ys)):Wr u:=by
 rcases h with q | q
 ·exact .inl q
 ·exact .inr (.inl q)
theorem Ext.f'{p:V_}{o:HO}(hp:Wr (H p)):Ext K m H m (upd H p o):=⟨λ_ _ h=>h,λ_ _ h=>Ao hp h,λa φ h=>by
 rw[aZ (hp.ne h nofun nofun nofun nofun)]
 exact h,λa o u h=>by
 rw[aZ (hp.ne h nofun nofun nofun nofun)]
 exact h⟩
theorem Ext.upd{p:V_}{o:HO}(hp:H p=none\/∃ys,H p=some (.lst ys)):Ext K m H m (upd H p o):=Ext.f' (Wr.of hp)
theorem RelK.mono{κ:Type}{m1:Mp}{H1:Hp}{kvs:List (κ×Wv)}{xs:List (κ×V)}(e:Ext K m H m1 H1)(h:RelK K m H kvs xs):RelK K m1 H1 kvs xs:=⟨h.1,ai.mono e _ _ h.2⟩
theorem oT.keep{m1:Mp}{b p:V_}{u:HO}{o:Ob}(ex:Ext K m H m1 (L2.upd H p u))(hp:Wr (H p))(hb:o.mu=true->b≠p)(h:oT K m H b o):oT K m1 (L2.upd H p u) b o:=by
 cases o with
 | lst ws=>
  obtain⟨xs,e1,e2⟩:=h
  exact⟨xs,by rw[aZ (hb rfl)];exact e1,ai.mono ex _ _ e2⟩
 | dct kvs=>
  obtain⟨xs,e1,e2⟩:=h
  exact⟨xs,by rw[aZ (hb rfl)];exact e1,e2.mono ex⟩
 | l9 kvs=>
  obtain⟨xs,e1,e2⟩:=h
  exact⟨xs,by rw[aZ (hb rfl)];exact e1,e2.mono ex⟩
 | wV kvs=>
  obtain⟨o,xs,e1,e2⟩:=h
  exact⟨o,xs,by rw[aZ (hb rfl)];exact e1,e2.mono ex⟩
 | zu kvs=>
  obtain⟨o,xs,e1,e2⟩:=h
  exact⟨o,xs,by rw[aZ (hb rfl)];exact e1,e2.mono ex⟩
 | kY kvs=>
  obtain⟨xs,e1,e2⟩:=h
  exact⟨xs,by rw[aZ (hb rfl)];exact e1,e2.mono ex⟩
 | ins c fs=>
  obtain⟨C,dx,xs,e1,e2,e3⟩:=h
  exact⟨C,dx,xs,by rw[aZ (hb rfl)];exact e1,e2,e3.mono ex⟩
 | oJ ns=>exact Ap hp h
theorem oT.at{b:V_}{o:Ob}(h:oT K m H b o)(hm:o.mu=true):∃u,H b=some u:=by
 cases o with
 | lst ws=>obtain⟨xs,e1,e2⟩:=h;exact⟨_,e1⟩
 | dct kvs=>obtain⟨xs,e1,e2⟩:=h;exact⟨_,e1⟩
 | l9 kvs=>obtain⟨xs,e1,e2⟩:=h;exact⟨_,e1⟩
 | wV kvs=>obtain⟨o,xs,e1,e2⟩:=h;exact⟨_,e1⟩
 | zu kvs=>obtain⟨o,xs,e1,e2⟩:=h;exact⟨_,e1⟩
 | kY kvs=>obtain⟨xs,e1,e2⟩:=h;exact⟨_,e1⟩
 | ins c fs=>obtain⟨C,dx,xs,e1,e2⟩:=h;exact⟨_,e1⟩
 | oJ ns=>simp[Ob.mu] at hm
theorem oT.wr{b:V_}{o:Ob}(h:oT K m H b o)(hm:o.wm=true):Wr (H b):=by
 cases o with
 | lst ws=>obtain⟨xs,e1,e2⟩:=h;exact .inr (.inl ⟨_,e1⟩)
 | dct kvs=>obtain⟨xs,e1,e2⟩:=h;exact .inr (.inr (.inl ⟨_,e1⟩))
 | l9 kvs=>obtain⟨xs,e1,e2⟩:=h;exact .inr (.inr (.inr (.inl ⟨_,e1⟩)))
 | kY kvs=>obtain⟨xs,e1,e2⟩:=h;exact .inr (.inr (.inr (.inr (.inl ⟨_,e1⟩))))
 | ins c fs=>obtain⟨C,dx,xs,e1,e2⟩:=h;exact .inr (.inr (.inr (.inr (.inr ⟨_,_,_,e1⟩))))
 | wV kvs=>cases hm
 | zu kvs=>cases hm
 | oJ ns=>cases hm
theorem qG.f'{p:V_}{o:HO}(t:qG K H)(hp:Wr (H p)):qG K (L2.upd H p o):=t.keep
 (λa ps h=>by rw[aZ (hp.ne h nofun nofun nofun nofun)];exact h)
 λa φ h=>by rw[aZ (hp.ne h nofun nofun nofun nofun)];exact h
theorem Ext.more{p:V_}:Ext K m H (m++[p]) H:=⟨λl a h=>by
 rw[fq]
 ·exact h
 ·exact(List.getElem?_eq_some_iff.mp h).1,λ_ _ h=>h,λ_ _ h=>h,λ_ _ _ h=>h⟩
theorem bw.fresh{p:V_}{o:HO}(S:bw K m st H)(hp:H p=none):bw K m st (upd H p o) :=
 ⟨S.len,λl a ob h1 h2=>by
  have q:=S.obj l a ob h1 h2
  refine q.keep (Ext.f' (.inl hp)) (.inl hp) λhm=>?_
  obtain⟨u,e⟩:=q.at hm
  exact dw e hp,S.inj,S.tab.f' (.inl hp)⟩
theorem bw.nH{l:Nat}{a:V_}{ws:List Wv}(S:bw K m st H)(h1:m[l]? =some a)(h2:st[l]? =some (.lst ws)):∃xs,H a=some (.lst xs)/\ai K m H ws xs:=S.obj l a _ h1 h2
theorem bw.read{l:Nat}{a:V_}{ws:List Wv}(S:bw K m st H)(h1:m[l]? =some a)(h2:aq st l=some ws):∃xs,jY K H a xs/\ai K m H ws xs:=by
 unfold aq at h2
 cases e:st[l]? with
 | none=>rw[e] at h2;cases h2
 | some o=>
  rw[e] at h2
  cases o with
  | lst zs=>
   cases h2
   obtain⟨xs,e1,e2⟩:=S.nH h1 e
   exact⟨xs,jY.of e1,e2⟩
  | dct kvs=>cases h2
  | l9 kvs=>cases h2
  | wV kvs=>cases h2
  | zu kvs=>cases h2
  | kY kvs=>cases h2
  | ins c fs=>cases h2
  | oJ ns=>
   cases h2
   have q:sE K H a ns:=S.obj l a _ h1 e
   refine⟨ns.map V.int,?_,ai.ints ns⟩
   rcases q with ⟨o,q⟩ | q
   ·exact .inl (.inr ⟨o,q⟩)
   ·exact .inr q
theorem bw.qH{p:V_}{ob:Ob}{u:HO}(S:bw K m st H)(hp:H p=none)(r:oT K (m++[p]) (L2.upd H p u) p ob):bw K (m++[p]) (st++[ob]) (L2.upd H p u):=by
 have ex:Ext K m H (m++[p]) (L2.upd H p u):=Ext.more.trans (Ext.f' (.inl hp))
 have Aq:∀(l:Nat)(o:Ob),m[l]? =some p->st[l]? =some o->o.mu=true->False:=λl o h1 h2 hm=>by
  obtain⟨v,e⟩:=(S.obj l p o h1 h2).at hm
  rw[hp] at e;cases e
 have old:∀(l:Nat)(a:V_),(m++[p])[l]? =some a->(l < m.length/\m[l]? =some a)\/(l=m.length/\a=p):=λl a h=>by
  by_cases hl:l < m.length
  ·exact .inl ⟨hl,by rw[fq hl] at h;exact h⟩
  ·have h':=h
   rw[jJ (by omega)] at h'
   have z:=List.getElem?_eq_some_iff.mp h'
   have z1:l - m.length < 1:=by simpa using z.1
   refine .inr ⟨by omega,?_⟩
   have e0:l - m.length=0:=by omega
   rw[e0] at h'
   simpa using h'.symm
 have olds:∀(l:Nat)(o:Ob),l < m.length->(st++[ob])[l]? =some o->st[l]? =some o:=λl o hl h=>by
  rw[fq (by rw[<-S.len];exact hl)] at h
  exact h
 refine⟨by simp[S.len],λl a o h1 h2=>?_,λl l' a zs zs' h1 F2 h2 h2' k k'=>?_,S.tab.f' (.inl hp)⟩
 ·rcases old l a h1 with ⟨hl,h1⟩ | ⟨hl,rfl⟩
  ·have q:=S.obj l a o h1 (olds l o hl h2)
   refine q.keep ex (.inl hp) λhm=>?_
   obtain⟨v,e⟩:=q.at hm
   exact dw e hp
  ·have e:o=ob:=by
    rw[hl,S.len,jJ (ay _),mJ] at h2
    simpa using h2.symm
   subst e
   exact r
 ·rcases old l a h1 with ⟨hl,g1⟩ | ⟨hl,ea⟩
  ·rcases old l' a F2 with ⟨hl',La⟩ | ⟨hl',ea'⟩
   ·exact S.inj l l' a zs zs' g1 La (olds l _ hl h2) (olds l' _ hl' h2') k k'
   ·rw[ea'] at g1
    exact(Aq l zs g1 (olds l _ hl h2) k).elim
  ·rcases old l' a F2 with ⟨hl',La⟩ | ⟨hl',_⟩
   ·rw[ea] at La
    exact(Aq l' zs' La (olds l' _ hl' h2') k').elim
   ·omega
theorem bw.alloc{p:V_}{ws:List Wv}{xs:List V}(S:bw K m st H)(hp:H p=none)(r:ai K m H ws xs):bw K (m++[p]) (st++[.lst ws]) (upd H p (.lst xs)) :=
 S.qH hp ⟨xs,bc,ai.mono (Ext.more.trans (Ext.f' (.inl hp))) _ _ r⟩
theorem bw.nI{l:Nat}{a:V_}{o0 ob:Ob}{u:HO}(S:bw K m st H)(h1:m[l]? =some a)(h2:st[l]? =some o0)(hw:o0.wm=true)(r:oT K m (L2.upd H a u) a ob):bw K m (st.set l ob) (L2.upd H a u):=by
 have wr:Wr (H a):=(S.obj l a o0 h1 h2).wr hw
 have hm:=Ob.Mc hw
 have ex:Ext K m H m (L2.upd H a u):=Ext.f' wr
 have hl:l < st.length:=(List.getElem?_eq_some_iff.mp h2).1
 have at':∀(k:Nat)(o:Ob),(st.set l ob)[k]? =some o->(k=l/\o=ob)\/(k≠l/\st[k]? =some o):=λk o h=>by
  by_cases e:l=k
  ·subst e
   rw[m8 hl] at h
   exact .inl ⟨rfl,(Option.some.inj h).symm⟩
  ·rw[dy e] at h
   exact .inr ⟨λz=>e z.symm,h⟩
 refine⟨by simp[S.len],λk b o g1 g2=>?_,λk k' b us us' g1 La g2 Um q q'=>?_,S.tab.f' wr⟩
 ·rcases at' k o g2 with ⟨rfl,rfl⟩ | ⟨hk,g2⟩
  ·rw[h1] at g1;cases g1
   exact r
  ·have q:=S.obj k b o g1 g2
   refine q.keep ex wr λho z=>?_
   subst z
   exact hk (S.inj k l b o o0 g1 h1 g2 h2 ho hm)
 ·have back:∀(k:Nat)(o:Ob),(st.set l ob)[k]? =some o->o.mu=true->∃o',st[k]? =some o'/\o'.mu=true:=λk o h ho=>by
   rcases at' k _ h with ⟨rfl,_⟩ | ⟨_,h⟩
   ·exact⟨o0,h2,hm⟩
   ·exact⟨o,h,ho⟩
  obtain⟨u1,e1,f1⟩:=back k us g2 q
  obtain⟨u2,e2,f2⟩:=back k' us' Um q'
  exact S.inj k k' b u1 u2 g1 La e1 e2 f1 f2
theorem bw.write{l:Nat}{a:V_}{ws zs:List Wv}{xs:List V}(S:bw K m st H)(h1:m[l]? =some a)(h2:st[l]? =some (.lst ws))(r:ai K m H zs xs):bw K m (st.set l (.lst zs)) (upd H a (.lst xs)) :=
 S.nI h1 h2 rfl ⟨xs,bc,ai.mono (Ext.f' ((S.obj l a _ h1 h2).wr rfl)) _ _ r⟩
end
structure aJ(K:PySem.W.Frag)(m:Mp)(H:Hp)(ρ:bA)(σ:St):Prop where
 len:ρ.length=σ.length
 get:∀(i:Nat)(w:Wv),ρ[i]? =some (some w)->∃v,σ[i]? =some (some v)/\ah K m H w v
section
variable {K:PySem.W.Frag} {m m1:Mp} {H H1:Hp} {ρ:bA} {σ:St}
theorem aJ.mono(R:aJ K m H ρ σ)(e:Ext K m H m1 H1):aJ K m1 H1 ρ σ:=⟨R.len,λi w h=>let ⟨v,h1,h2⟩:=R.get i w h;⟨v,h1,ah.mono e _ _ h2⟩⟩
theorem aJ.set(R:aJ K m H ρ σ)(i:Nat){w:Wv}{v:V}(h:ah K m H w v):aJ K m H (ρ.set i (some w)) (σ.set i (some v)):=by
 refine⟨by simp[R.len],λj u e=>?_⟩
 by_cases hj:i=j
 ·subst hj
  have hi:i < ρ.length:=by
   have:=(List.getElem?_eq_some_iff.mp e).1
   simpa using this
  rw[m8 hi] at e
  have e':w=u:=Option.some.inj (Option.some.inj e)
  subst e'
  exact⟨v,by rw[m8 (by rw[<-R.len];exact hi)],h⟩
 ·rw[dy hj] at e
  obtain⟨x,h1,h2⟩:=R.get j u e
  exact⟨x,by rw[dy hj];exact h1,h2⟩
end
inductive Re(α:Type) where
 | ok (a:α) (st:Hs)
 | err (c:PySem.Str) (st:Hs)
 | bad
def Re.bind{α β:Type}(r:Re α)(f:α->Hs->Re β):Re β:=match r with
 | .ok a st=>f a st
 | .err c st=> .err c st
 | .bad=> .bad
inductive Rs where
 | nx (ρ:bA) (st:Hs)
 | rt (w:Wv) (st:Hs)
 | bk (ρ:bA) (st:Hs)
 | ct (ρ:bA) (st:Hs)
 | err (c:PySem.Str) (ρ:bA) (st:Hs)
 | bad
def Re.a8{α:Type}(ρ:bA)(r:Re α)(f:α->Hs->Rs):Rs:=match r with
 | .ok a st=>f a st
 | .err c st=> .err c ρ st
 | .bad=> .bad
def Re.mK{α:Type}(r:Re α):Re α:=match r with
 | .ok a st=> .ok a st
 | _=> .bad
abbrev GE:=bA->Hs->Re Wv
abbrev GT:=bA->Hs->Re Bool
abbrev GA:=bA->Hs->Re (List Wv)
abbrev GS:=bA->Hs->Rs
def sF(P:Wc)(w:Wf)(outer:List Env)(H:Hp)(s:Wd)(H':Hp)(cls:We)(e:We)(s':Wd):Prop :=
 ∃(a:V_)(a0:We)(B:Heap),e= .ref a/\s'.os=s.os/\AllBare s'.gens/\Un (frs outer) [] H H' s.heap s'.heap/\ip P w H' B/\Ie B outer a cls a0 s'.heap/\
  (∀b o,s.heap.get? b=some o->b∉frs outer->∃o',B.get? b=some o'/\(H b=none->o'=o))
def u7(X:Cx)(pins:List (V_×Obj))(H:Hp)(s:Wd)(H':Hp)(cls:We)(e:We)(s':Wd):Prop :=
 ∃(a:V_)(a0 nt:We)(B:Heap)(ch:List V_),e= .ref a/\s'.os=s.os/\AllBare s'.gens/\(∀b∈ch,fJ X pins H b)/\Un (frs X.stack) ch H H' s.heap s'.heap/\ip X.prog X.w H' B/\
  (B.StaysIn s'.heap/\B.get? a=none/\s'.heap.FunFrames B X.stack/\Ot s'.heap B a cls a0 nt)/\
  (∀b o,s.heap.get? b=some o->b∉frs X.stack->b∉ch->∃o',B.get? b=some o'/\(H b=none->o'=o))
theorem sF.any{X:Cx}{pins:List (V_×Obj)}{H H':Hp}{s s':Wd}{cls e:We}(f:sF X.prog X.w X.stack H s H' cls e s'):u7 X pins H s H' cls e s' :=
 let ⟨a,a0,B,e1,e2,e3,un,hok,fl,Md⟩:=f
 ⟨a,a0,.none,B,[],e1,e2,e3,(λb z=>by cases z),un,hok,fl,λb o q hb _=>Md b o q hb⟩
def u9(X:Cx)(σ:St)(H':Hp)(c:PySem.Str)(e:We)(s':Wd):Prop :=
 ∃(C:V_)(pins:List (V_×Obj))(Hc:Hp)(sc:Wd),ClsAt X.K c C/\Inv X pins σ Hc sc/\
  (u7 X pins Hc sc H' (.ref C) e s'\/(H'=Hc/\∃a args,e= .ref a/\s'.os=sc.os/\s'.gens=sc.gens/\Ar sc.heap s'.heap a (.ref C) args))
def Lb(X:Cx)(σ:St)(m:Mp)(H:Hp)(c:PySem.Str)(st:Hs):Prop :=
 ∀(m':Mp)(H':Hp)(e:We)(s':Wd),Ext X.K m H m' H'->bw X.K m' st H'->u9 X σ H' c e s'->X.xe e s'
theorem Lb.mono{X:Cx}{σ:St}{m m1:Mp}{H H1:Hp}{c:PySem.Str}{st:Hs}(h:Lb X σ m H c st)(e:Ext X.K m H m1 H1):Lb X σ m1 H1 c st :=
 λm' H' x s' e' S r=>h m' H' x s' (e.trans e') S r
def aC{α:Type}(X:Cx)(σ:St)(m:Mp)(H:Hp)(r:Re α)(ok:α->Hs->Prop):Prop:=match r with
 | .ok a st=>ok a st
 | .err c st=>Lb X σ m H c st
 | .bad=>False
def nJ{α:Type}(r:Re α)(ok:α->Hs->Prop):Prop:=match r with
 | .ok a st=>ok a st
 | _=>False
theorem aC.mK{α:Type}{X:Cx}{σ:St}{m:Mp}{H:Hp}{r:Re α}{ok:α->Hs->Prop}(h:aC X σ m H r.mK ok):nJ r ok:=by
 cases r with
 | ok a st=>exact h
 | err c st=>exact h
 | bad=>exact h
theorem aC.bind{α β:Type}{X:Cx}{σ:St}{m:Mp}{H:Hp}{r:Re α}{f:α->Hs->Re β}{ok:β->Hs->Prop}(h:aC X σ m H (r.bind f) ok):aC X σ m H r (λa st=>aC X σ m H (f a st) ok):=by
 cases r with
 | ok a st=>exact h
 | err c st=>exact h
 | bad=>exact h
theorem aC.imp{α:Type}{X:Cx}{σ:St}{m m1:Mp}{H H1:Hp}{r:Re α}{ok ok':α->Hs->Prop}(h:aC X σ m H r ok)(e:Ext X.K m H m1 H1)(k:∀a st,ok a st->ok' a st):aC X σ m1 H1 r ok':=by
 cases r with
 | ok a st=>exact k a st h
 | err c st=>exact Lb.mono (c:=c) (st:=st) h e
 | bad=>exact h
theorem nJ.imp{α:Type}{r:Re α}{ok ok':α->Hs->Prop}(h:nJ r ok)(k:∀a st,ok a st->ok' a st):nJ r ok':=by
 cases r with
 | ok a st=>exact k a st h
 | err c st=>exact h
 | bad=>exact h
def Lc(K:PySem.W.Frag)(m:Mp)(H:Hp)(Q:VK)(w:Wv)(st:Hs):Prop:=∀(v:V)(m':Mp)(H':Hp),Ext K m H m' H'->bw K m' st H'->ah K m' H' w v->Q v H'
def Uo(K:PySem.W.Frag)(m:Mp)(H:Hp)(Q:Bool->Hp->Prop)(b:Bool)(st:Hs):Prop:=∀(m':Mp)(H':Hp),Ext K m H m' H'->bw K m' st H'->Q b H'
def Up(K:PySem.W.Frag)(m:Mp)(H:Hp)(Q:List V->Hp->Prop)(ws:List Wv)(st:Hs):Prop:=∀(vs:List V)(m':Mp)(H':Hp),Ext K m H m' H'->bw K m' st H'->ai K m' H' ws vs->Q vs H'
abbrev dG(X:Cx)(σ:St)(m:Mp)(H:Hp)(r:Re Wv)(Q:VK):Prop:=aC X σ m H r (Lc X.K m H Q)
abbrev gD(X:Cx)(σ:St)(m:Mp)(H:Hp)(r:Re Bool)(Q:Bool->Hp->Prop):Prop:=aC X σ m H r (Uo X.K m H Q)
abbrev F3(X:Cx)(σ:St)(m:Mp)(H:Hp)(r:Re (List Wv))(Q:List V->Hp->Prop):Prop:=aC X σ m H r (Up X.K m H Q)
theorem dG.shift{X:Cx}{σ:St}{m m1:Mp}{H H1:Hp}{r:Re Wv}{Q:VK}(h:dG X σ m H r Q)(e:Ext X.K m H m1 H1):dG X σ m1 H1 r Q:=h.imp e λ_ _ k v m' H' e'=>k v m' H' (e.trans e')
theorem gD.shift{X:Cx}{σ:St}{m m1:Mp}{H H1:Hp}{r:Re Bool}{Q:Bool->Hp->Prop}(h:gD X σ m H r Q)(e:Ext X.K m H m1 H1):gD X σ m1 H1 r Q:=h.imp e λ_ _ k m' H' e'=>k m' H' (e.trans e')
abbrev cI(K:PySem.W.Frag)(m:Mp)(H:Hp)(r:Re Wv)(Q:VK):Prop:=nJ r (Lc K m H Q)
theorem cI.shift{K:PySem.W.Frag}{m m1:Mp}{H H1:Hp}{r:Re Wv}{Q:VK}(h:cI K m H r Q)(e:Ext K m H m1 H1):cI K m1 H1 r Q:=nJ.imp h λ_ _ k v m' H' e'=>k v m' H' (e.trans e')
def aR(X:Cx)(m:Mp)(H:Hp)(r:Rs)(D:Ends):Prop:=match r with
 | .nx ρ st=>∀(σ:St)(m':Mp)(H':Hp),Ext X.K m H m' H'->bw X.K m' st H'->aJ X.K m' H' ρ σ->D.nx σ H'
 | .rt w st=>∀(v:V)(m':Mp)(H':Hp),Ext X.K m H m' H'->bw X.K m' st H'->ah X.K m' H' w v->D.rt v H'
 | .bk ρ st=>∀(σ:St)(m':Mp)(H':Hp),Ext X.K m H m' H'->bw X.K m' st H'->aJ X.K m' H' ρ σ->D.bk σ H'
 | .ct ρ st=>∀(σ:St)(m':Mp)(H':Hp),Ext X.K m H m' H'->bw X.K m' st H'->aJ X.K m' H' ρ σ->D.ct σ H'
 | .err c ρ st=>∀(σ:St)(m':Mp)(H':Hp)(e:We)(s':Wd),Ext X.K m H m' H'->bw X.K m' st H'->aJ X.K m' H' ρ σ->u9 X σ H' c e s'->X.xe e s'
 | .bad=>False
theorem aR.shift{X:Cx}{m m1:Mp}{H H1:Hp}{r:Rs}{D:Ends}(h:aR X m H r D)(e:Ext X.K m H m1 H1):aR X m1 H1 r D:=by
 cases r with
 | nx ρ st=>exact λσ m' H' e'=>h σ m' H' (e.trans e')
 | rt w st=>exact λv m' H' e'=>h v m' H' (e.trans e')
 | bk ρ st=>exact λσ m' H' e'=>h σ m' H' (e.trans e')
 | ct ρ st=>exact λσ m' H' e'=>h σ m' H' (e.trans e')
 | err c ρ st=>exact λσ m' H' x s' e'=>h σ m' H' x s' (e.trans e')
 | bad=>exact h
theorem aR.bU{α:Type}{X:Cx}{m:Mp}{H:Hp}{ρ:bA}{σ:St}{r:Re α}{f:α->Hs->Rs}{D:Ends}(R:aJ X.K m H ρ σ)(h:aR X m H (r.a8 ρ f) D):aC X σ m H r (λa st=>aR X m H (f a st) D):=by
 cases r with
 | ok a st=>exact h
 | err c st=>exact λm' H' x s' e' S r=>h σ m' H' x s' e' S (R.mono e') r
 | bad=>exact h
def SE(X:Cx)(e:Expr):TE:=λσ H Q=>∀(pins:List (V_×Obj))(s:Wd),Inv X pins σ H s->Wx (model X.prog X.w) X.A (eval e X.env) (EP X pins σ Q) X.xe s
def ST(X:Cx)(e:Expr):TT:=λσ H Q=>∀(pins:List (V_×Obj))(s:Wd),Inv X pins σ H s->Wx (model X.prog X.w) X.A (isTrue e X.env (eval e X.env)) (TP X pins σ Q) X.xe s
def SA(X:Cx)(es:List Expr):TA:=λσ H Q=>∀(pos:Pos)(pins:List (V_×Obj))(s:Wd),Inv X pins σ H s->Wx (model X.prog X.w) X.A (spliced (backTo pos (Ww es X.env))) (AP X pins σ Q) X.xe s
def SS(X:Cx)(st:Stmt):TS:=λD σ H=>∀(pins:List (V_×Obj))(s:Wd),Inv X pins σ H s->Wx (model X.prog X.w) X.A (exec st X.env) (SP X pins D) X.xe s
def Ov(X:Cx)(st:List Stmt):TS:=λD σ H=>∀(pins:List (V_×Obj))(s:Wd),Inv X pins σ H s->Wx (model X.prog X.w) X.A (execs st X.env) (SP X pins D) X.xe s
section
variable {X:Cx}
theorem aP{e:Expr}:PE X e (SE X e):=λpins s _ _ _ I h=>h pins s I
theorem nK{e:Expr}:PT X e (ST X e):=λpins s _ _ _ I h=>h pins s I
theorem iq{es:List Expr}:PA X es (SA X es):=λpos pins s _ _ _ I h=>h pos pins s I
theorem F4{st:Stmt}:PS X st (SS X st):=λpins s _ _ _ I h=>h pins s I
theorem fQ{st:List Stmt}:zB X st (Ov X st):=λpins s _ _ _ I h=>h pins s I
end
def JE(X:Cx)(e:Expr)(g:GE):Prop:=∀(ρ:bA)(st:Hs)(σ:St)(H:Hp)(m:Mp)(Q:VK),bw X.K m st H->aJ X.K m H ρ σ->dG X σ m H (g ρ st) Q->SE X e σ H Q
def JT(X:Cx)(e:Expr)(g:GT):Prop:=∀(ρ:bA)(st:Hs)(σ:St)(H:Hp)(m:Mp)(Q:Bool->Hp->Prop),bw X.K m st H->aJ X.K m H ρ σ->gD X σ m H (g ρ st) Q->ST X e σ H Q
def JA(X:Cx)(es:List Expr)(g:GA):Prop:=∀(ρ:bA)(st:Hs)(σ:St)(H:Hp)(m:Mp)(Q:List V->Hp->Prop),bw X.K m st H->aJ X.K m H ρ σ->F3 X σ m H (g ρ st) Q->SA X es σ H Q
def JS(X:Cx)(s:Stmt)(g:GS):Prop:=∀(ρ:bA)(st:Hs)(σ:St)(H:Hp)(m:Mp)(D:Ends),bw X.K m st H->aJ X.K m H ρ σ->aR X m H (g ρ st) D->SS X s D σ H
def mL(X:Cx)(s:List Stmt)(g:GS):Prop:=∀(ρ:bA)(st:Hs)(σ:St)(H:Hp)(m:Mp)(D:Ends),bw X.K m st H->aJ X.K m H ρ σ->aR X m H (g ρ st) D->Ov X s D σ H
section
variable {X:Cx}
theorem JE.of{e:Expr}{g:GE}{t:TE}(h:PE X e t)(k:∀(ρ:bA)(st:Hs)(σ:St)(H:Hp)(m:Mp)(Q:VK),bw X.K m st H->aJ X.K m H ρ σ->dG X σ m H (g ρ st) Q->t σ H Q):JE X e g :=
 λρ st σ H m Q S R p pins s I=>h pins s σ H Q I (k ρ st σ H m Q S R p)
theorem JT.of{e:Expr}{g:GT}{t:TT}(h:PT X e t)(k:∀(ρ:bA)(st:Hs)(σ:St)(H:Hp)(m:Mp)(Q:Bool->Hp->Prop),bw X.K m st H->aJ X.K m H ρ σ->gD X σ m H (g ρ st) Q->t σ H Q):JT X e g :=
 λρ st σ H m Q S R p pins s I=>h pins s σ H Q I (k ρ st σ H m Q S R p)
theorem JA.of{es:List Expr}{g:GA}{t:TA}(h:PA X es t)(k:∀(ρ:bA)(st:Hs)(σ:St)(H:Hp)(m:Mp)(Q:List V->Hp->Prop),bw X.K m st H->aJ X.K m H ρ σ->F3 X σ m H (g ρ st) Q->t σ H Q):JA X es g :=
 λρ st σ H m Q S R p pos pins s I=>h pos pins s σ H Q I (k ρ st σ H m Q S R p)
theorem JS.of{e:Stmt}{g:GS}{t:TS}(h:PS X e t)(k:∀(ρ:bA)(st:Hs)(σ:St)(H:Hp)(m:Mp)(D:Ends),bw X.K m st H->aJ X.K m H ρ σ->aR X m H (g ρ st) D->t D σ H):JS X e g :=
 λρ st σ H m D S R p pins s I=>h pins s σ H D I (k ρ st σ H m D S R p)
theorem mL.of{e:List Stmt}{g:GS}{t:TS}(h:zB X e t)(k:∀(ρ:bA)(st:Hs)(σ:St)(H:Hp)(m:Mp)(D:Ends),bw X.K m st H->aJ X.K m H ρ σ->aR X m H (g ρ st) D->t D σ H):mL X e g :=
 λρ st σ H m D S R p pins s I=>h pins s σ H D I (k ρ st σ H m D S R p)
theorem JE.go{e:Expr}{g:GE}{ρ:bA}{st:Hs}{σ:St}{H:Hp}{m:Mp}{T:VK}{ok:Wv->Hs->Prop}(h:JE X e g)(S:bw X.K m st H)(R:aJ X.K m H ρ σ)(p:aC X σ m H (g ρ st) ok)
  (k:∀(w:Wv)(st1:Hs)(v:V)(m1:Mp)(H1:Hp),ok w st1->Ext X.K m H m1 H1->bw X.K m1 st1 H1->ah X.K m1 H1 w v->T v H1):SE X e σ H T :=
 h ρ st σ H m T S R (p.imp Ext.refl λw st1 q v m1 H1 e1 s1 r1=>k w st1 v m1 H1 q e1 s1 r1)
theorem JT.go{e:Expr}{g:GT}{ρ:bA}{st:Hs}{σ:St}{H:Hp}{m:Mp}{T:Bool->Hp->Prop}{ok:Bool->Hs->Prop}(h:JT X e g)(S:bw X.K m st H)(R:aJ X.K m H ρ σ)(p:aC X σ m H (g ρ st) ok)
  (k:∀(b:Bool)(st1:Hs)(m1:Mp)(H1:Hp),ok b st1->Ext X.K m H m1 H1->bw X.K m1 st1 H1->T b H1):ST X e σ H T :=
 h ρ st σ H m T S R (p.imp Ext.refl λb st1 q m1 H1 e1 s1=>k b st1 m1 H1 q e1 s1)
theorem JA.go{es:List Expr}{g:GA}{ρ:bA}{st:Hs}{σ:St}{H:Hp}{m:Mp}{T:List V->Hp->Prop}{ok:List Wv->Hs->Prop}(h:JA X es g)(S:bw X.K m st H)(R:aJ X.K m H ρ σ)(p:aC X σ m H (g ρ st) ok)
  (k:∀(ws:List Wv)(st1:Hs)(vs:List V)(m1:Mp)(H1:Hp),ok ws st1->Ext X.K m H m1 H1->bw X.K m1 st1 H1->ai X.K m1 H1 ws vs->T vs H1):SA X es σ H T :=
 h ρ st σ H m T S R (p.imp Ext.refl λw st1 q v m1 H1 e1 s1 r1=>k w st1 v m1 H1 q e1 s1 r1)
end
end J
namespace J
open PySem PySem.Spec PyProof.Rows L2
def lim:Nat:=1000000
theorem dA{n:Nat}(h:n<=lim):n<=Wu:=a5 h (by unfold lim;rw[sizeLine_eq];decide)
theorem nL{n:Nat}(h:n < lim):n < Wu:=bp h (by unfold lim;rw[sizeLine_eq];decide)
def ag(i:Nat):GE:=λρ st=>match ρ[i]? with
 | some (some w)=> .ok w st
 | _=> .bad
def gC(w:Wv):GE:=λ_ st=> .ok w st
section
variable {X:Cx}
theorem u_(i:Nat){x:Str}{pos:Pos}(hN:X.N[i]? =some x:=by rfl)(hv:Ph X.env.scope x:=by first | exact Or.inl rfl | exact jf (Or.inl rfl) | exact jf (jf rfl))(hd:(x == ("__debug__":Str))=false:=by decide)
  (hcd:(x == ("__classdict__":Str))=false:=by decide):JE X (.Name x pos) (ag i):=JE.of (GY hN hv hd hcd) λρ st σ H m Q S R p=>by
 unfold ag at p
 cases e:ρ[i]? with
 | none=>rw[e] at p;exact ae p
 | some o=>
  cases o with
  | none=>rw[e] at p;exact ae p
  | some w=>
   rw[e] at p
   obtain⟨v,h1,h2⟩:=R.get i w e
   exact⟨v,h1,p v m H Ext.refl S h2⟩
theorem Ij{i:Int}{j pos}:JE X (.Constant (.int i) j pos) (gC (.int i)):=JE.of GZ λρ st σ H m Q S R p=>p (.int i) m H Ext.refl S (by unfold ah;rfl)
theorem Me{b:Bool}{j pos}:JE X (.Constant (.bool b) j pos) (gC (.bl b)):=JE.of Ly λρ st σ H m Q S R p=>p (.bl b) m H Ext.refl S (by unfold ah;rfl)
theorem Il{j pos}:JE X (.Constant .none j pos) (gC .non):=JE.of G0 λρ st σ H m Q S R p=>p .non m H Ext.refl S (by unfold ah;rfl)
theorem Im{x:PySem.Str}{j pos}(hx:aM x=true:=by decide+kernel):JE X (.Constant (.str x) j pos) (gC (.str x)):=JE.of G5 λρ st σ H m Q S R p=>p (.str x) m H Ext.refl S (by unfold ah;exact⟨rfl,hx⟩)
theorem As{x:Str}{i:Int}{t:Tok}{pos:Pos}(hg:Gl X x)(hm:X.mg x=some (.int i t))(hd:(x == ("__debug__":Str))=false:=by decide):JE X (.Name x pos) (gC (.int i)) :=
 JE.of (gL (v:=.int i) hg hm ⟨t,rfl⟩ hd) λρ st σ H m Q S R p=>p (.int i) m H Ext.refl S (by unfold ah;rfl)
theorem Au{x y:Str}{t:Tok}{pos:Pos}(hg:Gl X x)(hm:X.mg x=some (.str y t))(hy:aM y=true:=by decide+kernel)(hd:(x == ("__debug__":Str))=false:=by decide):JE X (.Name x pos) (gC (.str y)) :=
 JE.of (gL (v:=.str y) hg hm ⟨t,rfl⟩ hd) λρ st σ H m Q S R p=>p (.str y) m H Ext.refl S (by unfold ah;exact⟨rfl,hy⟩)
theorem Mf{x:Str}{T:String}{pos:Pos}(hg:Gl X x)(hm:X.mg x=none)(hv:Wi x=some (.type T))(hn:x≠"__name__":=by decide)(hd:(x == ("__debug__":Str))=false:=by decide):JE X (.Name x pos) (gC (.ty T)) :=
 JE.of (DF (v:=.ty T) hg hm hv rfl hn hd) λρ st σ H m Q S R p=>p (.ty T) m H Ext.refl S (by unfold ah;rfl)
abbrev fK:=Wv->Wv->Hs->Re Wv
def aj(op:fK)(ga gb:GE):GE:=λρ st=>(ga ρ st).bind λx st1=>(gb ρ st1).bind λy st2=>(op x y st2).mK
def wW(X:Cx)(op:fK)(r:R2):Prop:=∀(x y:Wv)(a b:V)(st:Hs)(H:Hp)(m:Mp)(Q:VK),bw X.K m st H->ah X.K m H x a->ah X.K m H y b->cI X.K m H (op x y st) Q->r a b H Q
def jg(X:Cx)(f:We->We->Sem We)(op:fK):Prop:=∃r,eF X f r/\wW X op r
theorem wX{a b:Expr}{ga gb:GE}{op:fK}{r:R2}(h2:wW X op r)(ha:JE X a ga)(hb:JE X b gb){ρ:bA}{st:Hs}{σ:St}{H:Hp}{m:Mp}{Q:VK}(S:bw X.K m st H)(R:aJ X.K m H ρ σ)(p:dG X σ m H (aj op ga gb ρ st) Q) :
  LM r (SE X a) (SE X b) σ H Q:=by
 refine ha.go S R (aC.bind p) λx st1 v m1 H1 p1 e1 S1 rx=>?_
 refine hb.go S1 (R.mono e1) ((aC.bind p1).imp e1 λ_ _ q=>q) λy st2 u m2 H2 p2 e2 S2 ry=>?_
 exact h2 x y v u st2 H2 m2 Q S2 (ah.mono e2 _ _ rx) ry (cI.shift (aC.mK p2) (e1.trans e2))
theorem Io{a b:Expr}{ga gb:GE}{o:Operator}{op:fK}{pos:Pos}(ho:jg X (Wh o) op)(ha:JE X a ga)(hb:JE X b gb):JE X (.BinOp a o b pos) (aj op ga gb):=by
 obtain⟨r,h1,h2⟩:=ho
 exact JE.of (LN h1 aP aP) λρ st σ H m Q S R p=>wX h2 ha hb S R p
theorem va{a b:Expr}{ga gb:GE}{o:CmpOp}{op:fK}{pos:Pos}(ho:jg X (Wm o) op)(ha:JE X a ga)(hb:JE X b gb)(hm:Wg o b=false):JE X (.Compare a [o] [b] pos) (aj op ga gb):=by
 obtain⟨r,h1,h2⟩:=ho
 exact JE.of (DO h1 aP aP hm) λρ st σ H m Q S R p=>wX h2 ha hb S R p
def Ld(w:Wv)(st:Hs):Re Bool:=match w with
 | .bl b=> .ok b st
 | _=> .bad
def bG(g:GE):GT:=λρ st=>(g ρ st).bind Ld
theorem sG{σ:St}{m:Mp}{H:Hp}{r:Re Wv}{Q:Bool->Hp->Prop}(p:gD X σ m H (r.bind Ld) Q):dG X σ m H r (λx H'=>∃k,x= .bl k/\Q k H'):=by
 cases r with
 | ok w st=>
  cases w with
  | bl b=>
   intro v m' H' e S rw'
   unfold ah at rw'
   exact⟨b,rw',p m' H' e S⟩
  | _=>exact ae p
 | err c st=>exact p
 | bad=>exact p
theorem qI{a b:Expr}{ga gb:GE}{o:CmpOp}{op:fK}{pos:Pos}(ho:jg X (Wm o) op)(ha:JE X a ga)(hb:JE X b gb)(hm:Wg o b=false):JT X (.Compare a [o] [b] pos) (bG (aj op ga gb)):=by
 obtain⟨r,h1,h2⟩:=ho
 exact JT.of (DP h1 aP aP hm) λρ st σ H m Q S R p=>wX h2 ha hb S R (sG p)
def nM(op op':fK)(ga gb gc:GE):GE:=λρ st=>(ga ρ st).bind λx st1=>(gb ρ st1).bind λy st2=>(op x y st2).mK.bind λz st3=>match z with
 | .bl true=>(gc ρ st3).bind λu uy=>(op' y u uy).mK
 | .bl false=> .ok (.bl false) st3
 | _=> .bad
theorem F5{a b c:Expr}{ga gb gc:GE}{op op':fK}{r r':R2}(h2:wW X op r)(h2':wW X op' r')(ha:JE X a ga)(hb:JE X b gb)(hc:JE X c gc){ρ:bA}{st:Hs}{σ:St}{H:Hp}{m:Mp}{Q:VK}
  (S:bw X.K m st H)(R:aJ X.K m H ρ σ)(p:dG X σ m H (nM op op' ga gb gc ρ st) Q):uG r r' (SE X a) (SE X b) (SE X c) σ H Q:=by
 refine ha.go S R (aC.bind p) λx st1 v m1 H1 p1 e1 S1 rx=>?_
 refine hb.go S1 (R.mono e1) ((aC.bind p1).imp e1 λ_ _ q=>q) λy st2 u m2 H2 p2 e2 S2 ry=>?_
 refine h2 x y v u st2 H2 m2 _ S2 (ah.mono e2 _ _ rx) ry (nJ.imp (aC.mK (aC.bind p2)) λz st3 p3=>?_)
 intro z' m3 H3 e3 S3 rz
 cases z with
 | bl k=>
  unfold ah at rz
  refine⟨k,rz,?_⟩
  cases k with
  | true=>
   rw[if_pos rfl]
   refine hc.go S3 (R.mono (e1.trans (e2.trans e3))) ((aC.bind p3).imp (e1.trans (e2.trans e3)) λ_ _ q=>q) λq uy u' m4 H4 p4 e4 S4 rq=>?_
   exact h2' y q u u' uy H4 m4 Q S4 (ah.mono (e3.trans e4) _ _ ry) rq (cI.shift (aC.mK p4) (e1.trans (e2.trans (e3.trans e4))))
  | false=>
   rw[if_neg bz]
   exact p3 (.bl false) m3 H3 (e1.trans (e2.trans e3)) S3 (by unfold ah;rfl)
 | _=>exact ae p3
theorem Av{a b c:Expr}{ga gb gc:GE}{o o':CmpOp}{op op':fK}{pos:Pos}(ho:jg X (Wm o) op)(ho':jg X (Wm o') op')(ha:JE X a ga)(hb:JE X b gb)(hc:JE X c gc)
  (hm:lastMarks [o,o'] [b,c]=false:=by with_unfolding_all rfl):JE X (.Compare a [o,o'] [b,c] pos) (nM op op' ga gb gc):=by
 obtain⟨r,h1,h2⟩:=ho
 obtain⟨r',F2,h2'⟩:=ho'
 exact JE.of (zM h1 F2 aP aP aP hm) λρ st σ H m Q S R p=>F5 h2 h2' ha hb hc S R p
theorem Aw{a b c:Expr}{ga gb gc:GE}{o o':CmpOp}{op op':fK}{pos:Pos}(ho:jg X (Wm o) op)(ho':jg X (Wm o') op')(ha:JE X a ga)(hb:JE X b gb)(hc:JE X c gc)
  (hm:lastMarks [o,o'] [b,c]=false:=by with_unfolding_all rfl):JT X (.Compare a [o,o'] [b,c] pos) (bG (nM op op' ga gb gc)):=by
 obtain⟨r,h1,h2⟩:=ho
 obtain⟨r',F2,h2'⟩:=ho'
 exact JT.of (zN h1 F2 aP aP aP hm) λρ st σ H m Q S R p=>F5 h2 h2' ha hb hc S R (sG p)
def wY(op:Wv->Hs->Re Wv)(ga:GE):GE:=λρ st=>(ga ρ st).bind op
def fR:Wv->Hs->Re Wv
 | .int i,st=> .ok (.int (-i)) st
 | _,_=> .bad
theorem Ip{a:Expr}{ga:GE}{pos:Pos}(ha:JE X a ga):JE X (.UnaryOp .USub a pos) (wY fR ga):=by
 refine JE.of (LO Hr aP) λρ st σ H m Q S R p=>?_
 refine ha.go S R (aC.bind p) λx st1 v m1 H1 p1 e1 S1 rx=>?_
 cases x with
 | int i=>
  unfold ah at rx
  exact⟨i,rx,p1 _ m1 H1 e1 S1 (by unfold ah;rfl)⟩
 | _=>exact ae p1
def SW(X:Cx)(e:Expr):TT:=λσ H Q=>∀(wh:Sem We)(pins:List (V_×Obj))(s:Wd),Inv X pins σ H s->Wx (model X.prog X.w) X.A (isTrue e X.env wh) (TP X pins σ Q) X.xe s
theorem F6{e:Expr}:PW X e (SW X e):=λwh pins s _ _ _ I h=>h wh pins s I
def JW(X:Cx)(e:Expr)(g:GT):Prop:=∀(ρ:bA)(st:Hs)(σ:St)(H:Hp)(m:Mp)(Q:Bool->Hp->Prop),bw X.K m st H->aJ X.K m H ρ σ->gD X σ m H (g ρ st) Q->SW X e σ H Q
theorem JW.of{e:Expr}{g:GT}{t:TT}(h:PW X e t)(k:∀(ρ:bA)(st:Hs)(σ:St)(H:Hp)(m:Mp)(Q:Bool->Hp->Prop),bw X.K m st H->aJ X.K m H ρ σ->gD X σ m H (g ρ st) Q->t σ H Q):JW X e g :=
 λρ st σ H m Q S R p wh pins s I=>h wh pins s σ H Q I (k ρ st σ H m Q S R p)
theorem JW.jt{e:Expr}{g:GT}(h:JW X e g):JT X e g:=λρ st σ H m Q S R p pins s I=>h ρ st σ H m Q S R p _ pins s I
def yv(ga gb:GT):GT:=λρ st=>(ga ρ st).bind λb st1=>if b=true then gb ρ st1 else .ok false st1
def Dp(ga gb:GT):GT:=λρ st=>(ga ρ st).bind λb st1=>if b=true then .ok true st1 else gb ρ st1
def vb(ga:GT):GT:=λρ st=>(ga ρ st).bind λb st1=> .ok (!b) st1
theorem Eb{a:Expr}{ga:GT}{pos:Pos}(ha:JT X a ga):JW X (.BoolOp .And [a] pos) ga:=JW.of (DG nK) λρ st σ H m Q S R p=>ha ρ st σ H m Q S R p
theorem Iq{a:Expr}{ga:GT}{pos:Pos}(ha:JT X a ga):JW X (.BoolOp .Or [a] pos) ga:=JW.of (G7 nK) λρ st σ H m Q S R p=>ha ρ st σ H m Q S R p
theorem Ir{a b:Expr}{rest:List Expr}{ga gb:GT}{pos:Pos}(ha:JT X a ga)(hb:JW X (.BoolOp .And (b::rest) pos) gb):JW X (.BoolOp .And (a::b::rest) pos) (yv ga gb):=by
 refine JW.of (G8 nK F6) λρ st σ H m Q S R p=>?_
 refine ha.go S R (aC.bind p) λc st1 m1 H1 p1 e1 S1=>?_
 cases c with
 | true=>rw[if_pos rfl] at p1 ⊢;exact hb ρ st1 σ H1 m1 Q S1 (R.mono e1) (gD.shift p1 e1)
 | false=>rw[if_neg bz] at p1 ⊢;exact p1 m1 H1 e1 S1
theorem Mg{a b:Expr}{rest:List Expr}{ga gb:GT}{pos:Pos}(ha:JT X a ga)(hb:JW X (.BoolOp .Or (b::rest) pos) gb):JW X (.BoolOp .Or (a::b::rest) pos) (Dp ga gb):=by
 refine JW.of (Lz nK F6) λρ st σ H m Q S R p=>?_
 refine ha.go S R (aC.bind p) λc st1 m1 H1 p1 e1 S1=>?_
 cases c with
 | true=>rw[if_pos rfl] at p1 ⊢;exact p1 m1 H1 e1 S1
 | false=>rw[if_neg bz] at p1 ⊢;exact hb ρ st1 σ H1 m1 Q S1 (R.mono e1) (gD.shift p1 e1)
theorem Iu{a:Expr}{ga:GT}{pos:Pos}(ha:JT X a ga):JT X (.UnaryOp .Not a pos) (vb ga):=by
 refine JT.of (G9 nK) λρ st σ H m Q S R p=>?_
 exact ha.go S R (aC.bind p) λc st1 m1 H1 p1 e1 S1=>p1 m1 H1 e1 S1
def pJ(ga gb:GE):GE:=λρ st=>(ga ρ st).bind λw st1=>match w with
 | .bl true=>gb ρ st1
 | .bl false=> .ok (.bl false) st1
 | _=> .bad
theorem Iv{op}{a:Expr}{ga:GE}{pos:Pos}(ha:JE X a ga):JE X (.BoolOp op [a] pos) ga:=JE.of (G_ aP) λρ st σ H m Q S R p=>ha ρ st σ H m Q S R p
theorem Iw{a b:Expr}{rest:List Expr}{ga gb:GE}{pos:Pos}(ha:JE X a ga)(hb:JE X (.BoolOp .And (b::rest) pos) gb):JE X (.BoolOp .And (a::b::rest) pos) (pJ ga gb):=by
 refine JE.of (Ha aP aP) λρ st σ H m Q S R p=>?_
 refine ha.go S R (aC.bind p) λx st1 v m1 H1 p1 e1 S1 rx=>?_
 cases x with
 | bl c=>
  unfold ah at rx
  refine⟨c,rx,?_⟩
  cases c with
  | true=>rw[if_pos rfl];exact hb ρ st1 σ H1 m1 Q S1 (R.mono e1) (dG.shift p1 e1)
  | false=>rw[if_neg bz];exact p1 _ m1 H1 e1 S1 (by unfold ah;rfl)
 | _=>exact ae p1
def qJ(gt:GT)(ga gb:GE):GE:=λρ st=>(gt ρ st).bind λb st1=>if b=true then ga ρ st1 else gb ρ st1
theorem Mh{c a b:Expr}{gt:GT}{ga gb:GE}{pos:Pos}(hc:JT X c gt)(ha:JE X a ga)(hb:JE X b gb):JE X (.IfExp c a b pos) (qJ gt ga gb):=by
 refine JE.of (zC nK aP aP) λρ st σ H m Q S R p=>?_
 refine hc.go S R (aC.bind p) λk st1 m1 H1 p1 e1 S1=>?_
 cases k with
 | true=>rw[if_pos rfl] at p1 ⊢;exact ha ρ st1 σ H1 m1 Q S1 (R.mono e1) (dG.shift p1 e1)
 | false=>rw[if_neg bz] at p1 ⊢;exact hb ρ st1 σ H1 m1 Q S1 (R.mono e1) (dG.shift p1 e1)
def ak:GA:=λ_ st=> .ok [] st
def af(ga:GE)(gr:GA):GA:=λρ st=>(ga ρ st).bind λx st1=>(gr ρ st1).bind λxs st2=> .ok (x::xs) st2
theorem Ax:JA X [] ak:=JA.of Hy λρ st σ H m Q S R p=>p [] m H Ext.refl S ai.nil
theorem wZ{e:Expr}{es:List Expr}{ga:GE}{gr:GA}(ha:JE X e ga)(hr:JA X es gr)(hs:Ww (e::es) X.env=(false,eval e X.env)::Ww es X.env:=by rfl):JA X (e::es) (af ga gr):=by
 refine JA.of (DS aP iq hs) λρ st σ H m Q S R p=>?_
 refine ha.go S R (aC.bind p) λx st1 v m1 H1 p1 e1 S1 rx=>?_
 refine hr.go S1 (R.mono e1) ((aC.bind p1).imp e1 λ_ _ q=>q) λxs st2 vs m2 H2 p2 e2 S2 rs=>?_
 exact p2 (v::vs) m2 H2 (e1.trans e2) S2 (ai.cons (ah.mono e2 _ _ rx) rs)
def a4(g:GA):GE:=λρ st=>(g ρ st).bind λws st1=>if ws.length<=lim then .ok (.tup ws) st1 else .bad
def dY(g:GA):GE:=λρ st=>(g ρ st).bind λws st1=>if ws.length<=lim then .ok (.ref st1.length) (st1++[.lst ws]) else .bad
theorem Iy{es:List Expr}{g:GA}{x1 pos}(h:JA X es g):JE X (.Tuple es x1 pos) (a4 g):=by
 refine JE.of (Hz iq) λρ st σ H m Q S R p=>?_
 refine h.go S R (aC.bind p) λws st1 vs m1 H1 p1 e1 S1 rs=>?_
 by_cases hl:ws.length<=lim
 ·rw[if_pos hl] at p1
  refine⟨by rw[<-rs.length];exact dA hl,λq hq=>?_⟩
  have e2:Ext X.K m1 H1 m1 (upd H1 q (.tup vs)):=Ext.upd (.inl hq)
  exact p1 (.ref q) m1 _ (e1.trans e2) (S1.fresh hq) (by unfold ah;exact⟨q,vs,rfl,bc,ai.mono e2 _ _ rs⟩)
 ·rw[if_neg hl] at p1;exact ae p1
theorem bw.newest{K:PySem.W.Frag}{m:Mp}{st:Hs}{H:Hp}(S:bw K m st H)(q:V_)(H':Hp):ah K (m++[q]) H' (.ref st.length) (.ref q):=by
 unfold ah
 refine⟨q,rfl,?_⟩
 rw[<-S.len,jJ (ay _),mJ]
 rfl
theorem kf{m m1:Mp}{H H1:Hp}{st1:Hs}{ws:List Wv}{vs:List V}{Q:VK}(p1:Lc X.K m H Q (.ref st1.length) (st1++[.lst ws]))(e1:Ext X.K m H m1 H1)(S1:bw X.K m1 st1 H1)(rs:ai X.K m1 H1 ws vs)(q:V_)(hq:H1 q=none) :
  Q (.ref q) (upd H1 q (.lst vs)) :=
 p1 (.ref q) (m1++[q]) _ (e1.trans (Ext.more.trans (Ext.upd (.inl hq)))) (S1.alloc hq rs) (S1.newest q _)
theorem Iz{es:List Expr}{g:GA}{pos}(h:JA X es g):JE X (.List es pos) (dY g):=by
 refine JE.of (HA iq) λρ st σ H m Q S R p=>?_
 refine h.go S R (aC.bind p) λws st1 vs m1 H1 p1 e1 S1 rs=>?_
 by_cases hl:ws.length<=lim
 ·rw[if_pos hl] at p1
  exact⟨by rw[<-rs.length];exact dA hl,λq hq=>kf p1 e1 S1 rs q hq⟩
 ·rw[if_neg hl] at p1;exact ae p1
end
section
variable {X:Cx}
theorem eF.or{f:We->We->Sem We}{r r':R2}(h:eF X f r)(h':eF X f r'):eF X f (λx y H Q=>r x y H Q\/r' x y H Q):=by
 intro pins s σ H x y v u Q I rx ry q
 rcases q with q | q
 ·exact h pins s σ H x y v u Q I rx ry q
 ·exact h' pins s σ H x y v u Q I rx ry q
theorem Ay:eF X (Wh .FloorDiv) (rI (λ_ j=>j≠0/\j.natAbs.log2 < 9000) λi j=> .int (i.fdiv j)):=Oi λi j _ _ _ _ _ hc q=>floordiv_int hc.1 q (.inl (PyProof.noPylong_of_log2 hc.2))
theorem Ec:eF X (Wh .Mod) (rI (λ_ j=>j≠0) λi j=> .int (i.fmod j)):=Oi λi j _ _ _ _ _ hc q=>mod_int' hc q
theorem Ed:eF X (Wh .Mult) (rI (λi j=>IntMulOk i j) λi j=> .int (i * j)):=Oi λ_ _ _ _ _ _ _ hc q=>mul_int q hc
instance P1{a b:Int}:Decidable (IntMulOk a b):=by unfold IntMulOk;infer_instance
def nN:fK
 | .int i,.int j,st=> .ok (.int (i - j)) st
 | _,_,_=> .bad
def eS:fK
 | .int i,.int j,st=>if j≠0/\j.natAbs.log2 < 9000 then .ok (.int (i.fdiv j)) st else .bad
 | _,_,_=> .bad
def oMod:fK
 | .int i,.int j,st=>if j≠0 then .ok (.int (i.fmod j)) st else .bad
 | _,_,_=> .bad
def gS:fK
 | .int i,.int j,st=>if 0<=j/\j<=1000000/\i.natAbs < 2 ^ 64 then .ok (.int (i ^ j.toNat)) st else .bad
 | _,_,_=> .bad
def Mi:fK
 | .int i,.int j,st=> .ok (.bl (decide (i < j))) st
 | .str i,.str j,st=> .ok (.bl (decide (i.cps.toList < j.cps.toList))) st
 | _,_,_=> .bad
def Mj:fK
 | .int i,.int j,st=> .ok (.bl (decide (i<=j))) st
 | _,_,_=> .bad
def Ow:fK
 | .int i,.int j,st=> .ok (.bl (decide (j < i))) st
 | _,_,_=> .bad
def Uq:fK
 | .int i,.int j,st=> .ok (.bl (decide (j<=i))) st
 | _,_,_=> .bad
theorem aO{m:Mp}{H:Hp}{i:Int}{a:V}(h:ah X.K m H (.int i) a):a= .int i:=by unfold ah at h;exact h
theorem dB{m:Mp}{H:Hp}{x:PySem.Str}{a:V}(h:ah X.K m H (.str x) a):a= .str x/\aM x=true:=by unfold ah at h;exact h
theorem mkInt{m:Mp}{H:Hp}{i:Int}:ah X.K m H (.int i) (.int i):=by unfold ah;rfl
theorem iG{m:Mp}{H:Hp}{i:Bool}:ah X.K m H (.bl i) (.bl i):=by unfold ah;rfl
theorem w5{m:Mp}{H:Hp}:ah X.K m H .non .non:=by unfold ah;rfl
theorem mkStr{m:Mp}{H:Hp}{x:PySem.Str}(h:aM x=true):ah X.K m H (.str x) (.str x):=by unfold ah;exact⟨rfl,h⟩
theorem IA:jg X (Wh .Sub) nN:=⟨_,Ho,λx y a b st H m Q S rx ry p=>by
 cases x with
 | int i=>
  cases y with
  | int j=>exact⟨i,j,aO rx,aO ry,p _ m H Ext.refl S mkInt⟩
  | _=>exact ae p
 | _=>cases y<;>exact ae p⟩
theorem Ee:jg X (Wh .FloorDiv) eS:=⟨_,Ay,λx y a b st H m Q S rx ry p=>by
 cases x with
 | int i=>
  cases y with
  | int j=>
   dsimp only[eS] at p
   by_cases c:j≠0/\j.natAbs.log2 < 9000
   ·rw[if_pos c] at p;exact⟨i,j,aO rx,aO ry,c,p _ m H Ext.refl S mkInt⟩
   ·rw[if_neg c] at p;exact ae p
  | _=>exact ae p
 | _=>cases y<;>exact ae p⟩
theorem IB:jg X (Wh .Mod) oMod:=⟨_,Ec,λx y a b st H m Q S rx ry p=>by
 cases x with
 | int i=>
  cases y with
  | int j=>
   dsimp only[oMod] at p
   by_cases c:j≠0
   ·rw[if_pos c] at p;exact⟨i,j,aO rx,aO ry,c,p _ m H Ext.refl S mkInt⟩
   ·rw[if_neg c] at p;exact ae p
  | _=>exact ae p
 | _=>cases y<;>exact ae p⟩
theorem IC:jg X (Wh .Pow) gS:=⟨_,Hq,λx y a b st H m Q S rx ry p=>by
 cases x with
 | int i=>
  cases y with
  | int j=>
   dsimp only[gS] at p
   by_cases c:0<=j/\j<=1000000/\i.natAbs < 2 ^ 64
   ·rw[if_pos c] at p;exact⟨i,j,aO rx,aO ry,c,p _ m H Ext.refl S mkInt⟩
   ·rw[if_neg c] at p;exact ae p
  | _=>exact ae p
 | _=>cases y<;>exact ae p⟩
theorem Ml:jg X (Wm .Lt) Mi:=⟨_,eF.or LQ yc,λx y a b st H m Q S rx ry p=>by
 cases x with
 | int i=>
  cases y with
  | int j=>exact .inl ⟨i,j,aO rx,aO ry,p _ m H Ext.refl S iG⟩
  | _=>exact ae p
 | str i=>
  cases y with
  | str j=>exact .inr ⟨i,j,(dB rx).1,(dB ry).1,p _ m H Ext.refl S iG⟩
  | _=>exact ae p
 | _=>cases y<;>exact ae p⟩
theorem Mm:jg X (Wm .LtE) Mj:=⟨_,LR,λx y a b st H m Q S rx ry p=>by
 cases x with
 | int i=>
  cases y with
  | int j=>exact⟨i,j,aO rx,aO ry,p _ m H Ext.refl S iG⟩
  | _=>exact ae p
 | _=>cases y<;>exact ae p⟩
theorem Mn:jg X (Wm .Gt) Ow:=⟨_,LS,λx y a b st H m Q S rx ry p=>by
 cases x with
 | int i=>
  cases y with
  | int j=>exact⟨i,j,aO rx,aO ry,p _ m H Ext.refl S iG⟩
  | _=>exact ae p
 | _=>cases y<;>exact ae p⟩
def Ef:fK
 | x,.non,st=> .ok (.bl (match x with | .non=>true | _=>false)) st
 | _,_,_=> .bad
def nO:fK
 | x,.non,st=> .ok (.bl (match x with | .non=>false | _=>true)) st
 | _,_,_=> .bad
theorem F7{m:Mp}{H:Hp}{x:Wv}{a:V}(h:ah X.K m H x a):decide (a=V.non)=(match x with | .non=>true | _=>false):=by
 cases x with
 | non=>unfold ah at h;subst h;rfl
 | bl b=>unfold ah at h;subst h;rfl
 | int b=>unfold ah at h;subst h;rfl
 | str b=>unfold ah at h;obtain⟨h,_⟩:=h;subst h;rfl
 | tup b=>unfold ah at h;obtain⟨q,xs,h,_⟩:=h;subst h;rfl
 | nG b=>unfold ah at h;obtain⟨q,xs,h,_⟩:=h;subst h;rfl
 | ref b=>unfold ah at h;obtain⟨q,h,_⟩:=h;subst h;rfl
 | ty b=>unfold ah at h;subst h;rfl
 | cls b=>unfold ah at h;obtain⟨q,h,_⟩:=h;subst h;rfl
 | sD b=>unfold ah at h;obtain⟨q,C,h,_⟩:=h;subst h;rfl
 | fn fp b=>unfold ah at h;obtain⟨h,_⟩:=h;subst h;rfl
theorem Mo:jg X (Wm .Is) Ef:=⟨_,Hu,λx y a b st H m Q S rx ry p=>by
 cases y with
 | non=>
  refine⟨by unfold ah at ry;exact ry,?_⟩
  rw[F7 rx]
  cases x<;>exact p _ m H Ext.refl S iG
 | _=>cases x<;>exact ae p⟩
theorem Az:jg X (Wm .IsNot) nO:=⟨_,DN,λx y a b st H m Q S rx ry p=>by
 cases y with
 | non=>
  refine⟨by unfold ah at ry;exact ry,?_⟩
  rw[F7 rx]
  cases x<;>exact p _ m H Ext.refl S iG
 | _=>cases x<;>exact ae p⟩
theorem qK{a b:PySem.Str}(ha:aM a=true)(hb:aM b=true):aM (a++b)=true:=by
 unfold aM at *
 show((a.cps++b.cps).all _)=true
 rw[Array.all_append,ha,hb]
 rfl
def Mq(K:PySem.W.Frag):R2:=λx y H Q=>∃l b xs zs,x= .ref l/\y= .ref b/\jY K H l xs/\jY K H b zs/\xs.length+zs.length<=Wu/\∀p,H p=none->Q (.ref p) (upd H p (.lst (xs++zs)))
theorem Eg:eF X (Wh .Add) (Mq X.K):=by
 intro pins s σ H x y v u Q I rx ry h
 obtain⟨l,b,xs,zs,rfl,rfl,hH,hB,hz,q⟩:=h
 cases rx
 cases ry
 obtain⟨its,r,pl,hs⟩:=I.list hH
 obtain⟨its2,r2,Ur,hs2⟩:=I.list hB
 have hl:=r.length
 have hl2:=r2.length
 obtain⟨⟨cls,dd,data,sl⟩,ho,hc,n,hd⟩:=id pl.isList
 obtain⟨⟨PM,dd2,data2,sl2⟩,ho2,hc2,n2,hd2⟩:=id Ur.isList
 simp only at hc hd hc2 hd2
 subst hc hd hc2 hd2
 have e:its.toArray++its2.toArray=(its++its2).toArray:=by simp
 refine PySem.concat_meets ⟨_,ho,rfl⟩ ⟨_,ho2,rfl⟩ PySem.noFill_list_add PySem.seq_list_add PySem.F.slot_list_add PySem.F.entry_list_add (PySem.F.args_list_add_2 _ _) (list_addW l b its.toArray its2.toArray n n2 dd dd2 sl sl2 (by simp;omega)) ⟨ho,ho2,?_⟩
 rw[e]
 exact⟨.ref _,_,I.HQ (t':=s.toks) (r.append r2) (by rw[iB];omega),rfl,q _ I.fresh⟩
def Mr(K:PySem.W.Frag):R2:=λx y H Q=>∃a b ys,x= .ref a/\y= .ref b/\eM K H a []/\eM K H b ys/\Q (.ref b) H
theorem Eh:eF X (Wh .Add) (Mr X.K):=by
 intro pins s σ H x y v u Q I rx ry h
 obtain⟨a,b,ys,rfl,rfl,ha,hb,q⟩:=h
 cases rx
 cases ry
 obtain⟨its,r1,p1,_⟩:=I.tuple ha
 obtain⟨its2,r2,p2,_⟩:=I.tuple hb
 cases r1
 obtain⟨⟨c1,d1,t1,l1⟩,g1,k1,n1,j1⟩:=id p1
 obtain⟨⟨c2,d2,t2,l2⟩,g2,k2,n2,j2⟩:=id p2
 simp only at k1 j1 k2 j2
 subst k1 j1 k2 j2
 exact PySem.concat_meets ⟨_,g1,rfl⟩ ⟨_,g2,rfl⟩ PySem.noFill_tuple_add PySem.seq_tuple_add PySem.F.slot_tuple_add PySem.F.entry_tuple_add (PySem.F.args_tuple_add_2 _ _) (tuple_addW0 a b #[] its2.toArray n1 n2 d1 d2 l1 l2 (by simp)) ⟨g1,g2,⟨.ref b,H,I,rfl,q⟩⟩
def bB:fK
 | .int i,.int j,st=> .ok (.int (i+j)) st
 | .str i,.str j,st=>if i.length+j.length<=lim then .ok (.str (i++j)) st else .bad
 | .tup i,.tup j,st=>if i.length+j.length<=lim then .ok (.tup (i++j)) st else .bad
 | .ref l,.ref k,st=>match aq st l,aq st k with
  | some i,some j=>if i.length+j.length<=lim then .ok (.ref st.length) (st++[.lst (i++j)]) else .bad
  | _,_=> .bad
 | _,_,_=> .bad
instance {α:Type}{xs:List α}:Decidable (xs≠[]):=match xs with
 | []=>isFalse (λh=>h rfl)
 | _::_=>isTrue (λh=>by cases h)
theorem ID:jg X (Wh .Add) bB:=⟨_,eF.or Hn (eF.or uI (eF.or DY (eF.or Eg Eh))),λx y a b st H m Q S rx ry p=>by
 cases x with
 | int i=>
  cases y with
  | int j=>exact .inl ⟨i,j,aO rx,aO ry,p _ m H Ext.refl S mkInt⟩
  | _=>exact ae p
 | str i=>
  cases y with
  | str j=>
   dsimp only[bB] at p
   by_cases c:i.length+j.length<=lim
   ·rw[if_pos c] at p
    exact .inr (.inl ⟨i,j,(dB rx).1,(dB ry).1,dA c,p _ m H Ext.refl S (mkStr (qK (dB rx).2 (dB ry).2))⟩)
   ·rw[if_neg c] at p;exact ae p
  | _=>exact ae p
 | tup i=>
  cases y with
  | tup j=>
   dsimp only[bB] at p
   by_cases c:i.length+j.length<=lim
   ·rw[if_pos c] at p
    by_cases c0:i=[]
    ·subst c0
     unfold ah at rx ry
     obtain⟨a1,xs,rfl,h1,h2⟩:=rx
     obtain⟨a2,ys,rfl,h3,h4⟩:=ry
     have l1:xs=[]:=vc h2.length.symm
     subst l1
     exact .inr (.inr (.inr (.inr ⟨a1,a2,ys,rfl,rfl,eM.of h1,eM.of h3,p (.ref a2) m H Ext.refl S (by rw[nD];unfold ah;exact⟨a2,ys,rfl,h3,h4⟩)⟩)))
    unfold ah at rx ry
    obtain⟨a1,xs,rfl,h1,h2⟩:=rx
    obtain⟨a2,ys,rfl,h3,h4⟩:=ry
    have l1:=h2.length
    have l2:=h4.length
    have n1:xs≠[]:=λz=>by rw[z] at l1;exact c0 (vc l1)
    refine .inr (.inr (.inl ⟨a1,a2,xs,ys,rfl,rfl,eM.of h1,eM.of h3,n1,by rw[<-l1,<-l2];exact dA c,λz=>?_,λ_ q hq=>?_⟩))
    ·rw[z] at l2
     rw[vc l2,gP] at p
     exact p (.ref a1) m H Ext.refl S (by unfold ah;exact⟨a1,xs,rfl,h1,h2⟩)
    have e2:Ext X.K m H m (upd H q (.tup (xs++ys))):=Ext.upd (.inl hq)
    exact p (.ref q) m _ e2 (S.fresh hq) (by unfold ah;exact⟨q,xs++ys,rfl,bc,ai.mono e2 _ _ (h2.append h4)⟩)
   ·rw[if_neg c] at p;exact ae p
  | _=>exact ae p
 | ref l=>
  cases y with
  | ref k=>
   dsimp only[bB] at p
   unfold ah at rx ry
   obtain⟨a1,rfl,h1⟩:=rx
   obtain⟨a2,rfl,h2⟩:=ry
   cases e1:aq st l with
   | none=>rw[e1] at p;exact ae p
   | some i=>
    cases e2:aq st k with
    | none=>rw[e1,e2] at p;exact ae p
    | some j=>
     rw[e1,e2] at p
     by_cases c:i.length+j.length<=lim
     ·simp only[if_pos c] at p
      obtain⟨xs,q1,q2⟩:=S.read h1 e1
      obtain⟨ys,q3,q4⟩:=S.read h2 e2
      exact .inr (.inr (.inr (.inl ⟨a1,a2,xs,ys,rfl,rfl,q1,q3,by rw[<-q2.length,<-q4.length];exact dA c,λq hq=>kf p Ext.refl S (q2.append q4) q hq⟩)))
     ·simp only[if_neg c] at p;exact ae p
  | _=>exact ae p
 | _=>cases y<;>exact ae p⟩
def oU(n:Nat)(x:PySem.Str):PySem.Str:=⟨(aN n x.cps).foldl (· ++·) #[]⟩
end
open PySem PySem.Spec PySem.SeqAt PyProof.Rows L2
def dM{α β:Type}(f:α->Option β):List α->Option (List β)
 | []=>some []
 | w::ws=>match f w,dM f ws with
  | some d,some ds=>some (d::ds)
  | _,_=>none
def aS(st:Hs):Nat->Wv->Option PyData
 | 0,w=>match w with
  | .non=>some .none
  | .bl b=>some (.bool b)
  | .int i=>some (.int i)
  | .str x=>some (.str x)
  | _=>none
 | n+1,w=>match w with
  | .non=>some .none
  | .bl b=>some (.bool b)
  | .int i=>some (.int i)
  | .str x=>some (.str x)
  | .tup ws=>(dM (aS st n) ws).map .tuple
  | .nG ws=>(dM (aS st n) ws).map .tuple
  | .ref l=>match aq st l with
   | some ws=>(dM (aS st n) ws).map .list
   | none=>none
  | .ty _=>none
  | .cls _=>none
  | .sD _=>none
  | .fn _ _=>none
section
variable {X:Cx} {pins:List (V_×Obj)} {σ:St} {H:Hp} {s:Wd} {m:Mp} {st:Hs}
def F8(h:Heap)(n:Nat)(u:We)(d:PyData):Prop:=∃as,Reads h u d as/\d.canLay0=true/\d.depth<=n
theorem jh{n:Nat}(ih:∀(w:Wv)(a:V)(u:We)(d:PyData),ah X.K m H w a->RelV a u->aS st n w=some d->F8 s.heap n u d) :
  ∀(ws:List Wv)(xs:List V)(us:List We)(ds:List PyData),ai X.K m H ws xs->Vals xs us->dM (aS st n) ws=some ds->∃as,ReadsAll s.heap us ds as/\j3 ds=true/\eX ds<=n
 | [],xs,us,ds,h,r,e=>by
  unfold ai at h
  subst h
  cases r
  cases e
  exact⟨[],.nil,rfl,bV _⟩
 | w::ws,xs,us,ds,h,r,e=>by
  unfold ai at h
  obtain⟨x,xr,rfl,h1,h2⟩:=h
  cases r with
  | cons r1 r2=>
   unfold dM at e
   cases e1:aS st n w with
   | none=>rw[e1] at e;cases e
   | some d=>
    cases e2:dM (aS st n) ws with
    | none=>rw[e1,e2] at e;cases e
    | some dr=>
     rw[e1,e2] at e
     cases e
     obtain⟨as,q1,q2,q3⟩:=ih w x _ d h1 r1 e1
     obtain⟨bs,p1,p2,p3⟩:=jh ih ws xr _ dr h2 r2 e2
     refine⟨as++bs,.cons q1 p1,?_,?_⟩
     ·show(PyData.canLay0 d&&j3 dr)=true
      rw[q2,p2];rfl
     ·show max d.depth (eX dr)<=n
      omega
theorem de(I:Inv X pins σ H s)(S:bw X.K m st H):∀(n:Nat)(w:Wv)(a:V)(u:We)(d:PyData),ah X.K m H w a->RelV a u->aS st n w=some d->F8 s.heap n u d:=by
 intro n
 induction n with
 | zero=>
  intro w a u d h r e
  cases w with
  | non=>unfold ah at h;subst h;cases r;cases e;exact⟨[],.none,rfl,ay _⟩
  | bl b=>unfold ah at h;subst h;cases r;cases e;exact⟨[],.bool b,rfl,ay _⟩
  | int i=>unfold ah at h;subst h;obtain⟨t,rfl⟩:=r;cases e;exact⟨[],.int i t,rfl,ay _⟩
  | str x=>unfold ah at h;obtain⟨rfl,hx⟩:=h;obtain⟨t,rfl⟩:=r;cases e;exact⟨[],.str x t,hx,ay _⟩
  | tup ws=>cases e
  | nG ws=>cases e
  | ref l=>cases e
  | ty t=>cases e
  | cls t=>cases e
  | sD t=>cases e
  | fn fp t=>cases e
 | succ n ih=>
  intro w a u d h r e
  cases w with
  | non=>unfold ah at h;subst h;cases r;cases e;exact⟨[],.none,rfl,bV _⟩
  | bl b=>unfold ah at h;subst h;cases r;cases e;exact⟨[],.bool b,rfl,bV _⟩
  | int i=>unfold ah at h;subst h;obtain⟨t,rfl⟩:=r;cases e;exact⟨[],.int i t,rfl,bV _⟩
  | str x=>unfold ah at h;obtain⟨rfl,hx⟩:=h;obtain⟨t,rfl⟩:=r;cases e;exact⟨[],.str x t,hx,bV _⟩
  | ty t=>cases e
  | cls t=>cases e
  | sD t=>cases e
  | fn fp t=>cases e
  | tup ws=>
   unfold ah at h
   obtain⟨p,xs,rfl,h1,h2⟩:=h
   cases r
   have e':(dM (aS st n) ws).map ji=some d:=e
   cases e2:dM (aS st n) ws with
   | none=>rw[e2] at e';cases e'
   | some ds=>
    rw[e2] at e'
    cases e'
    obtain⟨its,rv,ht,hz⟩:=I.tuple (eM.of h1)
    obtain⟨as,q1,q2,q3⟩:=jh ih ws xs its ds h2 rv e2
    obtain⟨o,ho,hc,k,hd⟩:=ht
    exact⟨as,.tuple ho hc hd (by simpa using q1),q2,qf q3⟩
  | nG ws=>
   unfold ah at h
   obtain⟨p,xs,rfl,h1,h2⟩:=h
   cases r
   have e':(dM (aS st n) ws).map ji=some d:=e
   cases e2:dM (aS st n) ws with
   | none=>rw[e2] at e';cases e'
   | some ds=>
    rw[e2] at e'
    cases e'
    obtain⟨its,rv,ht,hz⟩:=I.tuple (.inr h1)
    obtain⟨as,q1,q2,q3⟩:=jh ih ws xs its ds h2 rv e2
    obtain⟨o,ho,hc,k,hd⟩:=ht
    exact⟨as,.tuple ho hc hd (by simpa using q1),q2,qf q3⟩
  | ref l=>
   unfold ah at h
   obtain⟨p,rfl,h1⟩:=h
   cases r
   have e':(match aq st l with | some ws=>(dM (aS st n) ws).map w6 | none=>none)=some d:=e
   cases e1:aq st l with
   | none=>rw[e1] at e';cases e'
   | some ws=>
    rw[e1] at e'
    have e'':(dM (aS st n) ws).map w6=some d:=e'
    cases e2:dM (aS st n) ws with
    | none=>rw[e2] at e'';cases e''
    | some ds=>
     rw[e2] at e''
     cases e''
     obtain⟨xs,hq,h2⟩:=S.read h1 e1
     obtain⟨its,rv,ht,hz⟩:=I.list hq
     obtain⟨as,q1,q2,q3⟩:=jh ih ws xs its ds h2 rv e2
     obtain⟨o,ho,hc,k,hd⟩:=ht.isList
     exact⟨_,.list ho hc hd (by simpa using q1),q2,qf q3⟩
end
def oEq:fK:=λx y st=>match aS st 20 x,aS st 20 y with
 | some a,some b=> .ok (.bl (aI a b)) st
 | _,_=> .bad
def zv:fK:=λx y st=>match aS st 20 x,aS st 20 y with
 | some a,some b=> .ok (.bl (!PyData.eqv a b)) st
 | _,_=> .bad
section
variable {X:Cx}
def Ms(K:PySem.W.Frag)(neg:Bool):R2:=λa b H Q=>∃m st x y da db,bw K m st H/\ah K m H x a/\ah K m H y b/\aS st 20 x=some da/\aS st 20 y=some db/\Q (.bl (if neg then !PyData.eqv da db else aI da db)) H
theorem jj{n:Nat}{d:PyData}(hn:n<=64)(h:d.canLay0=true)(k:d.depth<=n):shaped d=true:=by
 unfold shaped
 rw[h,decide_eq_true (a5 k hn)]
 rfl
theorem IE(hu:X.A.units+64 < cLine):eF X (Wm .Eq) (Ms X.K false):=by
 intro pins s σ H a b v u Q I rx ry h
 obtain⟨m,st,x,y,da,db,S,h1,h2,e1,e2,q⟩:=h
 obtain⟨as,q1,q2,q3⟩:=de I S 20 x a v da h1 rx e1
 obtain⟨bs,p1,p2,p3⟩:=de I S 20 y b u db h2 ry e2
 exact eq_dataH q1 p1 (jj (by decide) q2 q3) (jj (by decide) p2 p3) hu ⟨.bl _,H,I,rfl,q⟩
theorem IF(hu:X.A.units+64 < cLine):eF X (Wm .NotEq) (Ms X.K true):=by
 intro pins s σ H a b v u Q I rx ry h
 obtain⟨m,st,x,y,da,db,S,h1,h2,e1,e2,q⟩:=h
 obtain⟨as,q1,q2,q3⟩:=de I S 20 x a v da h1 rx e1
 obtain⟨bs,p1,p2,p3⟩:=de I S 20 y b u db h2 ry e2
 exact ne_dataH q1 p1 (jj (by decide) q2 q3) (jj (by decide) p2 p3) hu ⟨.bl _,H,I,rfl,q⟩
theorem Mt(hu:X.A.units+64 < cLine):jg X (Wm .Eq) oEq:=⟨_,IE hu,λx y a b st H m Q S rx ry p=>by
 unfold oEq at p
 cases e1:aS st 20 x with
 | none=>rw[e1] at p;exact ae p
 | some da=>
  cases e2:aS st 20 y with
  | none=>rw[e1,e2] at p;exact ae p
  | some db=>
   rw[e1,e2] at p
   exact⟨m,st,x,y,da,db,S,rx,ry,e1,e2,p _ m H Ext.refl S iG⟩⟩
theorem Mu(hu:X.A.units+64 < cLine):jg X (Wm .NotEq) zv:=⟨_,IF hu,λx y a b st H m Q S rx ry p=>by
 unfold zv at p
 cases e1:aS st 20 x with
 | none=>rw[e1] at p;exact ae p
 | some da=>
  cases e2:aS st 20 y with
  | none=>rw[e1,e2] at p;exact ae p
  | some db=>
   rw[e1,e2] at p
   exact⟨m,st,x,y,da,db,S,rx,ry,e1,e2,p _ m H Ext.refl S iG⟩⟩
def kg:Wv->Bool
 | .non=>true
 | .bl _=>true
 | .int _=>true
 | .str _=>true
 | _=>false
def P2:Wv->Wv->Bool
 | .non,.non=>true
 | .bl a,.bl b=>a == b
 | .bl a,.int b=>(if a then 1 else 0) == b
 | .int a,.bl b=>a == (if b then 1 else 0)
 | .int a,.int b=>a == b
 | .str a,.str b=>a == b
 | _,_=>false
def kj(st:Hs):Wv->Option (List Wv)
 | .tup ws=>some ws
 | .nG ws=>some ws
 | .ref l=>aq st l
 | _=>none
def P4:fK:=λx y st=>match kj st y with
 | some ws=>if kg x=true/\ws.all kg=true then .ok (.bl (ws.any λz=>P2 z x)) st else .bad
 | none=> .bad
theorem sH{m:Mp}{H:Hp}{x:Wv}{a:V}(h:ah X.K m H x a)(f:kg x=true):jB a=true:=by
 cases x with
 | non=>unfold ah at h;subst h;rfl
 | bl b=>unfold ah at h;subst h;rfl
 | int b=>unfold ah at h;subst h;rfl
 | str b=>unfold ah at h;obtain⟨h,_⟩:=h;subst h;rfl
 | _=>cases f
theorem Ei{m:Mp}{H:Hp}{x y:Wv}{a b:V}(h:ah X.K m H x a)(k:ah X.K m H y b)(f:kg x=true)(g:kg y=true):D2 a b=P2 x y:=by
 cases x with
 | non=>
  unfold ah at h;subst h
  cases y with
  | str j=>unfold ah at k;obtain⟨k,_⟩:=k;subst k;rfl
  | tup j=>cases g
  | nG j=>cases g
  | ref j=>cases g
  | ty j=>cases g
  | cls j=>cases g
  | sD j=>cases g
  | fn fp j=>cases g
  | _=>unfold ah at k;subst k;rfl
 | bl i=>
  unfold ah at h;subst h
  cases y with
  | str j=>unfold ah at k;obtain⟨k,_⟩:=k;subst k;rfl
  | tup j=>cases g
  | nG j=>cases g
  | ref j=>cases g
  | ty j=>cases g
  | cls j=>cases g
  | sD j=>cases g
  | fn fp j=>cases g
  | _=>unfold ah at k;subst k;rfl
 | int i=>
  unfold ah at h;subst h
  cases y with
  | str j=>unfold ah at k;obtain⟨k,_⟩:=k;subst k;rfl
  | tup j=>cases g
  | nG j=>cases g
  | ref j=>cases g
  | ty j=>cases g
  | cls j=>cases g
  | sD j=>cases g
  | fn fp j=>cases g
  | _=>unfold ah at k;subst k;rfl
 | str i=>
  unfold ah at h;obtain⟨h,_⟩:=h;subst h
  cases y with
  | str j=>unfold ah at k;obtain⟨k,_⟩:=k;subst k;rfl
  | tup j=>cases g
  | nG j=>cases g
  | ref j=>cases g
  | ty j=>cases g
  | cls j=>cases g
  | sD j=>cases g
  | fn fp j=>cases g
  | _=>unfold ah at k;subst k;rfl
 | _=>cases f
theorem pK{m:Mp}{H:Hp}{x:Wv}{a:V}(h:ah X.K m H x a)(f:kg x=true):∀{ws:List Wv}{xs:List V},ai X.K m H ws xs->ws.all kg=true->xs.all jB=true/\Ol a xs=ws.any λz=>P2 z x
 | [],xs,r,_=>by unfold ai at r;subst r;exact⟨rfl,rfl⟩
 | w::ws,xs,r,g=>by
  unfold ai at r
  obtain⟨y,yr,rfl,r1,r2⟩:=r
  rw[cF,cw] at g
  obtain⟨q1,q2⟩:=pK h f r2 g.2
  constructor
  ·rw[cF,sH r1 g.1,q1];rfl
  ·unfold Ol at q2 ⊢
   rw[dz,dz,Ei r1 h g.1 f,q2]
theorem qL{m:Mp}{H:Hp}{st:Hs}{y:Wv}{b:V}{ws:List Wv}(S:bw X.K m st H)(h:ah X.K m H y b)(e:kj st y=some ws):∃p xs,b= .ref p/\(jY X.K H p xs\/eM X.K H p xs)/\ai X.K m H ws xs:=by
 cases y with
 | tup zs=>
  cases e
  unfold ah at h
  obtain⟨p,xs,e1,e2,e3⟩:=h
  exact⟨p,xs,e1,.inr (eM.of e2),e3⟩
 | nG zs=>
  cases e
  unfold ah at h
  obtain⟨p,xs,e1,e2,e3⟩:=h
  exact⟨p,xs,e1,.inr (.inr e2),e3⟩
 | ref l=>
  unfold ah at h
  obtain⟨p,e1,e2⟩:=h
  obtain⟨xs,q1,q2⟩:=S.read e2 e
  exact⟨p,xs,e1,.inl q1,q2⟩
 | _=>cases e
theorem Mv:jg X (Wm .In) P4:=⟨_,yn,λx y a b st H m Q S rx ry p=>by
 unfold P4 at p
 cases e:kj st y with
 | none=>rw[e] at p;exact ae p
 | some ws=>
  rw[e] at p
  by_cases c:kg x=true/\ws.all kg=true
  ·simp only[if_pos c] at p
   obtain⟨q,xs,e1,e2,e3⟩:=qL S ry e
   obtain⟨f1,f2⟩:=pK rx c.1 e3 c.2
   refine⟨q,xs,e1,e2,sH rx c.1,f1,?_⟩
   rw[f2]
   exact p _ m H Ext.refl S iG
  ·simp only[if_neg c] at p;exact ae p⟩
def ba:fK
 | .str z,.int i,st=>if z.length<=lim then(match kX z.cps.toList i with | some c=> .ok (.str ⟨#[c]⟩) st | none=> .bad) else .bad
 | x,.int i,st=>match kj st x with
  | some ws=>(match kX ws i with | some w=> .ok w st | none=> .bad)
  | none=> .bad
 | _,_,_=> .bad
theorem Ej{m:Mp}{H:Hp}{ws:List Wv}{xs:List V}{i:Int}{w:Wv}(r:ai X.K m H ws xs)(h:kX ws i=some w):∃x,kX xs i=some x/\ah X.K m H w x:=by
 unfold kX at h ⊢
 rw[<-r.length]
 cases e:ym ws.length i with
 | none=>rw[e] at h;cases h
 | some j=>rw[e] at h;exact r.get h
theorem Ek{α:Type}{xs:List α}{i:Int}{v:α}(h:kX xs i=some v):v∈xs:=by
 obtain⟨j,_,h2,_⟩:=mH h
 exact HF h2
theorem yw{z:PySem.Str}{c:Nat}(h:aM z=true)(hc:c∈z.cps.toList):aM ⟨#[c]⟩=true:=by
 unfold aM at h ⊢
 rw[F9] at h
 have q:=h c (by simpa using hc)
 simpa using q
theorem Mw{a b:Expr}{ga gb:GE}{pos:Pos}(ha:JE X a ga)(hb:JE X b gb)(hs:wK b:=by exact λ_ _=>rfl):JE X (.Subscript a b pos) (aj ba ga gb) :=
 JE.of (L5 HK aP aP hs) λρ st σ H m Q S R p=>wX (op:=ba) (λx y a b st H m Q S rx ry p=>by
  have seqs:∀(i:Int),y= .int i->(match kj st x with | some ws=>(match kX ws i with | some w=>Re.ok w st | none=> .bad) | none=> .bad)=ba x y st->Sn X.K a b H Q:=λi hy hp=>by
   subst hy
   rw[<-hp] at p
   cases e:kj st x with
   | none=>rw[e] at p;exact ae p
   | some ws=>
    rw[e] at p
    dsimp only at p
    cases e1:kX ws i with
    | none=>rw[e1] at p;exact ae p
    | some w=>
     rw[e1] at p
     obtain⟨q,xs,e2,e3,e4⟩:=qL S rx e
     obtain⟨v,f1,f2⟩:=Ej e4 e1
     rcases e3 with e3 | e3
     ·exact .inl ⟨q,xs,i,v,e2,aO ry,e3,f1,p v m H Ext.refl S f2⟩
     ·exact .inr (.inl ⟨q,xs,i,v,e2,aO ry,e3,f1,p v m H Ext.refl S f2⟩)
  cases y with
  | int i=>
   cases x with
   | str z=>
    dsimp only[ba] at p
    by_cases c:z.length<=lim
    ·simp only[if_pos c] at p
     cases e1:kX z.cps.toList i with
     | none=>rw[e1] at p;exact ae p
     | some ch=>
      rw[e1] at p
      exact .inr (.inr ⟨z,i,ch,(dB rx).1,aO ry,dA c,e1,p _ m H Ext.refl S (mkStr (yw (dB rx).2 (Ek e1)))⟩)
    ·simp only[if_neg c] at p;exact ae p
   | _=>exact seqs i rfl rfl
  | _=>cases x<;>exact ae p) ha hb S R p
abbrev GO:=bA->Hs->Re (Option Int)
def SO(X:Cx)(e:Option Expr):TO:=λσ H Q=>∀(pins:List (V_×Obj))(s:Wd),Inv X pins σ H s->Wx (model X.prog X.w) X.A (evalPart e X.env) (λu s'=>∃o H',Inv X pins σ H' s'/\IsPart u o/\Q o H') X.xe s
theorem pL{e:Option Expr}:PO X e (SO X e):=λpins s _ _ _ I h=>h pins s I
def Us(K:PySem.W.Frag)(m:Mp)(H:Hp)(Q:Option Int->Hp->Prop)(o:Option Int)(st:Hs):Prop:=∀(m':Mp)(H':Hp),Ext K m H m' H'->bw K m' st H'->Q o H'
def JO(X:Cx)(e:Option Expr)(g:GO):Prop:=∀(ρ:bA)(st:Hs)(σ:St)(H:Hp)(m:Mp)(Q:Option Int->Hp->Prop),bw X.K m st H->aJ X.K m H ρ σ->aC X σ m H (g ρ st) (Us X.K m H Q)->SO X e σ H Q
def gT:GO:=λ_ st=> .ok none st
def kl(g:GE):GO:=λρ st=>(g ρ st).bind λw st1=>match w with
 | .int i=> .ok (some i) st1
 | _=> .bad
theorem El:JO X none gT:=λρ st σ H m Q S R p pins s I=>DW pins s σ H Q I (p m H Ext.refl S)
theorem Em{e:Expr}{g:GE}(h:JE X e g):JO X (some e) (kl g):=λρ st σ H m Q S R p pins s I=>
 DX aP pins s σ H Q I (h.go S R (aC.bind p) λw st1 v m1 H1 p1 e1 S1 r1=>by
  cases w with
  | int i=>exact⟨i,aO r1,p1 m1 H1 e1 S1⟩
  | _=>exact ae p1)
theorem JO.go{e:Option Expr}{g:GO}{ρ:bA}{st:Hs}{σ:St}{H:Hp}{m:Mp}{T:Option Int->Hp->Prop}{ok:Option Int->Hs->Prop}(h:JO X e g)(S:bw X.K m st H)(R:aJ X.K m H ρ σ)(p:aC X σ m H (g ρ st) ok)
  (k:∀(b:Option Int)(st1:Hs)(m1:Mp)(H1:Hp),ok b st1->Ext X.K m H m1 H1->bw X.K m1 st1 H1->T b H1):SO X e σ H T :=
 h ρ st σ H m T S R (p.imp Ext.refl λb st1 q m1 H1 e1 s1=>k b st1 m1 H1 q e1 s1)
def ko(xs:List Wv)(lo hi:Option Int):List Wv:=(xs.drop (HT.cD xs.length 0 lo)).take (HT.cD xs.length xs.length hi - HT.cD xs.length 0 lo)
def Le(x:Wv)(lo hi:Option Int)(st:Hs):Re Wv:=match x with
 | .tup ws=>if HT.cD ws.length 0 lo=0/\HT.cD ws.length ws.length hi=ws.length then .bad else .ok (.tup (ko ws lo hi)) st
 | .ref l=>match aq st l with
  | some ws=> .ok (.ref st.length) (st++[.lst (ko ws lo hi)])
  | none=> .bad
 | _=> .bad
theorem qM{m:Mp}{H:Hp}{ws:List Wv}{xs:List V}{lo hi:Option Int}(r:ai X.K m H ws xs):ai X.K m H (ko ws lo hi) (oQ xs lo hi):=by
 unfold ko oQ
 rw[<-r.length]
 exact(r.drop _).take _
def ve(ga:GE)(gl gh:GO):GE:=λρ st=>(ga ρ st).bind λx st1=>(gl ρ st1).bind λlo st2=>(gh ρ st2).bind λhi st3=>Le x lo hi st3
theorem sI{a:Expr}{lo hi:Option Expr}{ga:GE}{gl gh:GO}{pos p2:Pos}(ha:JE X a ga)(hl:JO X lo gl)(hh:JO X hi gh):JE X (.Subscript a (.Slice lo hi none p2) pos) (ve ga gl gh):=by
 refine JE.of (nr (zY.or D1) aP pL pL) λρ st σ H m Q S R p=>?_
 refine ha.go S R (aC.bind p) λx st1 v m1 H1 p1 e1 S1 rx=>?_
 refine hl.go S1 (R.mono e1) ((aC.bind p1).imp e1 λ_ _ q=>q) λl st2 m2 H2 p2 e2 S2=>?_
 refine hh.go S2 (R.mono (e1.trans e2)) ((aC.bind p2).imp (e1.trans e2) λ_ _ q=>q) λh st3 m3 H3 p3 e3 S3=>?_
 have uz:=e1.trans (e2.trans e3)
 have Ox:=ah.mono (e2.trans e3) _ _ rx
 cases x with
 | tup ws=>
  have jK:dG X σ m H (if HT.cD ws.length 0 l=0/\HT.cD ws.length ws.length h=ws.length then .bad else .ok (.tup (ko ws l h)) st3) Q:=p3
  by_cases c:HT.cD ws.length 0 l=0/\HT.cD ws.length ws.length h=ws.length
  ·rw[if_pos c] at jK;exact ae jK
  ·rw[if_neg c] at jK
   unfold ah at Ox
   obtain⟨q,xs,rfl,f1,f2⟩:=Ox
   refine .inl ⟨q,xs,rfl,eM.of f1,by rw[<-f2.length];exact c,λr hr=>?_⟩
   have e4:Ext X.K m3 H3 m3 (upd H3 r (.tup (oQ xs l h))):=Ext.upd (.inl hr)
   exact jK (.ref r) m3 _ (uz.trans e4) (S3.fresh hr) (by unfold ah;exact⟨r,_,rfl,bc,ai.mono e4 _ _ (qM f2)⟩)
 | ref k=>
  have jK:dG X σ m H (match aq st3 k with | some ws=> .ok (.ref st3.length) (st3++[.lst (ko ws l h)]) | none=> .bad) Q:=p3
  unfold ah at Ox
  obtain⟨q,rfl,f1⟩:=Ox
  cases e:aq st3 k with
  | none=>rw[e] at jK;exact ae jK
  | some ws=>
   rw[e] at jK
   obtain⟨xs,g1,g2⟩:=S3.read f1 e
   exact .inr ⟨q,xs,rfl,g1,λr hr=>kf jK uz S3 (qM g2) r hr⟩
 | _=>exact ae p3
end
section
variable {X:Cx}
def b_(X:Cx)(f:We)(op:List Wv->Hs->Re Wv):Prop:=∃r,cH X f r/\∀(ws:List Wv)(vs:List V)(st:Hs)(H:Hp)(m:Mp)(Q:VK),bw X.K m st H->ai X.K m H ws vs->cI X.K m H (op ws st) Q->r vs H Q
def bt(op:List Wv->Hs->Re Wv)(g:GA):GE:=λρ st=>(g ρ st).bind λws st1=>(op ws st1).mK
theorem AA{x:Str}{id:String}{p pos:Pos}{e:Expr}{es:List Expr}{g:GA}{op:List Wv->Hs->Re Wv}(hc:b_ X (.builtin id) op)(hg:Gl X x)(hm:X.mg x=none)(hv:Wi x=some (.builtin id))(ha:JA X (e::es) g)
  (hn:x≠"__name__":=by decide)(hdb:(x == ("__debug__":Str))=false:=by decide)(he:Ww (e::es) X.env=(false,eval e X.env)::Ww es X.env:=by rfl)(hpl:(backTo pos (Ww es X.env)).any (·.1)=false:=by rfl) :
  JE X (.Call (.Name x p) (e::es) [] pos) (bt op g):=by
 obtain⟨r,h1,h2⟩:=hc
 refine JE.of (zV h1 hg hm hv iq hn hdb he hpl) λρ st σ H m Q S R p=>?_
 exact ha.go S R (aC.bind p) λws st1 vs m1 H1 p1 e1 S1 rs=>h2 ws vs st1 H1 m1 Q S1 rs (cI.shift (aC.mK p1) e1)
theorem pM{x:Str}{T:String}{p pos:Pos}{e:Expr}{es:List Expr}{g:GA}{op:List Wv->Hs->Re Wv}(hc:b_ X (.type T) op)(hg:Gl X x)(hm:X.mg x=none)(hv:Wi x=some (.type T))(ha:JA X (e::es) g)
  (hn:x≠"__name__":=by decide)(hdb:(x == ("__debug__":Str))=false:=by decide)(he:Ww (e::es) X.env=(false,eval e X.env)::Ww es X.env:=by rfl)(hpl:(backTo pos (Ww es X.env)).any (·.1)=false:=by rfl) :
  JE X (.Call (.Name x p) (e::es) [] pos) (bt op g):=by
 obtain⟨r,h1,h2⟩:=hc
 refine JE.of (yk h1 hg hm hv iq hn hdb he hpl) λρ st σ H m Q S R p=>?_
 exact ha.go S R (aC.bind p) λws st1 vs m1 H1 p1 e1 S1 rs=>h2 ws vs st1 H1 m1 Q S1 rs (cI.shift (aC.mK p1) e1)
theorem kq{m:Mp}{H:Hp}{w:Wv}{vs:List V}(r:ai X.K m H [w] vs):∃v,vs=[v]/\ah X.K m H w v:=by
 unfold ai at r
 obtain⟨v,t,rfl,h1,h2⟩:=r
 unfold ai at h2
 subst h2
 exact⟨v,rfl,h1⟩
theorem sJ{m:Mp}{H:Hp}{w w':Wv}{vs:List V}(r:ai X.K m H [w,w'] vs):∃v v',vs=[v,v']/\ah X.K m H w v/\ah X.K m H w' v':=by
 unfold ai at r
 obtain⟨v,t,rfl,h1,h2⟩:=r
 obtain⟨v',rfl,h3⟩:=kq h2
 exact⟨v,v',rfl,h1,h3⟩
def iH:List Wv->Hs->Re Wv
 | [.str z],st=>if z.length<=lim then .ok (.int z.length) st else .bad
 | [x],st=>match kj st x with
  | some ws=> .ok (.int ws.length) st
  | none=> .bad
 | _,_=> .bad
theorem AB:b_ X (.builtin "len") iH:=⟨_,qA.or qB,λws vs st H m Q S r p=>by
 match ws,r,p with
 | [],r,p=>exact ae p
 | x::y::t,r,p=>cases x<;>exact ae p
 | [x],r,p=>
  obtain⟨v,rfl,rx⟩:=kq r
  have seqs:(match kj st x with | some ws=>Re.ok (Wv.int ws.length) st | none=> .bad)=iH [x] st->(∃p ys,[v]=[V.ref p]/\(jY X.K H p ys\/eM X.K H p ys)/\Q (.int ys.length) H):=λhp=>by
   rw[<-hp] at p
   cases e:kj st x with
   | none=>rw[e] at p;exact ae p
   | some ws=>
    rw[e] at p
    obtain⟨q,xs,rfl,e2,e3⟩:=qL S rx e
    refine⟨q,xs,rfl,e2,?_⟩
    rw[<-e3.length]
    exact p _ m H Ext.refl S mkInt
  cases x with
  | str z=>
   have p':cI X.K m H (if z.length<=lim then .ok (.int z.length) st else .bad) Q:=p
   by_cases c:z.length<=lim
   ·rw[if_pos c] at p'
    obtain⟨rfl,_⟩:=dB rx
    exact .inr ⟨z,rfl,dA c,p' _ m H Ext.refl S mkInt⟩
   ·rw[if_neg c] at p';exact ae p'
  | _=>exact .inl (seqs rfl)⟩
def En:List Wv->Hs->Re Wv
 | [.int i],st=> .ok (.int (if i < 0 then -i else i)) st
 | _,_=> .bad
theorem IG:b_ X (.builtin "abs") En:=⟨_,zP,λws vs st H m Q S r p=>by
 match ws,r,p with
 | [],r,p=>exact ae p
 | x::y::t,r,p=>cases x<;>exact ae p
 | [x],r,p=>
  obtain⟨v,rfl,rx⟩:=kq r
  cases x with
  | int i=>cases aO rx;exact⟨i,rfl,p _ m H Ext.refl S mkInt⟩
  | _=>exact ae p⟩
def Oy(st:Hs)(T:String):Wv->Option Bool
 | .non=>some false
 | .bl _=>some (T == "bool"||T == "int")
 | .int _=>some (T == "int")
 | .str _=>some (T == "str")
 | .tup _=>some (T == "tuple")
 | .nG _=>none
 | .ref l=>(aq st l).map λ_=>T == "list"
 | .ty _=>none
 | .cls _=>none
 | .sD _=>none
 | .fn _ _=>none
def AD(T:String):Bool:=T == "int"||T == "str"||T == "bool"||T == "tuple"||T == "list"
def Mx:List Wv->Hs->Re Wv
 | [x,.ty T],st=>if AD T=true then(match Oy st T x with | some b=> .ok (.bl b) st | none=> .bad) else .bad
 | _,_=> .bad
def P5(K:PySem.W.Frag):List V->Hp->VK->Prop:=λvs H Q=>∃m st x T v b,vs=[v,.ty T]/\bw K m st H/\ah K m H x v/\AD T=true/\Oy st T x=some b/\Q (.bl b) H
theorem AE:cH X (.builtin "isinstance") (P5 X.K):=by
 intro pins s σ H xs us Q I r h
 obtain⟨m,st,x,T,v,b,rfl,S,rx,hT,hb,q⟩:=h
 obtain⟨u,u',rfl,r1,r2⟩:=vals2 r
 cases r2
 have fin:∀tk,EP X pins σ Q (.bool b) { s with toks:=tk }:=λtk=>⟨.bl b,H,I.tok tk,rfl,q⟩
 have AF:EP X pins σ Q (.bool b) s:=⟨.bl b,H,I,rfl,q⟩
 unfold AD at hT
 simp only[AG,beq_iff_eq] at hT
 cases x with
 | non=>
  unfold ah at rx;subst rx;cases r1
  cases hb
  rcases hT with (((rfl | rfl) | rfl) | rfl) | rfl<;>
   exact call_isinstance (isinstance_false_none (by decide) (by kernel_rfl) (by rw[Wq];kernel_rfl)) (fin _)
 | bl c=>
  unfold ah at rx;subst rx;cases r1
  rcases hT with (((rfl | rfl) | rfl) | rfl) | rfl<;>cases hb<;>first
   | exact call_isinstance_yes (Tx:="bool") rfl (by kernel_rfl) (by rw[Wq];kernel_rfl) AF
   | exact call_isinstance (isinstance_false_bool (by decide) (by kernel_rfl) (by rw[Wq];kernel_rfl)) (fin _)
 | int c=>
  unfold ah at rx;subst rx;obtain⟨t,rfl⟩:=r1
  rcases hT with (((rfl | rfl) | rfl) | rfl) | rfl<;>cases hb<;>first
   | exact call_isinstance_yes (Tx:="int") (typeIs_int s c t) (by kernel_rfl) (by rw[Wq];kernel_rfl) AF
   | exact call_isinstance (isinstance_false_int (by decide) (by kernel_rfl) (by rw[Wq];kernel_rfl)) (fin _)
 | str c=>
  obtain⟨rfl,_⟩:=dB rx;obtain⟨t,rfl⟩:=r1
  rcases hT with (((rfl | rfl) | rfl) | rfl) | rfl<;>cases hb<;>first
   | exact call_isinstance_yes (Tx:="str") (typeIs_str s c t) (by kernel_rfl) (by rw[Wq];kernel_rfl) AF
   | exact call_isinstance (isinstance_false_str (by decide) (by kernel_rfl) (by rw[Wq];kernel_rfl)) (fin _)
 | nG ws=>cases hb
 | tup ws=>
  unfold ah at rx;obtain⟨a,xs,rfl,h1,h2⟩:=rx;cases r1
  obtain⟨its,rv,ht,hz⟩:=I.tuple (eM.of h1)
  have hty:=ht.typeIs
  obtain⟨o,ho,hc,k,hd⟩:=ht
  rcases hT with (((rfl | rfl) | rfl) | rfl) | rfl<;>cases hb<;>first
   | exact call_isinstance_yes (Tx:="tuple") hty (by kernel_rfl) (by rw[Wq];kernel_rfl) AF
   | exact call_isinstance (isinstance_false_tuple (by decide) (by kernel_rfl) (by rw[Wq];kernel_rfl)) ⟨⟨o,ho,hc⟩,fin _⟩
 | ref l=>
  unfold ah at rx;obtain⟨a,rfl,h1⟩:=rx;cases r1
  have hb':(aq st l).map (λ_=>T == "list")=some b:=hb
  cases e:aq st l with
  | none=>rw[e] at hb';cases hb'
  | some ws=>
   rw[e] at hb'
   obtain⟨xs,hq,h2⟩:=S.read h1 e
   obtain⟨its,rv,ht,hz⟩:=I.list hq
   have hty:=ht.isList.typeIs
   obtain⟨o,ho,hc,k,hd⟩:=ht.isList
   rcases hT with (((rfl | rfl) | rfl) | rfl) | rfl<;>cases hb'<;>first
    | exact call_isinstance_yes (Tx:="list") hty (by kernel_rfl) (by rw[Wq];kernel_rfl) AF
    | exact call_isinstance (isinstance_false_list (by decide) (by kernel_rfl) (by rw[Wq];kernel_rfl)) ⟨⟨o,ho,hc⟩,fin _⟩
 | ty t=>cases hb
 | cls t=>cases hb
 | sD t=>cases hb
 | fn fp t=>cases hb
theorem IH:b_ X (.builtin "isinstance") Mx:=⟨_,AE,λws vs st H m Q S r p=>by
 match ws,r,p with
 | [],r,p=>exact ae p
 | [x],r,p=>cases x<;>exact ae p
 | x::y::z::t,r,p=>cases y<;>exact ae p
 | [x,y],r,p=>
  obtain⟨v,v',rfl,rx,ry⟩:=sJ r
  cases y with
  | ty T=>
   unfold ah at ry
   subst ry
   have p':cI X.K m H (if AD T=true then(match Oy st T x with | some b=> .ok (.bl b) st | none=> .bad) else .bad) Q:=p
   by_cases c:AD T=true
   ·rw[if_pos c] at p'
    cases e:Oy st T x with
    | none=>rw[e] at p';exact ae p'
    | some b=>rw[e] at p';exact⟨m,st,x,T,v,b,rfl,S,rx,c,e,p' _ m H Ext.refl S iG⟩
   ·rw[if_neg c] at p';exact ae p'
  | _=>exact ae p⟩
def aW:GS:=λρ st=> .nx ρ st
def aF(g h:GS):GS:=λρ st=>match g ρ st with
 | .nx ρ' st'=>h ρ' st'
 | r=>r
theorem Eo:mL X [] aW:=mL.of DH λρ st σ H m D S R p=>p σ m H Ext.refl S R
theorem AH{s:Stmt}{rest:List Stmt}{g h:GS}(h1:JS X s g)(h2:mL X rest h):mL X (s::rest) (aF g h) :=
 mL.of (zF F4 fQ) λρ st σ H m D S R p=>h1 ρ st σ H m _ S R (by
  unfold aF at p
  cases e:g ρ st with
  | nx ρ' st'=>rw[e] at p;exact λσ' m' H' e' S' R'=>h2 ρ' st' σ' H' m' D S' R' (aR.shift p e')
  | rt w st'=>rw[e] at p;exact p
  | bk ρ' st'=>rw[e] at p;exact p
  | ct ρ' st'=>rw[e] at p;exact p
  | err c ρ' st'=>rw[e] at p;exact p
  | bad=>rw[e] at p;exact p)
theorem Ep{s:Stmt}{g:GS}(h1:JS X s g):mL X [s] g:=mL.of (DI F4) λρ st σ H m D S R p=>h1 ρ st σ H m D S R p
def aQ(g:GE):GS:=λρ st=>(g ρ st).a8 ρ λw st'=> .rt w st'
theorem II{e:Expr}{g:GE}{pos:Pos}(h:JE X e g):JS X (.Return (some e) pos) (aQ g) :=
 JS.of (Hd aP) λρ st σ H m D S R p=>h.go S R (aR.bU R p) λw st1 v m1 H1 q e1 S1 r1=>q v m1 H1 e1 S1 r1
def nP(g:GE):GS:=λρ st=>(g ρ st).a8 ρ λ_ st'=> .nx ρ st'
theorem Er{e:Expr}{g:GE}{pos:Pos}(h:JE X e g)(hs:swapsWith e none pos.line X.env=pure false:=by rfl):JS X (.Expr e pos) (nP g) :=
 JS.of (DJ aP hs) λρ st σ H m D S R p=>h.go S R (aR.bU R p) λw st1 v m1 H1 q e1 S1 r1=>q σ m1 H1 e1 S1 (R.mono e1)
def e8(gt:GT)(ga gb:GS):GS:=λρ st=>(gt ρ st).a8 ρ λb st'=>if b=true then ga ρ st' else gb ρ st'
theorem Mz{c:Expr}{a b:List Stmt}{gt:GT}{ga gb:GS}{pos:Pos}(hc:JT X c gt)(ha:mL X a ga)(hb:mL X b gb):JS X (.If c a b pos) (e8 gt ga gb) :=
 JS.of (LG nK fQ fQ) λρ st σ H m D S R p=>hc.go S R (aR.bU R p) λk st1 m1 H1 q e1 S1=>by
  cases k with
  | true=>rw[if_pos rfl] at q ⊢;exact ha ρ st1 σ H1 m1 D S1 (R.mono e1) (aR.shift q e1)
  | false=>rw[if_neg bz] at q ⊢;exact hb ρ st1 σ H1 m1 D S1 (R.mono e1) (aR.shift q e1)
def a9(i:Nat)(g:GE):GS:=λρ st=>(g ρ st).a8 ρ λw st'=> .nx (ρ.set i (some w)) st'
theorem vf(i:Nat){x:Str}{e:Expr}{g:GE}{pos pos':Pos}(hN:X.N.Nodup)(h:JE X e g)(hi:X.N[i]? =some x:=by rfl)(hx:Loc X.env.scope x:=by first | exact Or.inl rfl | exact jf rfl)(hs:swapsWith e (some (.Name x pos')) pos.line X.env=pure false:=by rfl)
  (hf:X.fn x=true\/X.env.scope.names.lookup x=some .local:=by first | exact .inl rfl | exact .inr rfl | assumption):JS X (.Assign [.Name x pos'] e pos) (a9 i g) :=
 JS.of (Hh hN hi hx aP hs hf) λρ st σ H m D S R p=>h.go S R (aR.bU R p) λw st1 v m1 H1 q e1 S1 r1=>q _ m1 H1 e1 S1 ((R.mono e1).set i r1)
def cJ:GS:=λ_ _=> .bad
theorem bO{s:Stmt}:JS X s cJ:=JS.of zH λρ st σ H m D S R p=>p
theorem yx{s:List Stmt}:mL X s cJ:=mL.of x_ λρ st σ H m D S R p=>p
def MA(o i v:Wv)(ρ:bA)(st:Hs):Rs:=match o,i with
 | .ref l,.int k=>match st[l]? with
  | some (.lst ws)=>(match ym ws.length k with | some j=> .nx ρ (st.set l (.lst (ws.set j v))) | none=> .bad)
  | _=> .bad
 | _,_=> .bad
def w8(ge go gi:GE):GS:=λρ st=>(ge ρ st).a8 ρ λv st1=>(go ρ st1).a8 ρ λo st2=>(gi ρ st2).a8 ρ λi st3=>MA o i v ρ st3
theorem Es{o i e:Expr}{go gi ge:GE}{pos pos':Pos}(he:JE X e ge)(ho:JE X o go)(hi:JE X i gi)(hs:swapsWithSole [.Subscript o i pos'] e pos.line X.env=pure false:=by rfl)(hw:swappedStores [.Subscript o i pos'] e X.env=pure none:=by rfl)
  (h1:(assignEach [.Subscript o i pos'] X.env).map (·.2)=[assign (.Subscript o i pos') X.env]:=by rfl)
  (ha:∀v,assign (.Subscript o i pos') X.env v=(do
   let ov <-holding [v] (eval o X.env)
   let iv <-holding [v,ov] (eval i X.env)
   standAt pos'
   holding [v,ov,iv] (setItem ov iv v)
   release [v,ov,iv] []):=by intro _;rfl):JS X (.Assign [.Subscript o i pos'] e pos) (w8 ge go gi):=by
 refine JS.of (zJ aP (Hg aP aP set_list ha) hs hw h1) λρ st σ H m D S R p=>?_
 refine he.go S R (aR.bU R p) λv st1 vv m1 H1 p1 e1 S1 rv=>?_
 refine ho.go S1 (R.mono e1) ((aR.bU (m:=m) (H:=H) R p1).imp e1 λ_ _ q=>q) λo' st2 ov m2 H2 p2 e2 S2 ro=>?_
 refine hi.go S2 (R.mono (e1.trans e2)) ((aR.bU (m:=m) (H:=H) R p2).imp (e1.trans e2) λ_ _ q=>q) λi' st3 iv m3 H3 p3 e3 S3 ri=>?_
 have uz:=e1.trans (e2.trans e3)
 cases o' with
 | ref l=>
  cases i' with
  | int k=>
   have jK:aR X m H (match st3[l]? with | some (.lst ws)=>(match ym ws.length k with | some j=> .nx ρ (st3.set l (.lst (ws.set j v))) | none=> .bad) | _=> .bad) D:=p3
   have Lf:=ah.mono e3 _ _ ro
   unfold ah at Lf
   obtain⟨a,rfl,f1⟩:=Lf
   cases e:st3[l]? with
   | none=>rw[e] at jK;exact ae jK
   | some ob=>
    cases ob with
    | dct kvs=>rw[e] at jK;exact ae jK
    | l9 kvs=>rw[e] at jK;exact ae jK
    | wV kvs=>rw[e] at jK;exact ae jK
    | zu kvs=>rw[e] at jK;exact ae jK
    | kY kvs=>rw[e] at jK;exact ae jK
    | ins _ _=>rw[e] at jK;exact ae jK
    | oJ ns=>rw[e] at jK;exact ae jK
    | lst ws=>
     rw[e] at jK
     cases ej:ym ws.length k with
     | none=>simp only[ej] at jK;exact ae jK
     | some j=>
      simp only[ej] at jK
      obtain⟨xs,g1,g2⟩:=S3.nH f1 e
      refine⟨a,xs,k,j,rfl,aO ri,g1,by rw[<-g2.length];exact ej,?_⟩
      have P6:=ah.mono (e2.trans e3) _ _ rv
      have e4:Ext X.K m3 H3 m3 (upd H3 a (.lst (xs.set j vv))):=Ext.upd (.inr ⟨xs,g1⟩)
      exact jK σ m3 _ (uz.trans e4) (S3.write f1 e (g2.set j P6)) (R.mono (uz.trans e4))
  | _=>exact ae p3
 | _=>cases i'<;>exact ae p3
open Classical in
def forL(i:Nat)(gb:GS)(l:Nat)(all:List Wv):List Wv->bA->Hs->Rs
 | [],ρ,st=> .nx ρ st
 | w::r,ρ,st=>match gb (ρ.set i (some w)) st with
  | .nx ρ' st'=>if aq st' l=some all then forL i gb l all r ρ' st' else .bad
  | .ct ρ' st'=>if aq st' l=some all then forL i gb l all r ρ' st' else .bad
  | .bk ρ' st'=> .nx ρ' st'
  | .rt w st'=> .rt w st'
  | .err c ρ' st'=> .err c ρ' st'
  | .bad=> .bad
end
def CXJ(P:Wc)(w:Wf):yi:=λouter H s E e s'=>∃H' C,sF P w outer H s H' (.ref C) e s'/\E (.ref C) none H'
section
variable {X:Cx} {pins:List (V_×Obj)} {σ:St} {Hc H':Hp} {sc s':Wd} {cls e:We} {E:We->Wd->Prop} {Q:Unit->Wd->Prop}
theorem old_ne(I:Inv X pins σ Hc sc){b:V_}{o:Obj}(q:X.s₀.heap.get? b=some o):b≠X.env.locals:=λz=>by
 have h1:=aV q
 have h2:=I.ok.above
 rw[z] at h1
 exact absurd (bp h1 h2) (fO _)
theorem Et(I:Inv X pins σ Hc sc)(hst:X.stack=X.env::X.outer)(hf:X.env.frame=some X.env.locals){b:V_}{o:Obj}(q:X.s₀.heap.get? b=some o)(hb:b∉frs X.outer):b∉frs X.stack:=λz=>by
 rw[hst] at z
 unfold frs at z
 rw[qi,hf] at z
 rcases List.mem_cons.mp z with z | z
 ·exact old_ne I q z
 ·exact hb z
theorem AI(hst:X.stack=X.env::X.outer)(hf:X.env.frame=some X.env.locals){b:V_}(hb:b∈frs X.outer):b∈frs X.stack:=by
 rw[hst]
 unfold frs
 rw[qi,hf]
 exact bN _ hb
theorem AJ{M:Model}{A:V'}{E:We->Wd->Prop}{s:Wd}{base:Heap}{env:Env}{outer:List Env}{L e:V_}{cls a0 nt:We}{Q:Unit->Wd->Prop}(hfr:A.frames=some (env::outer))(hf:env.frame=some L)
  (x:base.StaysIn s.heap/\base.get? e=none/\s.heap.FunFrames base (env::outer)/\Ot s.heap base e cls a0 nt)(k:∀h',Ak base (env::outer) e cls a0 L h'->s.heap.UpToSlots h'->Q () { s with heap:=h' }) :
  Wx M A (noteFrame (.ref e) env) Q E s:=by
 obtain⟨x1,x2,x3,x4⟩:=x
 by_cases z:nt=rawInt L
 ·subst z
  exact Ih hf x4 (k s.heap ⟨x1,x2,x3,x4⟩ (Heap.UpToSlots.refl _))
 ·obtain⟨ox,us,T,ot,ws,g1,⟨g2,g3⟩,g4,g5,g6,g7,g8,g9,Sw⟩:=x4
  subst g2
  have apart:∀b,b≠T->(s.heap.update T (gQ (·.setIfInBounds 3 bL))).get? b=s.heap.get? b:=λb hb=>nu _ _ (bq hb)
  have plain:∀b o,s.heap.get? b=some o->(∀vs,o.data≠.fields vs)->b≠T:=λb o hb hd q=>by
   subst q
   rw[g8] at hb
   cases hb
   exact hd ws g9
  unfold noteFrame
  simp only[hf]
  refine Wy (wpAny_field g1 g4 g5 ?_)
  rw[if_pos (show(aH T != bL)=true from by simp)]
  refine Wy (wpAny_field g8 g9 Sw ?_)
  rw[if_neg (show ¬((nt == rawInt L)=true) from by simpa using z)]
  refine Wy (wpAny_setField g8 g9 (Array.getElem?_eq_some_iff.mp Sw).1 ?_)
  refine Al (a0:=a0) hfr (x3.of_keeps λb o hb hd=>⟨o,(apart b (plain b o hb hd)).trans hb,rfl⟩) hf ((apart e (bq g7)).trans g1) (λb o hb=>(apart b λq=>by rw[q,g6] at hb;cases hb).trans (x1 b o hb)) x2 g4 (Array.getElem?_eq_some_iff.mp g5).1 g3 λh' y y4=>?_
  exact k h' y λb o hb hd=>y4 b o ((apart b (plain b o hb hd)).trans hb) hd
theorem yy{M:Model}{A:V'}{E:We->Wd->Prop}{s:Wd}{base h:Heap}{env:Env}{outer:List Env}{L a:V_}{cls:We}{args:List We}{Q:Unit->Wd->Prop}(hfr:A.frames=some (env::outer))(hf:env.frame=some L)
  (st:base.StaysIn h)(fs:h.FunFrames base (env::outer))(mk:Ar h s.heap a cls args)(k:∀h' a0,Ak base (env::outer) a cls a0 L h'->s.heap.UpToSlots h'->Q () { s with heap:=h' }) :
  Wx M A (noteFrame (.ref a) env) Q E s:=by
 obtain⟨t,e1,e2,e3⟩:=mk.there
 have fresh:∀b,h.get? b=none->base.get? b=none:=λb hb=>by
  cases q:base.get? b with
  | none=>rfl
  | some o'=>have z:=st b o' q;rw[hb] at z;cases z
 have fs':=fs.of_keeps (h':=s.heap) λb o hb _=>⟨o,mk.keeps b o hb,rfl⟩
 unfold noteFrame
 simp only[hf]
 refine Wy (wpAny_field e1 rfl (x:=.none) rfl ?_)
 rw[if_neg (by decide)]
 exact Al hfr fs' hf e1 (λb o hb=>mk.keeps b o (st b o hb)) (fresh a mk.new) rfl (by simp) (a0:=.ref t) rfl λh' l1 l4=>k h' (.ref t) l1 l4
theorem AK{ch:List V_}(hx:X.ex=[])(hst:X.stack=X.env::X.outer)(hf:X.env.frame=some X.env.locals)(I:Inv X pins σ Hc sc){B h2:Heap}(hch:∀b∈ch,fJ X pins Hc b)(un:Un (frs X.stack) ch Hc H' sc.heap s'.heap)(up:s'.heap.UpToSlots h2)(stay:B.StaysIn h2)
  (Md:∀b o,sc.heap.get? b=some o->b∉frs X.stack->b∉ch->∃o',B.get? b=some o'/\(Hc b=none->o'=o)) :
  Un (frs X.outer) [] X.H₀ H' X.s₀.heap h2/\(∀b o,X.s₀.heap.get? b=some o->b∉frs X.outer->∃o',B.get? b=some o'/\(X.H₀ b=none->o'=o)):=by
 have nx:∀b:V_,b∉X.ex:=λb=>by rw[hx];simp
 have nc:∀b o,X.s₀.heap.get? b=some o->b∉ch:=λb o q z=>by
  rcases(hch b z).2.2.2.1 with y | y
  ·exact nx b y
  ·exact absurd (bp (aV q) y) (fO _)
 have IJ:∀b o,X.s₀.heap.get? b=some o->b∉frs X.outer->∃o',B.get? b=some o'/\(X.H₀ b=none->o'=o):=λb o q hb=>by
  obtain⟨o1,q1⟩:=I.base.there b o q (nx b)
  obtain⟨o2,q2,q3⟩:=Md b o1 q1 (Et I hst hf q hb) (nc b o q)
  refine⟨o2,q2,λn=>?_⟩
  have q4:=I.base.keep b o q n hb (nx b)
  rw[q4] at q1
  cases q1
  exact q3 (I.base.free b o q n (nx b))
 have sl:∀b o,X.s₀.heap.get? b=some o->X.H₀ b=none->b∈frs X.outer->∃sl,h2.get? b=some { o with slots:=sl }:=λb o q n hb=>by
  obtain⟨s1,q1⟩:=I.base.slot b o q n hb (nx b)
  obtain⟨s2,q2⟩:=un.slot b _ q1 (I.base.free b o q n (nx b)) (AI hst hf hb) (nc b o q)
  obtain⟨_,o3,q3,q4⟩:=I.ok.m7.mem hb
  rw[q] at q3
  cases q3
  obtain⟨s3,q5⟩:=up b _ q2 q4
  exact⟨s3,q5⟩
 refine⟨⟨λb o q n hb _=>?_,λb o q n hb _=>sl b o q n hb,λb o q n _=>?_,λb o q _=>?_,λb xs h=>un.tups b xs (I.base.tups b xs h),λb o u h=>un.mq b o u (I.base.mq b o u h),λb ps h=>?_⟩,IJ⟩
 ·obtain⟨o2,q2,q3⟩:=IJ b o q hb
  rw[q3 n] at q2
  exact stay b o q2
 ·obtain⟨o1,q1⟩:=I.base.there b o q (nx b)
  exact un.free b o1 q1 (I.base.free b o q n (nx b)) (nc b o q)
 ·by_cases hb:b∈frs X.outer
  ·obtain⟨s3,q3⟩:=sl b o q (I.ok.K9 b hb) hb
   exact⟨_,q3⟩
  ·obtain⟨o2,q2,_⟩:=IJ b o q hb
   exact⟨o2,stay b o2 q2⟩
 ·obtain⟨m1,t1⟩:=I.base.oO b ps h
  obtain⟨m2,t2⟩:=un.oO b _ t1
  exact⟨m1++m2,by rw[<-Array.append_assoc];exact t2⟩
theorem sL(hx:X.ex=[])(hst:X.stack=X.env::X.outer)(hf:X.env.frame=some X.env.locals)(I:Inv X pins σ Hc sc)(F:u7 X pins Hc sc H' cls e s')
  (k:∀s2,sF X.prog X.w X.outer X.H₀ X.s₀ H' cls e s2->Q () s2):Wx (model X.prog X.w) X.A (leaving X.env e) Q E s':=by
 obtain⟨a,a0,nt,B,ch,rfl,os,bare,hch,un,hok,fl,Md⟩:=F
 have hfr:X.A.frames=some (X.env::X.outer):=by rw[I.ok.frames,hst]
 rw[hst] at fl
 unfold leaving
 refine Wy (AJ hfr hf fl λh1 hd1 up1=>?_)
 refine F0 hd1 λh2 Dq P7=>k _ ?_
 obtain⟨k1,k2,⟨_,_,k3⟩,k4⟩:=Dq
 obtain⟨u2,c2⟩:=AK hx hst hf I hch un (up1.trans P7) k1 Md
 exact⟨a,a0,B,rfl,os.trans I.os,bare,u2,hok,⟨k1,k2,k3,k4⟩,c2⟩
theorem AL{P:Wc}{w:Wf}{H:Hp}{h:Heap}{l:List V_}(ok:ip P w H h)(fr:∀b∈l,H b=none):ip P w H (PySem.W.hideAll h l):=λa o q=>
 (ok a o q).stay (λb u hb r=>PySem.W.hideAll_get _ r λz=>by
  have n:=fr b z
  rcases hb with hb | hb
  ·rw[hb,q] at n;cases n
  ·rw[hb] at n;cases n) (λ_ r=>r) λ_ _ r=>r
theorem vg{a C:V_}{args:List We}(hx:X.ex=[])(hst:X.stack=X.env::X.outer)(hf:X.env.frame=some X.env.locals)(I:Inv X pins σ Hc sc)(ho:s'.os=sc.os)(Ut:s'.gens=sc.gens)
  (M:Ar sc.heap s'.heap a (.ref C) args)(k:∀s2,sF X.prog X.w X.outer X.H₀ X.s₀ Hc (.ref C) (.ref a) s2->Q () s2):Wx (model X.prog X.w) X.A (leaving X.env (.ref a)) Q E s':=by
 have hfr:X.A.frames=some (X.env::X.outer):=by rw[I.ok.frames,hst]
 have fs:sc.heap.FunFrames (PySem.W.hideAll sc.heap (frs X.stack)) (X.env::X.outer):=by
  rw[<-hst]
  exact PySem.W.funFrames_hide I.stack λenv he b hb=>List.mem_filterMap.mpr ⟨env,he,hb⟩
 unfold leaving
 refine Wy (yy (base:=PySem.W.hideAll sc.heap (frs X.stack)) hfr hf (λb o q=>PySem.W.of_hideAll _ q) fs M λh1 t hd1 up1=>?_)
 refine F0 hd1 λh2 Dq P7=>k _ ?_
 have up:=up1.trans P7
 replace Dq:Ie (PySem.W.hideAll sc.heap (frs X.stack)) X.outer a (.ref C) t h2:=let ⟨k1,k2,⟨_,_,k3⟩,k4⟩:=Dq;⟨k1,k2,k3,k4⟩
 obtain⟨u2,c2⟩:=AK (H':=Hc) (s':=s') (ch:=[]) hx hst hf I (λb z=>by cases z) (Un.kept M.keeps) up Dq.1 λb o q hb _=>⟨o,PySem.W.hideAll_get _ q hb,λ_=>rfl⟩
 exact⟨a,t,_,rfl,ho.trans I.os,by rw[show({ s' with heap:=h2 }:Wd).gens=sc.gens from Ut];exact I.bare,u2,AL I.hok I.qk,Dq,c2⟩
end
def F_(K:PySem.W.Frag)(m:Mp)(H:Hp)(r:Re Wv)(Q:VK)(E:XK):Prop:=match r with
 | .ok w st=>Lc K m H Q w st
 | .err c st=>∀(m':Mp)(H':Hp)(C:V_),Ext K m H m' H'->bw K m' st H'->ClsAt K c C->E (.ref C) none H'
 | .bad=>False
def spW(K:PySem.W.Frag)(n:Nat)(F:List Wv->Hs->Re Wv):Sp:=λvs H Q E=>∃m st ws,bw K m st H/\ai K m H ws vs/\ws.length=n/\F_ K m H (F ws st) Q E
def aD(n:Nat)(F:List Wv->Hs->Re Wv)(g:GA):GE:=λρ st=>(g ρ st).bind λws st1=>if ws.length=n then F ws st1 else .bad
section
variable {X:Cx}
theorem Eu{k n:Nat}{f:V_}{fd:Wa}{ps:List Str}{F:List Wv->Hs->Re Wv}{x:Str}{p pos:Pos}{e:Expr}{es:List Expr}{g:GA}
  (G:FnOk X.prog X.w X.K X.mg X.base (CXJ X.prog X.w) k f fd ps (spW X.K n F))(hr:e7 k X.A)(hm:X.mg x=some (.ref f))(hk:PySem.W.keepIn X.K (.ref f)=true)(hb:Binds X.K fd ps [])(ha:JA X (e::es) g)(hg:Gl X x:=by rfl)
  (hdb:(x == ("__debug__":Str))=false:=by decide)(he:Ww (e::es) X.env=(false,eval e X.env)::Ww es X.env:=by rfl)(hpl:(backTo pos (Ww es X.env)).any (·.1)=false:=by rfl) :
  JE X (.Call (.Name x p) (e::es) [] pos) (aD n F g):=by
 intro ρ st σ H m Q S R p pins s I
 have args:=ha.go (T:=λvs H1=>∃ws st1 m1,dG X σ m H (if ws.length=n then F ws st1 else .bad) Q/\Ext X.K m H m1 H1/\bw X.K m1 st1 H1/\ai X.K m1 H1 ws vs) S R (aC.bind p)
  λws st1 vs m1 H1 p1 e1 S1 rs=>⟨ws,st1,m1,p1,e1,S1,rs⟩
 refine wpAny_Call_Name_kw (ql I hg hm ?_ hdb)
 refine PySem.W.callWith_K (h₀:=X.base) I.ok.mod.K8 hk (a8 (args pos pins s I) λus s1 ⟨vs,H1,I1,r,ws,st1,m1,p1,e1,S1,rs⟩=>⟨I1.pq,?_⟩) he hpl
 by_cases c:ws.length=n
 ·rw[if_pos c] at p1
  let E:XK:=λcl _ H2=>∃c' st2 m2 C,cl= .ref C/\ClsAt X.K c' C/\F ws st1= .err c' st2/\Ext X.K m1 H1 m2 H2/\bw X.K m2 st2 H2
  have sp:spW X.K n F vs H1 Q E:=by
   refine⟨m1,st1,ws,S1,rs,c,?_⟩
   cases er:F ws st1 with
   | ok w st2=>rw[er] at p1;exact dG.shift (r:=.ok w st2) p1 e1
   | err c' st2=>exact λm2 H2 C e2 S2 hC=>⟨c',st2,m2,C,rfl,hC,er,e2,S2⟩
   | bad=>rw[er] at p1;exact ae p1
  have hl:us.length=ps.length:=by rw[<-r.length];exact G.len _ _ _ _ sp
  have bd:=hb s1 us I1.pq (by rw[gP];exact hl)
  rw[gP] at bd
  refine wpAny_call (codeAny_mono (G.run X.A X.stack s1 H1 ⟨us,[]⟩ us vs Q E hr I1.HB bd r sp) λrr s2 hq=>?_)
  cases rr with
  | error x=>
   obtain⟨H2,C,fl,c',st2,m2,C',ec,hC,er,e2,S2⟩:=hq
   cases ec
   rw[er] at p1
   exact p1 m2 H2 x s2 (e1.trans e2) S2 ⟨C,pins,H1,s1,hC,I1,.inl fl.any⟩
  | ok fw=>
   cases fw with
   | ret u=>exact I1.after hq
   | next=>exact ae hq
   | brk=>exact ae hq
   | cont=>exact ae hq
 ·rw[if_neg c] at p1;exact ae p1
end
def b7(n:Nat)(g:GS):List Wv->Hs->Re Wv:=λws st=>match g (ws.map some++aN (n - ws.length) none) st with
 | .nx _ st'=> .ok .non st'
 | .rt w st'=> .ok w st'
 | .err c _ st'=> .err c st'
 | _=> .bad
theorem AM{K:PySem.W.Frag}{m:Mp}{H:Hp}{N:List Str}{ws:List Wv}{vs:List V}(r:ai K m H ws vs)(h:ws.length<=N.length):aJ K m H (ws.map some++aN (N.length - ws.length) none) (L2.start N vs):=by
 have hl:=r.length
 refine⟨by unfold L2.start;simp[hl],λi w e=>?_⟩
 by_cases hi:i < ws.length
 ·rw[fq (by simpa using hi),fu] at e
  cases q:ws[i]? with
  | none=>rw[q] at e;cases e
  | some w'=>
   rw[q] at e
   cases e
   obtain⟨x,h1,h2⟩:=r.get q
   refine⟨x,?_,h2⟩
   unfold L2.start
   rw[fq (by simp;omega),fu,h1]
   rfl
 ·rw[jJ (by simpa using hi),HE] at e
  split at e<;>cases e
section
variable {P:Wc} {w:Wf} {K:PySem.W.Frag} {mg:Str->Option We} {base:Heap}
theorem vh{N:List Str}{qual:Str}{scope:Scope}{f:V_}{cdv:We}{A:V'}{outer:List Env}{s s':Wd}{H H':Hp}{E:XK}{σ:St}{c:PySem.Str}{e:We}
  (r:u9 (oP (CXJ P w) P w K mg base N qual scope f cdv A outer s H E) σ H' c e s')(h:∀C,ClsAt K c C->E (.ref C) none H'):(oP (CXJ P w) P w K mg base N qual scope f cdv A outer s H E).xe e s':=by
 obtain⟨C,pins,Hc,sc,hC,I,r⟩:=r
 rcases r with fl | ⟨rfl,a,args,rfl,ho,hg,M⟩
 ·exact sL (X:=oP (CXJ P w) P w K mg base N qual scope f cdv A outer s H E) rfl rfl rfl I fl λs2 Dq=>⟨H',C,Dq,h C hC⟩
 ·exact vg (X:=oP (CXJ P w) P w K mg base N qual scope f cdv A outer s H E) rfl rfl rfl I ho hg M λs2 Dq=>⟨H',C,Dq,h C hC⟩
def AN(K:PySem.W.Frag)(f:V_)(cdv:We):Prop:=∃o,K.lookup f=some o/\∃fd,o.data= .func fd/\fd.code=cdv
theorem w9{x qual:Str}{st:Stmt}{f:V_}{fd:Wa}{N ps:List Str}{k:Nat}{g:GS}(F:D7 K x qual st f fd)(S:FnScope N ps (defScope st))
  (body:∀(cdv:We),AN K f cdv->∀(A:V')(outer:List Env)(s:Wd)(H:Hp)(E:XK),e7 k (A.deeper (envOfC qual (defScope st) s.heap.objs.size f cdv))->mL (oP (CXJ P w) P w K mg base N qual (defScope st) f cdv A outer s H E) (defBody st) g) :
  FnOk P w K mg base (CXJ P w) (k+1) f fd ps (spW K ps.length (b7 N.length g)):=by
 have hpl:ps.length<=N.length:=by have:=congrArg k9 S.pre;rw[nj] at this;omega
 obtain⟨oc,od,kV,doc,pm,an,cdv,ct,osl,rfl,lk,hcd⟩:=F.ex
 refine LZ lk hcd S (λvs H Q E h=>?_) λA outer s H vs Q E hr h=>?_
 ·obtain⟨m,st',ws,_,r,hl,_⟩:=h
  rw[<-r.length];exact hl
 ·obtain⟨m,st',ws,S',r,hl,p⟩:=h
  refine⟨_,fQ,?_⟩
  refine body cdv ⟨_,lk,_,rfl,rfl⟩ A outer s H E hr _ st' _ H m _ S' (AM r (by omega)) ?_
  unfold b7 at p
  cases e:g (ws.map some++aN (N.length - ws.length) none) st' with
  | nx ρ st2=>rw[e] at p;exact λσ m' H' e' S2 R2=>p _ m' H' e' S2 (by unfold ah;rfl)
  | rt w' st2=>rw[e] at p;exact p
  | bk ρ st2=>rw[e] at p;exact ae p
  | ct ρ st2=>rw[e] at p;exact ae p
  | err c ρ st2=>rw[e] at p;exact λσ m' H' x s' e' S2 R2 rz=>vh rz λC hC=>p m' H' C e' S2 hC
  | bad=>rw[e] at p;exact ae p
end
def OnlyT(H:Hp):Prop:=∀b,H b=none\/(∃o xs,H b=some (.lV o (.lst xs)))\/H b=some (.k6 #[])
theorem OnlyT.of{H:Hp}(h:D6 H):OnlyT H:=λb=>by
 rcases h b with q | q
 ·exact .inl q
 ·exact .inr (.inl q)
theorem law_sp{K:PySem.W.Frag}{F:List Wv->Hs->Re Wv}(h:∀ns:List Int,ns.length<=63->∃st,F [.ref 0] [.oJ ns]= .ok (.bl true) st)(H:Hp)(a:V_)(ns:List Int)(hl:ns.length<=63)(hO:OnlyT H)(hS:jY K H a (ns.map V.int))(hT:qG K H) :
  spW K 1 F [.ref a] H (λv _=>v= .bl true) λ_ _ _=>False:=by
 obtain⟨st,e⟩:=h ns hl
 refine⟨[a],[.oJ ns],[.ref 0],⟨rfl,λl b o h1 h2=>?_,λl l' b ws VQ _ _ h2 _ k _=>?_,hT⟩,ai.cons (by unfold ah;exact⟨a,rfl,rfl⟩) ai.nil,rfl,?_⟩
 ·cases l with
  | zero=>
   simp at h1 h2
   subst h1 h2
   show sE K H a ns
   rcases hS with (q | ⟨o',q⟩) | q
   ·rcases hO a with z | ⟨o',xs,z⟩ | z
    ·rw[z] at q;cases q
    ·rw[z] at q;cases q
    ·rw[z] at q;cases q
   ·exact .inl ⟨o',q⟩
   ·exact .inr q
  | succ l=>simp at h1
 ·cases l with
  | zero=>simp at h2;subst h2;simp[Ob.mu] at k
  | succ l=>simp at h2
 ·rw[e]
  intro v m' H' _ _ r
  unfold ah at r
  exact r
def nQ(w:Wv)(st:Hs):Re Bool:=match w with
 | .non=> .ok false st
 | .bl b=> .ok b st
 | .int i=> .ok (i != 0) st
 | .str y=>if y.length<=lim then .ok ((y.length:Int) != 0) st else .bad
 | .tup ws=> .ok (!ws.isEmpty) st
 | .nG _=> .bad
 | .ref l=>match aq st l with
  | some ws=> .ok (!ws.isEmpty) st
  | none=> .bad
 | .ty _=> .bad
 | .cls _=> .bad
 | .sD _=> .bad
 | .fn _ _=> .bad
def dC(g:GE):GT:=λρ st=>(g ρ st).bind nQ
section
variable {X:Cx}
theorem Sx{m:Mp}{H:Hp}{ws:List Wv}{xs:List V}(r:ai X.K m H ws xs):(!ws.isEmpty)= !xs.isEmpty:=by
 have h:=r.length
 cases ws<;>cases xs<;>simp_all
theorem nR{e:Expr}{g:GE}(h:JE X e g)(he:∀whole,isTrue e X.env whole=(do let v <-whole;standAt e.pos;holding [v] (truthy v))):JT X e (dC g) :=
 JT.of (zO aP he) λρ st σ H m Q S R p=>h.go S R (aC.bind p) λw st1 v m1 H1 p1 e1 S1 r1=>by
  cases w with
  | non=>unfold ah at r1;subst r1;exact⟨false,rfl,p1 m1 H1 e1 S1⟩
  | bl b=>unfold ah at r1;subst r1;exact⟨b,rfl,p1 m1 H1 e1 S1⟩
  | int i=>unfold ah at r1;subst r1;exact⟨_,rfl,p1 m1 H1 e1 S1⟩
  | str y=>
   obtain⟨rfl,_⟩:=dB r1
   have p2:gD X σ m H (if y.length<=lim then .ok ((y.length:Int) != 0) st1 else .bad) Q:=p1
   by_cases c:y.length<=lim
   ·rw[if_pos c] at p2;exact⟨_,⟨dA c,rfl⟩,p2 m1 H1 e1 S1⟩
   ·rw[if_neg c] at p2;exact ae p2
  | nG ws=>exact ae p1
  | tup ws=>
   unfold ah at r1
   obtain⟨a,xs,rfl,h1,h2⟩:=r1
   refine⟨!xs.isEmpty,.inr (.inl ⟨xs,eM.of h1,rfl⟩),?_⟩
   rw[<-Sx h2]
   exact p1 m1 H1 e1 S1
  | ref l=>
   unfold ah at r1
   obtain⟨a,rfl,h1⟩:=r1
   have p2:gD X σ m H (match aq st1 l with | some ws=> .ok (!ws.isEmpty) st1 | none=> .bad) Q:=p1
   cases el:aq st1 l with
   | none=>rw[el] at p2;exact ae p2
   | some ws=>
    rw[el] at p2
    obtain⟨xs,hq,h2⟩:=S1.read h1 el
    refine⟨!xs.isEmpty,.inl ⟨xs,hq,rfl⟩,?_⟩
    rw[<-Sx h2]
    exact p2 m1 H1 e1 S1
  | ty T=>exact ae p1
  | cls T=>exact ae p1
  | sD T=>exact ae p1
  | fn fp T=>exact ae p1
theorem sM{p:Nat->Bool}{x:Array Nat}(hx:x.all p=true):∀(n:Nat)(a:Array Nat),a.all p=true->((aN n x).foldl (· ++·) a).all p=true
 | 0,a,h=>h
 | n+1,a,h=>by
  rw[fP,Ac]
  refine sM hx n _ ?_
  rw[Array.all_append,h,hx]
  rfl
theorem yz{x:PySem.Str}{n:Nat}(h:aM x=true):aM (oU n x)=true:=by
 unfold aM at h ⊢
 unfold oU
 exact sM h n #[] (by simp)
theorem pN{x:Array Nat}:∀(n:Nat)(a:Array Nat),((aN n x).foldl (· ++·) a).size=a.size+x.size * n
 | 0,a=>by simp
 | n+1,a=>by
  rw[fP,Ac,pN n,Array.size_append,Nat.mul_succ]
  omega
theorem AO{x:PySem.Str}{n:Nat}:(oU n x).length=x.length * n:=by
 show((aN n x.cps).foldl (· ++·) #[]).size=x.cps.size * n
 rw[pN]
 simp
def ma(x:PySem.Str)(n:Int):Prop:=1 < n/\n<=100000/\x.length≠0/\x.length * n.toNat<=lim
instance {x n}:Decidable (ma x n):=by unfold ma;infer_instance
theorem Ew:eF X (Wh .Mult) (λx y H Q=>∃z n,x= .str z/\y= .int n/\ma z n/\Q (.str (oU n.toNat z)) H):=by
 intro pins s σ H x y v u Q I rx ry h
 obtain⟨z,n,rfl,rfl,⟨h1,h2,h3,h4⟩,q⟩:=h
 obtain⟨t,rfl⟩:=rx
 obtain⟨t',rfl⟩:=ry
 have n1:¬n < 1:=by omega
 have hlen:z.length<=lim:=by
  refine a5 ?_ h4
  exact Nat.le_mul_of_pos_right _ (by omega)
 have hne:(n == 1||z.length == 0)=false:=by
  have e1:(n == 1)=false:=by rw[beq_eq_false_iff_ne];omega
  have e2:(z.length == 0)=false:=by rw[beq_eq_false_iff_ne];exact h3
  rw[e1,e2];rfl
 have hl:PySem.Builtin.Str.tooLong (z.length * n.toNat)=false:=by
  unfold PySem.Builtin.Str.tooLong
  have q:=dA h4
  first
   | exact decide_eq_false (by omega)
   | simp only[decide_eq_false_iff_not];omega
 refine PySem.P.mul_str (by
   have e1:¬n < -(2 ^ 63:Int):=by omega
   have e2:¬n >= 2 ^ 63:=by omega
   rw[decide_eq_false e1,decide_eq_false e2];rfl) (λ_ _=>?_) (λ_ _=>hl) ?_
 ·have e:((2:Int) ^ 63 - 1) / 100000<=(2 ^ 63 - 1) / n:=by
   refine Int.le_ediv_of_mul_le (by omega) ?_
   have:((2:Int) ^ 63 - 1) / 100000 * n<=((2:Int) ^ 63 - 1) / 100000 * 100000:=Int.mul_le_mul_of_nonneg_left h2 (by decide)
   exact Int.le_trans this (by decide)
  have e':(1000000:Int)<=(2 ^ 63 - 1) / 100000:=by decide
  unfold lim at hlen
  omega
 ·rw[if_neg n1,if_neg (by rw[hne];exact bz)]
  exact⟨by show(oU n.toNat z).length<=_;rw[AO];exact dA h4,.str (oU n.toNat z),H,I.tok _,⟨_,rfl⟩,q⟩
def AQ:fK
 | .int i,.int j,st=>if IntMulOk i j then .ok (.int (i * j)) st else .bad
 | .str z,.int n,st=>if ma z n then .ok (.str (oU n.toNat z)) st else .bad
 | _,_,_=> .bad
theorem Ex:jg X (Wh .Mult) AQ:=⟨_,eF.or Ed Ew,λx y a b st H m Q S rx ry p=>by
 cases x with
 | int i=>
  cases y with
  | int j=>
   cases aO rx;cases aO ry
   have p':cI X.K m H (if IntMulOk i j then .ok (.int (i * j)) st else .bad) Q:=p
   by_cases c:IntMulOk i j
   ·rw[if_pos c] at p';exact .inl ⟨i,j,rfl,rfl,c,p' _ m H Ext.refl S mkInt⟩
   ·rw[if_neg c] at p';exact ae p'
  | _=>exact ae p
 | str z=>
  cases y with
  | int n=>
   obtain⟨rfl,hz⟩:=dB rx
   cases aO ry
   have p':cI X.K m H (if ma z n then .ok (.str (oU n.toNat z)) st else .bad) Q:=p
   by_cases c:ma z n
   ·rw[if_pos c] at p';exact .inr ⟨z,n,rfl,rfl,c,p' _ m H Ext.refl S (mkStr (yz hz))⟩
   ·rw[if_neg c] at p';exact ae p'
  | _=>exact ae p
 | _=>exact ae p⟩
def bJ:GE:=λ_ _=> .bad
def iI:GT:=λ_ _=> .bad
theorem aL{e:Expr}:JE X e bJ:=λρ st σ H m Q S R p=>ae p
theorem iJ{e:Expr}:JT X e iI:=λρ st σ H m Q S R p=>ae p
end
def fI(P:Wc)(w:Wf)(K:PySem.W.Frag)(mg:Str->Option We)(base:Heap)(k:Nat)(x:Str)(n:Nat)(F:List Wv->Hs->Re Wv):Prop :=
 ∃f fd ps,FnOk P w K mg base (CXJ P w) k f fd ps (spW K n F)/\mg x=some (.ref f)/\PySem.W.keepIn K (.ref f)=true/\Binds K fd ps []
theorem fI.mono{P:Wc}{w:Wf}{K:PySem.W.Frag}{mg:Str->Option We}{base:Heap}{j k:Nat}{x:Str}{n:Nat}{F:List Wv->Hs->Re Wv}(h:fI P w K mg base j x n F)(l:j<=k):fI P w K mg base k x n F:=by
 obtain⟨f,fd,ps,G,r⟩:=h
 exact⟨f,fd,ps,G.mono l,r⟩
def bu(K:PySem.W.Frag)(x:Str)(st:Stmt):Prop:=∃f fd,PySem.W.nsIn K Wt x=some (some (.ref f))/\D7 K x x st f fd
theorem nT{K:PySem.W.Frag}{x:Str}{st:Stmt}{f:V_}{oc:We}{od an:Option V_}{osl:Array (Option We)}{kV doc pm cdv ct:We}(a:PySem.W.nsIn K Wt x=some (some (.ref f)))
  (l:K.lookup f=some ⟨oc,od,.func (PySem.W.fnOf x x (defArgs st) (defBody st) (defScope st) .none kV doc pm an cdv ct),osl⟩)(c:PySem.W.codeIn K cdv x=true)(k:PySem.W.keepIn K (.ref f)=true):bu K x st:=⟨f,_,a,uZ l c k⟩
theorem AR:Wi "isinstance"=some (.builtin "isinstance"):=by decide+kernel
theorem yA:Wi "abs"=some (.builtin "abs"):=by decide+kernel
theorem yB:Wi "len"=some (.builtin "len"):=by decide+kernel
theorem AS:Wi "int"=some (.type "int"):=by decide+kernel
theorem sN:Wi "str"=some (.type "str"):=by decide+kernel
theorem AU:Wi "bool"=some (.type "bool"):=by decide+kernel
theorem nU:Wi "tuple"=some (.type "tuple"):=by decide+kernel
theorem AV:Wi "list"=some (.type "list"):=by decide+kernel
def dI(i:Nat)(gb:GS):List Wv->bA->Hs->Rs
 | [],ρ,st=> .nx ρ st
 | w::r,ρ,st=>match gb (ρ.set i (some w)) st with
  | .nx ρ' st'=>dI i gb r ρ' st'
  | .ct ρ' st'=>dI i gb r ρ' st'
  | .bk ρ' st'=> .nx ρ' st'
  | .rt w st'=> .rt w st'
  | .err c ρ' st'=> .err c ρ' st'
  | .bad=> .bad
section
variable {X:Cx}
theorem kr(i:Nat){body:List Stmt}{gb:GS}(hb:mL X body gb){J':It}{ws:List Wv}{m1:Mp}{H1:Hp}{st1:Hs}{ρ:bA}{σ:St}{D:Ends}(S1:bw X.K m1 st1 H1)(R:aJ X.K m1 H1 ρ σ)(p1:aR X m1 H1 (dI i gb ws ρ st1) D)
  (hgo:∀(k:Nat)(H:Hp)(m':Mp),Ext X.K m1 H1 m' H->k < ws.length->J'.go k H)(hstop:∀(k:Nat)(H:Hp)(m':Mp),Ext X.K m1 H1 m' H->k=ws.length->J'.stop k H)
  (hy:∀(k:Nat)(hk:k < ws.length)(H:Hp)(x:V)(H':Hp)(m':Mp),Ext X.K m1 H1 m' H->J'.zr k H x H'->H'=H/\ah X.K m' H ws[k] x) :
  ∃W:Nat->Nat->St->Hp->Prop,(∃m,W 0 m σ H1)/\∀k n σ H,W k n σ H->
   (J'.stop k H/\D.nx σ H)\/(J'.go k H/\∃N:St->Hp->Prop,(∀σ' H',N σ' H'->∃m',m' < n/\W (k+1) m' σ' H')/\∀x H',J'.zr k H x H'->sr i x σ H' λσ2 H2=>Ov X body { D with nx:=N,ct:=N,bk:=D.nx } σ2 H2):=by
 let Pv:Nat->St->Hp->Prop:=λk σ H=>∃ρ st m',Ext X.K m1 H1 m' H/\bw X.K m' st H/\aJ X.K m' H ρ σ/\aR X m' H (dI i gb (ws.drop k) ρ st) D
 refine⟨λk n σ H=>n=ws.length - k/\k<=ws.length/\Pv k σ H,⟨ws.length,by simp,bV _,ρ,st1,m1,Ext.refl,S1,R,p1⟩,?_⟩
 rintro k n σ2 H2 ⟨rfl,hk,ρ2,st2,m2,e2,S2,R2,p2⟩
 by_cases hlt:k < ws.length
 ·refine .inr ⟨hgo k H2 m2 e2 hlt,Pv (k+1),λσ' H' p'=>⟨ws.length - (k+1),by omega,rfl,hlt,p'⟩,λx H' y=>?_⟩
  obtain⟨ee,qN⟩:=hy k hlt H2 x H' m2 e2 y
  subst ee
  have ed:ws.drop k=ws[k]::ws.drop (k+1):=AW hlt
  rw[ed] at p2
  refine hb _ st2 _ _ m2 _ S2 (R2.set i qN) ?_
  unfold dI at p2
  cases eg:gb (ρ2.set i (some ws[k])) st2 with
  | nx ρ3 st3=>rw[eg] at p2;exact λσ3 m3 H3 e3 S3 R3=>⟨ρ3,st3,m3,e2.trans e3,S3,R3,aR.shift p2 e3⟩
  | ct ρ3 st3=>rw[eg] at p2;exact λσ3 m3 H3 e3 S3 R3=>⟨ρ3,st3,m3,e2.trans e3,S3,R3,aR.shift p2 e3⟩
  | bk ρ3 st3=>rw[eg] at p2;exact p2
  | rt w3 st3=>rw[eg] at p2;exact p2
  | err c3 ρ3 st3=>rw[eg] at p2;exact p2
  | bad=>rw[eg] at p2;exact p2
 ·have e:k=ws.length:=by omega
  subst e
  rw[AX] at p2
  exact .inl ⟨hstop _ H2 m2 e2 rfl,p2 σ2 m2 H2 Ext.refl S2 R2⟩
def P8(K:PySem.W.Frag)(tl:TE):TI:=λσ H R=>tl σ H λx H1=>∃a,x= .ref a/\(((∃xs,jY K H1 a xs)/\R (Si K a) H1)\/((∃xs,eM K H1 a xs)/\R (Sj K a) H1))
theorem AY{tg l:Expr}{tl:TE}(hl:PE X l tl):PI X tg l (P8 X.K tl):=by
 intro pins s σ H R I h
 refine a8 (hl pins s σ H _ I h) λv s1 ⟨x,H1,I1,r1,q1⟩=>?_
 obtain⟨a,e,q1⟩:=q1
 subst e
 cases r1
 have frs:∀b∈[s1.heap.objs.size],fJ X pins H1 b:=λb hb=>by
  have e:b=s1.heap.objs.size:=by simpa using hb
  subst e
  exact I1.zK (ay _) (I1.hok.fresh (ay _))
 rcases q1 with ⟨⟨xs,hq⟩,q⟩ | ⟨⟨xs,hq⟩,q⟩
 ·obtain⟨its,rv,p,hz⟩:=I1.list hq
  refine wpAny_pyIter_list p.isList ?_
  exact⟨s1.heap.objs.size,[s1.heap.objs.size],_,_,H1,rfl,I1.kept (t':=s1.toks) λb o e=>a7 _ e,ya a _,⟨_,bM _ rfl,rfl,rfl⟩,frs,q⟩
 ·obtain⟨its,rv,p,hz⟩:=I1.tuple hq
  refine wpAny_pyIter_tuple (show s1.heap.IsTuple a its.toArray from p) ?_
  exact⟨s1.heap.objs.size,[s1.heap.objs.size],_,_,H1,rfl,I1.kept (t':=s1.toks) λb o e=>a7 _ e,uE a _,⟨_,bM _ rfl,rfl,rfl⟩,frs,q⟩
def mv(i:Nat)(gi:GE)(gb:GS):GS:=λρ st=>(gi ρ st).a8 ρ λw st1=>match w with
 | .ref l=>(match aq st1 l with | some ws=>forL i gb l ws ws ρ st1 | none=> .bad)
 | .tup ws=>dI i gb ws ρ st1
 | .nG ws=>dI i gb ws ρ st1
 | _=> .bad
theorem qO(i:Nat){x:Str}{iter:Expr}{body:List Stmt}{gi:GE}{gb:GS}{pos pos':Pos}(hN:X.N.Nodup)(hp:PassesOwn (model X.prog X.w) X.A X.env X.xe)(hc:X.calm=true)(hi:JE X iter gi)(hb:mL X body gb)
  (hx:X.N[i]? =some x)(hlo:Loc X.env.scope x)(IK:X.fn x=true\/X.env.scope.names.lookup x=some .local)
  (hs:∀x,Wn iter X.env x=pure x):JS X (.For (.Name x pos') iter body [] pos) (mv i gi gb):=by
 refine JS.of (qp hp hc (AY aP) (j6 hN hx hlo IK) fQ hs) λρ st σ H m D S R p=>?_
 refine hi.go S R (aR.bU R p) λw st1 v m1 H1 p1 e1 S1 rw'=>?_
 cases w with
 | ref l=>
  have p1':aR X m H (match aq st1 l with | some ws=>forL i gb l ws ws ρ st1 | none=> .bad) D:=p1
  unfold ah at rw'
  obtain⟨a,rfl,hla⟩:=rw'
  cases el:aq st1 l with
  | none=>rw[el] at p1';exact ae p1'
  | some ws=>
   rw[el] at p1'
   obtain⟨P9,q0,_⟩:=S1.read hla el
   refine⟨a,rfl,.inl ⟨⟨P9,q0⟩,?_⟩⟩
   let Pv:Nat->St->Hp->Prop:=λk σ H=>∃ρ st m',Ext X.K m1 H1 m' H/\bw X.K m' st H/\aJ X.K m' H ρ σ/\aq st l=some ws/\aR X m' H (forL i gb l ws (ws.drop k) ρ st) D
   refine⟨λk n σ H=>n=ws.length - k/\k<=ws.length/\Pv k σ H,⟨ws.length,by simp,bV _,ρ,st1,m1,Ext.refl,S1,R.mono e1,el,aR.shift p1' e1⟩,?_⟩
   rintro k n σ2 H2 ⟨rfl,hk,ρ2,st2,m2,e2,S2,R2,l2,p2⟩
   obtain⟨xs,hq,rws⟩:=S2.read (e2.pre _ _ hla) l2
   have hlen:=rws.length
   by_cases hlt:k < ws.length
   ·have hx':k < xs.length:=by omega
    refine .inr ⟨⟨xs,xs[k],hq,by simp[hx']⟩,Pv (k+1),λσ' H' p'=>⟨ws.length - (k+1),by omega,rfl,hlt,p'⟩,λx H' y=>?_⟩
    obtain⟨ee,y⟩:=y
    subst ee
    have ey:=y xs hq
    have ed:ws.drop k=ws[k]::ws.drop (k+1):=AW hlt
    obtain⟨x',ex',qN⟩:=rws.get (i:=k) (w:=ws[k]) (dD hlt)
    rw[ey] at ex'
    cases ex'
    rw[ed] at p2
    refine hb _ st2 _ _ m2 _ S2 (R2.set i qN) ?_
    unfold forL at p2
    cases eg:gb (ρ2.set i (some ws[k])) st2 with
    | nx ρ3 st3=>
     rw[eg] at p2
     by_cases c:aq st3 l=some ws
     ·simp only[if_pos c] at p2
      exact λσ3 m3 H3 e3 S3 R3=>⟨ρ3,st3,m3,e2.trans e3,S3,R3,c,aR.shift p2 e3⟩
     ·simp only[if_neg c] at p2;exact ae p2
    | ct ρ3 st3=>
     rw[eg] at p2
     by_cases c:aq st3 l=some ws
     ·simp only[if_pos c] at p2
      exact λσ3 m3 H3 e3 S3 R3=>⟨ρ3,st3,m3,e2.trans e3,S3,R3,c,aR.shift p2 e3⟩
     ·simp only[if_neg c] at p2;exact ae p2
    | bk ρ3 st3=>rw[eg] at p2;exact p2
    | rt w3 st3=>rw[eg] at p2;exact p2
    | err c3 ρ3 st3=>rw[eg] at p2;exact p2
    | bad=>rw[eg] at p2;exact p2
   ·have e:k=ws.length:=by omega
    subst e
    rw[AX] at p2
    exact .inl ⟨⟨xs,hq,by omega⟩,p2 σ2 m2 H2 Ext.refl S2 R2⟩
 | tup ws=>
  unfold ah at rw'
  obtain⟨a,xs,rfl,hq,rws⟩:=rw'
  have hlen:=rws.length
  refine⟨a,rfl,.inr ⟨⟨xs,eM.of hq⟩,?_⟩⟩
  refine kr i hb (ws:=ws) S1 (R.mono e1) (aR.shift p1 e1) (λk H m' e hk=>?_) (λk H m' e hk=>?_) λk hk H x H' m' e y=>?_
  ·have hx':k < xs.length:=by omega
   exact⟨xs,xs[k],eM.of (e.tup _ _ hq),by simp[hx']⟩
  ·exact⟨xs,eM.of (e.tup _ _ hq),by omega⟩
  ·obtain⟨ee,y⟩:=y
   refine⟨ee,?_⟩
   obtain⟨x',ex',qN⟩:=(ai.mono e _ _ rws).get (i:=k) (w:=ws[k]) (dD hk)
   rw[y xs (eM.of (e.tup _ _ hq))] at ex'
   cases ex'
   exact qN
 | nG ws=>
  unfold ah at rw'
  obtain⟨a,xs,rfl,hq,rws⟩:=rw'
  have hlen:=rws.length
  refine⟨a,rfl,.inr ⟨⟨xs,.inr hq⟩,?_⟩⟩
  refine kr i hb (ws:=ws) S1 (R.mono e1) (aR.shift p1 e1) (λk H m' e hk=>?_) (λk H m' e hk=>?_) λk hk H x H' m' e y=>?_
  ·have hx':k < xs.length:=by omega
   exact⟨xs,xs[k],.inr hq,by simp[hx']⟩
  ·exact⟨xs,.inr hq,by omega⟩
  ·obtain⟨ee,y⟩:=y
   refine⟨ee,?_⟩
   obtain⟨x',ex',qN⟩:=(ai.mono e _ _ rws).get (i:=k) (w:=ws[k]) (dD hk)
   rw[y xs (.inr hq)] at ex'
   cases ex'
   exact qN
 | _=>exact ae p1
def br(lo:Int)(n:Nat):List Wv:=(dJ n).map λk:Nat=>Wv.int (lo+k)
theorem jk{lo:Int}{n k:Nat}(h:k < n):(br lo n)[k]? =some (.int (lo+k)):=by
 unfold br
 rw[fu,List.getElem?_range h]
 rfl
theorem sO{lo:Int}{n k:Nat}(h:k < (br lo n).length):(br lo n)[k]= .int (lo+k):=by
 have q:=jk (lo:=lo) (n:=n) (k:=k) (by unfold br at h;simpa using h)
 rw[dD h] at q
 exact Option.some.inj q
theorem cz{lo:Int}{n:Nat}:(br lo n).length=n:=by unfold br;simp
def bP(i:Int):Prop:=-(2 ^ 62)<=i/\i < 2 ^ 62
instance {i}:Decidable (bP i):=AZ _
def nV(i:Nat)(ga:GA)(gb:GS):GS:=λρ st=>(ga ρ st).a8 ρ λws st1=>match ws with
 | [.int j]=>if bP j then dI i gb (br 0 j.toNat) ρ st1 else .bad
 | _=> .bad
def nW(i:Nat)(ga:GA)(gb:GS):GS:=λρ st=>(ga ρ st).a8 ρ λws st1=>match ws with
 | [.int a,.int j]=>if bP a/\bP j then dI i gb (br a (j - a).toNat) ρ st1 else .bad
 | _=> .bad
theorem w_(i:Nat){body:List Stmt}{gb:GS}(hb:mL X body gb){lo:Int}{n:Nat}{m1:Mp}{H1:Hp}{st1:Hs}{ρ:bA}{σ:St}{D:Ends}(S1:bw X.K m1 st1 H1)(R:aJ X.K m1 H1 ρ σ)(p1:aR X m1 H1 (dI i gb (br lo n) ρ st1) D) :
  ∃W:Nat->Nat->St->Hp->Prop,(∃m,W 0 m σ H1)/\∀k n' σ H,W k n' σ H->
   ((FX lo n).stop k H/\D.nx σ H)\/((FX lo n).go k H/\∃N:St->Hp->Prop,(∀σ' H',N σ' H'->∃m',m' < n'/\W (k+1) m' σ' H')/\∀x H',(FX lo n).zr k H x H'->sr i x σ H' λσ2 H2=>Ov X body { D with nx:=N,ct:=N,bk:=D.nx } σ2 H2) :=
 kr i hb S1 R p1 (λk H m' e hk=>by rw[cz] at hk;exact hk) (λk H m' e hk=>by rw[cz] at hk;exact j8 hk.symm) λk hk H x H' m' e y=>by
  obtain⟨y1,y2⟩:=y
  refine⟨y1,?_⟩
  rw[sO,y2]
  exact mkInt
theorem A0(i:Nat){x:Str}{a:Expr}{body:List Stmt}{ga:GA}{gb:GS}{pos pos' p q:Pos}(hN:X.N.Nodup)(hp:PassesOwn (model X.prog X.w) X.A X.env X.xe)(hc:X.calm=true)(hg:Gl X "range")(hm:X.mg "range"=none)(ha:JA X [a] ga)(hb:mL X body gb)
  (hx:X.N[i]? =some x)(hlo:Loc X.env.scope x)(IK:X.fn x=true\/X.env.scope.names.lookup x=some .local)(hst:Ww [a] X.env=[(false,eval a X.env)]):JS X (.For (.Name x pos') (.Call (.Name "range" p) [a] [] q) body [] pos) (nV i ga gb):=by
 refine JS.of (qp hp hc (pA hg hm iq hst) (j6 hN hx hlo IK) fQ (λ_=>rfl)) λρ st σ H m D S R p=>?_
 refine ha.go S R (aR.bU R p) λws st1 vs m1 H1 p1 e1 S1 rs=>?_
 match ws,rs,p1 with
 | [],rs,p1=>exact ae p1
 | x::y::t,rs,p1=>cases x<;>exact ae p1
 | [x],rs,p1=>
  obtain⟨v,rfl,r1⟩:=kq rs
  cases x with
  | int j=>
   cases aO r1
   have p2:aR X m H (if bP j then dI i gb (br 0 j.toNat) ρ st1 else .bad) D:=p1
   by_cases c:bP j
   ·rw[if_pos c] at p2
    exact⟨j,rfl,c.1,c.2,w_ i hb S1 (R.mono e1) (aR.shift p2 e1)⟩
   ·rw[if_neg c] at p2;exact ae p2
  | _=>exact ae p1
theorem A1(i:Nat){x:Str}{a b:Expr}{body:List Stmt}{ga:GA}{gb:GS}{pos pos' p q:Pos}(hN:X.N.Nodup)(hp:PassesOwn (model X.prog X.w) X.A X.env X.xe)(hc:X.calm=true)(hg:Gl X "range")(hm:X.mg "range"=none)(ha:JA X [a,b] ga)(hb:mL X body gb)
  (hx:X.N[i]? =some x)(hlo:Loc X.env.scope x)(IK:X.fn x=true\/X.env.scope.names.lookup x=some .local)(hst:Ww [a,b] X.env=[(false,eval a X.env),(false,eval b X.env)])(IL:Ww [b] X.env=[(false,eval b X.env)]):JS X (.For (.Name x pos') (.Call (.Name "range" p) [a,b] [] q) body [] pos) (nW i ga gb):=by
 refine JS.of (qp hp hc (pB hg hm iq hst IL) (j6 hN hx hlo IK) fQ (λ_=>rfl)) λρ st σ H m D S R p=>?_
 refine ha.go S R (aR.bU R p) λws st1 vs m1 H1 p1 e1 S1 rs=>?_
 match ws,rs,p1 with
 | [],rs,p1=>exact ae p1
 | [x],rs,p1=>cases x<;>exact ae p1
 | x::y::z::t,rs,p1=>cases x<;>cases y<;>exact ae p1
 | [x,y],rs,p1=>
  obtain⟨v,v',rfl,r1,r2⟩:=sJ rs
  cases x with
  | int a=>
   cases y with
   | int j=>
    cases aO r1;cases aO r2
    have p2:aR X m H (if bP a/\bP j then dI i gb (br a (j - a).toNat) ρ st1 else .bad) D:=p1
    by_cases c:bP a/\bP j
    ·rw[if_pos c] at p2
     exact⟨a,j,rfl,⟨c.1.1,c.1.2,c.2.1,c.2.2⟩,w_ i hb S1 (R.mono e1) (aR.shift p2 e1)⟩
    ·rw[if_neg c] at p2;exact ae p2
   | _=>exact ae p1
  | _=>cases y<;>exact ae p1
theorem Ey{pos:Pos}:JS X (.Return none pos) (aQ (gC .non)):=JS.of DK λρ st σ H m D S R p=>p .non m H Ext.refl S w5
end
abbrev F':List We:=[.type "ValueError",.type "Exception",.type "BaseException",.type "object"]
abbrev Ez:String:="ValueError.__new__"
structure IM(K:PySem.W.Frag)(c:PySem.Str)(C:V_):Prop where
 cls:ClsAt K c C
 exc:PySem.W.excIn K C F' Ez=true
theorem mM{K:PySem.W.Frag}{h:Heap}{C:V_}(KX:K.In h)(q:PySem.W.excIn K C F' Ez=true) :
  ∃(bm:List We)(N:V_)(nm qn:Str)(bs:List We)(hd:Bool)(sn:List Str)(sub:List We)(ab:Bool)(col:Option Bool)(dd:Option V_)(k0 k1 k2 k3 k5:Option We)(mN:Str->Option We),
   h.get? C=some (excClassObj nm qn C N bs bm hd sn sub ab col dd k0 k1 k2 k3 k5 Ez)/\h.Ns N mN/\mN "__init__"=none/\OwnTail h F' bm/\(∀v r,PySem.W.mroIn K C v=some r->(aH C::bm).contains v=r):=by
 unfold PySem.W.excIn at q
 split at q
 ·rename_i dd cd sl lk
  split at q
  ·rename_i C1 bm k0 k1 k2 k3 n1 k5 em es
   simp only[cw,beq_iff_eq,Bool.not_eq_true'] at q
   obtain⟨⟨⟨⟨⟨q1,q2⟩,q3⟩,q4⟩,q5⟩,q6⟩:=q
   subst q1 q2
   obtain⟨nm,bs,mro,N,qn,hd,sn,sub,ab,col,del⟩:=cd
   dsimp only at em q3 q5 q6
   subst em q3
   have Uu:sl=#[k0,k1,k2,k3,some (.builtin Ez),k5]:=by
    cases sl with
    | mk l=>exact congrArg Array.mk es
   subst Uu
   refine⟨bm,N,nm,qn,bs,hd,sn,sub,ab,col,dd,k0,k1,k2,k3,k5,_,KX _ _ lk,.of_isNs (PySem.W.isNs_of_in KX q5),PySem.W.nsMap_none_of_in KX q5 q6,PySem.W.tail_of_in KX q4,λv r e=>?_⟩
   unfold PySem.W.mroIn PySem.W.clsIn at e
   rw[lk] at e
   first
    | exact Option.some.inj e
    | (simp at e;exact e)
  ·cases q
 ·cases q
section
variable {X:Cx}
end
structure k_(K:PySem.W.Frag)(C:V_):Prop where
 exc:PySem.W.excIn K C F' Ez=true
 ga:PySem.W.findIn K (.ref C) "__getattribute__"=some (some (.builtin "BaseException.__getattribute__"))
 gx:PySem.W.findIn K (.ref C) "__getattr__"=some none
 cl:PySem.W.findIn K (.ref C) "__class__"=some (some (.builtin "object.__class__"))
section
variable {prog:Wc} {w:Wf} {A:V'} {E:We->Wd->Prop} {h:Heap} {g:Array GenState} {d:Drawn} {t:Nat} {os:OsState} {a C:V_} {o:Obj} {K:PySem.W.Frag}
theorem IP{R:Result->Wd->Prop}(Y:K.In h)(Z:k_ K C)(ha:h.get? a=some o)(hc:o.cls= .ref C)(k:R (.ok (.ret (.ref C))) ⟨h,g,d,t,os⟩) :
  Wj (model prog w) A (.call (.builtin "getset_descriptor.__get__") ⟨[.builtin "object.__class__",.ref a,.ref C],[]⟩) R ⟨h,g,d,t,os⟩:=by
 obtain⟨bm,N,nm,qn,bs,P_,sn,sub,ab,col,dd,k0,k1,k2,k3,k5,mN,hC,hN,hni,T,_⟩:=mM Y Z.exc
 have ty:(⟨h,g,d,t,os⟩:Wd).TypeIs (.builtin "object.__class__") "getset_descriptor":=A2
 have own:(aH C::bm).contains (.type (".".intercalate ("object.__class__".cutAt '.').dropLast))=true:=by
  rw[F.owner_object_class,A3,T.hasType (X:="object") (b:=true) (by decide)];rfl
 refine codeAny_call_builtin F.slot_gs_get.plain F.entry_gs_get (F.slot_gs_get.check _ _ _ _ _ _ _ _ ty (F.args_gs_get _ _ _) ?_)
 repeat (any_goals (first | assumption | (with_reducible refine wpAny_loadPart_at ha ?_;rw[hc]) | (with_reducible refine wpAny_isSubtype_exc hC ?_;rw[own]) | wp_step))
 refine⟨Code.quiet_builtin _ (by decide+kernel),codeAny_builtin F.entry_object_class ?_⟩
 repeat (any_goals (first | assumption | (with_reducible refine wpAny_loadPart_at ha ?_;rw[hc]) | wp_step))
theorem A4{tk:Tok}{Q:Fin->Wd->Prop}(Y:K.In h)(Z:k_ K C)(ha:h.get? a=some o)(hc:o.cls= .ref C)(k:Q (.done (.ret (.ref C))) ⟨h,g,d,t,os⟩) :
  Wx (model prog w) A (Builtin.«object.__getattribute__» ⟨[.ref a,.str "__class__" tk],[]⟩) Q E ⟨h,g,d,t,os⟩:=by
 have ty:(⟨h,g,d,t,os⟩:Wd).TypeIs (.builtin "object.__class__") "getset_descriptor":=A2
 have t1:=A2
 have t2:=F.slot_gs_get.lookup
 have t3:=F.slot_gs_set.lookup
 have L:=PySem.W.looks_findIn (M:=model prog w) Y Z.cl
 repeat (any_goals (first | assumption | (with_reducible refine wpAny_loadPart_at ha ?_;rw[hc]) | with_reducible refine L.at ?_ | wp_step))
 refine IP Y Z ha hc ?_
 repeat (any_goals (first | assumption | wp_step))
theorem A5{M:Model}{nv:We}{Q:Unit->Wd->Prop}(Y:K.In h)(Z:k_ K C)(ha:h.get? a=some o)(hc:o.cls= .ref C)(k:Q () ⟨h,g,d,t,os⟩) :
  Wx M A (checkBuiltinCall "BaseException.__getattribute__" ⟨[.ref a,nv],[]⟩) Q E ⟨h,g,d,t,os⟩:=by
 obtain⟨bm,N,nm,qn,bs,P_,sn,sub,ab,col,dd,k0,k1,k2,k3,k5,mN,hC,hN,hni,T,_⟩:=mM Y Z.exc
 have u1:builtinKind "BaseException.__getattribute__"=some .slot:=by decide+kernel
 have u2:splitId "BaseException.__getattribute__"=some ("BaseException","__getattribute__"):=by decide+kernel
 have u3:(aH C::bm).contains (.type "BaseException")=true:=by rw[A3,T.hasType (X:="BaseException") (b:=true) (by decide)];rfl
 have u4:=F.args_bexc_ga (.ref a) nv
 simp only[checkBuiltinCall,u1,u2]
 refine Wy ?_
 unfold isInstance
 repeat (first | (with_reducible refine wpAny_loadPart_at ha ?_;rw[hc]) | (with_reducible refine wpAny_isSubtype_exc hC ?_;rw[u3]) | wp_step)
 exact k
theorem MB{tk:Tok}{Q:We->Wd->Prop}(Y:K.In h)(Z:k_ K C)(ha:h.get? a=some o)(hc:o.cls= .ref C)(k:Q (.ref C) ⟨h,g,d,t,os⟩) :
  Wx (model prog w) A (getAttrBy (.ref a) (.str "__class__" tk) false) Q E ⟨h,g,d,t,os⟩:=by
 have v1:=F.excAttr_ValueError.ga.bind (.ref a)
 have v2:(mO "BaseException.__getattribute__" == mO "object.__getattribute__")=false:=by decide+kernel
 have v3:(onTheHeap (aH C)&&mO "BaseException.__getattribute__" == mO "object.__getattribute__")=false:=by rw[v2];rfl
 have v4:(false&&onTheHeap (mO "BaseException.__getattribute__"))=false:=rfl
 have L1:=PySem.W.looks_findIn (M:=model prog w) Y Z.ga
 have L2:=PySem.W.looks_findIn (M:=model prog w) Y Z.gx
 repeat (any_goals (first | assumption | (with_reducible refine wpAny_loadPart_at ha ?_;rw[hc]) | with_reducible refine L1.at ?_ | with_reducible refine L2.at ?_ | wp_step))
 refine codeAny_call_builtin F.excAttr_ValueError.ga.plain F.entry_bexc_ga (A5 Y Z ha hc (A4 Y Z ha hc ?_))
 repeat (any_goals (first | assumption | wp_step))
theorem EA{Q:Option We->Wd->Prop}(Y:K.In h)(Z:k_ K C)(ha:h.get? a=some o)(hc:o.cls= .ref C)(k:Q (some (.ref C)) ⟨h,g,d,t+1,os⟩) :
  Wx (model prog w) A (getAttr? (.ref a) "__class__") Q E ⟨h,g,d,t,os⟩:=by
 unfold getAttr? getAttrBy?
 repeat (any_goals (first | assumption | with_reducible apply MB Y Z ha hc | wp_step))
end
structure Uv(X:Cx):Prop where
 st:X.stack=X.env::X.outer
 fr:X.env.frame=some X.env.locals
 ex:X.ex=[]
def MC(o:Obj):Prop:=∃vs,o.data= .fields vs/\vs[2]? =some bL
section
variable {X:Cx} {pins:List (V_×Obj)} {σ:St} {Hc H':Hp} {sc s':Wd} {B h2:Heap} {a C:V_} {a0:We} {ch:List V_}
end
theorem sP{K:PySem.W.Frag}{a C:V_}(Z:k_ K C):PySem.W.KitX K (.ref a) (.ref C) (Am a C) where
 ty:=λM h _ p=>by
  obtain⟨o,h1,h2,_⟩:=p
  rw[<-h2]
  exact(PySem.W.Looks.ld h1).andThen .now
 it:=λM h Y _=>by
  obtain⟨bm,N,nm,qn,bs,P_,sn,sub,ab,col,dd,k0,k1,k2,k3,k5,mN,hC,_⟩:=mM Y Z.exc
  intro A' Q' E' s' k q
  unfold isType loadHead
  exact Wy (wpAny_loadPart (k _ _ hC) (WD q))
 ne:=λh tp dd its n sl Y e=>by
  obtain⟨bm,N,nm,qn,bs,P_,sn,sub,ab,col,HW,k0,k1,k2,k3,k5,mN,hC,_⟩:=mM Y Z.exc
  refine Bool.eq_false_iff.mpr λq=>?_
  have z:C=tp:=Value.ref.inj (beq_iff_eq.mp q)
  subst z
  rw[hC] at e
  have z2:mD "type"=mD "tuple":=congrArg Obj.cls (Option.some.inj e)
  exact absurd z2 (by decide)
 ca:=λ{prog w A E Q s} Y p k=>by
  obtain⟨o,h1,h2,_⟩:=p
  obtain⟨h,g,d,t,os⟩:=s
  exact EA Y Z h1 h2 k
abbrev Tab:=List ((PySem.Str×PySem.Str)×Bool)
abbrev vi:=List ((PySem.Str×String)×Bool)
structure TabOk(K:PySem.W.Frag)(tb:Tab)(tt:vi)(tc:Tab):Prop where
 own:∀c d b C D,tb.lookup (c,d)=some b->ClsAt K c C->ClsAt K d D->k_ K C/\PySem.W.kitOne K (.ref C) (.ref D)=some b
 cat:∀c d b C D,tc.lookup (c,d)=some b->ClsAt K c C->ClsAt K d D->PySem.W.excIn K C F' Ez=true/\PySem.W.excIn K D F' Ez=true/\PySem.W.mroIn K C (.ref D)=some b
 typ:∀c T b C,tt.lookup (c,T)=some b->ClsAt K c C->k_ K C/\PySem.W.kitOne K (.ref C) (.type T)=some b
def lb(tb:Tab)(c:PySem.Str):List Wv->Option Bool
 | []=>some false
 | .cls d::r=>(match tb.lookup (c,d) with
  | some true=>some true
  | some false=>lb tb c r
  | none=>none)
 | _=>none
theorem pO{K:PySem.W.Frag}{m:Mp}{H:Hp}{tb:Tab}{tt:vi}{tc:Tab}(O:TabOk K tb tt tc){c:PySem.Str}{C:V_}(hC:ClsAt K c C):∀{ds:List Wv}{vs:List V}{its:List We}{b:Bool},ai K m H ds vs->Vals vs its->lb tb c ds=some b->PySem.W.kitAny K (.ref C) its=some b
 | [],vs,its,b,r,v,e=>by
  unfold ai at r
  subst r
  cases v
  cases e
  rfl
 | w::ds,vs,its,b,r,v,e=>by
  unfold ai at r
  obtain⟨x,t,rfl,r1,r2⟩:=r
  cases v with
  | cons h1 h2=>
   cases w with
   | cls d=>
    unfold ah at r1
    obtain⟨D,rfl,hD⟩:=r1
    cases h1
    unfold lb at e
    unfold PySem.W.kitAny
    cases q:tb.lookup (c,d) with
    | none=>rw[q] at e;cases e
    | some k=>
     rw[q] at e
     obtain⟨_,z3⟩:=O.own c d k C D q hC hD
     rw[z3]
     cases k with
     | true=>cases e;rfl
     | false=>exact pO O hC r2 h2 e
   | _=>cases e
def lh(tb:Tab)(tt:vi):List Wv->Hs->Re Wv
 | [.sD c,.cls d],st=>(match tb.lookup (c,d) with | some b=> .ok (.bl b) st | none=> .bad)
 | [.sD c,.ty T],st=>(match tt.lookup (c,T) with | some b=> .ok (.bl b) st | none=> .bad)
 | [.sD c,.tup (.cls d::ds)],st=>(match lb tb c (.cls d::ds) with | some b=> .ok (.bl b) st | none=> .bad)
 | ws,st=>Mx ws st
section
variable {X:Cx}
theorem A6:cH X (.builtin "isinstance") (λvs H Q=>∃a C v c b,vs=[.ref a,v]/\Ou a C (H a)/\k_ X.K C/\RelV v c/\PySem.W.kitOne X.K (.ref C) c=some b/\Q (.bl b) H):=by
 intro pins s σ H xs us Q I r h
 obtain⟨a,C,v,c,b,rfl,ha,Z,rc,e,q⟩:=h
 obtain⟨u,u',rfl,r1,r2⟩:=vals2 r
 cases r1
 have uc:u'=c:=by
  cases v with
  | int i=>obtain⟨t,rfl⟩:=rc;cases e
  | str i=>obtain⟨t,rfl⟩:=rc;cases e
  | GQ i=>obtain⟨t,rfl⟩:=rc;cases e
  | oN i=>obtain⟨t,rfl⟩:=rc;cases e
  | non=>cases rc;cases r2;rfl
  | bl i=>cases rc;cases r2;rfl
  | ref i=>cases rc;cases r2;rfl
  | ty i=>cases rc;cases r2;rfl
 subst uc
 exact PySem.W.kia_one (sP Z) I.pq (F1 I.hok ha) e (by intro z;cases z) λtk=>⟨.bl b,H,I.tok tk,rfl,q⟩
theorem yC:cH X (.builtin "isinstance") (λvs H Q=>∃a C p xs b,vs=[.ref a,.ref p]/\Ou a C (H a)/\k_ X.K C/\eM X.K H p xs/\(∀its,Vals xs its->PySem.W.kitAny X.K (.ref C) its=some b)/\Q (.bl b) H):=by
 intro pins s σ H xs us Q I r h
 obtain⟨a,C,p,ys,b,rfl,ha,Z,hT,e,q⟩:=h
 obtain⟨u,u',rfl,r1,r2⟩:=vals2 r
 cases r1
 cases r2
 obtain⟨its,rv,⟨o,g1,g2,n,g3⟩,z⟩:=I.tuple hT
 obtain⟨oc,od,VR,osl⟩:=o
 cases g2
 cases g3
 exact PySem.W.kia_tup (sP Z) I.pq (F1 I.hok ha) g1 (e its rv) (by intro z;cases z) λtk=>⟨.bl b,H,I.tok tk,rfl,q⟩
theorem IQ{tb:Tab}{tt:vi}{tc:Tab}(O:TabOk X.K tb tt tc):b_ X (.builtin "isinstance") (lh tb tt):=by
 obtain⟨r,h1,h2⟩:=IH (X:=X)
 refine⟨_,A6.or (yC.or h1),λws vs st H m Q S rs p=>?_⟩
 unfold lh at p
 split at p
 ·rename_i _ c d
  cases e:tb.lookup (c,d) with
  | none=>rw[e] at p;exact ae p
  | some b=>
   rw[e] at p
   obtain⟨v,v',rfl,r1,r2⟩:=sJ rs
   unfold ah at r1 r2
   obtain⟨a,C,rfl,hC,ha⟩:=r1
   obtain⟨D,rfl,hD⟩:=r2
   obtain⟨z1,z3⟩:=O.own c d b C D e hC hD
   exact .inl ⟨a,C,.ref D,.ref D,b,rfl,ha,z1,rfl,z3,p _ m H Ext.refl S iG⟩
 ·rename_i _ c T
  cases e:tt.lookup (c,T) with
  | none=>rw[e] at p;exact ae p
  | some b=>
   rw[e] at p
   obtain⟨v,v',rfl,r1,r2⟩:=sJ rs
   unfold ah at r1 r2
   obtain⟨a,C,rfl,hC,ha⟩:=r1
   subst r2
   obtain⟨z1,z3⟩:=O.typ c T b C e hC
   exact .inl ⟨a,C,.ty T,.type T,b,rfl,ha,z1,rfl,z3,p _ m H Ext.refl S iG⟩
 ·rename_i _ c d ds
  cases e:lb tb c (.cls d::ds) with
  | none=>rw[e] at p;exact ae p
  | some b=>
   rw[e] at p
   obtain⟨v,v',rfl,r1,r2⟩:=sJ rs
   unfold ah at r1
   obtain⟨a,C,rfl,hC,ha⟩:=r1
   have r2':=r2
   unfold ah at r2'
   obtain⟨t,xs,rfl,hT,rx⟩:=r2'
   have Z:k_ X.K C:=by
    have qN:=rx
    unfold ai at qN
    obtain⟨x,r,_,rd,_⟩:=qN
    unfold ah at rd
    obtain⟨D,_,hD⟩:=rd
    unfold lb at e
    cases q:tb.lookup (c,d) with
    | none=>rw[q] at e;cases e
    | some k=>exact(O.own c d k C D q hC hD).1
   exact .inr (.inl ⟨a,C,t,xs,b,rfl,ha,Z,eM.of hT,λits hv=>pO O hC rx hv e,p _ m H Ext.refl S iG⟩)
 ·exact .inr (.inr (h2 ws vs st H m Q S rs p))
end
section
variable {X:Cx} {pins:List (V_×Obj)} {σ:St} {H:Hp} {s:Wd}
def IS(X:Cx):Prop:=X.A.handled=none\/∃a o u,X.A.handled=some (.ref a)/\MC o/\X.H₀ a=some (.lV o u)
def yD(A:V')(H:Hp):Prop:=A.handled=none\/∃a o u,A.handled=some (.ref a)/\MC o/\H a=some (.lV o u)
theorem IS.at(h:IS X)(I:Inv X pins σ H s):yD X.A H:=h.imp id λ⟨a,o,u,h1,h2,h3⟩=>⟨a,o,u,h1,h2,I.base.mq _ _ _ h3⟩
end
section
variable {X:Cx}
end
theorem A7(x:String):aM (jd x)=true:=by
 unfold aM
 rw[F9]
 intro c hc
 have:∃ch:Char,c=ch.toNat:=by
  rw[Str.ofString_eq_toList] at hc
  simp at hc
  obtain⟨ch,_,e⟩:=hc
  exact⟨ch,e.symm⟩
 obtain⟨ch,rfl⟩:=this
 have h:=ch.valid
 simp only[decide_eq_true_eq]
 rcases h with h | ⟨_,h⟩
 ·exact wR h (by decide)
 ·exact h
section
variable {X:Cx}
def IT:List Wv->Hs->Re Wv
 | [.int i],st=>if i.natAbs.log2 < 1920 then .ok (.str (toString i:String)) st else .bad
 | _,_=> .bad
theorem IU:b_ X (.type "str") IT:=⟨_,qr,λws vs st H m Q S r p=>by
 match ws,r,p with
 | [],r,p=>exact ae p
 | x::y::t,r,p=>cases x<;>exact ae p
 | [x],r,p=>
  obtain⟨v,rfl,rx⟩:=kq r
  cases x with
  | int i=>
   cases aO rx
   have p':cI X.K m H (if i.natAbs.log2 < 1920 then .ok (.str (toString i:String)) st else .bad) Q:=p
   by_cases c:i.natAbs.log2 < 1920
   ·rw[if_pos c] at p'
    exact⟨i,rfl,c,p' _ m H Ext.refl S (mkStr (A7 _))⟩
   ·rw[if_neg c] at p';exact ae p'
  | _=>exact ae p⟩
def jv(o v:Wv)(st:Hs):Re Wv:=match o with
 | .ref l=>(match st[l]? with
  | some (.lst ws)=>if ws.length < lim then .ok .non (st.set l (.lst (ws++[v]))) else .bad
  | _=> .bad)
 | _=> .bad
def IV(o v:Wv)(st:Hs):Re Wv:=match o,v with
 | .ref l,.ref k=>(match st[l]?,st[k]? with
  | some (.lst ws),some (.lst zs)=>if ws.length+zs.length<=lim then .ok .non (st.set l (.lst (ws++zs))) else .bad
  | _,_=> .bad)
 | _,_=> .bad
def jC(mt:Wv->Wv->Hs->Re Wv)(go ga:GE):GE:=λρ st=>(go ρ st).bind λo st1=>match o with
 | .ref l=>(match aq st1 l with
  | some _=>(ga ρ st1).bind λv st2=>(mt o v st2).mK
  | none=> .bad)
 | _=> .bad
def MD(X:Cx)(id:String)(mt:Wv->Wv->Hs->Re Wv):Prop:=∃r,Oj X id r/\∀(o w:Wv)(x v:V)(st:Hs)(H:Hp)(m:Mp)(Q:VK),bw X.K m st H->ah X.K m H o x->ah X.K m H w v->cI X.K m H (mt o w st) Q->r x [v] H Q
theorem A8:MD X "list.append" jv:=⟨_,yo,λo w x v st H m Q S ro rw' p=>by
 cases o with
 | ref l=>
  unfold ah at ro
  obtain⟨a,rfl,ha⟩:=ro
  have p':cI X.K m H (match st[l]? with | some (.lst ws)=>if ws.length < lim then .ok .non (st.set l (.lst (ws++[w]))) else .bad | _=> .bad) Q:=p
  cases e:st[l]? with
  | none=>rw[e] at p';exact ae p'
  | some ob=>
   cases ob with
   | dct kvs=>rw[e] at p';exact ae p'
   | l9 kvs=>rw[e] at p';exact ae p'
   | wV kvs=>rw[e] at p';exact ae p'
   | zu kvs=>rw[e] at p';exact ae p'
   | kY kvs=>rw[e] at p';exact ae p'
   | ins _ _=>rw[e] at p';exact ae p'
   | oJ ns=>rw[e] at p';exact ae p'
   | lst ws=>
    rw[e] at p'
    dsimp only at p'
    by_cases c:ws.length < lim
    ·rw[if_pos c] at p'
     obtain⟨xs,h1,h2⟩:=S.nH ha e
     have e4:Ext X.K m H m (upd H a (.lst (xs++[v]))):=Ext.upd (.inr ⟨xs,h1⟩)
     exact⟨a,xs,v,rfl,rfl,h1,by rw[<-h2.length];exact nL c,p' _ m _ e4 (S.write ha e (h2.append (ai.cons rw' ai.nil))) w5⟩
    ·rw[if_neg c] at p';exact ae p'
 | _=>exact ae p⟩
theorem IW:MD X "list.extend" IV:=⟨_,yp,λo w x v st H m Q S ro rw' p=>by
 cases o with
 | ref l=>
  cases w with
  | ref k=>
   unfold ah at ro rw'
   obtain⟨a,rfl,ha⟩:=ro
   obtain⟨b,rfl,hb⟩:=rw'
   have p':cI X.K m H (match st[l]?,st[k]? with | some (.lst ws),some (.lst zs)=>if ws.length+zs.length<=lim then .ok .non (st.set l (.lst (ws++zs))) else .bad | _,_=> .bad) Q:=p
   cases e:st[l]? with
   | none=>rw[e] at p';exact ae p'
   | some ob=>
    cases ob with
    | dct kvs=>rw[e] at p';exact ae p'
    | l9 kvs=>rw[e] at p';exact ae p'
    | wV kvs=>rw[e] at p';exact ae p'
    | zu kvs=>rw[e] at p';exact ae p'
    | kY kvs=>rw[e] at p';exact ae p'
    | ins _ _=>rw[e] at p';exact ae p'
    | oJ ns=>rw[e] at p';exact ae p'
    | lst ws=>
     cases e2:st[k]? with
     | none=>rw[e,e2] at p';exact ae p'
     | some Uw=>
      cases Uw with
      | dct kvs=>rw[e,e2] at p';exact ae p'
      | l9 kvs=>rw[e,e2] at p';exact ae p'
      | wV kvs=>rw[e,e2] at p';exact ae p'
      | zu kvs=>rw[e,e2] at p';exact ae p'
      | kY kvs=>rw[e,e2] at p';exact ae p'
      | ins _ _=>rw[e,e2] at p';exact ae p'
      | oJ ns=>rw[e,e2] at p';exact ae p'
      | lst zs=>
       rw[e,e2] at p'
       dsimp only at p'
       by_cases c:ws.length+zs.length<=lim
       ·rw[if_pos c] at p'
        obtain⟨xs,h1,h2⟩:=S.nH ha e
        obtain⟨ys,g1,g2⟩:=S.nH hb e2
        have e4:Ext X.K m H m (upd H a (.lst (xs++ys))):=Ext.upd (.inr ⟨xs,h1⟩)
        exact⟨a,b,xs,ys,rfl,rfl,h1,g1,by rw[<-h2.length,<-g2.length];exact dA c,p' _ m _ e4 (S.write ha e (h2.append g2)) w5⟩
       ·rw[if_neg c] at p';exact ae p'
  | _=>exact ae p
 | _=>exact ae p⟩
theorem qP{x name:Str}{id:String}{e:Expr}{go ga:GE}{p apos cpos:Pos}{mt:Wv->Wv->Hs->Re Wv}(hm:MD X id mt)(slot:Slot "list" name id)(hty:typeOf (.builtin id)=pure (.type "method_descriptor"))(ho:JE X (.Name x p) go)(ha:JE X e ga)
  (hst:Ww [e] X.env=[(false,eval e X.env)])(hline:(apos.endLine == cpos.line)=true):JE X (.Call (.Attribute (.Name x p) name apos) [e] [] cpos) (jC mt go ga):=by
 obtain⟨r,h1,h2⟩:=hm
 have hfew:((backTo cpos (Ww [e] X.env)).all (λx=> !x.1)&&(backToKw cpos (keywordEach [] X.env)).all (λx=>x.1.isSome)&&decide ([e].length+([]:List Keyword).length+(if([]:List Keyword).isEmpty then 0 else 1) < 30))=true:=by
  rw[hst];rfl
 refine JE.of (L_ PySem.F.plainAttrs_list slot hty h1 aP iq rfl hfew hline hst rfl) λρ st σ H m Q S R p=>?_
 refine ho.go S R (aC.bind p) λo st1 v m1 H1 p1 e1 S1 ro=>?_
 cases o with
 | ref l=>
  dsimp only at p1
  cases el:aq st1 l with
  | none=>rw[el] at p1;exact ae p1
  | some VS=>
   rw[el] at p1
   dsimp only at p1
   have Sy:=ro
   unfold ah at Sy
   obtain⟨a,rfl,hla⟩:=Sy
   obtain⟨xs,hq,_⟩:=S1.read hla el
   refine⟨.inl ⟨rfl,xs,hq⟩,?_⟩
   refine(wZ ha Ax hst).go S1 (R.mono e1) (ok:=λws st2=>aC X σ m H (match ws with | [w]=>(mt (.ref l) w st2).mK | _=> .bad) (Lc X.K m H Q)) ?_ λws st2 vs m2 H2 p2 e2 S2 rs=>?_
   ·have p3:=(aC.bind p1).imp e1 (λ_ _ q=>q)
    show aC X σ m1 H1 ((ga ρ st1).bind λx st1=>(ak ρ st1).bind λxs st2=> .ok (x::xs) st2) _
    cases eg:ga ρ st1 with
    | ok w st2=>rw[eg] at p3;exact p3
    | err c st2=>rw[eg] at p3;exact p3
    | bad=>rw[eg] at p3;exact p3
   ·match ws,rs,p2 with
    | [],rs,p2=>exact ae p2
    | [w],rs,p2=>
     obtain⟨v2,rfl,Ux⟩:=kq rs
     exact h2 (.ref l) w (.ref a) v2 st2 H2 m2 Q S2 (ah.mono e2 _ _ ro) Ux (cI.shift (aC.mK p2) (e1.trans e2))
    | _::_::_,rs,p2=>exact ae p2
 | _=>exact ae p1
end
section
variable {X:Cx}
def xa:List Wv->Hs->Re Wv
 | [.str z],st=> .ok (.str z) st
 | ws,st=>IT ws st
theorem vj:cH X (.type "str") (λxs H Q=>∃z,xs=[.str z]/\Q (.str z) H):=by
 intro pins s σ H xs us Q I r h
 obtain⟨z,rfl,q⟩:=h
 obtain⟨u,rfl,t,rfl⟩:=vals1 r
 exact PySem.P.str_of_str ⟨.str z,H,I,⟨t,rfl⟩,q⟩
theorem EB:b_ X (.type "str") xa:=by
 obtain⟨r,h1,h2⟩:=IU (X:=X)
 refine⟨_,vj.or h1,λws vs st H m Q S rs p=>?_⟩
 unfold xa at p
 split at p
 ·obtain⟨v,rfl,r1⟩:=kq rs
  obtain⟨rfl,hz⟩:=dB r1
  exact .inl ⟨_,rfl,p _ m H Ext.refl S (mkStr hz)⟩
 ·exact .inr (h2 ws vs st H m Q S rs p)
def ME:List Wv->Hs->Re Wv
 | [.int i,.int j],st=> .ok (.int (if j > i then j else i)) st
 | _,_=> .bad
def MF:List Wv->Hs->Re Wv
 | [.int i,.int j],st=> .ok (.int (if j < i then j else i)) st
 | _,_=> .bad
theorem IX(hc:X.calm=true):b_ X (.builtin "max") ME:=⟨_,ye hc,λws vs st H m Q S rs p=>by
 match ws,rs,p with
 | [],rs,p=>exact ae p
 | [x],rs,p=>cases x<;>exact ae p
 | x::y::z::t,rs,p=>cases x<;>cases y<;>exact ae p
 | [x,y],rs,p=>
  obtain⟨v,v',rfl,r1,r2⟩:=sJ rs
  cases x with
  | int i=>
   cases y with
   | int j=>cases aO r1;cases aO r2;exact⟨i,j,rfl,p _ m H Ext.refl S mkInt⟩
   | _=>exact ae p
  | _=>cases y<;>exact ae p⟩
theorem IY(hc:X.calm=true):b_ X (.builtin "min") MF:=⟨_,yf hc,λws vs st H m Q S rs p=>by
 match ws,rs,p with
 | [],rs,p=>exact ae p
 | [x],rs,p=>cases x<;>exact ae p
 | x::y::z::t,rs,p=>cases x<;>cases y<;>exact ae p
 | [x,y],rs,p=>
  obtain⟨v,v',rfl,r1,r2⟩:=sJ rs
  cases x with
  | int i=>
   cases y with
   | int j=>cases aO r1;cases aO r2;exact⟨i,j,rfl,p _ m H Ext.refl S mkInt⟩
   | _=>exact ae p
  | _=>cases y<;>exact ae p⟩
def yE:List Nat->List Wv->bA->Option bA
 | [],[],ρ=>some ρ
 | i::is,w::ws,ρ=>yE is ws (ρ.set i (some w))
 | _,_,_=>none
def Uy(is:List Nat)(w:Wv)(ρ:bA):Option bA:=match w with
 | .tup ws=>yE is ws ρ
 | _=>none
def Qa:List Nat->FW
 | []=>L2.ak
 | i::is=>L2.af (sr i) (Qa is)
theorem sQ{m:Mp}{H:Hp}{Q:St->Hp->Prop}:∀{is:List Nat}{ws:List Wv}{xs:List V}{ρ ρ':bA}{σ:St},ai X.K m H ws xs->aJ X.K m H ρ σ->yE is ws ρ=some ρ'->(∀σ',aJ X.K m H ρ' σ'->Q σ' H)->Qa is xs σ H Q
 | [],[],xs,ρ,ρ',σ,r,R,e,k=>by
  unfold ai at r
  subst r
  cases e
  exact⟨rfl,k σ R⟩
 | i::is,w::ws,xs,ρ,ρ',σ,r,R,e,k=>by
  unfold ai at r
  obtain⟨x,rr,rfl,h1,h2⟩:=r
  exact⟨x,rr,rfl,sQ (is:=is) h2 (R.set i h1) e k⟩
 | [],_::_,_,_,_,_,_,_,e,_=>by cases e
 | _::_,[],_,_,_,_,_,_,e,_=>by cases e
theorem sR:∀{is:List Nat}{ws:List Wv}{ρ ρ':bA},yE is ws ρ=some ρ'->ws.length=is.length
 | [],[],_,_,_=>rfl
 | _::is,_::ws,_,_,e=>congrArg (· +1) (sR (is:=is) (ws:=ws) e)
 | [],_::_,_,_,e=>by cases e
 | _::_,[],_,_,e=>by cases e
inductive Slots(X:Cx):List Expr->List Nat->Prop
 | nil:Slots X [] []
 | cons {x:Str} {p:Pos} {i:Nat} {es:List Expr} {is:List Nat}:X.N[i]? =some x->(Loc X.env.scope x/\(X.fn x=true\/X.env.scope.names.lookup x=some .local))->Slots X es is->Slots X (.Name x p::es) (i::is)
theorem pP(hN:X.N.Nodup):∀{es:List Expr}{is:List Nat},Slots X es is->LH X es (Qa is)
 | _,_,.nil=>DM
 | _,_,.cons h1 h2 r=>zI (j6 hN h1 h2.1 h2.2) (pP hN r) rfl
theorem sS:∀{es:List Expr}{is:List Nat},Slots X es is->(assignEach es X.env).length=is.length
 | _,_,.nil=>rfl
 | _,_,.cons _ _ r=>congrArg (· +1) (sS r)
theorem pQ:∀{es:List Expr}{is:List Nat},Slots X es is->(assignEach es X.env).findIdx? (·.1)=none
 | _,_,.nil=>rfl
 | _,_,.cons (x:=x) (p:=p) (es:=es) _ _ r=>by
  have q:=pQ r
  show List.findIdx? _ ((false,assign (.Name x p) X.env)::assignEach es X.env)=none
  rw[A9]
  simp[q]
def iK(is:List Nat)(g:GE):GS:=λρ st=>(g ρ st).a8 ρ λw st'=>match Uy is w ρ with
 | some ρ'=> .nx ρ' st'
 | none=> .bad
theorem EC{es:List Expr}{is:List Nat}{k:Nat}{e:Expr}{g:GE}{pos pos':Pos}(hN:X.N.Nodup)(hc:X.calm=true)(sl:Slots X es is)(h:JE X e g)(hs:swapsWith e (some (.Tuple es k pos')) pos.line X.env=pure false)(hw:swappedStores [.Tuple es k pos'] e X.env=pure none) :
  JS X (.Assign [.Tuple es k pos'] e pos) (iK is g) :=
 JS.of (zJ aP (Hf hc (pP hN sl) (sS sl) (pQ sl)) (by unfold swapsWithSole;exact hs) hw rfl) λρ st σ H m D S R p=>h.go S R (aR.bU R p) λw st1 v m1 H1 q e1 S1 r1=>by
  cases w with
  | tup ws=>
   have q':aR X m H (match yE is ws ρ with | some ρ'=> .nx ρ' st1 | none=> .bad) D:=q
   cases e2:yE is ws ρ with
   | none=>rw[e2] at q';exact ae q'
   | some ρ'=>
    rw[e2] at q'
    unfold ah at r1
    obtain⟨a,xs,rfl,f1,f2⟩:=r1
    exact⟨a,xs,rfl,eM.of f1,by rw[<-f2.length];exact sR e2,sQ f2 (R.mono e1) e2 λσ' R'=>q' σ' m1 H1 e1 S1 R'⟩
  | _=>exact ae q
open Classical in
end
def qQ(env:Env):List (Str×Wb)->List (Str×V_)->List (Str×V_)
 | [],acc=>acc
 | (n,k)::r,acc=>if k= .free then qQ env r ((n,(env.cells.lookup n).getD 0)::acc) else qQ env r acc
theorem sU(env:Env):∀(names:List (Str×Wb))(acc:List (Str×V_)),(∀y∈names,y.2= .free->∃c,env.cells.lookup y.1=some c)->
  (forIn names acc λx r=>match x with
   | (name,kind)=>if(kind == dh)=true then do let c <-cellOf env name;pure (qe ((name,c)::r)) else(pure (qe r):Sem _))=pure (qQ env names acc)
 | [],acc,_=>rfl
 | (n,k)::r,acc,h=>by
  have ih:=λacc=>sU env r acc λy hy=>h y (bN _ hy)
  rw[List.forIn_cons]
  by_cases hk:k= .free
  ·subst hk
   obtain⟨c,e⟩:=h (n,.free) cG rfl
   have e':env.cells.lookup n=some c:=e
   have cc:cellOf env n=pure c:=by unfold cellOf;rw[e']
   simp only[beq_self_eq_true,if_true,cc]
   have q:qQ env ((n,.free)::r) acc=qQ env r ((n,c)::acc):=by
    show(if dh= .free then qQ env r ((n,(env.cells.lookup n).getD 0)::acc) else _)=_
    rw[if_pos rfl,e']
    rfl
   rw[q,<-ih]
   rfl
  ·have hb:(k == dh)=false:=by simpa using hk
   simp only[hb,lU,if_false]
   have q:qQ env ((n,k)::r) acc=qQ env r acc:=by
    show(if k= .free then _ else qQ env r acc)=_
    rw[if_neg hk]
   rw[q,<-ih]
   rfl
theorem ED{env:Env}{scope:Scope}(h:∀y∈scope.names,y.2= .free->∃c,env.cells.lookup y.1=some c):closureFor scope env=pure (qQ env scope.names []):=by
 have q:=sU env scope.names [] h
 unfold closureFor
 first
  | (rw[<-q];rfl)
  | (simp only[bind_pure];exact q)
theorem qR{env:Env}:∀{names:List (Str×Wb)}{acc:List (Str×V_)}{y:Str}{c:V_},(∀y∈names,y.2= .free->∃c,env.cells.lookup y.1=some c)->(∀y c,acc.lookup y=some c->env.cells.lookup y=some c)->(qQ env names acc).lookup y=some c->env.cells.lookup y=some c
 | [],acc,y,c,_,ha,e=>ha y c e
 | (n,k)::r,acc,y,c,h,ha,e=>by
  unfold qQ at e
  by_cases hk:k= .free
  ·rw[if_pos hk] at e
   subst hk
   obtain⟨c0,e0⟩:=h (n,.free) cG rfl
   have Uz:env.cells.lookup n=some c0:=e0
   refine qR (λy hy=>h y (bN _ hy)) (λy' c' e'=>?_) e
   rw[dZ] at e'
   cases q:y' == n with
   | true=>
    rw[q] at e'
    have q':=eq_of_beq q
    subst q'
    rw[Uz] at e' ⊢
    exact e'
   | false=>rw[q] at e';exact ha y' c' e'
  ·rw[if_neg hk] at e
   exact qR (λy hy=>h y (bN _ hy)) ha e
theorem mP{env:Env}{y:Str}:∀{names:List (Str×Wb)}{acc:List (Str×V_)},((∃c,acc.lookup y=some c)\/(y,dh)∈names)->∃c,(qQ env names acc).lookup y=some c
 | [],acc,h=>by
  rcases h with h | h
  ·exact h
  ·cases h
 | (n,k)::r,acc,h=>by
  unfold qQ
  by_cases hk:k= .free
  ·rw[if_pos hk]
   refine mP ?_
   rw[dZ]
   cases q:y == n with
   | true=>exact .inl ⟨_,rfl⟩
   | false=>
    rcases h with h | h
    ·exact .inl h
    ·rcases List.mem_cons.mp h with h | h
     ·cases h;simp at q
     ·exact .inr h
  ·rw[if_neg hk]
   refine mP ?_
   rcases h with h | h
   ·exact .inl h
   ·rcases List.mem_cons.mp h with h | h
    ·cases h;exact absurd rfl hk
    ·exact .inr h
theorem lookup_mem{α β:Type}[BEq α][LawfulBEq α]{y:α}{k:β}:∀{names:List (α×β)},names.lookup y=some k->(y,k)∈names
 | [],h=>by cases h
 | (n,j)::r,h=>by
  rw[dZ] at h
  cases q:y == n with
  | true=>
   rw[q] at h
   cases h
   have q':=eq_of_beq q
   subst q'
   exact cG
  | false=>rw[q] at h;exact bN _ (lookup_mem h)
theorem ku{env:Env}:∀{names:List (Str×Wb)}{y:Str},(names.map λ(n,k)=>if(k == dh&&env.scope.kind == .function&&env.kindOf n == some .cell) then(n,di) else(n,k)).lookup y=
  (names.lookup y).map λk=>if(k == dh&&env.scope.kind == .function&&env.kindOf y == some .cell)=true then di else k
 | [],y=>rfl
 | (n,k)::r,y=>by
  have ih:=ku (env:=env) (names:=r) (y:=y)
  show jH y ((if(k == dh&&env.scope.kind == .function&&env.kindOf n == some .cell)=true then(n,di) else(n,k))::_)=_
  cases q:y == n with
  | true=>
   have q':=eq_of_beq q
   subst q'
   by_cases hc:(k == dh&&env.scope.kind == .function&&env.kindOf y == some .cell)=true
   ·rw[if_pos hc]
    simp only[dZ,beq_self_eq_true,mQ]
    rw[if_pos hc]
   ·rw[if_neg hc]
    simp only[dZ,beq_self_eq_true,mQ]
    rw[if_neg hc]
  | false=>
   by_cases hc:(k == dh&&env.scope.kind == .function&&env.kindOf n == some .cell)=true
   ·rw[if_pos hc];simp only[dZ,q];exact ih
   ·rw[if_neg hc];simp only[dZ,q];exact ih
open Classical in
def kx(ck:Hs->Prop)(gt:Wv->Hs->Re Bool)(ge:Wv->Hs->Re Wv)(l:Nat):List Wv->Hs->Option Hs
 | [],st=>some st
 | w::r,st=>match gt w st with
  | .ok false st1=>if ck st1 then kx ck gt ge l r st1 else none
  | .ok true st1=>(match ge w st1 with
   | .ok v st2=>(match jv (.ref l) v st2 with
    | .ok _ st3=>if ck st3 then kx ck gt ge l r st3 else none
    | _=>none)
   | _=>none)
  | _=>none
open Classical in
def me(ck:Hs->Prop)(gt:Wv->Hs->Re Bool)(ge:Wv->Hs->Re Wv)(l:Nat):List Wv->Hs->Re Unit
 | [],st=> .ok () st
 | w::r,st=>match gt w st with
  | .ok false st1=>if ck st1 then me ck gt ge l r st1 else .bad
  | .ok true st1=>(match ge w st1 with
   | .ok v st2=>(match jv (.ref l) v st2 with
    | .ok _ st3=>if ck st3 then me ck gt ge l r st3 else .bad
    | _=> .bad)
   | .err c st2=> .err c st2
   | .bad=> .bad)
  | .err c st1=> .err c st1
  | .bad=> .bad
theorem nX{ck:Hs->Prop}{gt:Wv->Hs->Re Bool}{ge:Wv->Hs->Re Wv}{l:Nat}{xb:Hs}:∀(ws:List Wv)(st:Hs),kx ck gt ge l ws st=some xb->me ck gt ge l ws st= .ok () xb
 | [],st,h=>by cases h;rfl
 | w::r,st,h=>by
  unfold kx at h
  unfold me
  cases eg:gt w st with
  | err c st1=>rw[eg] at h;cases h
  | bad=>rw[eg] at h;cases h
  | ok b st1=>
   rw[eg] at h
   cases b with
   | false=>
    dsimp only at h ⊢
    by_cases c:ck st1
    ·rw[if_pos c] at h ⊢;exact nX r st1 h
    ·rw[if_neg c] at h;cases h
   | true=>
    dsimp only at h ⊢
    cases ee:ge w st1 with
    | err c st2=>rw[ee] at h;cases h
    | bad=>rw[ee] at h;cases h
    | ok v st2=>
     rw[ee] at h
     dsimp only at h ⊢
     cases ea:jv (.ref l) v st2 with
     | err c st3=>rw[ea] at h;cases h
     | bad=>rw[ea] at h;cases h
     | ok u st3=>
      rw[ea] at h
      dsimp only at h ⊢
      by_cases c:ck st3
      ·rw[if_pos c] at h ⊢;exact nX r st3 h
      ·rw[if_neg c] at h;cases h
abbrev fL:=List (Str×Nat)
def jw(cs:fL)(ρ:bA):bA:=cs.map λp=>(ρ[p.2]?).getD none
def qS(cs:fL)(σ:St):St:=cs.map λp=>(σ[p.2]?).getD none
theorem EE{K:PySem.W.Frag}{m:Mp}{H:Hp}{ρ:bA}{σ:St}(cs:fL)(R:aJ K m H ρ σ):aJ K m H (jw cs ρ) (qS cs σ):=by
 refine⟨by unfold jw qS;simp,λi w e=>?_⟩
 unfold jw at e
 rw[fu] at e
 cases q:cs[i]? with
 | none=>rw[q] at e;cases e
 | some p=>
  rw[q] at e
  have e':(ρ[p.2]?).getD none=some w:=by simpa using e
  cases q2:ρ[p.2]? with
  | none=>rw[q2] at e';cases e'
  | some o=>
   rw[q2] at e'
   have e2:o=some w:=e'
   subst e2
   obtain⟨v,h1,h2⟩:=R.get _ _ q2
   refine⟨v,?_,h2⟩
   unfold qS
   rw[fu,q]
   simp[h1]
def uA(X:Cx)(scope:Scope)(C:V_):List (Str×V_):=cellsFrom (C+1) scope.names (qQ X.env scope.names [])
theorem kz:∀{names:List (Str×Wb)}(n:Nat)(acc:List (Str×V_))(h:Heap),(names.filter λy=>y.2 == .cell)=[]->cellsFrom n names acc=acc/\pushCells h names=h
 | [],_,_,_,_=>⟨rfl,rfl⟩
 | (y,k)::r,n,acc,h,e=>by
  cases q:(k == di) with
  | true=>rw[A_ (by exact q)] at e;cases e
  | false=>
   rw[Ba (by show ¬(k == di)=true;rw[q];exact bz)] at e
   unfold cellsFrom pushCells
   rw[q]
   exact kz n acc h e
theorem gE{x:Str}:∀{names:List (Str×Wb)}(n:Nat)(acc:List (Str×V_))(h:Heap),(names.filter λy=>y.2 == .cell)=[(x,.cell)]->cellsFrom n names acc=(x,n)::acc/\pushCells h names=h.push { cls:=.type "cell",data:=.cell none }
 | [],_,_,_,e=>by cases e
 | (y,k)::r,n,acc,h,e=>by
  cases q:(k == di) with
  | true=>
   rw[A_ (by exact q)] at e
   have e1:=(List.cons.inj e).1
   have e2:=(List.cons.inj e).2
   cases e1
   unfold cellsFrom pushCells
   rw[q]
   exact kz _ _ _ e2
  | false=>
   rw[Ba (by show ¬(k == di)=true;rw[q];exact bz)] at e
   unfold cellsFrom pushCells
   rw[q]
   exact gE n acc h e
theorem nY{M:Model}{A:V'}{E:We->Wd->Prop}{s:Wd}{scope:Scope}{globals:V_}{closure:List (Str×V_)}{qual:Str}{env:Env}{Q:Env->Wd->Prop}
  (hQ:Q (newEnv scope s.heap.objs.size globals (cellsFrom (s.heap.objs.size+1) scope.names closure) qual none .none (some env) builtinsNs) { s with heap:=pushCells (s.heap.push { cls:=.type "dict",data:=.dict #[] }) scope.names }) :
  Wx M A (newFunctionEnv scope globals closure [] qual none .none (some env)) Q E s:=by
 simp only[newFunctionEnv,D8,if_true]
 refine Wy (wpAny_alloc ?_)
 refine Wy (wpAny_layCells _ (λname kind cells=>by cases hkc:kind == di<;>simp[hkc]) _ _ _ _ ?_)
 rw[show({ s with heap:=s.heap.push { cls:=.type "dict",data:=.dict #[] } }:Wd).heap.objs.size=s.heap.objs.size+1 from uN ..]
 rw[List.forIn_nil]
 exact Wy (WD (WD hQ))
def eT(X:Cx)(scope:Scope)(x:Str)(cs:fL)(C:V_)(s0:Wd)(H0:Hp)(fp:List V_)(pn:List (V_×Obj))(E:We->Wd->Prop):Cx where
 prog:=X.prog
 w:=X.w
 K:=X.K
 mg:=X.mg
 base:=X.base
 A:=X.A
 N:=x::cs.map (·.1)
 s₀:=s0
 H₀:=H0
 env:=compEnvC scope (uA X scope C) C X.env
 outer:=X.stack
 stack:=X.stack
 ex:=fp
 fn:=λy=>scope.names.lookup y == some .cell
 calm:=X.calm
 pn:=pn
 xe:=E
structure cA(X:Cx)(scope:Scope)(x:Str)(cs:fL):Prop where
 kind:scope.kind= .function
 look:∀y∈scope.names,scope.names.lookup y.1=some y.2
 own:(scope.names.filter λy=>y.2 == .cell)=[]\/(scope.names.filter λy=>y.2 == .cell)=[(x,.cell)]
 var:scope.names.lookup x=some .local\/scope.names.lookup x=some .cell
 cap:∀y∈scope.names,y.2= .free->X.env.kindOf y.1=some .cell\/X.env.kindOf y.1=some .free
 at_:∀p∈cs,X.N[p.2]? =some p.1/\scope.names.lookup p.1=some .free
 nd:(x::cs.map (·.1)).Nodup
section
variable {X:Cx} {pins:List (V_×Obj)} {σ:St} {H:Hp} {s:Wd} {scope:Scope} {x:Str} {cs:fL}
theorem sV(I:Inv X pins σ H s){b:V_}(f:fJ X pins H b):b∉frs X.stack:=λz=>by
 rcases List.mem_cons.mp (I.qj b z) with q | q
 ·exact f.2.1 q
 ·exact f.2.2.1 q
theorem cA.has(S:cA X scope x cs)(ok:X.Ok):∀y∈scope.names,y.2= .free->∃c,X.env.cells.lookup y.1=some c:=λy hy e=>ok.has y.1 (S.cap y hy e)
theorem cA.Bb(S:cA X scope x cs){y:Str}(e:scope.names.lookup y=some .cell):y=x/\(scope.names.filter λy=>y.2 == .cell)=[(x,.cell)]:=by
 have h:(y,di)∈scope.names.filter λy=>y.2 == .cell:=List.mem_filter.mpr ⟨lookup_mem e,rfl⟩
 rcases S.own with z | z
 ·rw[z] at h;cases h
 ·rw[z] at h
  have:=List.mem_singleton.mp h
  cases this
  exact⟨rfl,z⟩
theorem cA.sub(S:cA X scope x cs)(ok:X.Ok){C:V_}{y:Str}{c:V_}(e:(uA X scope C).lookup y=some c):(c=C+1/\y=x/\(scope.names.filter λy=>y.2 == .cell)=[(x,.cell)])\/(X.env.cells.lookup y=some c/\scope.names.lookup y≠some .cell):=by
 have old:∀{y:Str}{c:V_},(qQ X.env scope.names []).lookup y=some c->X.env.cells.lookup y=some c:=λe=>qR (S.has ok) (λ_ _ z=>by cases z) e
 unfold uA at e
 rcases S.own with z | z
 ·rw[(kz _ _ X.base z).1] at e
  refine .inr ⟨old e,λq=>?_⟩
  rw[(S.Bb q).2] at z
  cases z
 ·rw[(gE _ _ X.base z).1,dZ] at e
  cases q:(y == x) with
  | true=>
   rw[q] at e
   cases e
   exact .inl ⟨rfl,eq_of_beq q,z⟩
  | false=>
   rw[q] at e
   exact .inr ⟨old e,λw=>by rw[(S.Bb w).1] at q;simp at q⟩
theorem cA.to(S:cA X scope x cs){C:V_}{y:Str}{c:V_}(e:(qQ X.env scope.names []).lookup y=some c)(n:scope.names.lookup y≠some .cell):(uA X scope C).lookup y=some c:=by
 unfold uA
 rcases S.own with z | z
 ·rw[(kz _ _ X.base z).1];exact e
 ·rw[(gE _ _ X.base z).1,dZ]
  have hx:scope.names.lookup x=some .cell:=by
   have hm:(x,di)∈scope.names.filter λy=>y.2 == .cell:=by rw[z];exact cG
   exact S.look _ (List.mem_filter.mp hm).1
  cases q:(y == x) with
  | true=>exact absurd (by rw[eq_of_beq q];exact hx) n
  | false=>exact e
theorem cA.IZ(S:cA X scope x cs){C:V_}{y:Str}(h:(compEnvC scope (uA X scope C) C X.env).kindOf y=some .cell\/(compEnvC scope (uA X scope C) C X.env).kindOf y=some .free):scope.names.lookup y=some .free\/scope.names.lookup y=some .cell:=by
 have q:(compEnvC scope (uA X scope C) C X.env).kindOf y=(scope.names.lookup y).map λk=>if(k == dh&&X.env.scope.kind == .function&&X.env.kindOf y == some .cell)=true then di else k:=ku
 rw[q] at h
 cases e:scope.names.lookup y with
 | none=>rw[e] at h;simp at h
 | some k=>
  rw[e] at h
  simp only[mQ,Option.some.injEq] at h
  by_cases hk:k= .free
  ·rw[hk];exact .inl rfl
  ·have hb:(k == dh)=false:=by simpa using hk
   rw[hb] at h
   simp only[Bool.false_and,lU,if_false] at h
   rcases h with h | h
   ·rw[h];exact .inr rfl
   ·exact absurd h hk
theorem cA.Bc(S:cA X scope x cs){C:V_}{y:Str}(e:scope.names.lookup y=some .free):(compEnvC scope (uA X scope C) C X.env).kindOf y=some .cell\/(compEnvC scope (uA X scope C) C X.env).kindOf y=some .free:=by
 have q:(compEnvC scope (uA X scope C) C X.env).kindOf y=(scope.names.lookup y).map λk=>if(k == dh&&X.env.scope.kind == .function&&X.env.kindOf y == some .cell)=true then di else k:=ku
 rw[q,e]
 simp only[mQ]
 split
 ·exact .inl rfl
 ·exact .inr rfl
theorem Bd{fp:List V_}{tk:Nat}{E:We->Wd->Prop}(S:cA X scope x cs)(I:Inv X pins σ H s)(hf:∀b∈fp,fJ X pins H b)(hl:∀b∈fp,b < s.heap.objs.size) :
  Inv (eT X scope x cs s.heap.objs.size s H fp (X.pn++pins) E) [] (none::qS cs σ) H { s with heap:=pushCells (s.heap.push { cls:=.type "dict",data:=.dict #[] }) scope.names,toks:=tk }:=by
 have keep:∀b o,s.heap.get? b=some o->(pushCells (s.heap.push { cls:=.type "dict",data:=.dict #[] }) scope.names).get? b=some o:=λb o e=>pushCells_keeps _ _ b o (a7 _ e)
 have ns:(pushCells (s.heap.push { cls:=.type "dict",data:=.dict #[] }) scope.names).Ns s.heap.objs.size λ_=>none:=(Heap.Ns.new s.heap (.type "dict")).keeps (pushCells_keeps _ _)
 have own:(scope.names.filter λy=>y.2 == .cell)=[(x,.cell)]->(pushCells (s.heap.push { cls:=.type "dict",data:=.dict #[] }) scope.names).IsCell (s.heap.objs.size+1) none:=λz=>by
  rw[(gE 0 [] _ z).2]
  have:=bM (s.heap.push { cls:=.type "dict",data:=.dict #[] }) (o:={ cls:=.type "cell",data:=.cell none }) rfl
  rw[uN] at this
  exact⟨_,this,rfl⟩
 generalize (pushCells (s.heap.push { cls:=.type "dict",data:=.dict #[] }) scope.names)=h2 at keep ns own ⊢
 have sub:=λ{y:Str}{c:V_}(e:(uA X scope s.heap.objs.size).lookup y=some c)=>S.sub I.ok e
 have cellK:∀y c,X.env.cells.lookup y=some c->∀v,s.heap.IsCell c v->h2.IsCell c v:=λy c _ v ⟨o,ho,hd⟩=>⟨o,keep c o ho,hd⟩
 have lt:∀{y:Str}{c:V_},X.env.cells.lookup y=some c->c < s.heap.objs.size:=λ{y c} e=>by
  obtain⟨v,z⟩:=I.cell y c e
  exact z.lt
 refine⟨⟨I.ok.mod,S.kind,I.ok.glob,I.ok.blt,ay _,(λy z c e1 e2=>?_),λy h=>?_,(λy c e1 e2=>?_),I.ok.hd,I.ok.frames,.inl rfl,λb hb=>⟨bx (hl b hb),λy c e=>?_⟩,I.bs,a5 I.ok.GU I.sz,λb o e hb=>?_,λb hb=>sV I (hf b hb),I.stack,I.qk⟩,rfl,I.bare,Un.kept keep,⟨_,ns,λi y v e1 e2 e3=>?_⟩,(λy c e=>?_),I.fresh,(λy c e=>?_),λp hp=>?_,I.hok.kept keep,by unfold eT qS;simp⟩
 ·rcases sub e1 with ⟨q1,q2,_⟩ | ⟨q1,_⟩<;>rcases sub e2 with ⟨q3,q4,_⟩ | ⟨q3,_⟩
  ·rw[q2,q4]
  ·exact absurd (lt q3) (by rw[q1];exact Nat.not_lt.mpr (mF _))
  ·exact absurd (lt q1) (by rw[q3];exact Nat.not_lt.mpr (mF _))
  ·exact I.ok.inj y z c q1 q3
 ·rcases S.IZ h with k | k
  ·obtain⟨c,e⟩:=mP (env:=X.env) (y:=y) (names:=scope.names) (acc:=[]) (.inr (lookup_mem k))
   exact⟨c,S.to e (by rw[k];decide)⟩
  ·obtain⟨rfl,z⟩:=S.Bb k
   refine⟨s.heap.objs.size+1,?_⟩
   show(uA X scope s.heap.objs.size).lookup y=_
   unfold uA
   rw[(gE _ _ s.heap z).1,dZ,beq_self_eq_true]
 ·rcases sub e2 with ⟨q1,_,_⟩ | ⟨_,q2⟩
  ·rw[q1];exact mF _
  ·exact absurd (eq_of_beq e1) q2
 ·rcases sub e with ⟨q1,_,_⟩ | ⟨q1,_⟩
  ·rw[q1];exact mE (Nat.lt_succ_of_lt (hl b hb))
  ·exact(hf b hb).2.2.2.2.1 y c q1
 ·rcases(hf b hb).2.2.2.1 with z | z
  ·exact I.ok.GV b o e z
  ·exact absurd (bp (aV e) (a5 I.ok.GU z)) (fO _)
 ·cases i with
  | zero=>cases e2
  | succ i=>
   have MG:(cs.map (·.1))[i]? =some y:=e1
   have Oz:(qS cs σ)[i]? =some (some v):=e2
   unfold qS at Oz
   rw[fu] at MG Oz
   cases q:cs[i]? with
   | none=>rw[q] at MG;cases MG
   | some p=>
    rw[q] at MG Oz
    have y1:p.1=y:=by simpa using MG
    have e4:(σ[p.2]?).getD none=some v:=by simpa using Oz
    have e5:σ[p.2]? =some (some v):=by
     cases q2:σ[p.2]? with
     | none=>rw[q2] at e4;cases e4
     | some o=>
      rw[q2] at e4
      have:o=some v:=e4
      rw[this]
    have hp:=S.at_ p (List.mem_iff_getElem?.mpr ⟨i,q⟩)
    rw[y1] at hp
    have kd:=S.cap (y,.free) (lookup_mem hp.2) rfl
    obtain⟨m,hn,hl'⟩:=I.loc
    obtain⟨u,r,l⟩:=hl' p.2 y v hp.1 e5 (.inr kd)
    refine⟨u,r,.inr ⟨S.Bc hp.2,?_⟩⟩
    rcases l with ⟨l,_⟩ | ⟨_,c,e,z⟩
    ·rcases kd with kd | kd
     ·have Qb:X.env.kindOf y=some .cell:=kd
      rw[Qb] at l;cases l
     ·have Qb:X.env.kindOf y=some .free:=kd
      rw[Qb] at l;cases l
    ·obtain⟨c',e'⟩:=mP (env:=X.env) (y:=y) (names:=scope.names) (acc:=[]) (.inr (lookup_mem hp.2))
     have e6:=S.to (C:=s.heap.objs.size) e' (by rw[hp.2];decide)
     rcases sub e6 with ⟨_,w1,w2⟩ | ⟨w1,_⟩
     ·have hm:(x,di)∈scope.names.filter λy=>y.2 == .cell:=by rw[w2];exact cG
      have:=S.look _ (List.mem_filter.mp hm).1
      rw[<-w1,hp.2] at this
      cases this
     ·rw[e] at w1
      cases w1
      exact⟨c,e6,cellK y c e _ z⟩
 ·rcases sub e with ⟨rfl,_,q2⟩ | ⟨q1,_⟩
  ·exact⟨none,own q2⟩
  ·obtain⟨v,z⟩:=I.cell y c q1
   exact⟨v,cellK y c q1 v z⟩
 ·rcases sub e with ⟨rfl,_,_⟩ | ⟨q1,_⟩
  ·exact I.hok.fresh (mF _)
  ·exact I.lW y c q1
 ·rw[gP] at hp
  obtain⟨e,n,ne,nf,d⟩:=I.pin p hp
  refine⟨keep _ _ e,n,bx (aV e),λz=>?_,d⟩
  rcases List.mem_cons.mp (I.qj p.1 z) with q | q
  ·exact ne q
  ·exact nf q
theorem Be{fp:List V_}{E:We->Wd->Prop}{Hb He:Hp}{sb se:Wd}{C:V_}{σ':St}{wG:List (V_×Obj)}(I:Inv X pins σ Hb sb)(hf:∀b∈fp,fJ X pins Hb b)(J:Inv (eT X scope x cs C sb Hb fp (X.pn++pins) E) wG σ' He se):Inv X pins σ He se:=by
 have un:Un (frs X.stack) fp Hb He sb.heap se.heap:=J.base
 exact I.Lw (ch:=fp) J.os un J.hok J.bare λb hb=>⟨(hf b hb).2.2.2.1,(hf b hb).2.1,(hf b hb).2.2.2.2.1,λp hp=>(hf b hb).2.2.2.2.2 p hp⟩
theorem pR{He:Hp}{se:Wd}{C:V_}{h2:Heap}(I:Inv X pins σ He se)(f:fJ X pins He C)(same:kZ C se.heap h2):Inv X pins σ He { se with heap:=h2 } :=
 I.turned (t':=se.toks) (it:=C) (λb o hb e=>(same.2 b hb).trans e) f.1 f.2.1 f.2.2.2.1 f.2.2.2.2.1 f.2.2.2.2.2
end
def Bf(X:Cx):Prop:=∃(env:Env)(outer:List Env)(L:V_),X.stack=env::outer/\env.frame=some L/\X.env.frame=some L
section
variable {X:Cx} {pins:List (V_×Obj)} {σ:St} {scope:Scope} {x:Str} {cs:fL}
end
structure Bg(Y:Cx->Prop)(P:Wc)(w:Wf)(K:PySem.W.Frag)(tg:Expr)(J:It)(fp:List V_)(it:V_)(tn:Nat->Heap->Prop):Prop where
 obj:∀i h,tn i h->∀b∈fp,∃o,h.get? b=some o/\∀v,o.data≠.cell v
 keep:∀i h h',tn i h->(∀b∈fp,∀o,h.get? b=some o->h'.get? b=some o)->tn i h'
 item:∀(X:Cx),X.prog=P->X.w=w->X.K=K->Y X->∀(i:Nat)(pins:List (V_×Obj))(s:Wd)(σ:St)(H:Hp)(E:We->Wd->Prop),Inv X pins σ H s->(∀b∈fp,fJ X pins H b)->tn i s.heap->J.go i H->Wx (model P w) X.A (pyNext (.ref it)) (λr s1=>∃u,r=some u/\
  Wx (model P w) X.A (letOwnedTupleGo tg (.ref it) u) (λ_ s2=>∃x H',Inv X pins σ H' s2/\RelV x u/\J.zr i H x H'/\tn (i+1) s2.heap/\∀b∈fp,H' b=none) E s1) E s
 done:∀(X:Cx),X.prog=P->X.w=w->X.K=K->Y X->∀(i:Nat)(pins:List (V_×Obj))(s:Wd)(σ:St)(H:Hp)(E:We->Wd->Prop),Inv X pins σ H s->(∀b∈fp,fJ X pins H b)->tn i s.heap->J.stop i H->Wx (model P w) X.A (pyNext (.ref it)) (λr s1=>r=none/\Inv X pins σ H s1) E s
 self:∀(A:V')(i:Nat)(s:Wd)(Q:We->Wd->Prop)(E:We->Wd->Prop),tn i s.heap->Q (.ref it) s->Wx (model P w) A (pyIter (.ref it)) Q E s
abbrev Calm(X:Cx):Prop:=X.calm=true
theorem _root_.L2.Turn.y{P:Wc}{w:Wf}{K:PySem.W.Frag}{tg:Expr}{J:It}{fp:List V_}{it:V_}{tn:Nat->Heap->Prop}(T:Turn P w K tg J fp it tn):Bg Calm P w K tg J fp it tn:=⟨T.obj,T.keep,T.item,T.done,T.self⟩
def MH(Y:Cx->Prop)(X:Cx):Prop:=∀{pins:List (V_×Obj)}{σ:St}{H:Hp}{s:Wd}(scope:Scope)(x:Str)(cs:fL)(C:V_)(s0:Wd)(fp:List V_)(pn:List (V_×Obj))(E:We->Wd->Prop),Inv X pins σ H s->Y (eT X scope x cs C s0 H fp pn E)
theorem sW{X:Cx}(hc:X.calm=true):MH Calm X:=λ_ _ _ _ _ _ _ _ _=>hc
def Ga(X:Cx)(ifs:List Expr)(g:GT):Prop:=∀(ρ:bA)(st:Hs)(σ:St)(H:Hp)(m:Mp)(Q:Bool->Hp->Prop),bw X.K m st H->aJ X.K m H ρ σ->gD X σ m H (g ρ st) Q->∀(pins:List (V_×Obj))(s:Wd),Inv X pins σ H s->
 Wx (model X.prog X.w) X.A (forIn ifs true λc r=>if r=true then do let ok <-isTrue c X.env (eval c X.env);pure (qe ok) else pure (qe r)) (TP X pins σ Q) X.xe s
section
variable {X:Cx}
theorem EF:Ga X [] (λ_ st=> .ok true st):=λρ st σ H m Q S R p pins s I=>wpAny_tests_nil ⟨H,I,p m H Ext.refl S⟩
theorem EG{c:Expr}{g:GT}(h:JT X c g):Ga X [c] g:=λρ st σ H m Q S R p pins s I=>wpAny_tests_one (h ρ st σ H m Q S R p pins s I)
theorem vm{pins:List (V_×Obj)}{σ:St}{ρ:bA}{scope:Scope}{x:Str}{cs:fL}{px pos:Pos}{elt iter:Expr}{ifs:List Expr}{gt:GT}{ge:GE}{ck:Hs->Prop}{ws:List Wv}{E:We->Wd->Prop}
  {use:Option (We->Sem Unit)}{Q:We->Wd->Prop}{res:Re Unit}
  {it:V_}{fp:List V_}{tn:Nat->Heap->Prop}{J':It}{H2:Hp}{s2:Wd}{m1:Mp}{st1:Hs}{Y:Cx->Prop}(fr:Bf X)(S:cA X scope x cs)(hY:MH Y X)(hH:IS X)(I2:Inv X pins σ H2 s2)(T:Bg Y X.prog X.w X.K (.Name x px) J' fp it tn)(t0:tn 0 s2.heap)(f2:∀b∈fp,fJ X pins H2 b)
  (S1:bw X.K m1 st1 H2)(R:aJ X.K m1 H2 ρ σ)(hck:ck (st1++[.lst []]))(run:me ck (λw=>gt (some w::jw cs ρ)) (λw=>ge (some w::jw cs ρ)) st1.length ws (st1++[.lst []])=res)(nb:res≠.bad)(hx:∀c UA,res≠.err c UA)
  (hE:∀C s0 H0 pn E,yD X.A H0->JE (eT X scope x cs C s0 H0 fp pn E) elt ge)(hT:∀C s0 H0 pn E,yD X.A H0->Ga (eT X scope x cs C s0 H0 fp pn E) ifs gt)
  (hgo:∀(k:Nat)(H:Hp)(m':Mp)(st:Hs),Ext X.K m1 H2 m' H->bw X.K m' st H->ck st->k < ws.length->J'.go k H)(hstop:∀(k:Nat)(H:Hp)(m':Mp)(st:Hs),Ext X.K m1 H2 m' H->bw X.K m' st H->ck st->k=ws.length->J'.stop k H)
  (hy:∀(k:Nat)(hk:k < ws.length)(H:Hp)(v:V)(H':Hp)(m':Mp)(st:Hs),Ext X.K m1 H2 m' H->bw X.K m' st H->ck st->J'.zr k H v H'->H'=H/\ah X.K m' H ws[k] v)
  (fin:∀(xb:Hs),res= .ok () xb->∀(D C:V_)(mm:Str->Option We)(m':Mp)(H':Hp)(s':Wd),Ext X.K m1 H2 m' H'->bw X.K m' xb H'->m'[st1.length]? =some D->Inv X pins σ H' s'->fJ X pins H' C->s'.heap.Ns C mm->(∀y c,X.env.cells.lookup y=some c->c≠C)->Wl (model X.prog X.w) X.A X.xe use Q (.ref D) C (.ok .next) s') :
  Wx (model X.prog X.w) X.A (newList []) (λacc s3=>Wx (model X.prog X.w) X.A (newFunctionEnv scope X.env.globals (qQ X.env scope.names []) [] X.env.qual none .none (some X.env)) (λcenv s4=>
   Wj (model X.prog X.w) X.A (.compStart (.ListComp elt [⟨.Name x px,iter,ifs,0⟩] scope pos) 0 (.ref it) acc { cenv with scope:=relabel scope X.env }) (Wl (model X.prog X.w) X.A X.xe use Q acc cenv.locals) s4) E s3) E s2:=by
 refine wpAny_newList ?_
 have I3:Inv X pins σ (upd H2 s2.heap.objs.size (.lst [])) { s2 with heap:=s2.heap.push { cls:=.type "list",data:=.seq ([]:List We).toArray } }:=I2.HQ (ys:=[]) (its:=[]) (t':=s2.toks) .nil (bV _)
 have UB:∀b∈fp,b < s2.heap.objs.size:=λb hb=>by
  obtain⟨o,e,_⟩:=T.obj _ _ t0 b hb
  exact aV e
 have hD:H2 s2.heap.objs.size=none:=I2.fresh
 have f3:∀b∈fp,fJ X pins (upd H2 s2.heap.objs.size (.lst [])) b:=λb hb=>⟨by rw[aZ (bx (UB b hb))];exact(f2 b hb).1,(f2 b hb).2⟩
 have S3:=S1.alloc (ws:=[]) (xs:=[]) hD ai.nil
 have e3:Ext X.K m1 H2 (m1++[s2.heap.objs.size]) (upd H2 s2.heap.objs.size (.lst [])):=Ext.more.trans (Ext.upd (.inl hD))
 have OA:(m1++[s2.heap.objs.size])[st1.length]? =some s2.heap.objs.size:=by
  rw[<-S1.len,jJ (ay _),mJ];rfl
 generalize MI:({ s2 with heap:=s2.heap.push { cls:=.type "list",data:=.seq ([]:List We).toArray } }:Wd)=s3 at I3
 have Sz:∀b o,s2.heap.get? b=some o->s3.heap.get? b=some o:=λb o e=>by rw[<-MI];exact a7 _ e
 have Qc:∀b∈fp,b < s3.heap.objs.size:=λb hb=>by
  obtain⟨o,e,_⟩:=T.obj _ _ t0 b hb
  exact aV (Sz b o e)
 generalize VT:s2.heap.objs.size=D at *
 generalize VU:upd H2 D (.lst [])=H3 at *
 generalize VV:m1++[D]=m3 at *
 have R3:aJ X.K m3 H3 (jw cs ρ) (qS cs σ):=(EE cs R).mono e3
 generalize hrr:jw cs ρ=ρc at *
 generalize hss:qS cs σ=σc at *
 refine nY ?_
 have Ic:=λE=>Bd (E:=E) (tk:=s3.toks) S I3 f3 Qc
 have SD:∀b o,s3.heap.get? b=some o->(pushCells (s3.heap.push { cls:=.type "dict",data:=.dict #[] }) scope.names).get? b=some o:=λb o e=>pushCells_keeps _ _ b o (a7 _ e)
 generalize (pushCells (s3.heap.push { cls:=.type "dict",data:=.dict #[] }) scope.names)=h4 at Ic SD ⊢
 have t4:tn 0 h4:=T.keep _ _ _ t0 λb _ o e=>SD b o (Sz b o e)
 let EX:We->Wd->Prop:=notedBy (model X.prog X.w) X.A (compEnvC scope (uA X scope s3.heap.objs.size) s3.heap.objs.size X.env) λe s'=>Wl (model X.prog X.w) X.A X.xe use Q (.ref D) s3.heap.objs.size (.error e) s'
 let Xc:=eT X scope x cs s3.heap.objs.size s3 H3 fp (X.pn++pins) EX
 have noted:∀{σ':St}{m:Mp}{H:Hp}{c:Str}{st:Hs},Ext X.K m1 H2 m H->res= .err c st->Lb Xc σ' m H c st:=λ_ er=>(hx _ _ er).elim
 have vis:Loc Xc.env.scope x/\(Xc.fn x=true\/Xc.env.scope.names.lookup x=some .local):=by
  rcases S.var with v | v
  ·exact⟨.inl (lookup_relabel_local v),.inr (lookup_relabel_local v)⟩
  ·have q:Xc.env.scope.names.lookup x=some .cell:=by
    show(scope.names.map _).lookup x=_
    rw[ku,v]
    rfl
   exact⟨.inr q,.inl (by show(scope.names.lookup x == some .cell)=true;rw[v];rfl)⟩
 have Qd:∀(H':Hp),(∀b∈fp,H' b=none)->∀b∈fp,fJ Xc [] H' b:=λH' hn b hb=>⟨hn b hb,bx (Qc b hb),sV I3 (f3 b hb),.inl hb,λy c e=>(by
  rcases S.sub I3.ok e with ⟨q1,_,_⟩ | ⟨q1,_⟩
  ·rw[q1];exact mE (Nat.lt_succ_of_lt (Qc b hb))
  ·exact(f3 b hb).2.2.2.2.1 y c q1),λp hp=>(f2 b hb).2.2.2.2.2 p (by have SF:p∈(X.pn++pins)++[]:=hp;rw[gP] at SF;exact SF)⟩
 let Pv:Nat->Wd->Prop:=λk s'=>∃z H' st m',Inv Xc [] (z::σc) H' s'/\tn k s'.heap/\(∀b∈fp,H' b=none)/\Ext X.K m3 H3 m' H'/\bw X.K m' st H'/\ck st/\me ck (λw=>gt (some w::ρc)) (λw=>ge (some w::ρc)) st1.length (ws.drop k) st=res
 have loop:∀s4:Wd,Pv 0 s4->Wj (model X.prog X.w) X.A (.compLoop (.ListComp elt [⟨.Name x px,iter,ifs,0⟩] scope pos) 0 (.ref it) (.ref D) (compEnvC scope (uA X scope s3.heap.objs.size) s3.heap.objs.size X.env)) (Wl (model X.prog X.w) X.A X.xe use Q (.ref D) s3.heap.objs.size) s4:=λs4 p0=>by
  refine codeAny_compLoop_tests (λn s'=>∃k,n=ws.length - k/\k<=ws.length/\Pv k s') ?_ ws.length ⟨0,by simp,bV _,p0⟩
  rintro n s5 ⟨k,rfl,hk,z5,H5,zL,m5,I5,SG,Oh,e5,S5,c5,dE⟩
  have Lg:=e3.trans e5
  by_cases hlt:k < ws.length
  ·refine a8 (T.item Xc rfl rfl rfl (hY _ _ _ _ _ _ _ _ I3) k [] s5 (z5::σc) H5 _ I5 (Qd H5 Oh) SG (hgo k H5 m5 zL Lg S5 c5 hlt)) λr s6 h6=>?_
   obtain⟨u,rfl,h6⟩:=h6
   show Wx (model X.prog X.w) X.A (pure () >>= λ_=>assign (.Name x px) Xc.env u) _ _ s6
   refine Wy (a8 h6 λ_ s7 h7=>?_)
   obtain⟨v,H7,I7,rv,yl,Qe,UC⟩:=h7
   obtain⟨rfl,UD⟩:=hy k hlt H5 v H7 m5 zL Lg S5 c5 yl
   have UE:=I7.pinned (Qd H7 UC) (T.obj _ _ Qe)
   refine wpAny_assign_Name (m_ (i:=0) UE S.nd rfl vis.1 rv (λs8 I8=>?_) vis.2)
   have SH:Inv Xc ([]++fo fp s7.heap) (some v::σc) H7 s8:=I8
   have R8:aJ X.K m5 H7 (some ws[k]::ρc) (some v::σc):=by
    have R5:=R3.mono e5
    refine⟨by simp[R5.len],λi w e=>?_⟩
    cases i with
    | zero=>
     cases e
     exact⟨v,rfl,UD⟩
    | succ i=>exact R5.get i w e
   have ed:ws.drop k=ws[k]::ws.drop (k+1):=AW hlt
   rw[ed] at dE
   unfold me at dE
   have back:∀{H':Hp}{s':Wd}{m':Mp}{st:Hs},Inv Xc ([]++fo fp s7.heap) (some v::σc) H' s'->Ext X.K m3 H3 m' H'->bw X.K m' st H'->ck st->me ck (λw=>gt (some w::ρc)) (λw=>ge (some w::ρc)) st1.length (ws.drop (k+1)) st=res->∃n',n' < ws.length - k/\∃k',n'=ws.length - k'/\k'<=ws.length/\Pv k' s' :=
    λ{H' s' m' st} I' e' S' c' r'=>⟨ws.length - (k+1),by omega,k+1,rfl,hlt,some v,H',st,m',I'.j7,T.keep _ _ _ Qe λb hb o e=>(I'.pin (b,o) (gN _ (gN _ (gM hb e)))).1,λb hb=>by
     obtain⟨o,e,_⟩:=T.obj _ _ Qe b hb
     exact(I'.pin (b,o) (gN _ (gN _ (gM hb e)))).2.1,e',S',c',r'⟩
   cases eg:gt (some ws[k]::ρc) zL with
   | err c Lh=>
    rw[eg] at dE
    refine WB (hT s3.heap.objs.size s3 H3 (X.pn++pins) EX (hH.at I3) (some ws[k]::ρc) zL (some v::σc) H7 m5 (λ_ _=>False) S5 R8 (by rw[eg];exact noted Lg dE.symm) ([]++fo fp s7.heap) s8 SH) (λ_ _ h9=>?_) λ_ _ z=>z
    obtain⟨_,_,z⟩:=h9
    exact z.elim
   | bad=>rw[eg] at dE;exact absurd dE.symm nb
   | ok b Lh=>
    rw[eg] at dE
    have Ld:=hT s3.heap.objs.size s3 H3 (X.pn++pins) EX (hH.at I3) (some ws[k]::ρc) zL (some v::σc) H7 m5 (λb' H'=>b'=b/\∃m',Ext X.K m5 H7 m' H'/\bw X.K m' Lh H') S5 R8 (by rw[eg];exact λm' H' e' S'=>⟨rfl,m',e',S'⟩) ([]++fo fp s7.heap) s8 SH
    refine WB Ld (λok s9 h9=>?_) λ_ _ z=>z
    obtain⟨H9,I9,rfl,m9,e9,S9⟩:=h9
    cases ok with
    | false=>
     dsimp only at dE
     by_cases c6:ck Lh
     ·rw[if_pos c6] at dE
      rw[if_neg bz]
      exact back I9 (e5.trans e9) S9 c6 dE
     ·rw[if_neg c6] at dE;exact absurd dE.symm nb
    | true=>
     dsimp only at dE
     rw[if_pos rfl]
     cases ee:ge (some ws[k]::ρc) Lh with
     | err c OB=>
      rw[ee] at dE
      refine WB (hE s3.heap.objs.size s3 H3 (X.pn++pins) EX (hH.at I3) (some ws[k]::ρc) Lh (some v::σc) H9 m9 (λ_ _=>False) S9 (R8.mono e9) (by rw[ee];exact noted (Lg.trans e9) dE.symm) ([]++fo fp s7.heap) s9 I9) (λ_ _ Qf=>?_) λ_ _ z=>z
      obtain⟨_,_,_,_,z⟩:=Qf
      exact z.elim
     | bad=>rw[ee] at dE;exact absurd dE.symm nb
     | ok w OB=>
      rw[ee] at dE
      dsimp only at dE
      cases ea:jv (.ref st1.length) w OB with
      | err c Qg=>rw[ea] at dE;exact absurd dE.symm nb
      | bad=>rw[ea] at dE;exact absurd dE.symm nb
      | ok w2 Qg=>
       rw[ea] at dE
       dsimp only at dE
       by_cases c8:ck Qg
       ·rw[if_pos c8] at dE
        have el:=hE s3.heap.objs.size s3 H3 (X.pn++pins) EX (hH.at I3) (some ws[k]::ρc) Lh (some v::σc) H9 m9 (λv' H'=>∃m',Ext X.K m9 H9 m' H'/\bw X.K m' OB H'/\ah X.K m' H' w v') S9 (R8.mono e9) (by rw[ee];exact λv' m' H' e' S' r'=>⟨m',e',S',r'⟩) ([]++fo fp s7.heap) s9 I9
        refine WB el (λu2 UG Qf=>?_) λ_ _ z=>z
        obtain⟨v2,Li,UH,r2,Qh,UI,UJ,Qi⟩:=Qf
        obtain⟨r,h1,h2⟩:=A8 (X:=Xc)
        have eA:=(e5.trans e9).trans UI
        have ro:ah X.K Qh Li (.ref st1.length) (.ref D):=by unfold ah;exact⟨D,rfl,eA.pre _ _ OA⟩
        have rd:=h2 (.ref st1.length) w (.ref D) v2 OB Li Qh (λ_ H'=>∃m',Ext X.K Qh Li m' H'/\bw X.K m' Qg H') UJ ro Qi (by rw[ea];exact λv' m' H' e' S' r'=>⟨m',e',S'⟩)
        refine WB (h1 ([]++fo fp s7.heap) UG (some v::σc) Li (.ref D) [v2] (.ref D) [u2] _ UH rfl (.cons r2 .nil) rd) (λ_ VW h11=>?_) λ_ _ z=>z
        obtain⟨_,Qj,UK,_,VX,UL,UM⟩:=h11
        exact back UK (eA.trans UL) UM c8 dE
       ·rw[if_neg c8] at dE;exact absurd dE.symm nb
  ·have ek:k=ws.length:=by omega
   subst ek
   refine a8 (T.done Xc rfl rfl rfl (hY _ _ _ _ _ _ _ _ I3) _ [] s5 (z5::σc) H5 _ I5 (Qd H5 Oh) SG (hstop _ H5 m5 zL Lg S5 c5 rfl)) λr s6 h6=>?_
   obtain⟨rfl,I6⟩:=h6
   rw[AX] at dE
   obtain⟨mm,UN,_⟩:=id I6.loc
   have fC:=I3.zK (H':=H5) (ay _) I6.free
   exact fin zL dE.symm D _ mm m5 H5 _ Lg S5 (e5.pre _ _ OA) (Be I3 f3 I6) fC UN fC.2.2.2.2.1
 have p0:Pv 0 { s3 with heap:=h4,toks:=s3.toks }:=⟨none,H3,st1++[Ob.lst []],m3,hss ▸ Ic EX,t4,λb hb=>(f3 b hb).1,Ext.refl,S3,hck,by rw[vn];exact run⟩
 exact codeAny_compStart_list (loop _ p0) (T.self X.A 0 _ _ _ t4 (loop _ p0))
end
abbrev Wk:=Option Nat×List Wv
def lp(w:Wk)(st:Hs):Prop:=match w.1 with
 | some l=>aq st l=some w.2
 | none=>True
structure sX(X:Cx)(w:Wk)(m1:Mp)(H1:Hp)(J':It):Prop where
 go:∀(k:Nat)(H:Hp)(m':Mp)(st:Hs),Ext X.K m1 H1 m' H->bw X.K m' st H->lp w st->k < w.2.length->J'.go k H
 stop:∀(k:Nat)(H:Hp)(m':Mp)(st:Hs),Ext X.K m1 H1 m' H->bw X.K m' st H->lp w st->k=w.2.length->J'.stop k H
 zr:∀(k:Nat)(hk:k < w.2.length)(H:Hp)(v:V)(H':Hp)(m':Mp)(st:Hs),Ext X.K m1 H1 m' H->bw X.K m' st H->lp w st->J'.zr k H v H'->H'=H/\ah X.K m' H w.2[k] v
abbrev GI:=bA->Hs->Re Wk
def Qk(Y:Cx->Prop)(X:Cx)(pins:List (V_×Obj))(σ:St)(tg:Expr)(R:It->Hp->Prop)(itv:We)(s2:Wd):Prop :=
 ∃(it:V_)(fp:List V_)(tn:Nat->Heap->Prop)(J:It)(H':Hp),itv= .ref it/\Inv X pins σ H' s2/\Bg Y X.prog X.w X.K tg J fp it tn/\tn 0 s2.heap/\(∀b∈fp,fJ X pins H' b)/\R J H'
def SI(Y:Cx->Prop)(X:Cx)(tg iter:Expr)(wi:TI):Prop:=∀(pins:List (V_×Obj))(s:Wd)(σ:St)(H:Hp)(R:It->Hp->Prop),Inv X pins σ H s->wi σ H R->
 Wx (model X.prog X.w) X.A (eval iter X.env) (λv s1=>Wx (model X.prog X.w) X.A (pyIter v) (Qk Y X pins σ tg R) X.xe s1) X.xe s
theorem _root_.L2.PI.y{X:Cx}{tg iter:Expr}{wi:TI}(h:PI X tg iter wi):SI Calm X tg iter wi:=λpins s σ H R I q=>a8 (h pins s σ H R I q) λ_ _ h1=>a8 h1 λ_ _ h2=>
 let ⟨it,fp,tn,J,H',e,I',T,r⟩:=h2;⟨it,fp,tn,J,H',e,I',T.y,r⟩
def OC(Y:Cx->Prop)(X:Cx)(tg iter:Expr)(gi:GI):Prop:=∃wi,SI Y X tg iter wi/\∀(ρ:bA)(st:Hs)(σ:St)(H:Hp)(m:Mp)(R:It->Hp->Prop),bw X.K m st H->aJ X.K m H ρ σ->
 aC X σ m H (gi ρ st) (λw st1=>∀(m1:Mp)(H1:Hp)(J':It),Ext X.K m H m1 H1->bw X.K m1 st1 H1->lp w st1->sX X w m1 H1 J'->R J' H1)->wi σ H R
def JI(X:Cx)(tg iter:Expr)(gi:GI):Prop:=∃wi,PI X tg iter wi/\∀(ρ:bA)(st:Hs)(σ:St)(H:Hp)(m:Mp)(R:It->Hp->Prop),bw X.K m st H->aJ X.K m H ρ σ->
 aC X σ m H (gi ρ st) (λw st1=>∀(m1:Mp)(H1:Hp)(J':It),Ext X.K m H m1 H1->bw X.K m1 st1 H1->lp w st1->sX X w m1 H1 J'->R J' H1)->wi σ H R
theorem JI.y{X:Cx}{tg iter:Expr}{gi:GI}(h:JI X tg iter gi):OC Calm X tg iter gi:=let ⟨wi,h1,h2⟩:=h;⟨wi,h1.y,h2⟩
def I0(w:Wv)(st:Hs):Re Wk:=match w with
 | .ref l=>(match aq st l with | some ws=> .ok (some l,ws) st | none=> .bad)
 | .tup ws=> .ok (none,ws) st
 | .nG ws=> .ok (none,ws) st
 | _=> .bad
def Bh(g:GE):GI:=λρ st=>(g ρ st).bind I0
section
variable {X:Cx}
theorem I_{tg iter:Expr}{g:GE}(h:JE X iter g):JI X tg iter (Bh g):=by
 refine⟨_,AY aP,λρ st σ H m Q S R p=>?_⟩
 refine h.go S R (aC.bind p) λw st1 v m1 H1 p1 e1 S1 rw'=>?_
 cases w with
 | ref l=>
  unfold ah at rw'
  obtain⟨a,rfl,hla⟩:=rw'
  unfold I0 at p1
  cases el:aq st1 l with
  | none=>simp only[el] at p1;exact ae p1
  | some ws=>
   simp only[el] at p1
   obtain⟨P9,q0,_⟩:=S1.read hla el
   refine⟨a,rfl,.inl ⟨⟨P9,q0⟩,p1 m1 H1 _ e1 S1 el ⟨λk H' m' st' e S' c hk=>?_,λk H' m' st' e S' c hk=>?_,λk hk H' v SJ m' st' e S' c y=>?_⟩⟩⟩
   ·obtain⟨xs,hq,rws⟩:=S'.read (e.pre _ _ hla) c
    have hx':k < xs.length:=by rw[<-rws.length];exact hk
    exact⟨xs,xs[k],hq,by simp[hx']⟩
   ·obtain⟨xs,hq,rws⟩:=S'.read (e.pre _ _ hla) c
    exact⟨xs,hq,by rw[<-rws.length,hk];exact ay _⟩
   ·obtain⟨xs,hq,rws⟩:=S'.read (e.pre _ _ hla) c
    obtain⟨ee,y⟩:=y
    refine⟨ee,?_⟩
    obtain⟨x',ex',qN⟩:=rws.get (i:=k) (w:=ws[k]) (dD hk)
    rw[y xs hq] at ex'
    cases ex'
    exact qN
 | tup ws=>
  unfold ah at rw'
  obtain⟨a,xs,rfl,hq,rws⟩:=rw'
  refine⟨a,rfl,.inr ⟨⟨xs,eM.of hq⟩,p1 m1 H1 _ e1 S1 trivial ⟨λk H' m' st' e S' c hk=>?_,λk H' m' st' e S' c hk=>?_,λk hk H' v SJ m' st' e S' c y=>?_⟩⟩⟩
  ·have hx':k < xs.length:=by rw[<-rws.length];exact hk
   exact⟨xs,xs[k],eM.of (e.tup _ _ hq),by simp[hx']⟩
  ·exact⟨xs,eM.of (e.tup _ _ hq),by rw[<-rws.length,hk];exact ay _⟩
  ·obtain⟨ee,y⟩:=y
   refine⟨ee,?_⟩
   obtain⟨x',ex',qN⟩:=(ai.mono e _ _ rws).get (i:=k) (w:=ws[k]) (dD hk)
   rw[y xs (eM.of (e.tup _ _ hq))] at ex'
   cases ex'
   exact qN
 | nG ws=>
  unfold ah at rw'
  obtain⟨a,xs,rfl,hq,rws⟩:=rw'
  refine⟨a,rfl,.inr ⟨⟨xs,.inr hq⟩,p1 m1 H1 _ e1 S1 trivial ⟨λk H' m' st' e S' c hk=>?_,λk H' m' st' e S' c hk=>?_,λk hk H' v SJ m' st' e S' c y=>?_⟩⟩⟩
  ·have hx':k < xs.length:=by rw[<-rws.length];exact hk
   exact⟨xs,xs[k],.inr hq,by simp[hx']⟩
  ·exact⟨xs,.inr hq,by rw[<-rws.length,hk];exact ay _⟩
  ·obtain⟨ee,y⟩:=y
   refine⟨ee,?_⟩
   obtain⟨x',ex',qN⟩:=(ai.mono e _ _ rws).get (i:=k) (w:=ws[k]) (dD hk)
   rw[y xs (.inr hq)] at ex'
   cases ex'
   exact qN
 | _=>exact ae p1
theorem Bi{lo:Int}{n:Nat}{m1:Mp}{H1:Hp}:sX X (none,br lo n) m1 H1 (FX lo n) where
 go:=λk H m' st e S c hk=>by
  have:(br lo n).length=n:=cz
  have hk':k < (br lo n).length:=hk
  rw[this] at hk';exact hk'
 stop:=λk H m' st e S c hk=>by
  have:(br lo n).length=n:=cz
  have hk':k=(br lo n).length:=hk
  rw[this] at hk';exact j8 hk'.symm
 zr:=λk hk H v H' m' st e S c y=>by
  obtain⟨y1,y2⟩:=y
  refine⟨y1,?_⟩
  have q:(br lo n)[k]'hk= .int (lo+k):=sO hk
  show ah X.K m' H ((br lo n)[k]'hk) v
  rw[q,y2]
  exact mkInt
def Bj(ws:List Wv)(st:Hs):Re Wk:=match ws with
 | [.int j]=>if bP j then .ok (none,br 0 j.toNat) st else .bad
 | _=> .bad
def xf(ws:List Wv)(st:Hs):Re Wk:=match ws with
 | [.int a,.int j]=>if bP a/\bP j then .ok (none,br a (j - a).toNat) st else .bad
 | _=> .bad
def Ja(g:GA):GI:=λρ st=>(g ρ st).bind Bj
def qT(g:GA):GI:=λρ st=>(g ρ st).bind xf
theorem MJ{tg a:Expr}{ga:GA}{p q:Pos}(hg:Gl X "range")(hm:X.mg "range"=none)(ha:JA X [a] ga)(hst:Ww [a] X.env=[(false,eval a X.env)]):JI X tg (.Call (.Name "range" p) [a] [] q) (Ja ga):=by
 refine⟨_,pA hg hm iq hst,λρ st σ H m Q S R p=>?_⟩
 refine ha.go S R (aC.bind p) λws st1 vs m1 H1 p1 e1 S1 rs=>?_
 match ws,rs,p1 with
 | [],rs,p1=>exact ae p1
 | x::y::t,rs,p1=>cases x<;>exact ae p1
 | [x],rs,p1=>
  obtain⟨v,rfl,r1⟩:=kq rs
  cases x with
  | int j=>
   cases aO r1
   unfold Bj at p1
   by_cases c:bP j
   ·simp only[if_pos c] at p1
    exact⟨j,rfl,c.1,c.2,p1 m1 H1 _ e1 S1 trivial Bi⟩
   ·simp only[if_neg c] at p1;exact ae p1
  | _=>exact ae p1
theorem MK{tg a b:Expr}{ga:GA}{p q:Pos}(hg:Gl X "range")(hm:X.mg "range"=none)(ha:JA X [a,b] ga)(hst:Ww [a,b] X.env=[(false,eval a X.env),(false,eval b X.env)])(IL:Ww [b] X.env=[(false,eval b X.env)]):JI X tg (.Call (.Name "range" p) [a,b] [] q) (qT ga):=by
 refine⟨_,pB hg hm iq hst IL,λρ st σ H m Q S R p=>?_⟩
 refine ha.go S R (aC.bind p) λws st1 vs m1 H1 p1 e1 S1 rs=>?_
 match ws,rs,p1 with
 | [],rs,p1=>exact ae p1
 | [x],rs,p1=>cases x<;>exact ae p1
 | x::y::z::t,rs,p1=>cases x<;>cases y<;>exact ae p1
 | [x,y],rs,p1=>
  obtain⟨v,v',rfl,r1,r2⟩:=sJ rs
  cases x with
  | int a=>
   cases y with
   | int j=>
    cases aO r1;cases aO r2
    unfold xf at p1
    by_cases c:bP a/\bP j
    ·simp only[if_pos c] at p1
     exact⟨a,j,rfl,⟨c.1.1,c.1.2,c.2.1,c.2.2⟩,p1 m1 H1 _ e1 S1 trivial Bi⟩
    ·simp only[if_neg c] at p1;exact ae p1
   | _=>exact ae p1
  | _=>cases y<;>exact ae p1
def xg:GI:=λ_ _=> .bad
theorem Bk{tg iter:Expr}:PI X tg iter (λ_ _ _=>False):=λ_ _ _ _ _ _ h=>h.elim
theorem vo{tg iter:Expr}:JI X tg iter xg:=⟨_,Bk,λρ st σ H m Q S R p=>p⟩
def e_(cs:fL)(gt:GT)(ge:GE)(ρ:bA)(w:Wk)(st:Hs):Re Wv:=match kx (lp w) (λv=>gt (some v::jw cs ρ)) (λv=>ge (some v::jw cs ρ)) st.length w.2 (st++[.lst []]) with
 | some xb=> .ok (.ref st.length) xb
 | none=> .bad
def fS(cs:fL)(gi:GI)(gt:GT)(ge:GE):GE:=λρ st=>(gi ρ st).bind λw st1=>e_ cs gt ge ρ w st1
theorem yF{st:Hs}{l:Nat}{ws:List Wv}{more:Hs}(h:aq st l=some ws):aq (st++more) l=some ws:=by
 unfold aq at h ⊢
 cases e:st[l]? with
 | none=>rw[e] at h;cases h
 | some o=>
  have hl:=(List.getElem?_eq_some_iff.mp e).1
  rw[fq hl,e]
  rw[e] at h
  exact h
theorem nZ{w:Wk}{st more:Hs}(h:lp w st):lp w (st++more):=by
 obtain⟨o,ws⟩:=w
 cases o with
 | none=>trivial
 | some l=>exact yF h
theorem xh{scope:Scope}{x:Str}{cs:fL}{px pos:Pos}{elt iter:Expr}{ifs:List Expr}{gi:GI}{gt:GT}{ge:GE}{use:Option (We->Sem Unit)}{Q:We->Wd->Prop}{P:Wv->Hs->Prop}
  {ρ:bA}{st:Hs}{σ:St}{H:Hp}{m:Mp}{pins:List (V_×Obj)}{s:Wd}{ps:Pos}
  {Y:Cx->Prop}(fr:Bf X)(CS:cA X scope x cs)(hc:MH Y X)(hH:IS X)(hi:OC Y X (.Name x px) iter gi)(hE:∀C s0 H0 fp pn E,yD X.A H0->JE (eT X scope x cs C s0 H0 fp pn E) elt ge)(hT:∀C s0 H0 fp pn E,yD X.A H0->Ga (eT X scope x cs C s0 H0 fp pn E) ifs gt)(hs:∀x,Wn iter X.env x=pure x)
  (S:bw X.K m st H)(R:aJ X.K m H ρ σ)(I:Inv X pins σ H s)(p:aC X σ m H (fS cs gi gt ge ρ st) P)
  (fin:∀(w:Wv)(xb:Hs)(v:V)(D C:V_)(mm:Str->Option We)(m':Mp)(H':Hp)(s':Wd),P w xb->Ext X.K m H m' H'->bw X.K m' xb H'->ah X.K m' H' w v->v= .ref D->Inv X pins σ H' s'->fJ X pins H' C->s'.heap.Ns C mm->Wl (model X.prog X.w) X.A X.xe use Q (.ref D) C (.ok .next) s') :
  Wx (model X.prog X.w) X.A (comprehension (.ListComp elt [⟨.Name x px,iter,ifs,0⟩] scope pos) scope X.env ps (newList []) false (eval iter X.env) use) Q X.xe s:=by
 obtain⟨wi,UO,hw⟩:=hi
 let R':It->Hp->Prop:=λJ' H1=>∃(w:Wk)(st1:Hs)(m1:Mp),aC X σ m H (e_ cs gt ge ρ w st1) P/\Ext X.K m H m1 H1/\bw X.K m1 st1 H1/\lp w st1/\sX X w m1 H1 J'
 have hr:=hw ρ st σ H m R' S R ((aC.bind p).imp Ext.refl λw st1 q m1 H1 J' e1 S1 c1 ML=>⟨w,st1,m1,q,e1,S1,c1,ML⟩)
 refine wpAny_comprehension_free (g:=⟨.Name x px,iter,ifs,0⟩) (gs:=[]) (cl:=qQ X.env scope.names []) rfl hs (ED (CS.has I.ok)) CS.kind (λy hy e=>by rw[CS.look y hy,e]) (a8 (UO pins s σ H R' I hr) λv s1 h1=>a8 h1 λitv s2 h2=>?_)
 obtain⟨it,fp,tn,J',H1,rfl,I2,T,t0,f2,w,st1,m1,q,e1,S1,c1,ML⟩:=h2
 unfold e_ at q
 cases run:kx (lp w) (λv=>gt (some v::jw cs ρ)) (λv=>ge (some v::jw cs ρ)) st1.length w.2 (st1++[.lst []]) with
 | none=>
  rw[run] at q
  exact ae q
 | some xb=>
  rw[run] at q
  refine vm (use:=use) (Q:=Q) fr CS hc hH I2 T t0 f2 S1 (R.mono e1) (nZ c1) (nX _ _ run) (by intro z;cases z) (λc' UP z=>by cases z) (λC s0 H0 pn E=>hE C s0 H0 fp pn E) (λC s0 H0 pn E=>hT C s0 H0 fp pn E) ML.go ML.stop ML.zr ?_
  intro UQ z D C mm m' H' s' e' S' OA I' fC ns _
  cases z
  exact fin _ xb (.ref D) D C mm m' H' s' q (e1.trans e') S' (by unfold ah;exact⟨D,rfl,OA⟩) rfl I' fC ns
theorem xi{scope:Scope}{x:Str}{cs:fL}{px pos:Pos}{elt iter:Expr}{ifs:List Expr}{gi:GI}{gt:GT}{ge:GE}
  {Y:Cx->Prop}(fr:Bf X)(CS:cA X scope x cs)(hc:MH Y X)(hH:IS X)(hi:OC Y X (.Name x px) iter gi)(hE:∀C s0 H0 fp pn E,yD X.A H0->JE (eT X scope x cs C s0 H0 fp pn E) elt ge)(hT:∀C s0 H0 fp pn E,yD X.A H0->Ga (eT X scope x cs C s0 H0 fp pn E) ifs gt)(hs:∀x,Wn iter X.env x=pure x) :
  JE X (.ListComp elt [⟨.Name x px,iter,ifs,0⟩] scope pos) (fS cs gi gt ge):=λρ st σ H m Q S R p pins s I=>by
 rw[eval_ListComp]
 refine xh (use:=none) fr CS hc hH hi hE hT hs S R I p ?_
 intro w xb v D C mm m' H' s' q e' S' rw' ev I' fC ns
 exact⟨mm,ns,λh' same=>⟨.ref D,H',pR I' fC same,rfl,ev ▸ q v m' H' e' S' rw'⟩⟩
theorem EH(i:Nat){scope:Scope}{x y:Str}{cs:fL}{px pos spos py:Pos}{elt iter:Expr}{ifs:List Expr}{gi:GI}{gt:GT}{ge:GE}(hN:X.N.Nodup)
  {Y:Cx->Prop}(fr:Bf X)(CS:cA X scope x cs)(hc:MH Y X)(hH:IS X)(hi:OC Y X (.Name x px) iter gi)(hE:∀C s0 H0 fp pn E,yD X.A H0->JE (eT X scope x cs C s0 H0 fp pn E) elt ge)(hT:∀C s0 H0 fp pn E,yD X.A H0->Ga (eT X scope x cs C s0 H0 fp pn E) ifs gt)(hs:∀x,Wn iter X.env x=pure x)
  (hx:X.N[i]? =some y)(hl:Loc X.env.scope y)(hf:X.fn y=true\/X.env.scope.names.lookup y=some .local) :
  JS X (.Assign [.Name y py] (.ListComp elt [⟨.Name x px,iter,ifs,0⟩] scope pos) spos) (a9 i (fS cs gi gt ge)):=by
 have sw:∃b,swapsWith (.ListComp elt [⟨.Name x px,iter,ifs,0⟩] scope pos) (some (.Name y py)) spos.line X.env=pure b:=⟨_,rfl⟩
 obtain⟨b,sw⟩:=sw
 cases b with
 | false=>exact vf i hN (xi fr CS hc hH hi hE hT hs) hx hl sw hf
 | true=>
  intro ρ st σ H m D S R p pins s I
  rw[exec_Assign_Name_used _ _ _ _ sw]
  refine Wy (wpAny_standAt (Wy ?_))
  show Wx _ X.A (do let _ <-comprehension (.ListComp elt [⟨.Name x px,iter,ifs,0⟩] scope pos) scope X.env _ (newList []) false (eval iter X.env) (some (assign (.Name y py) X.env))) _ _ s
  refine Wy (WB (xh (use:=some (assign (.Name y py) X.env)) (Q:=λ_ s'=>SP X pins D .next s') fr CS hc hH hi hE hT hs S R I (aR.bU R p) ?_) (λ_ s' hq=>WD (WD hq)) λ_ _ e=>e)
  intro w xb v D' C mm m' H' s' q e' S' rw' ev I' fC ns
  refine wpAny_assign_Name (pv (i:=i) I' hN hx hl (show RelV v (.ref D') by rw[ev];rfl) (λs2 I2 h2=>?_) hf)
  obtain⟨a,sb,ha⟩:=h2
  have hca:C≠a:=by
   rcases ha with z | z
   ·rw[z];exact fC.2.1
   ·exact bq (fC.2.2.2.2.1 y a z)
  exact⟨mm,ns.sameBut sb hca,λh' same=>⟨_,_,pR I2 fC same,q _ m' H' e' S' ((R.mono e').set i rw')⟩⟩
end
section
variable {X:Cx}
def Jb(n:Nat)(k:Int):Prop:=-(2 ^ 62)<=k/\k < 2 ^ 62/\n * k.toNat<=lim
instance {n k}:Decidable (Jb n k):=AZ _
def n6:fK
 | .ref l,.int n,st=>match st[l]? with
  | some (.lst ws)=>if Jb ws.length n then .ok (.ref st.length) (st++[.lst (aN n.toNat ws).flatten]) else .bad
  | _=> .bad
 | x,y,st=>AQ x y st
theorem lq{K:PySem.W.Frag}{m:Mp}{H:Hp}{ws:List Wv}{xs:List V}(r:ai K m H ws xs):∀n:Nat,ai K m H (aN n ws).flatten (aN n xs).flatten
 | 0=>ai.nil
 | n+1=>by
  rw[fP,nz,fP,nz]
  exact r.append (lq r n)
theorem EI:jg X (Wh .Mult) n6:=by
 obtain⟨r,h1,h2⟩:=Ex (X:=X)
 refine⟨_,eF.or HR h1,λx y a b st H m Q S rx ry p=>?_⟩
 unfold n6 at p
 split at p
 ·rename_i l n
  unfold ah at rx
  obtain⟨a1,rfl,hl⟩:=rx
  cases aO ry
  cases e:st[l]? with
  | none=>rw[e] at p;exact ae p
  | some o=>
   cases o with
   | dct kvs=>rw[e] at p;exact ae p
   | l9 kvs=>rw[e] at p;exact ae p
   | wV kvs=>rw[e] at p;exact ae p
   | zu kvs=>rw[e] at p;exact ae p
   | kY kvs=>rw[e] at p;exact ae p
   | ins _ _=>rw[e] at p;exact ae p
   | oJ ns=>rw[e] at p;exact ae p
   | lst ws=>
    rw[e] at p
    dsimp only at p
    by_cases c:Jb ws.length n
    ·rw[if_pos c] at p
     obtain⟨xs,q1,q2⟩:=S.nH hl e
     refine .inl ⟨a1,n,xs,rfl,rfl,q1,by have:=c.1;omega,by have:=c.2.1;omega,by rw[<-q2.length];exact dA c.2.2,λq hq=>?_⟩
     exact kf p Ext.refl S (lq q2 n.toNat) q hq
    ·rw[if_neg c] at p;exact ae p
 ·exact .inr (h2 x y a b st H m Q S rx ry p)
def Bl:List Wv->Hs->Re Wv
 | [.ref l],st=>match aq st l with
  | some ws=> .ok (.tup ws) st
  | none=> .bad
 | [.tup ws],st=> .ok (.tup ws) st
 | _,_=> .bad
theorem Jc:b_ X (.type "tuple") Bl:=⟨_,oS,λws vs st H m Q S rs p=>by
 match ws,rs,p with
 | [],rs,p=>exact ae p
 | x::y::t,rs,p=>cases x<;>exact ae p
 | [x],rs,p=>
  obtain⟨v,rfl,r1⟩:=kq rs
  cases x with
  | ref l=>
   unfold Bl at p
   unfold ah at r1
   obtain⟨a,rfl,hl⟩:=r1
   cases e:aq st l with
   | none=>simp only[e] at p;exact ae p
   | some ws=>
    simp only[e] at p
    obtain⟨xs,q1,q2⟩:=S.read hl e
    refine⟨a,xs,rfl,.inl ⟨q1,λq hq=>?_⟩⟩
    have e2:Ext X.K m H m (upd H q (.tup xs)):=Ext.upd (.inl hq)
    exact p (.ref q) m _ e2 (S.fresh hq) (by unfold ah;exact⟨q,xs,rfl,bc,ai.mono e2 _ _ q2⟩)
  | tup ws=>
   have r1':=r1
   unfold ah at r1'
   obtain⟨a,xs,rfl,q1,q2⟩:=r1'
   exact⟨a,xs,rfl,.inr ⟨eM.of q1,p _ m H Ext.refl S r1⟩⟩
  | _=>exact ae p⟩
end
end J
namespace JL
open PySem PyProof.Rows
def Ik(p:WG):Prop:=∃n t,p.1=fN n t
def kn(p:WG):Int:=numOf p.1
section
variable {prog:Wc} {w:Wf} {A:V'} {E:We->Wd->Prop} {s:Wd}
def gp(left:Bool)(key:WG)(arr:Array WG)(base i:Nat):Bool:=if left then decide (K arr (base+i) < kn key) else !decide (kn key < K arr (base+i))
end
section
variable {α:Type} {f:α->Int} {A B:List α}
end
section
variable {prog:Wc} {w:Wf} {A:V'} {E:We->Wd->Prop} {s:Wd}
end
section
variable {α:Type} {f:α->Int} {A B:List α}
theorem drop_take{i n:Nat}(h:i<=n):A.drop i=(A.take n).drop i++A.drop n:=by
 have h1:=EJ n A
 have h2:=congrArg (List.drop i) h1
 rw[List.drop_append] at h2
 rw[<-h2]
 by_cases c:n<=A.length
 ·rw[nj,Nat.min_eq_left c,EK h,vn]
 ·rw[Jd (show A.length<=n by exact Nat.le_of_not_le ‹_›),List.drop_nil]
end
theorem qU{a:Array WG}(i n:Nat):(a.extract i n).toList=(a.toList.take n).drop i:=by
 rw[MM,Je,List.drop_take]
section
variable {prog:Wc} {w:Wf} {A:V'} {E:We->Wd->Prop} {s:Wd}
end
section
variable {prog:Wc} {w:Wf} {A₀:V'} {E:We->Wd->Prop} {s:Wd}
end
section
variable {prog:Wc} {w:Wf} {A:V'} {E:We->Wd->Prop} {s:Wd} {P:Array (Nat×Nat×Nat)} {g:Nat}
end
section
variable {prog:Wc} {w:Wf} {A:V'} {E:We->Wd->Prop} {s:Wd} {P:Array (Nat×Nat×Nat)} {g:Nat}
end
section
variable {prog:Wc} {w:Wf} {A₀:V'} {E:We->Wd->Prop} {s:Wd}
end
section
variable {prog:Wc} {w:Wf} {A₀:V'} {E:We->Wd->Prop} {s:Wd}
end
section
variable {prog:Wc} {w:Wf} {A:V'} {E:We->Wd->Prop} {s:Wd}
end
end JL
namespace J
open PySem PySem.Spec PyProof.Rows L2
section
variable {X:Cx}
def intsOf:List Wv->Option (List Int)
  | []=>some []
  | .int b::r=>(match intsOf r with | some l=>some (b::l) | none=>none)
  | _=>none
theorem gU:∀ns:List Int,intsOf (ns.map Wv.int)=some ns
  | []=>rfl
  | n::r=>by rw[bb];unfold intsOf;rw[gU r]
theorem gW{K:PySem.W.Frag}{m:Mp}{H:Hp}:∀{ws:List Wv}{xs:List V}{bs:List Int},ai K m H ws xs->intsOf ws=some bs->xs=bs.map V.int
  | [],xs,bs,r,h=>by
    unfold ai at r
    cases h
    exact r
  | w::ws,xs,bs,r,h=>by
    unfold ai at r
    obtain⟨x,t,rfl,r1,r2⟩:=r
    cases w with
    | int b=>
      unfold intsOf at h
      cases e:intsOf ws with
      | none=>rw[e] at h;cases h
      | some l=>
        rw[e] at h
        cases h
        unfold ah at r1
        rw[r1,gW r2 e]
        rfl
    | _=>cases h
theorem kA:∀{ns:List Int}{its:List We},Vals (ns.map V.int) its->∃xs:List (Int×Tok),its=xs.map (λp=>fN p.1 p.2)/\xs.map (·.1)=ns
  | [],its,r=>by cases r;exact⟨[],rfl,rfl⟩
  | n::ns,its,r=>by
    cases r with
    | cons h t=>
      obtain⟨tk,rfl⟩:=h
      obtain⟨xs,e1,e2⟩:=kA t
      exact⟨(n,tk)::xs,by rw[e1];rfl,by rw[<-e2];rfl⟩
theorem lr(xs:List (Int×Tok))(i:Nat):numAt xs.toArray i=(xs.map (·.1)).getD i 0:=by
  unfold numAt
  rw[List.getElem?_toArray,vp,fu]
theorem n8(xs:List (Int×Tok)):∀k,preSum (numAt xs.toArray) k=((xs.map (·.1)).take k).sum
  | 0=>by simp[preSum]
  | k+1=>by
    unfold preSum
    rw[n8 xs k,lr]
    rw[PySem.sum_take_succ]
theorem yG(hc:X.calm=true):cH X (.builtin "sum") (λxs H Q=>∃(p:V_)(ns:List Int),xs=[.ref p]/\jY X.K H p (ns.map V.int)/\Q (.int ns.sum) H):=by
  intro pins s σ H xs us Q I r h
  obtain⟨p,ns,rfl,hq,q⟩:=h
  obtain⟨u,rfl,rx⟩:=vals1 r
  cases rx
  obtain⟨its,r',pl,hz⟩:=I.list hq
  obtain⟨xs,rfl,rfl⟩:=kA r'
  have hl:=pl.isList
  have e:(xs.map λp=>fN p.1 p.2).toArray=intItems xs.toArray:=by unfold intItems;simp
  rw[e] at hl
  refine sum_intListG (I.ok.hd hc) hl λh' tk t' hk=>⟨.int _,H,I.kept hk,⟨t',?_⟩,q⟩
  rw[n8,List.take_of_length_le (by simp)]
def yH:List Wv->Hs->Re Wv
  | [.ref l],st=>match aq st l with
    | some ws=>(match intsOf ws with | some ns=> .ok (.int ns.sum) st | none=> .bad)
    | none=> .bad
  | _,_=> .bad
theorem Jf(hc:X.calm=true):b_ X (.builtin "sum") yH:=⟨_,yG hc,λws vs st H m Q S rs p=>by
  match ws,rs,p with
  | [],rs,p=>exact ae p
  | x::y::t,rs,p=>cases x<;>exact ae p
  | [x],rs,p=>
    obtain⟨v,rfl,r1⟩:=kq rs
    cases x with
    | ref l=>
      unfold yH at p
      unfold ah at r1
      obtain⟨a,rfl,hl⟩:=r1
      cases e:aq st l with
      | none=>simp only[e] at p;exact ae p
      | some ws=>
        simp only[e] at p
        cases e2:intsOf ws with
        | none=>simp only[e2] at p;exact ae p
        | some bs=>
          simp only[e2] at p
          obtain⟨xs,q1,q2⟩:=S.read hl e
          have q3:=gW q2 e2
          subst q3
          exact⟨a,bs,rfl,q1,p _ m H Ext.refl S mkInt⟩
    | _=>exact ae p⟩
def yI(n:Int)(r:List Int):Int:=r.foldl (λa b=>if b > a then b else a) n
def yJ(n:Int)(r:List Int):Int:=r.foldl (λa b=>if b < a then b else a) n
theorem Bm:∀(r:List Int)(n:Int),yI n r∈n::r/\∀a∈n::r,a<=yI n r
  | [],n=>by simp[yI]
  | b::r,n=>by
    have e:yI n (b::r)=yI (if b > n then b else n) r:=rfl
    obtain⟨h1,h2⟩:=Bm r (if b > n then b else n)
    rw[e]
    constructor
    · rcases List.mem_cons.mp h1 with z | z
      · rw[z];split<;>simp
      · simp[z]
    · intro a ha
      have hn:n<=yI (if b > n then b else n) r/\b<=yI (if b > n then b else n) r:=by
        have q:=h2 _ cG
        revert q
        split<;>intro q<;>constructor<;>omega
      rcases List.mem_cons.mp ha with z | z
      · rw[z];exact hn.1
      · rcases List.mem_cons.mp z with z | z
        · rw[z];exact hn.2
        · exact h2 a (bN _ z)
theorem Bn:∀(r:List Int)(n:Int),yJ n r∈n::r/\∀a∈n::r,yJ n r<=a
  | [],n=>by simp[yJ]
  | b::r,n=>by
    have e:yJ n (b::r)=yJ (if b < n then b else n) r:=rfl
    obtain⟨h1,h2⟩:=Bn r (if b < n then b else n)
    rw[e]
    constructor
    · rcases List.mem_cons.mp h1 with z | z
      · rw[z];split<;>simp
      · simp[z]
    · intro a ha
      have hn:yJ (if b < n then b else n) r<=n/\yJ (if b < n then b else n) r<=b:=by
        have q:=h2 _ cG
        revert q
        split<;>intro q<;>constructor<;>omega
      rcases List.mem_cons.mp ha with z | z
      · rw[z];exact hn.1
      · rcases List.mem_cons.mp z with z | z
        · rw[z];exact hn.2
        · exact h2 a (bN _ z)
theorem MN{n M:Int}{r:List Int}(h:M∈n::r)(k:∀a∈n::r,a<=M):M=yI n r:=by
  obtain⟨h1,h2⟩:=Bm r n
  have:=h2 M h
  have:=k _ h1
  omega
theorem MO{n M:Int}{r:List Int}(h:M∈n::r)(k:∀a∈n::r,M<=a):M=yJ n r:=by
  obtain⟨h1,h2⟩:=Bn r n
  have:=h2 M h
  have:=k _ h1
  omega
theorem pS{l:List Int}{i:Nat}(h:i < l.length):l.getD i 0∈l:=by
  rw[vp,dD h]
  exact List.getElem_mem h
theorem yK(hc:X.calm=true):cH X (.builtin "max") (λxs H Q=>∃(p:V_)(n:Int)(ns:List Int),xs=[.ref p]/\jY X.K H p ((n::ns).map V.int)/\Q (.int (yI n ns)) H):=by
  intro pins s σ H xs us Q I r h
  obtain⟨p,n,ns,rfl,hq,q⟩:=h
  obtain⟨u,rfl,rx⟩:=vals1 r
  cases rx
  obtain⟨its,r',pl,hz⟩:=I.list hq
  obtain⟨xs,rfl,e0⟩:=kA r'
  have hl:=pl.isList
  have e:(xs.map λp=>fN p.1 p.2).toArray=intItems xs.toArray:=by unfold intItems;simp
  rw[e] at hl
  have hsz:xs.length=(n::ns).length:=by rw[<-e0];simp
  have hs0:0 < xs.toArray.size:=by simp[hsz]
  refine max_intList (I.ok.hd hc) hl hs0 λv h' tk hv hk=>?_
  obtain⟨t,rfl⟩:=intItems_at hv
  obtain⟨h1,h2⟩:=PySem.argBest_gt (numAt xs.toArray) (xs.toArray.size - 1)
  refine⟨.int _,H,I.kept hk,⟨t,?_⟩,q⟩
  congr 1
  have hn:=λi=>lr xs i
  rw[e0] at hn
  refine MN ?_ λa ha=>?_
  · rw[hn]
    refine pS ?_
    have:xs.toArray.size=(n::ns).length:=by simp[hsz]
    omega
  · obtain⟨j,hj,rfl⟩:=List.mem_iff_getElem.mp ha
    have q2 := h2 j (by have : xs.toArray.size = (n :: ns).length := by simp [hsz]
                        omega)
    rw[hn j,vp,dD hj] at q2
    exact q2
theorem yL(hc:X.calm=true):cH X (.builtin "min") (λxs H Q=>∃(p:V_)(n:Int)(ns:List Int),xs=[.ref p]/\jY X.K H p ((n::ns).map V.int)/\Q (.int (yJ n ns)) H):=by
  intro pins s σ H xs us Q I r h
  obtain⟨p,n,ns,rfl,hq,q⟩:=h
  obtain⟨u,rfl,rx⟩:=vals1 r
  cases rx
  obtain⟨its,r',pl,hz⟩:=I.list hq
  obtain⟨xs,rfl,e0⟩:=kA r'
  have hl:=pl.isList
  have e:(xs.map λp=>fN p.1 p.2).toArray=intItems xs.toArray:=by unfold intItems;simp
  rw[e] at hl
  have hsz:xs.length=(n::ns).length:=by rw[<-e0];simp
  have hs0:0 < xs.toArray.size:=by simp[hsz]
  refine min_intList (I.ok.hd hc) hl hs0 λv h' tk hv hk=>?_
  obtain⟨t,rfl⟩:=intItems_at hv
  obtain⟨h1,h2⟩:=PySem.argBest_lt (numAt xs.toArray) (xs.toArray.size - 1)
  refine⟨.int _,H,I.kept hk,⟨t,?_⟩,q⟩
  congr 1
  have hn:=λi=>lr xs i
  rw[e0] at hn
  refine MO ?_ λa ha=>?_
  · rw[hn]
    refine pS ?_
    have:xs.toArray.size=(n::ns).length:=by simp[hsz]
    omega
  · obtain⟨j,hj,rfl⟩:=List.mem_iff_getElem.mp ha
    have q2 := h2 j (by have : xs.toArray.size = (n :: ns).length := by simp [hsz]
                        omega)
    rw[hn j,vp,dD hj] at q2
    exact q2
def mf:List Wv->Hs->Re Wv
  | [.ref l],st=>match aq st l with
    | some ws=>(match intsOf ws with | some (n::r)=> .ok (.int (yI n r)) st | _=> .bad)
    | none=> .bad
  | ws,st=>ME ws st
def mh:List Wv->Hs->Re Wv
  | [.ref l],st=>match aq st l with
    | some ws=>(match intsOf ws with | some (n::r)=> .ok (.int (yJ n r)) st | _=> .bad)
    | none=> .bad
  | ws,st=>MF ws st
theorem b_.or{f:We}{op op':List Wv->Hs->Re Wv}(g:List Wv->Hs->Re Wv)(h:b_ X f op)(h':b_ X f op')(k:∀ws st,g ws st=op ws st\/g ws st=op' ws st):b_ X f g:=by
  obtain⟨r,h1,h2⟩:=h
  obtain⟨r',F2,h2'⟩:=h'
  refine⟨_,h1.or F2,λws vs st H m Q S rs p=>?_⟩
  rcases k ws st with e | e
  · rw[e] at p;exact .inl (h2 ws vs st H m Q S rs p)
  · rw[e] at p;exact .inr (h2' ws vs st H m Q S rs p)
def Bo:List Wv->Hs->Re Wv
  | [.ref l],st=>match aq st l with
    | some ws=>(match intsOf ws with | some (n::r)=> .ok (.int (yI n r)) st | _=> .bad)
    | none=> .bad
  | _,_=> .bad
def Bp:List Wv->Hs->Re Wv
  | [.ref l],st=>match aq st l with
    | some ws=>(match intsOf ws with | some (n::r)=> .ok (.int (yJ n r)) st | _=> .bad)
    | none=> .bad
  | _,_=> .bad
theorem EL(hc:X.calm=true):b_ X (.builtin "max") Bo:=⟨_,yK hc,λws vs st H m Q S rs p=>by
  match ws,rs,p with
  | [],rs,p=>exact ae p
  | x::y::t,rs,p=>cases x<;>exact ae p
  | [x],rs,p=>
    obtain⟨v,rfl,r1⟩:=kq rs
    cases x with
    | ref l=>
      unfold Bo at p
      unfold ah at r1
      obtain⟨a,rfl,hl⟩:=r1
      cases e:aq st l with
      | none=>simp only[e] at p;exact ae p
      | some ws=>
        simp only[e] at p
        cases e2:intsOf ws with
        | none=>simp only[e2] at p;exact ae p
        | some bs=>
          cases bs with
          | nil=>simp only[e2] at p;exact ae p
          | cons n bs=>
            simp only[e2] at p
            obtain⟨xs,q1,q2⟩:=S.read hl e
            have q3:=gW q2 e2
            subst q3
            exact⟨a,n,bs,rfl,q1,p _ m H Ext.refl S mkInt⟩
    | _=>exact ae p⟩
theorem EM(hc:X.calm=true):b_ X (.builtin "min") Bp:=⟨_,yL hc,λws vs st H m Q S rs p=>by
  match ws,rs,p with
  | [],rs,p=>exact ae p
  | x::y::t,rs,p=>cases x<;>exact ae p
  | [x],rs,p=>
    obtain⟨v,rfl,r1⟩:=kq rs
    cases x with
    | ref l=>
      unfold Bp at p
      unfold ah at r1
      obtain⟨a,rfl,hl⟩:=r1
      cases e:aq st l with
      | none=>simp only[e] at p;exact ae p
      | some ws=>
        simp only[e] at p
        cases e2:intsOf ws with
        | none=>simp only[e2] at p;exact ae p
        | some bs=>
          cases bs with
          | nil=>simp only[e2] at p;exact ae p
          | cons n bs=>
            simp only[e2] at p
            obtain⟨xs,q1,q2⟩:=S.read hl e
            have q3:=gW q2 e2
            subst q3
            exact⟨a,n,bs,rfl,q1,p _ m H Ext.refl S mkInt⟩
    | _=>exact ae p⟩
theorem EN(hc:X.calm=true):b_ X (.builtin "max") mf:=b_.or mf (EL hc) (IX hc) λws st=>by
  unfold mf Bo
  split
  · exact .inl rfl
  · exact .inr rfl
theorem EO(hc:X.calm=true):b_ X (.builtin "min") mh:=b_.or mh (EM hc) (IY hc) λws st=>by
  unfold mh Bp
  split
  · exact .inl rfl
  · exact .inr rfl
end
section
variable {X:Cx}
theorem pT{z:PySem.Str}:aM z=true↔∀c∈z.cps.toList,c < 1114112:=by
 unfold aM
 rw[F9]
 constructor
 ·intro h c hc
  simpa using h c (Array.mem_toList_iff.mp hc)
 ·intro h c hc
  simpa using h c (Array.mem_toList_iff.mpr hc)
end
section
variable {X:Cx}
theorem Jg:Dn X (λx lo hi H Q=>∃z,x= .str z/\z.length<=Wu/\Q (.str (jl z lo hi)) H):=by
 intro pins s σ H x v vl vu lo hi sl Q I rx hs pl pu h
 obtain⟨z,rfl,hz,q⟩:=h
 obtain⟨t,rfl⟩:=rx
 have fin:∀t' k,EP X pins σ Q (.str (jl z lo hi) t') { s with toks:=k }:=λt' k=>⟨.str _,H,I.tok k,⟨t',rfl⟩,q⟩
 refine⟨"str",_,PySem.F.slot_str_getitem.lookup,typeIs_str _ _ _,?_⟩
 have hl:=a5 (Txt.slice_le z lo hi) hz
 cases pl with
 | none=>
  cases pu with
  | none=>exact wpAny_getItem_str_slice (l:=none) (u:=none) (st:=none) hs rfl (post_val_or_str ⟨hl,fin⟩)
  | int j tj=>exact wpAny_getItem_str_slice (l:=none) (u:=some (j,tj)) (st:=none) hs rfl (post_val_or_str ⟨hl,fin⟩)
 | int i ti=>
  cases pu with
  | none=>exact wpAny_getItem_str_slice (l:=some (i,ti)) (u:=none) (st:=none) hs rfl (post_val_or_str ⟨hl,fin⟩)
  | int j tj=>exact wpAny_getItem_str_slice (l:=some (i,ti)) (u:=some (j,tj)) (st:=none) hs rfl (post_val_or_str ⟨hl,fin⟩)
theorem yM{z:PySem.Str}{lo hi:Option Int}{c:Nat}(h:c∈(jl z lo hi).cps.toList):c∈z.cps.toList:=by
 unfold jl at h
 split at h
 ·exact h
 ·simp only[List.mem_filterMap] at h
  obtain⟨i,_,e⟩:=h
  rw[Array.getElem?_eq_some_iff] at e
  obtain⟨hi,rfl⟩:=e
  exact Array.mem_toList_iff.mpr (Array.getElem_mem hi)
theorem sY{z:PySem.Str}{lo hi:Option Int}(h:aM z=true):aM (jl z lo hi)=true:=by
 rw[pT] at h ⊢
 exact λc hc=>h c (yM hc)
end
section
open HT
theorem oV{prog:Wc}{w:Wf}{A:V'}{E:We->Wd->Prop}{s:Wd}{t sl:V_}{us:Array We}{vl vu:We}{lo hi:Option Int}{Q:We->Wd->Prop}(ht:IsTup s.heap t us)(hs:s.heap.IsSliceOf sl vl vu .none)(pl:IsPart vl lo)(pu:IsPart vu hi)
  (hw:cD us.size 0 lo=0/\cD us.size us.size hi=us.size)(h:Q (.ref t) s):Wx (model prog w) A (getItem (.ref t) (.ref sl)) Q E s:=by
 obtain⟨os,o1,o2,o3⟩:=id hs
 have tys:s.TypeIs (.ref sl) "slice":=⟨os,o1,o2⟩
 unfold getItem;try with_reducible refine WA ?_
 first | refine Wy (WD ?_) | skip
 refine Wy (wpAny_sequenceKey ht.typeIs (by decide) ?_);refine Wy (wpAny_callSpecial?_slot (name:=jd "__getitem__") ht.typeIs qv (wpAny_call_entry qv ht.typeIs entry_tuple_getitem ?_ (args_tuple_getitem _ _)))
 show Wx _ _ (uC (.ref t) >>= _) _ _ _;refine Wy (tupleItemsOf_ ht ?_);refine Wy (wpAny_typeOf tys ?_)
 rw[if_pos (by decide)];refine Wy (gB hs pl pu ?_)
 rw[hw.1,hw.2]
 have yes:((((0:Nat):Int)) == 0&&(1:Int) == 1&&(us.size - 0) == us.size)=true:=by simp
 show Wx _ _ (if((((0:Nat):Int)) == 0&&(1:Int) == 1&&(us.size - 0) == us.size)=true then _ else _) _ _ s
 rw[if_pos yes]
 refine Wy (m:=Jh _) ?_
 unfold Jh
 refine Wy (wpAny_typeOf ht.typeIs (WD ?_))
 rw[if_pos (by decide)]
 exact Wy (wpAny_rule (WD ⟨_,rfl,WD h⟩))
end
section
variable {X:Cx}
def Ql(K:PySem.W.Frag):V->Option Int->Option Int->Hp->VK->Prop:=λx lo hi H Q=>∃a xs,x= .ref a/\eM K H a xs/\(HT.cD xs.length 0 lo=0/\HT.cD xs.length xs.length hi=xs.length)/\Q (.ref a) H
theorem Bq:Dn X (Ql X.K):=by
 intro pins s σ H x v vl vu lo hi sl Q I rx hs pl pu h
 obtain⟨a,xs,rfl,hx,hw,q⟩:=h
 cases rx
 obtain⟨its,r,ht,hz⟩:=I.tuple hx
 have n:its.toArray.size=xs.length:=by rw[aT];exact r.length.symm
 exact⟨"tuple",_,PyProof.Rows.slot_tuple_getitem.lookup,ht.typeIs,oV ht hs pl pu (by rw[n];exact hw) ⟨.ref a,H,I,rfl,q⟩⟩
def lu(n:Nat)(lo hi:Option Int):Prop:=HT.cD n 0 lo=0/\HT.cD n n hi=n
instance {n:Nat}{lo hi:Option Int}:Decidable (lu n lo hi):=inferInstanceAs (Decidable (HT.cD n 0 lo=0/\HT.cD n n hi=n))
def yN(x:Wv)(lo hi:Option Int)(st:Hs):Re Wv:=match x with
 | .str z=>if z.length<=lim then .ok (.str (jl z lo hi)) st else .bad
 | .tup ws=>if lu ws.length lo hi then .ok (.tup ws) st else Le (.tup ws) lo hi st
 | x=>Le x lo hi st
def fb(ga:GE)(gl gh:GO):GE:=λρ st=>(ga ρ st).bind λx st1=>(gl ρ st1).bind λlo st2=>(gh ρ st2).bind λhi st3=>yN x lo hi st3
theorem yO{a:Expr}{lo hi:Option Expr}{ga:GE}{gl gh:GO}{pos p2:Pos}(ha:JE X a ga)(hl:JO X lo gl)(hh:JO X hi gh):JE X (.Subscript a (.Slice lo hi none p2) pos) (fb ga gl gh):=by
 have hS:JE X (.Subscript a (.Slice lo hi none p2) pos) (λρ st=>(ga ρ st).bind λx st1=>(gl ρ st1).bind λlo st2=>(gh ρ st2).bind λhi st3=>match x with | .str z=>if z.length<=lim then .ok (.str (jl z lo hi)) st3 else .bad | _=> .bad):=by
  refine JE.of (nr Jg aP pL pL) λρ st σ H m Q S R p=>?_
  refine ha.go S R (aC.bind p) λx st1 v m1 H1 p1 e1 S1 rx=>?_
  refine hl.go S1 (R.mono e1) ((aC.bind p1).imp e1 λ_ _ q=>q) λl st2 m2 H2 p2 e2 S2=>?_
  refine hh.go S2 (R.mono (e1.trans e2)) ((aC.bind p2).imp (e1.trans e2) λ_ _ q=>q) λh st3 m3 H3 p3 e3 S3=>?_
  have uz:=e1.trans (e2.trans e3)
  cases x with
  | str z=>
   dsimp only at p3
   by_cases c:z.length<=lim
   ·rw[if_pos c] at p3
    unfold ah at rx
    obtain⟨rfl,hz⟩:=rx
    exact⟨z,rfl,dA c,p3 _ m3 H3 uz S3 (mkStr (sY hz))⟩
   ·rw[if_neg c] at p3;exact ae p3
  | _=>exact ae p3
 have hW:JE X (.Subscript a (.Slice lo hi none p2) pos) (λρ st=>(ga ρ st).bind λx st1=>(gl ρ st1).bind λlo st2=>(gh ρ st2).bind λhi st3=>match x with | .tup ws=>if lu ws.length lo hi then .ok (.tup ws) st3 else Le (.tup ws) lo hi st3 | _=> .bad):=by
  refine JE.of (nr (Dn.or Bq zY) aP pL pL) λρ st σ H m Q S R p=>?_
  refine ha.go S R (aC.bind p) λx st1 v m1 H1 p1 e1 S1 rx=>?_
  refine hl.go S1 (R.mono e1) ((aC.bind p1).imp e1 λ_ _ q=>q) λl st2 m2 H2 p2 e2 S2=>?_
  refine hh.go S2 (R.mono (e1.trans e2)) ((aC.bind p2).imp (e1.trans e2) λ_ _ q=>q) λh st3 m3 H3 p3 e3 S3=>?_
  have uz:=e1.trans (e2.trans e3)
  cases x with
  | tup ws=>
   dsimp only at p3
   have qN:=ah.mono (e2.trans e3) _ _ rx
   unfold ah at qN
   obtain⟨a',xs,rfl,f1,f2⟩:=qN
   by_cases c:lu ws.length l h
   ·rw[if_pos c] at p3
    unfold lu at c
    rw[f2.length] at c
    exact .inl ⟨a',xs,rfl,eM.of f1,c,p3 _ m3 H3 uz S3 (by unfold ah;exact⟨a',xs,rfl,f1,f2⟩)⟩
   ·rw[if_neg c] at p3
    unfold Le at p3
    dsimp only at p3
    unfold lu at c
    rw[if_neg c] at p3
    rw[f2.length] at c
    refine .inr ⟨a',xs,rfl,eM.of f1,c,λq hq=>?_⟩
    have eU:Ext X.K m3 H3 m3 (L2.upd H3 q (.tup (oQ xs l h))):=Ext.f' (.inl hq)
    exact p3 (.ref q) m3 _ (uz.trans eU) (S3.fresh hq) (by unfold ah;exact⟨q,_,rfl,L2.bc,ai.mono eU _ _ (qM f2)⟩)
  | _=>exact ae p3
 intro ρ st σ H m Q S R p
 unfold fb at p
 cases e1:ga ρ st with
 | bad=>rw[e1] at p;exact ae p
 | err c st1=>rw[e1] at p;exact sI ha hl hh ρ st σ H m Q S R (by unfold ve;rw[e1];exact p)
 | ok x st1=>
  rw[e1] at p
  cases x with
  | str z=>exact hS ρ st σ H m Q S R (by dsimp only;rw[e1];exact p)
  | tup ws=>exact hW ρ st σ H m Q S R (by dsimp only;rw[e1];exact p)
  | _=>exact sI ha hl hh ρ st σ H m Q S R (by unfold ve;rw[e1];exact p)
def Br:fK
 | .str i,.str j,st=> .ok (.bl (!(Ht j i 0 j.length 1).isEmpty)) st
 | x,y,st=>P4 x y st
theorem Ji:jg X (Wm .In) Br:=by
 obtain⟨r,h1,h2⟩:=Mv (X:=X)
 refine⟨_,eF.or yd h1,λx y a b st H m Q S rx ry p=>?_⟩
 unfold Br at p
 split at p
 ·rename_i i j
  unfold ah at rx ry
  obtain⟨rfl,_⟩:=rx
  obtain⟨rfl,_⟩:=ry
  exact .inl ⟨i,j,rfl,rfl,p _ m H Ext.refl S iG⟩
 ·exact .inr (h2 x y a b st H m Q S rx ry p)
end
open PySem PySem.Spec PyProof.Rows L2 PySem.W
section
variable {X:Cx}
end
section
variable {X:Cx}
end
section
variable {X:Cx}
end
def MP(x:Str):It:=⟨λi _=>i < x.cps.size,λi H v H'=>H'=H/\∃c,x.cps[i]? =some c/\v= .str ⟨#[c]⟩,λi _=>x.cps.size<=i⟩
theorem vq{P:Wc}{w:Wf}{K:PySem.W.Frag}{tg:Expr}(x:Str)(t:Tok)(it:V_):Turn P w K tg (MP x) [it] it (λi h=>h.IsStrIter it "str_ascii_iterator" x t i) where
 mem:=List.mem_singleton.mpr rfl
 obj:=λi h st b hb=>by
  cases List.mem_singleton.mp hb
  obtain⟨o,e,c,d⟩:=st
  exact⟨o,e,λv z=>by rw[d] at z;cases z⟩
 keep:=λi h h' st k=>let ⟨o,e,r⟩:=st;⟨o,k it (List.mem_singleton.mpr rfl) o e,r⟩
 item:=by
  intro X hP hw hK hc i pins s σ H E I hf st hg
  subst hP;subst hw;subst hK
  obtain⟨f0,f1,f2,f3,f4,f5⟩:=hf it (List.mem_singleton.mpr rfl)
  have hi:i < x.cps.size:=hg
  refine wpAny_pyNext_ascii_item st (c:=x.cps[i]) (by simp[hi]) λh' st' sb=>?_
  have I1:L2.Inv X pins σ H { s with heap:=h',toks:=s.toks+1 }:=I.turned (t':=s.toks+1) (λb o hb e=>sb.extBut b o hb e) f0 f1 f3 f4 f5
  obtain⟨o,e,c,d⟩:=id st'
  exact⟨_,rfl,pz (s:={ s with heap:=h',toks:=s.toks+1 }) e c d (by decide) ⟨.str ⟨#[x.cps[i]]⟩,H,I1,⟨_,rfl⟩,⟨rfl,_,by simp[hi],rfl⟩,st',λb hb=>(hf b hb).1⟩⟩
 done:=by
  intro X hP hw hK hc i pins s σ H E I hf st hg
  subst hP;subst hw;subst hK
  obtain⟨f0,f1,f2,f3,f4,f5⟩:=hf it (List.mem_singleton.mpr rfl)
  have hi:x.cps.size<=i:=hg
  exact wpAny_pyNext_ascii_end (I.ok.hd hc) st (by simp[hi]) λh' eb=>⟨rfl,I.turned (t':=s.toks) (λb o hb e=>eb b o hb e) f0 f1 f3 f4 f5⟩
 self:=λ_ _ _ _ _ st h=>wpAny_pyIter_striter_ascii st h
theorem yP{P:Wc}{w:Wf}{K:PySem.W.Frag}{tg:Expr}(x:Str)(t:Tok)(it:V_):Turn P w K tg (MP x) [it] it (λi h=>h.IsStrIter it "str_iterator" x t i) where
 mem:=List.mem_singleton.mpr rfl
 obj:=λi h st b hb=>by
  cases List.mem_singleton.mp hb
  obtain⟨o,e,c,d⟩:=st
  exact⟨o,e,λv z=>by rw[d] at z;cases z⟩
 keep:=λi h h' st k=>let ⟨o,e,r⟩:=st;⟨o,k it (List.mem_singleton.mpr rfl) o e,r⟩
 item:=by
  intro X hP hw hK hc i pins s σ H E I hf st hg
  subst hP;subst hw;subst hK
  obtain⟨f0,f1,f2,f3,f4,f5⟩:=hf it (List.mem_singleton.mpr rfl)
  have hi:i < x.cps.size:=hg
  refine wpAny_pyNext_wide_item st (c:=x.cps[i]) (by simp[hi]) λh' st' sb=>?_
  have I1:L2.Inv X pins σ H { s with heap:=h',toks:=s.toks+1 }:=I.turned (t':=s.toks+1) (λb o hb e=>sb.extBut b o hb e) f0 f1 f3 f4 f5
  obtain⟨o,e,c,d⟩:=id st'
  exact⟨_,rfl,pz (s:={ s with heap:=h',toks:=s.toks+1 }) e c d (by decide) ⟨.str ⟨#[x.cps[i]]⟩,H,I1,⟨_,rfl⟩,⟨rfl,_,by simp[hi],rfl⟩,st',λb hb=>(hf b hb).1⟩⟩
 done:=by
  intro X hP hw hK hc i pins s σ H E I hf st hg
  subst hP;subst hw;subst hK
  obtain⟨f0,f1,f2,f3,f4,f5⟩:=hf it (List.mem_singleton.mpr rfl)
  have hi:x.cps.size<=i:=hg
  exact wpAny_pyNext_wide_end (I.ok.hd hc) st (by simp[hi]) λh' eb=>⟨rfl,I.turned (t':=s.toks) (λb o hb e=>eb b o hb e) f0 f1 f3 f4 f5⟩
 self:=λ_ _ _ _ _ st h=>wpAny_pyIter_striter_wide st h
section
variable {X:Cx}
theorem Jj{tg l:Expr}{tl:TE}(hl:PE X l tl):PI X tg l (λσ H R=>tl σ H λv H1=>∃z,v= .str z/\R (MP z) H1):=by
 intro pins s σ H R I h
 refine a8 (hl pins s σ H _ I h) λv s1 ⟨x,H1,I1,r1,z,e,q⟩=>?_
 subst e
 obtain⟨t,rfl⟩:=r1
 have frs:∀b∈[s1.heap.objs.size],fJ X pins H1 b:=λb hb=>by
  cases List.mem_singleton.mp hb
  exact I1.zK (ay _) (I1.hok.fresh (ay _))
 cases ha:z.cps.all (· < 128)
 ·exact wpAny_pyIter_wide ha ⟨s1.heap.objs.size,[s1.heap.objs.size],_,_,H1,rfl,I1.kept (t':=s1.toks) λb o e=>a7 _ e,yP z t _,⟨_,bM _ rfl,rfl,rfl⟩,frs,q⟩
 ·exact wpAny_pyIter_ascii ha ⟨s1.heap.objs.size,[s1.heap.objs.size],_,_,H1,rfl,I1.kept (t':=s1.toks) λb o e=>a7 _ e,vq z t _,⟨_,bM _ rfl,rfl,rfl⟩,frs,q⟩
def gf(z:PySem.Str):List Wv:=z.cps.toList.map λc=>Wv.str ⟨#[c]⟩
def sZ(w:Wv)(st:Hs):Re Wk:=match w with
 | .str z=> .ok (none,gf z) st
 | w=>I0 w st
def gX(g:GE):GI:=λρ st=>(g ρ st).bind sZ
theorem Jk{z:PySem.Str}{m1:Mp}{H1:Hp}(hz:aM z=true):sX X (none,gf z) m1 H1 (MP z) where
 go:=λk H m' st _ _ _ hk=>by
  have:k < z.cps.size:=by simpa [gf] using hk
  exact this
 stop:=λk H m' st _ _ _ hk=>by
  have:k=z.cps.size:=by simpa [gf] using hk
  exact j8 this.symm
 zr:=λk hk H v H' m' st _ _ _ y=>by
  obtain⟨rfl,c,hc,rfl⟩:=y
  refine⟨rfl,?_⟩
  have hk':k < z.cps.size:=by simpa [gf] using hk
  have e:∀h:k < (gf z).length,(gf z)[k]'h= .str ⟨#[z.cps[k]]⟩:=by intro h;simp[gf]
  have hc':z.cps[k]=c:=by simpa [hk'] using hc
  show ah X.K m' H' ((gf z)[k]'hk) _
  rw[e hk,hc']
  refine mkStr ?_
  rw[pT] at hz ⊢
  intro d hd
  simp at hd
  rw[hd,<-hc']
  exact hz _ (by simp)
theorem qV{tg iter:Expr}{g:GE}(h:JE X iter g):JI X tg iter (gX g):=by
 obtain⟨w1,h1,k1⟩:=I_ (tg:=tg) h
 refine⟨λσ H R=>w1 σ H R\/(SE X iter σ H λv H1=>∃z,v= .str z/\R (MP z) H1),λpins s σ H R I q=>?_,λρ st σ H m R S RR p=>?_⟩
 ·rcases q with q | q
  ·exact h1 pins s σ H R I q
  ·exact Jj aP pins s σ H R I q
 ·unfold gX at p
  cases e:g ρ st with
  | bad=>rw[e] at p;exact ae p
  | err c st'=>rw[e] at p;exact .inl (k1 ρ st σ H m R S RR (by unfold Bh;rw[e];exact p))
  | ok w st'=>
   rw[e] at p
   cases w with
   | str z=>
    refine .inr ?_
    refine h.go (ok:=λw st1=>w= .str z/\st1=st') S RR (by rw[e];exact⟨rfl,rfl⟩) λw st1 v m1 H1 q e1 S1 r1=>?_
    obtain⟨rfl,rfl⟩:=q
    unfold ah at r1
    obtain⟨rfl,hz⟩:=r1
    exact⟨z,rfl,p m1 H1 _ e1 S1 trivial (Jk hz)⟩
   | _=>exact .inl (k1 ρ st σ H m R S RR (by unfold Bh;rw[e];exact p))
end
section
variable {X:Cx}
end
def keyOf:Wv->Option L2.Key
 | .int i=>some (.inl i)
 | .str x=>some (.inr x)
 | .non=>some .non
 | _=>none
theorem lx{K:PySem.W.Frag}{m:Mp}{H:Hp}{w:Wv}{v:V}{k:L2.Key}(r:ah K m H w v)(e:keyOf w=some k):v=kV k:=by
 cases w with
 | int i=>cases e;unfold ah at r;rw[r];rfl
 | str x=>cases e;unfold ah at r;rw[r.1];rfl
 | non=>cases e;unfold ah at r;rw[r];rfl
 | _=>cases e
def iL{κ:Type}[DecidableEq κ](kvs:List (κ×Wv))(k:κ):Option Wv:=match kvs with
 | []=>none
 | p::r=>if p.1=k then some p.2 else iL r k
def mw{κ:Type}[DecidableEq κ](kvs:List (κ×Wv))(k:κ)(v:Wv):List (κ×Wv):=if(kvs.any λkv=>decide (kv.1=k))=true then kvs.map (λkv=>if kv.1=k then(kv.1,v) else kv) else kvs++[(k,v)]
section
variable {K:PySem.W.Frag} {m:Mp} {H:Hp} {κ:Type}
theorem RelK.nil:RelK (κ:=κ) K m H [] []:=⟨rfl,ai.nil⟩
theorem RelK.cons{k:κ}{w:Wv}{v:V}{kvs:List (κ×Wv)}{xs:List (κ×V)}(h:ah K m H w v)(t:RelK K m H kvs xs):RelK K m H ((k,w)::kvs) ((k,v)::xs) :=
 ⟨by simp[t.1],by simpa using ai.cons h t.2⟩
theorem RelK.nil_inv{xs:List (κ×V)}(h:RelK K m H [] xs):xs=[]:=by
 have:=h.1
 cases xs with
 | nil=>rfl
 | cons a b=>simp at this
theorem RelK.cons_inv{p:κ×Wv}{kvs:List (κ×Wv)}{xs:List (κ×V)}(h:RelK K m H (p::kvs) xs):∃v t,xs=(p.1,v)::t/\ah K m H p.2 v/\RelK K m H kvs t:=by
 obtain⟨h1,h2⟩:=h
 cases xs with
 | nil=>simp at h1
 | cons q t=>
  simp at h1 h2
  unfold ai at h2
  obtain⟨x,r,e1,e2,e3⟩:=h2
  cases e1
  exact⟨q.2,t,by rw[h1.1],e2,h1.2,e3⟩
theorem RelK.length{kvs:List (κ×Wv)}{xs:List (κ×V)}(h:RelK K m H kvs xs):kvs.length=xs.length:=by
 have:=congrArg k9 h.1
 simpa using this
variable [DecidableEq κ]
theorem RelK.val:∀{kvs:List (κ×Wv)}{xs:List (κ×V)}(k:κ),RelK K m H kvs xs->(iL kvs k=none->ke xs k=none)/\∀w,iL kvs k=some w->∃v,ke xs k=some v/\ah K m H w v
 | [],xs,k,h=>by
  rw[h.nil_inv]
  exact⟨λ_=>rfl,(λw e=>by cases e)⟩
 | p::r,xs,k,h=>by
  obtain⟨v,t,rfl,h1,h2⟩:=h.cons_inv
  obtain⟨i1,i2⟩:=RelK.val k h2
  unfold iL
  by_cases e:p.1=k
  ·rw[if_pos e,iC (by exact e)]
   exact⟨(λz=>by cases z),λw z=>⟨v,rfl,by cases z;exact h1⟩⟩
  ·rw[if_neg e,iE (by exact e)]
   exact⟨i1,i2⟩
theorem RelK.any:∀{kvs:List (κ×Wv)}{xs:List (κ×V)}(k:κ),RelK K m H kvs xs->(kvs.any λkv=>decide (kv.1=k))=xs.any λkv=>decide (kv.1=k)
 | [],xs,k,h=>by rw[h.nil_inv];rfl
 | p::r,xs,k,h=>by
  obtain⟨v,t,rfl,h1,h2⟩:=h.cons_inv
  rw[dz,dz,RelK.any k h2]
theorem RelK.repl:∀{kvs:List (κ×Wv)}{xs:List (κ×V)}(k:κ){w:Wv}{v:V},RelK K m H kvs xs->ah K m H w v->RelK K m H (kvs.map λkv=>if kv.1=k then(kv.1,w) else kv) (xs.map λkv=>if kv.1=k then(kv.1,v) else kv)
 | [],xs,k,w,v,h,r=>by rw[h.nil_inv];exact RelK.nil
 | p::kvs,xs,k,w,v,h,r=>by
  obtain⟨u,t,rfl,h1,h2⟩:=h.cons_inv
  rw[bb,bb]
  by_cases e:p.1=k
  ·rw[if_pos e,if_pos (by exact e)]
   exact RelK.cons r (RelK.repl k h2 r)
  ·rw[if_neg e,if_neg (by exact e)]
   exact RelK.cons h1 (RelK.repl k h2 r)
theorem RelK.snoc:∀{kvs:List (κ×Wv)}{xs:List (κ×V)}(k:κ){w:Wv}{v:V},RelK K m H kvs xs->ah K m H w v->RelK K m H (kvs++[(k,w)]) (xs++[(k,v)])
 | [],xs,k,w,v,h,r=>by rw[h.nil_inv];exact RelK.cons r RelK.nil
 | p::kvs,xs,k,w,v,h,r=>by
  obtain⟨u,t,rfl,h1,h2⟩:=h.cons_inv
  exact RelK.cons h1 (RelK.snoc k h2 r)
theorem RelK.put{kvs:List (κ×Wv)}{xs:List (κ×V)}(k:κ){w:Wv}{v:V}(h:RelK K m H kvs xs)(r:ah K m H w v):RelK K m H (mw kvs k w) (putK xs k v):=by
 unfold mw putK
 rw[h.any k]
 split
 ·exact h.repl k r
 ·exact h.snoc k r
end
section
variable {K:PySem.W.Frag} {m:Mp} {H:Hp}
end
section
variable {X:Cx}
def xj(st:Hs)(l:Nat):Bool:=match st[l]? with
 | some (.dct _)=>true
 | _=>false
def Bs(gd gk gx:GE):GE:=λρ st=>(gd ρ st).bind λd st1=>match d with
 | .ref l=>if xj st1 l=true then(gk ρ st1).bind λk st2=>(gx ρ st2).bind λx st3=>(match keyOf k,st3[l]? with
  | some kk,some (.dct kvs)=> .ok ((iL kvs kk).getD x) st3
  | _,_=> .bad) else .bad
 | _=> .bad
theorem Bt{m:Mp}{st:Hs}{H:Hp}{l:Nat}{a:V_}(S:bw X.K m st H)(ha:m[l]? =some a)(h:xj st l=true):Oq H a:=by
 unfold xj at h
 cases e:st[l]? with
 | none=>rw[e] at h;cases h
 | some o=>
  rw[e] at h
  cases o with
  | dct kvs=>
   obtain⟨xs,e1,_⟩:=(show ∃ys,H a=some (.dK ys)/\RelK X.K m H kvs ys from S.obj _ _ _ ha e)
   exact .inl ⟨xs,.inl e1⟩
  | _=>cases h
theorem Bu{o e f:Expr}{gd gk gx:GE}{apos cpos:Pos}(hu:X.A.units+1 < cLine)(ho:JE X o gd)(he:JE X e gk)(hf:JE X f gx)(M:M2 X o "get" apos e f cpos):JE X (.Call (.Attribute o "get" apos) [e,f] [] cpos) (Bs gd gk gx) :=
 JE.of (sC hu aP aP aP M) λρ st σ H m Q S R p=>by
  refine ho.go S R (aC.bind p) λd st1 v m1 H1 p1 e1 S1 r1=>?_
  cases d with
  | ref l=>
   dsimp only at p1
   by_cases hd:xj st1 l=true
   ·rw[if_pos hd] at p1
    unfold ah at r1
    obtain⟨a,rfl,ha⟩:=r1
    refine⟨a,rfl,Bt S1 ha hd,?_⟩
    refine he.go S1 (R.mono e1) ((aC.bind p1).imp e1 λ_ _ q=>q) λk st2 y m2 H2 p2 e2 S2 r2=>?_
    refine hf.go S2 (R.mono (e1.trans e2)) ((aC.bind p2).imp (e1.trans e2) λ_ _ q=>q) λx st3 z m3 H3 p3 e3 S3 r3=>?_
    cases q1:keyOf k with
    | none=>rw[q1] at p3;exact ae p3
    | some kk=>
     cases q2:st3[l]? with
     | none=>rw[q1,q2] at p3;exact ae p3
     | some ob=>
      rw[q1,q2] at p3
      cases ob with
      | dct kvs=>
       have Qm:m3[l]? =some a:=(e2.trans e3).pre _ _ ha
       obtain⟨xs,y1,y2⟩:=(show ∃ys,H3 a=some (.dK ys)/\RelK X.K m3 H3 kvs ys from S3.obj _ _ _ Qm q2)
       dsimp only at p3
       refine⟨_,by rw[lx r2 q1];exact u5.k y1,?_⟩
       obtain⟨i1,i2⟩:=y2.val kk
       cases q3:iL kvs kk with
       | none=>
        rw[i1 q3]
        rw[q3] at p3
        exact p3 z m3 H3 (e1.trans (e2.trans e3)) S3 r3
       | some w=>
        obtain⟨u,j1,j2⟩:=i2 w q3
        rw[j1]
        rw[q3] at p3
        exact p3 u m3 H3 (e1.trans (e2.trans e3)) S3 j2
      | _=>exact ae p3
   ·rw[if_neg hd] at p1;exact ae p1
  | _=>exact ae p1
end
def xk:Wv->We->Prop
 | .int i,u=>∃t,u= .int i t
 | .str x,u=>(∃t,u= .str x t)/\aM x=true
 | _,_=>False
abbrev Dc:=List (PySem.Str×Wv)
def qW(w:Wf):Dc->List DictEntry->Prop
 | [],[]=>True
 | (k,v)::r,e::t=>(e.hash=hashStr w k/\(∃tk,e.key= .str k tk)/\xk v e.val)/\qW w r t
 | _,_=>False
def vw(K:PySem.W.Frag)(w:Wf)(mg:Str->Option We)(x:Str)(kvs:Dc):Prop :=
 ∃(a:V_)(es:Array DictEntry)(ep:Nat),mg x=some (.ref a)/\K.lookup a=some ⟨.type "dict",none,.dict es ep,#[]⟩/\(a == sysModules)=false/\qW w kvs es.toList/\(kvs.map (·.1)).Nodup
theorem kC{P:Wc}{w:Wf}:∀{kvs:Dc}{l:List DictEntry},qW w kvs l->∃vs:List (PySem.Str×We),vs.map (·.1)=kvs.map (·.1)/\Pairs (PySem.strKind P w) l vs/\(∀e∈l,∃k,(PySem.strKind P w).is k e.key=true/\e.hash=(PySem.strKind P w).hash k)/\
  ∀k,(kvs.lookup k=none->valueAt vs k=none)/\∀v,kvs.lookup k=some v->∃u,valueAt vs k=some u/\xk v u
 | [],[],_=>⟨[],rfl,.nil,(λ_ z=>by cases z),λk=>⟨λ_=>rfl,(λv z=>by cases z)⟩⟩
 | (k,v)::r,e::t,h=>by
  obtain⟨⟨h1,⟨tk,h2⟩,h3⟩,h4⟩:=h
  obtain⟨vs,i1,i2,i3,i4⟩:=kC (P:=P) h4
  have his:(PySem.strKind P w).is k e.key=true:=by rw[h2];exact strKind_is P w k tk
  refine⟨(k,e.val)::vs,by simp[i1],.cons his rfl i2,λe' he=>?_,λk'=>?_⟩
  ·rcases List.mem_cons.mp he with z | z
   ·subst z;exact⟨k,his,h1⟩
   ·exact i3 e' z
  ·rw[dZ]
   unfold valueAt
   rw[iD]
   by_cases ek:k=k'
   ·subst ek
    have b1:(k == k)=true:=by simp
    rw[b1]
    simp only[decide_true,mQ]
    exact⟨(λz=>by cases z),λv' z=>⟨e.val,rfl,by cases z;exact h3⟩⟩
   ·have b1:(k' == k)=false:=beq_eq_false_iff_ne.mpr λz=>ek z.symm
    rw[b1]
    simp only[ek,decide_false]
    exact i4 k'
 | [],_::_,h=>ae h
 | _::_,[],h=>ae h
theorem xl{P:Wc}{w:Wf}{K:PySem.W.Frag}{h:Heap}{a:V_}{es:Array DictEntry}{ep:Nat}{kvs:Dc}(KX:K.In h)(hl:K.lookup a=some ⟨.type "dict",none,.dict es ep,#[]⟩)(he:qW w kvs es.toList)(nd:(kvs.map (·.1)).Nodup) :
  ∃vs:List (PySem.Str×We),h.DictOf (PySem.strKind P w) a vs/\∀k,(kvs.lookup k=none->valueAt vs k=none)/\∀v,kvs.lookup k=some v->∃u,valueAt vs k=some u/\xk v u:=by
 obtain⟨vs,i1,i2,i3,i4⟩:=kC (P:=P) he
 exact⟨vs,⟨_,es,ep,KX a _ hl,⟨rfl,rfl,rfl⟩,rfl,λe hm=>i3 e (by simpa using hm),i2,by rw[i1];exact nd⟩,i4⟩
section
variable {X:Cx}
def xm(kvs:Dc)(ga:GE):GE:=λρ st=>(ga ρ st).bind λa st1=>match a with
 | .str k=>(match kvs.lookup k with | some w=> .ok w st1 | none=> .bad)
 | _=> .bad
def MQ(kvs:Dc)(ty:TE):TE:=λσ H Q=>ty σ H λy H1=>∃z w v,y= .str z/\kvs.lookup z=some w/\(∀u,xk w u->RelV v u)/\Q v H1
theorem ER{b:Expr}{ty:TE}{x:Str}{p pos:Pos}{kvs:Dc}(hb:PE X b ty)(hs:HX b)(hg:Gl X x)(hd:(x == ("__debug__":Str))=false)(D:vw X.K X.w X.mg x kvs):PE X (.Subscript (.Name x p) b pos) (MQ kvs ty):=by
 intro pins s σ H Q I h
 obtain⟨a,es,ep,g1,g2,g3,g4,g5⟩:=D
 refine D9 PySem.F.slot_dict_getitem.lookup hs (a8 (gL (v:=.ref a) hg g1 rfl hd pins s σ H (λv H2=>v= .ref a/\H2=H) I ⟨rfl,rfl⟩) λu s1 ⟨v,H1,I1,rv,ev,eH⟩=>?_)
 subst ev eH
 obtain rfl:u=aH a:=rv
 refine a8 (hb pins s1 σ H1 _ I1 h) λiv s2 ⟨y,H2,I2,ry,z,w,v,ey,ew,ev,q⟩=>?_
 subst ey
 obtain⟨t,rfl⟩:=(show ∃t,iv=jZ z t from ry)
 obtain⟨vs,dd,look⟩:=xl (P:=X.prog) (w:=X.w) I2.pq g2 g4 g5
 obtain⟨u,e1,e2⟩:=(look z).2 w ew
 exact⟨dd.typeIs,wpAny_getItem_of (strKind_is X.prog X.w z t) dd.mapOf e1 ⟨v,H2,I2.tok _,ev u e2,q⟩⟩
theorem ES{b:Expr}{gb:GE}{x:Str}{p pos:Pos}{kvs:Dc}(hb:JE X b gb)(hs:HX b)(hg:Gl X x)(hd:(x == ("__debug__":Str))=false)(D:vw X.K X.w X.mg x kvs):JE X (.Subscript (.Name x p) b pos) (xm kvs gb) :=
 JE.of (ER aP hs hg hd D) λρ st σ H m Q S R p=>by
  refine hb.go S R (aC.bind p) λw st1 v m1 H1 p1 e1 S1 r1=>?_
  cases w with
  | str k=>
   dsimp only at p1
   cases e:kvs.lookup k with
   | none=>rw[e] at p1;exact ae p1
   | some u=>
    rw[e] at p1
    unfold ah at r1
    cases u with
    | int i=>exact⟨k,.int i,.int i,r1.1,e,λu h=>h,p1 _ m1 H1 e1 S1 (by unfold ah;rfl)⟩
    | str y=>
     by_cases hy:aM y=true
     ·exact⟨k,.str y,.str y,r1.1,e,λu h=>h.1,p1 _ m1 H1 e1 S1 (by unfold ah;exact⟨rfl,hy⟩)⟩
     ·obtain⟨a,es,ep,_,_,_,g4,_⟩:=D
      obtain⟨vs,_,_,_,i4⟩:=kC (P:=X.prog) g4
      obtain⟨u,_,e2⟩:=(i4 k).2 _ e
      exact absurd e2.2 hy
    | _=>
     obtain⟨a,es,ep,_,_,_,g4,_⟩:=D
     obtain⟨vs,_,_,_,i4⟩:=kC (P:=X.prog) g4
     obtain⟨u,_,e2⟩:=(i4 k).2 _ e
     exact ae e2
  | _=>exact ae p1
end
open PySem PySem.Spec PyProof.Rows PySem.W L2
section
variable (lt:Nat->Nat->Bool) (N:Nat)
end
section
variable {lt:Nat->Nat->Bool} {N:Nat}
abbrev at_(p:Array Nat)(i:Nat):Nat:=p.getD i 0
end
section
variable {prog:Wc} {w:Wf} {A:V'} {E:We->Wd->Prop} {s:Wd}
end
section
variable {X:Cx} {pins:List (V_×Obj)} {σ:St} {H:Hp} {s:Wd}
end
section
variable {X:Cx}
end
section
variable {prog:Wc} {w:Wf} {A:V'} {E:We->Wd->Prop} {s:Wd}
end
section
variable {X:Cx}
abbrev pw(p:Int×Int):Wv:=.tup [.int p.1,.int p.2]
end
def keysOf:List Wv->Option (List L2.Key)
 | []=>some []
 | w::r=>(match keyOf w,keysOf r with | some k,some l=>some (k::l) | _,_=>none)
def ly:Wv->Option (List L2.Key)
 | .tup ws=>keysOf ws
 | _=>none
theorem n9{K:PySem.W.Frag}{m:Mp}{H:Hp}:∀{ws:List Wv}{xs:List V}{ks:List L2.Key},ai K m H ws xs->keysOf ws=some ks->xs=ks.map kV
 | [],xs,ks,r,e=>by unfold ai at r;subst r;cases e;rfl
 | w::ws,xs,ks,r,e=>by
  unfold ai at r
  obtain⟨x,t,rfl,r1,r2⟩:=r
  unfold keysOf at e
  cases e1:keyOf w with
  | none=>rw[e1] at e;cases e
  | some k=>
   cases e2:keysOf ws with
   | none=>rw[e1,e2] at e;cases e
   | some l=>
    rw[e1,e2] at e
    cases e
    rw[lx r1 e1,n9 r2 e2]
    rfl
theorem n_{K:PySem.W.Frag}{m:Mp}{H:Hp}{w:Wv}{v:V}{ks:List L2.Key}(r:ah K m H w v)(e:ly w=some ks):∃b,v= .ref b/\H b=some (.tup (ks.map kV)):=by
 cases w with
 | tup ws=>
  unfold ah at r
  obtain⟨a,xs,rfl,h1,h2⟩:=r
  rw[n9 h2 e] at h1
  exact⟨a,rfl,h1⟩
 | _=>cases e
def s_:GE:=λ_ st=> .ok (.ref st.length) (st++[.l9 []])
section
variable {X:Cx}
theorem ET{pos:Pos}:JE X (.Dict [] [] pos) s_:=JE.of Ah λρ st σ H m Q S R p=>λq hq=>
 p (.ref q) (m++[q]) _ (Ext.more.trans (Ext.f' (.inl hq))) (S.qH hq ⟨[],bc,RelK.nil⟩) (S.newest q _)
def putD(d k v:Wv)(st:Hs):Option Hs:=match d with
 | .ref l=>(match st[l]? with
  | some (.dct kvs)=>(match keyOf k with | some kk=>if kvs.length < lim then some (st.set l (.dct (mw kvs kk v))) else none | none=>none)
  | some (.l9 kvs)=>(match ly k with | some kk=>if kvs.length < lim then some (st.set l (.l9 (mw kvs kk v))) else none | none=>none)
  | _=>none)
 | _=>none
def oa(gv gd gk:GE):GS:=λρ st=>(gv ρ st).a8 ρ λv st1=>(gd ρ st1).a8 ρ λd st2=>(gk ρ st2).a8 ρ λk st3=>match putD d k v st3 with
 | some uy=> .nx ρ uy
 | none=> .bad
theorem EU{m:Mp}{st st':Hs}{H:Hp}{d k v:Wv}{x y z:V}(S:bw X.K m st H)(rd:ah X.K m H d x)(rk:ah X.K m H k y)(rv:ah X.K m H v z)(e:putD d k v st=some st'):∃a H',x= .ref a/\qE H a y z H'/\Ext X.K m H m H'/\bw X.K m st' H':=by
 unfold putD at e
 cases d with
 | ref l=>
  dsimp only at e
  unfold ah at rd
  obtain⟨a,rfl,ha⟩:=rd
  cases e1:st[l]? with
  | none=>rw[e1] at e;cases e
  | some o=>
   rw[e1] at e
   cases o with
   | dct kvs=>
    dsimp only at e
    cases e2:keyOf k with
    | none=>rw[e2] at e;cases e
    | some kk=>
     rw[e2] at e
     dsimp only at e
     by_cases c:kvs.length < lim
     ·rw[if_pos c] at e
      cases e
      obtain⟨xs,h1,h2⟩:=(show ∃ys,H a=some (.dK ys)/\RelK X.K m H kvs ys from S.obj _ _ _ ha e1)
      have ex:Ext X.K m H m (upd H a (.dK (putK xs kk z))):=Ext.f' (.inr (.inr (.inl ⟨_,h1⟩)))
      refine⟨a,_,rfl,by rw[lx rk e2];exact qE.k h1 (by rw[<-h2.length];exact nL c),ex,?_⟩
      exact S.nI ha e1 rfl ⟨_,bc,(h2.put kk rv).mono ex⟩
     ·rw[if_neg c] at e;cases e
   | l9 kvs=>
    dsimp only at e
    cases e2:ly k with
    | none=>rw[e2] at e;cases e
    | some kk=>
     rw[e2] at e
     dsimp only at e
     by_cases c:kvs.length < lim
     ·rw[if_pos c] at e
      cases e
      obtain⟨xs,h1,h2⟩:=(show ∃ys,H a=some (.dT ys)/\RelK X.K m H kvs ys from S.obj _ _ _ ha e1)
      obtain⟨b,rfl,hb⟩:=n_ rk e2
      have ex:Ext X.K m H m (upd H a (.dT (putK xs kk z))):=Ext.f' (.inr (.inr (.inr (.inl ⟨_,h1⟩))))
      refine⟨a,_,rfl,qE.t h1 hb (by rw[<-h2.length];exact nL c),ex,?_⟩
      exact S.nI ha e1 rfl ⟨_,bc,(h2.put kk rv).mono ex⟩
     ·rw[if_neg c] at e;cases e
   | _=>cases e
 | _=>cases e
theorem EV{o i e:Expr}{go gi ge:GE}{pos pos':Pos}(hu:X.A.units+1 < cLine)(he:JE X e ge)(ho:JE X o go)(hi:JE X i gi)(hs:swapsWith e (some (.Subscript o i pos')) pos.line X.env=pure false):JS X (.Assign [.Subscript o i pos'] e pos) (oa ge go gi) :=
 JS.of (D_ hu aP aP aP hs) λρ st σ H m D S R p=>by
  refine he.go S R (aR.bU R p) λv st1 vv m1 H1 p1 e1 S1 rv=>?_
  refine ho.go S1 (R.mono e1) ((aR.bU (m:=m) (H:=H) R p1).imp e1 λ_ _ q=>q) λd st2 vd m2 H2 p2 e2 S2 rd=>?_
  refine hi.go S2 (R.mono (e1.trans e2)) ((aR.bU (m:=m) (H:=H) R p2).imp (e1.trans e2) λ_ _ q=>q) λk st3 vk m3 H3 p3 e3 S3 rk=>?_
  have uz:=e1.trans (e2.trans e3)
  cases e4:putD d k v st3 with
  | none=>rw[e4] at p3;exact ae p3
  | some uy=>
   rw[e4] at p3
   obtain⟨a,H4,f1,f2,f3,f4⟩:=EU (X:=X) S3 (ah.mono e3 _ _ rd) rk (ah.mono (e2.trans e3) _ _ rv) e4
   exact⟨a,H4,f1,f2,p3 σ m3 H4 (uz.trans f3) f4 (R.mono (uz.trans f3))⟩
end
def oW(h:Heap)(d:V_)(es:Array DictEntry)(ep:Nat):Prop:=∃o,h.get? d=some o/\o.cls= .type "dict"/\o.data= .dict es ep
section
variable {prog:Wc} {w:Wf} {A:V'} {E:We->Wd->Prop} {s:Wd} {d it:V_} {es:Array DictEntry} {ep i:Nat}
theorem oW.ty(x:oW s.heap d es ep):s.TypeIs (.ref d) "dict":=let ⟨o,h1,h2,_⟩:=x;⟨o,h1,h2⟩
theorem Bv{Q:We->Wd->Prop}(lo:(d == sysModules)=false)(x:oW s.heap d es ep)
  (k:Q (.ref s.heap.objs.size) { s with heap:=s.heap.push { cls:=.type "dict_keyiterator",data:=.fields #[.ref d,.int 0 0,.int es.size 0,.int ep 0] } }):Wx (model prog w) A (pyIter (.ref d)) Q E s:=by
 have ty:=x.ty
 obtain⟨o,g1,g2,g3⟩:=x
 refine wpAny_pyIter_slot ty PySem.F.slot_dict_iter (wpAny_call_entry PySem.F.slot_dict_iter ty PySem.F.entry_dict_iter ?_ (PySem.F.args_dict_iter_1 _))
 unfold Builtin.«dict.__iter__» Builtin.Dict.dictSlotNone
 refine Wy (Wy (wpAny_notOrdered_dict ty (WD ?_)))
 unfold Builtin.Dict.showsAll
 have nlo:¬(d == sysModules)=true:=by rw[lo];exact bz
 refine Wy (show Wx _ _ (pure d) _ _ s from WD (Wy ?_))
 rw[if_neg nlo]
 exact WD (Wy (Wz g1 g3 (Wy (wpAny_dictEpoch g1 g3 (Wy (WC (WD ⟨_,rfl,"dict_keyiterator",_,⟨_,bM _ rfl,rfl⟩,PySem.F.slot_dict_keyiterator_next.lookup,by simpa [rawInt] using k⟩)))))))
theorem Bw{Q:Option We->Wd->Prop}(ki:s.heap.IsKeyIter it d i es.size ep)(x:oW s.heap d es ep)(hi:i < es.size)
  (k:∀h',h'.IsKeyIter it d (i+1) es.size ep->kZ it s.heap h'->Q (some es[i].key) { s with heap:=h' }):Wx (model prog w) A (pyNext (.ref it)) Q E s:=by
 have ty:=ki.typeIs
 obtain⟨oi,f1,f2,f3⟩:=id ki
 obtain⟨o,g1,g2,g3⟩:=x
 have own:Jl "dict_keyiterator"=false:=by decide
 have nn:¬((aH d == bL)=true):=bz
 unfold pyNext
 refine Wy (wpAny_attempt (wpAny_callSpecial?_slot (name:=jd "__next__") ty PySem.F.slot_dict_keyiterator_next (wpAny_call_entry PySem.F.slot_dict_keyiterator_next ty PySem.F.entry_dict_keyiterator_next ?_ (PySem.F.args_dict_keyiterator_next_1 _))))
 refine Wy (WD (Wy (Wy ?_)))
 first | refine Wy (wpAny_typeNameOfWhole_keyiter ty (WD (Wy (wpAny_fieldsOf f1 f3 ?_)))) | refine Wy (wpAny_typeNameOf_keyiter ty (WD (Wy (wpAny_fieldsOf f1 f3 ?_))))
 simp only[own,lU,if_false]
 refine(show Wx _ _ (if(aH d == bL)=true then _ else _) _ _ s from ?_);rw[if_neg nn]
 refine Wy (WD (Wy (Wz g1 g3 ?_)))
 rw[if_neg (by simp)]
 refine Wy (WD (Wy (wpAny_dictEpoch g1 g3 ?_)))
 rw[if_neg (by simp)]
 refine WD ?_
 have n0:¬((i:Int) < 0):=by omega
 simp only[n0,if_false,Int.toNat_natCast,Array.getElem?_eq_getElem hi]
 refine Wy ?_
 first | refine Wy (wpAny_typeNameOfWhole_keyiter ty (WD (Wy (wpAny_isOneOf_keyiter ty ?_)))) | refine Wy (wpAny_typeNameOf_keyiter ty (WD (Wy (wpAny_isOneOf_keyiter ty ?_))))
 refine(show Wx _ _ (setField (.ref it) 1 (rawInt ((i:Int)+1)) >>= _) _ _ s from ?_)
 have SK:(s.heap.update it (gQ (·.setIfInBounds 1 (rawInt ((i:Int)+1))))).IsKeyIter it d (i+1) es.size ep:=⟨_,uV _ f1 (wU (mI f3 _)),(Obj.cls_mapFields ..).trans f2,by rw[mI f3];simp[rawInt]⟩
 refine Wy (wpAny_setField f1 f3 (by simp) (Wy (WA (Wy (wpAny_isOneOf_keyiter (s:={ s with heap:=s.heap.update it (gQ (·.setIfInBounds 1 (rawInt ((i:Int)+1)))) }) SK.typeIs ?_)))))
 exact(show Wx _ _ (pure es[i].key) _ _ _ from WD (WD ⟨_,rfl,WD (k _ SK (Jm ..))⟩))
theorem EW{Q:Option We->Wd->Prop}(hh:A.handled=none)(ki:s.heap.IsKeyIter it d i es.size ep)(x:oW s.heap d es ep)(hi:es.size<=i)(k:∀h',Heap.ExtBut it s.heap h'->Q none { s with heap:=h' }):Wx (model prog w) A (pyNext (.ref it)) Q E s:=by
 have ty:=ki.typeIs
 obtain⟨oi,f1,f2,f3⟩:=id ki
 obtain⟨o,g1,g2,g3⟩:=x
 have own:Jl "dict_keyiterator"=false:=by decide
 have nn:¬((aH d == bL)=true):=bz
 unfold pyNext
 refine Wy (wpAny_attempt (wpAny_callSpecial?_slot (name:=jd "__next__") ty PySem.F.slot_dict_keyiterator_next (wpAny_call_entry PySem.F.slot_dict_keyiterator_next ty PySem.F.entry_dict_keyiterator_next ?_ (PySem.F.args_dict_keyiterator_next_1 _))))
 refine Wy (WD (Wy (Wy ?_)))
 first | refine Wy (wpAny_typeNameOfWhole_keyiter ty (WD (Wy (wpAny_fieldsOf f1 f3 ?_)))) | refine Wy (wpAny_typeNameOf_keyiter ty (WD (Wy (wpAny_fieldsOf f1 f3 ?_))))
 simp only[own,lU,if_false]
 refine(show Wx _ _ (if(aH d == bL)=true then _ else _) _ _ s from ?_);rw[if_neg nn]
 refine Wy (WD (Wy (Wz g1 g3 ?_)))
 rw[if_neg (by simp)]
 refine Wy (WD (Wy (wpAny_dictEpoch g1 g3 ?_)))
 rw[if_neg (by simp)]
 refine WD ?_
 have n0:¬((i:Int) < 0):=by omega
 simp only[n0,if_false,Int.toNat_natCast,Array.getElem?_eq_none hi]
 refine Wy ?_
 first | refine Wy (wpAny_typeNameOfWhole_keyiter ty (WD ?_)) | refine Wy (wpAny_typeNameOf_keyiter ty (WD ?_))
 refine(show Wx _ _ (setField (.ref it) 0 .none >>= _) _ _ s from Wy (wpAny_setField f1 f3 (by simp) ?_))
 refine(show Wx _ _ (newExc (.type "StopIteration") [] >>= _) _ _ _ from ?_)
 simp only[newExc,newTuple,raiseNew]
 refine Wy (Wy (WC (Wy (m:=firstArgMember _ _) (wpAny_of_eq (a:=bL) (by first | rfl | (simp only[firstArgMember];rfl)) (WC ?_ (by size_fits)))) (by size_fits)))
 refine(Wy (wpAny_handled ?_))
 rw[show A.in1.handled=none by exact hh]
 refine(Wy (WD (wpAny_throw ?_)))
 refine Wy (wpAny_isInstance (b:=true) (T:="StopIteration") ⟨_,bM _ rfl,rfl⟩ isSubtype_stop (WD ?_))
 refine k _ ?_;exact((Jm ..).extBut.push _).push _
theorem yQ(hh:A.handled=none)(I:V_)(hne:d≠I):Walks prog w A I [I,d] [I] es.size (λi v=>∃h:i < es.size,v=es[i].key) (λi h=>h.IsKeyIter I d i es.size ep/\oW h d es ep) where
 sub:=λb hb=>List.mem_cons.mpr (.inl (List.mem_singleton.mp hb))
 frame:=λ_ _ _ st hk=>⟨st.1.at λo e=>hk I (by simp) o e,let ⟨o,e1,e2⟩:=st.2;⟨o,hk d (by simp) o e1,e2⟩⟩
 item:=λi s Q E hi st hQ=>Bw st.1 st.2 hi λh' ki sb=>hQ _ h' s.toks ⟨hi,rfl⟩ ⟨ki,let ⟨o,e1,e2⟩:=st.2;⟨o,sb.extBut d o hne e1,e2⟩⟩ λb o hb e=>sb.extBut b o (λz=>hb (by simp[z])) e
 done:=λs Q E st hQ=>EW hh st.1 st.2 (ay _) λh' eb=>hQ h' s.toks λb o hb e=>eb b o (λz=>hb (by simp[z])) e
 self:=λ_ _ _ _ st k=>wpAny_pyIter_keyiter st.1 k
theorem EY(lo:(d == sysModules)=false):KdlSrc prog w "dict" d d es.size (λi v=>∃h:i < es.size,v=es[i].key) (λh=>oW h d es ep) where
 type:=λ_ x=>x.ty
 there:=λ_ x=>let ⟨o,e,_⟩:=x;⟨aV e,aV e⟩
 keep:=λ_ _ x hk=>let ⟨o,e,r⟩:=x;⟨o,hk d (.inl rfl) o e,r⟩
 notList:=by decide
 notTuple:=by decide
 hint:=λ_ _ _ _ x hq=>kdl_hint_dict x.ty hq
 iter:=λ_ s hh x=>⟨_,_,(λ_ _ hq=>Bv lo x hq),yQ hh _ (by obtain⟨o,e,_⟩:=x;exact bx (aV e)),⟨⟨_,bM _ rfl,rfl,rfl⟩,let ⟨o,e,r⟩:=x;⟨o,a7 _ e,r⟩⟩⟩
end
section
variable {X:Cx}
end
section
variable {X:Cx}
end
open PySem L2 PyProof.Rows
section
open PySem.SeqAt PySem.MeetsSeq PySem.MeetsSeq2 PySem.MeetsSeq3
end
variable {X:Cx}
def oLe:fK:=λx y st=>Mj x y st
theorem Jn(hu:X.A.units+64 < cLine):jg X (Wm .LtE) oLe:=Mm
def MR:fK:=λx y st=>Mi x y st
theorem Jo(hu:X.A.units+64 < cLine):jg X (Wm .Lt) MR:=Ml
structure mi(k:Nat)(A:V'):Prop where
 d:A.depth+3 * k+5 < recursionLimit
 u:A.units+16 * k+200 < cLine
theorem mi.of{k:Nat}{A:V'}(r:e7 k A):mi k A:=⟨r.dp,r.un⟩
structure MS(P:Wc)(w:Wf)(K:PySem.W.Frag)(mg:Str->Option We)(base:Heap)(k:Nat)(f:V_)(fd:Wa)(ps:List Str)(sp:Sp):Prop where
 n:∀vs H Q E,sp vs H Q E->vs.length=ps.length
 go:∀(A:V')(outer:List Env)(s:Wd)(H:Hp)(args:Args)(us:List We)(vs:List V)(Q:VK)(E:XK),mi k A->yD A H->sv P w K mg base A outer s H->
  BindsTo s fd args (ps.zip us)->Vals vs us->sp vs H Q E->Wj (model P w) A (.call (.ref f) args) (CR (CXJ P w) outer P w H s Q E) s
section
variable {P:Wc} {w:Wf} {K:PySem.W.Frag} {mg:Str->Option We} {base:Heap}
end
section
variable {X:Cx}
end
def Jp(P:Wc)(w:Wf)(K:PySem.W.Frag)(mg:Str->Option We)(base:Heap)(k:Nat)(x:Str)(n:Nat)(F:List Wv->Hs->Re Wv):Prop :=
 ∃f fd ps,MS P w K mg base k f fd ps (spW K n F)/\mg x=some (.ref f)/\PySem.W.keepIn K (.ref f)=true/\Binds K fd ps []
section
variable {X:Cx}
end
section
variable {X:Cx}
end
section
variable {X:Cx}
end
open Classical in
section
variable {X:Cx}
end
open Classical in
section
variable {X:Cx} {pins:List (V_×Obj)} {σ:St} {H:Hp} {s:Wd} {scope:Scope} {x:Str} {xr:List Str} {cs:fL}
end
section
variable {prog:Wc} {w:Wf} {A:V'} {R:Result->Wd->Prop} {s:Wd}
end
section
variable {X:Cx}
end
section
variable {X:Cx}
end
section
open PySem.SeqAt PySem.MeetsSeq PySem.MeetsSeq2 PySem.MeetsSeq3
end
section
variable {X:Cx}
end
section
variable {X:Cx}
end
section
variable {X:Cx}
def Bx(kvs:Dc)(gk gx:GE):GE:=λρ st=>(gk ρ st).bind λk st1=>(gx ρ st1).bind λx st2=>match k with
 | .str z=> .ok ((kvs.lookup z).getD x) st2
 | _=> .bad
theorem By{e f:Expr}{gk gx:GE}{x:Str}{p apos cpos:Pos}{kvs:Dc}(he:JE X e gk)(hf:JE X f gx)(M:M2 X (.Name x p) "get" apos e f cpos)(hg:Gl X x)(hd:(x == ("__debug__":Str))=false)(D:vw X.K X.w X.mg x kvs):JE X (.Call (.Attribute (.Name x p) "get" apos) [e,f] [] cpos) (Bx kvs gk gx):=by
 intro ρ st σ H m Q S R pp pins s I
 obtain⟨a,es,ep,g1,g2,g3,g4,g5⟩:=D
 have k1:=he.go (T:=λy H2=>∃k st1 m1,dG X σ m H ((gx ρ st1).bind λx st2=>match k with | .str z=> .ok ((kvs.lookup z).getD x) st2 | _=> .bad) Q/\Ext X.K m H m1 H2/\bw X.K m1 st1 H2/\ah X.K m1 H2 k y) S R (aC.bind pp) λw st1 v m1 H1 p1 e1 S1 rw'=>⟨w,st1,m1,p1,e1,S1,rw'⟩
 refine wpAny_Call_method M.base M.few M.line PySem.F.plainAttrs_dict PySem.F.slot_dict_get PySem.F.type_dict_get (a8 (gL (v:=.ref a) hg g1 rfl hd pins s σ H (λv H2=>v= .ref a/\H2=H) I ⟨rfl,rfl⟩) λu s1 ⟨v,H1,I1,rv,ev,eH⟩=>?_)
 subst ev
 cases eH
 obtain rfl:u=aH a:=rv
 refine⟨⟨_,I1.pq _ _ g2,rfl⟩,λa' e=>by cases e;exact⟨_,I1.pq _ _ g2,rfl⟩,?_⟩
 rw[M.trees]
 refine uW rfl (uX (ni (a8 (k1 pins s1 I1) λiv s2 ⟨y,H2,I2,ry,k,st1,m1,p1,e1,S1,rk⟩=>?_)))
 have k2:=hf.go (T:=λz H3=>∃x' st2 m2,dG X σ m H (match k with | .str z=> .ok ((kvs.lookup z).getD x') st2 | _=> .bad) Q/\Ext X.K m H m2 H3/\bw X.K m2 st2 H3/\ah X.K m2 H3 x' z) S1 (R.mono e1) ((aC.bind p1).imp e1 λ_ _ q=>q) λw st2 v m2 H3 p2 e2 S2 rw'=>⟨w,st2,m2,p2,e1.trans e2,S2,rw'⟩
 refine ni (a8 (k2 pins s2 I2) λfv s3 ⟨z,H3,I3,rz,x',st2,m2,p2,e2,S2,rx⟩=>uQ ?_)
 cases k with
 | str zs=>
  obtain⟨rfl,_⟩:=dB rk
  obtain⟨t,rfl⟩:=(show ∃t,iv=jZ zs t from ry)
  obtain⟨vs,dd,look⟩:=xl (P:=X.prog) (w:=X.w) I3.pq g2 g4 g5
  refine call_meetsIn PySem.F.slot_dict_get dd.typeIs PySem.F.entry_dict_get (PySem.F.args_dict_get_3 _ _ _) (meets_dict_get_default (PySem.strKind X.prog X.w) a (strKind_is X.prog X.w zs t) g3 fv) ⟨_,dd.mapOf,?_⟩
  have p2':Lc X.K m H Q ((kvs.lookup zs).getD x') st2:=p2
  cases e:kvs.lookup zs with
  | none=>
   rw[e] at p2'
   have q:=(look zs).1 e
   show EP X pins σ Q ((valueAt vs zs).getD fv) _
   rw[q]
   exact⟨z,H3,I3.tok _,rz,p2' z m2 H3 e2 S2 rx⟩
  | some u=>
   rw[e] at p2'
   obtain⟨u',q1,q2⟩:=(look zs).2 u e
   show EP X pins σ Q ((valueAt vs zs).getD fv) _
   rw[q1]
   cases u with
   | int i=>exact⟨.int i,H3,I3.tok _,q2,p2' _ m2 H3 e2 S2 (by unfold ah;rfl)⟩
   | str y=>exact⟨.str y,H3,I3.tok _,q2.1,p2' _ m2 H3 e2 S2 (by unfold ah;exact⟨rfl,q2.2⟩)⟩
   | _=>exact ae q2
 | _=>exact ae p2
end
def EZ:List Wv->Hs->Re Wv:=λ_ _=> .bad
theorem qX{P:Wc}{w:Wf}{K:PySem.W.Frag}{mg:Str->Option We}{base:Heap}{h:Heap}{k:Nat}{x:Str}{st:Stmt}{ps:List Str}(KX:K.In h)(NS:h.Ns Wt mg)(D:bu K x st)
  (hb:∀(kV doc pm:We)(an:Option V_)(cdv ct:We)(us:List We),us.length=ps.length->bindArgs (PySem.W.fnOf x x (defArgs st) (defBody st) (defScope st) .none kV doc pm an cdv ct) ⟨us,[]⟩=pure (ps.zip us)) :
  fI P w K mg base k x ps.length EZ:=by
 obtain⟨f,fd,a,F⟩:=D
 exact⟨f,fd,ps,⟨λvs H Q E ⟨_,_,_,_,_,_,p⟩=>ae p,λA outer s H args us vs Q E hr e0 hb r ⟨_,_,_,_,_,_,p⟩=>ae p⟩,PySem.W.mg_of KX NS a,F.kp,F.binds hb⟩
section
variable {X:Cx}
theorem Bz:eF X (Wh .Mult) (λx y H Q=>∃z n,x= .str z/\y= .int n/\(n=0\/n=1)/\Q (.str (if n=0 then PySem.Str.empty else z)) H):=by
 intro pins s σ H x y v u Q I rx ry h
 obtain⟨z,n,rfl,rfl,hn,q⟩:=h
 obtain⟨t,rfl⟩:=rx
 obtain⟨t',rfl⟩:=ry
 rcases hn with rfl | rfl
 ·exact PySem.P.mul_str_none (by omega) (by omega) ⟨.str PySem.Str.empty,H,I.tok _,⟨_,rfl⟩,q⟩
 ·refine PySem.P.mul_str (by decide) (λ_ h=>by cases h) (λ_ h=>by cases h) ?_
  rw[if_neg (by omega),if_pos (by rfl)]
  exact⟨.str z,H,I,⟨t,rfl⟩,q⟩
def Gb:fK:=λx y st=>match x,y with
 | .str z,.int n=>if n=0\/n=1 then .ok (.str (if n=0 then PySem.Str.empty else z)) st else n6 (.str z) (.int n) st
 | x,y=>n6 x y st
theorem E0:jg X (Wh .Mult) Gb:=by
 obtain⟨r,h1,h2⟩:=EI (X:=X)
 refine⟨_,eF.or Bz h1,λx y a b st H m Q S rx ry p=>?_⟩
 cases x with
 | str z=>
  cases y with
  | int n=>
   have p':cI X.K m H (if n=0\/n=1 then .ok (.str (if n=0 then PySem.Str.empty else z)) st else n6 (.str z) (.int n) st) Q:=p
   by_cases c:n=0\/n=1
   ·rw[if_pos c] at p'
    obtain⟨rfl,ok⟩:=dB rx
    refine .inl ⟨z,n,rfl,aO ry,c,p' _ m H Ext.refl S (mkStr ?_)⟩
    by_cases c0:n=0
    ·rw[if_pos c0];decide+kernel
    ·rw[if_neg c0];exact ok
   ·rw[if_neg c] at p'
    exact .inr (h2 _ _ _ _ st H m Q S rx ry p')
  | _=>exact .inr (h2 _ _ _ _ st H m Q S rx ry p)
 | _=>exact .inr (h2 _ _ _ _ st H m Q S rx ry p)
end
abbrev LF:=List Wv->List Wv->Hs->Re Wv
section
variable {X:Cx} {pins:List (V_×Obj)} {σ:St} {H:Hp} {s:Wd}
end
def UR(K:PySem.W.Frag)(n:Nat)(p:Lm)(L:LF):Sp:=λvs H Q E=>∃m st ws caps,bw K m st H/\ai K m H ws vs/\ai K m H caps p.xs/\H p.c=some (.ext (An p.c p.q))/\ws.length=n/\F_ K m H (L caps ws st) Q E
def Jq(P:Wc)(w:Wf)(K:PySem.W.Frag)(mg:Str->Option We)(base:Heap)(k:Nat)(p:Lm)(n:Nat)(L:LF):Prop :=
 ∃fd ps ob,FnOk P w K mg base (CXJ P w) k p.a fd ps (UR K n p L)/\base.get? p.a=some ob/\ob.data= .func fd/\Binds K fd ps []
open Classical in
section
variable {X:Cx}
end
section
variable {P:Wc} {w:Wf} {K:PySem.W.Frag} {mg:Str->Option We} {base:Heap} {p:Lm} {scope:Scope} {x1 x2 x3 y:Str} {cy:V_}
theorem Qn{m:Mp}{H:Hp}{ws:List Wv}{vs:List V}(r:ai K m H ws vs)(h:ws.length=3):∃w1 w2 w3 v1 v2 v3,ws=[w1,w2,w3]/\vs=[v1,v2,v3]/\ah K m H w1 v1/\ah K m H w2 v2/\ah K m H w3 v3:=by
 match ws,h with
 | [w1,w2,w3],_=>
  unfold ai at r
  obtain⟨v1,t1,rfl,r1,r⟩:=r
  unfold ai at r
  obtain⟨v2,t2,rfl,r2,r⟩:=r
  unfold ai at r
  obtain⟨v3,t3,rfl,r3,r⟩:=r
  unfold ai at r
  subst r
  exact⟨w1,w2,w3,v1,v2,v3,rfl,rfl,r1,r2,r3⟩
end
structure Gd(X:Cx)(q:Str)(P:V_):Prop where
 code:∃c,X.env.code= .ref c/\PySem.W.CodeHd X.base c P
 qual:X.env.qual=q++".<locals>."
 tab:gR X.K q=some P
 mem:q∈bW
 uniq:∀q',q'∈bW->gR X.K q'=some P->q'=q
 bm:∃bm ob,X.mg "__builtins__"=some (.ref bm)/\bm≠builtinsNs/\bm≠Wt/\X.base.get? bm=some ob/\ob.cls= .type "module"/\ob.dict=some builtinsNs/\ob.data= .plain
section
variable {X:Cx} {pins:List (V_×Obj)} {σ:St} {H:Hp} {s:Wd} {q:Str} {P:V_}
end
abbrev SM:=Lm->LF->List Wv->Hs->Re Wv
def Qo(mg:Str->Option We)(base:Heap):Prop:=∃bm ob,mg "__builtins__"=some (.ref bm)/\bm≠builtinsNs/\bm≠Wt/\base.get? bm=some ob/\ob.cls= .type "module"/\ob.dict=some builtinsNs/\ob.data= .plain
def BA(K:PySem.W.Frag)(mg:Str->Option We)(base:Heap):Prop:=Mod K mg base/\Qo mg base
def SN(P:Wc)(w:Wf)(K:PySem.W.Frag)(mg:Str->Option We)(k j:Nat)(x:Str)(FL:SM):Prop :=
 (∃f,mg x=some (.ref f)/\PySem.W.keepIn K (.ref f)=true)/\∀(base:Heap)(p:Lm)(L:LF),BA K mg base->Jq P w K mg base (j+1) p 3 L->fI P w K mg base k x 2 (FL p L)
section
variable {X:Cx}
end
section
variable {P:Wc} {w:Wf} {A:V'} {E:We->Wd->Prop} {s:Wd}
end
theorem Qp(a b c d:We):argsOk "object.__init__" ⟨[a,b,c,d],[]⟩:=by
 unfold argsOk;rw[signature?_of (id:="object.__init__") (n:=['_','_','t','i','n','i','_','_']) (o:=['t','c','e','j','b','o']) (by kernel_rfl) F.owner_object];kernel_rfl
section
variable {P:Wc} {w:Wf} {A:V'} {E:We->Wd->Prop} {s:Wd}
end
section
variable {P:Wc} {w:Wf} {A:V'} {E:We->Wd->Prop} {s:Wd}
end
section
variable {X:Cx}
end
def Qq(lo c:Int)(n:Nat):It:=⟨λi _=>i < n,λi H v H'=>H'=H/\v= .int (lo+i * c),λi _=>n<=i⟩
theorem tm{P:Wc}{w:Wf}{K:PySem.W.Frag}{tg:Expr}(it:V_)(lo c:Int)(n:Nat):Turn P w K tg (Qq lo c n) [it] it (λi h=>IsRangeIter h it (lo+(i:Nat) * c) ((n:Int) - (i:Nat)) c) where
 mem:=by simp
 obj:=λi h st b hb=>by
  have e:b=it:=by simpa using hb
  subst e
  exact⟨_,st,λv z=>by cases z⟩
 keep:=λi h h' st k=>k it (by simp) _ st
 item:=by
  intro X hP hw hK hc i pins s σ H E I hf st hg
  subst hP hw hK
  obtain⟨f0,f1,f2,f3,f4,f5⟩:=hf it (by simp)
  have W:=Walks.range (prog:=X.prog) (w:=X.w) (I.ok.hd hc) it lo c n
  refine W.item i s _ _ hg st λv h' tk hv st' kk=>?_
  obtain⟨t,rfl⟩:=hv
  have I1:Inv X pins σ H { s with heap:=h',toks:=tk }:=I.turned (λb o hb e=>kk b o (by simpa using hb) e) f0 f1 f3 f4 f5
  exact⟨_,rfl,pz (s:={ s with heap:=h',toks:=tk }) (n:="range_iterator") st' rfl rfl (by decide) ⟨.int (lo+i * c),H,I1,⟨t,rfl⟩,⟨rfl,rfl⟩,st',λb hb=>(hf b hb).1⟩⟩
 done:=by
  intro X hP hw hK hc i pins s σ H E I hf st hg
  subst hP hw hK
  obtain⟨f0,f1,f2,f3,f4,f5⟩:=hf it (by simp)
  exact wpAny_pyNext_range_end (I.ok.hd hc) st (by have:n<=i:=hg;omega) λh' eb=>⟨rfl,I.turned (t':=s.toks) (λb o hb e=>eb b o hb e) f0 f1 f3 f4 f5⟩
 self:=λ_ _ _ _ _ st h=>wpAny_pyIter_rangeiter st h
theorem yR(a b c:We):checkTypeCall "range" ⟨[a,b,c],[]⟩=pure ():=by kernel_rfl
theorem yS(a b c:We):checkBuiltinCall "range.__new__" ⟨[.type "range",a,b,c],[]⟩=pure ():=by kernel_rfl
def zw(a b c:Int):Prop:=0<=a/\a < 2 ^ 30/\0<=b/\b < 2 ^ 30/\1<=c/\c < 2 ^ 30
instance {a b c}:Decidable (zw a b c):=AZ _
def fz(a b c:Int):Nat:=(if a < b then(b - a - 1) / c+1 else 0).toNat
theorem yT{a b c:Int}(h:zw a b c):qm a b c=fz a b c:=by
 obtain⟨h1,h2,h3,h4,h5,h6⟩:=h
 unfold qm fz
 rw[if_pos (by omega)]
 by_cases e:a < b
 ·rw[if_pos e]
  have:0<=(b - a - 1) / c:=Int.ediv_nonneg (by omega) (by omega)
  omega
 ·rw[if_neg e];rfl
theorem vx{a b c:Int}(h:zw a b c):Jr a b c=true:=by
 obtain⟨h1,h2,h3,h4,h5,h6⟩:=h
 unfold Jr qm
 have d1:0<=(b - a - 1) / c\/¬a < b:=by
  by_cases e:a < b
  ·exact .inl (Int.ediv_nonneg (by omega) (by omega))
  ·exact .inr e
 have d2:a < b->(b - a - 1) / c<=b - a - 1:=λe=>Int.ediv_le_self _ (by omega)
 simp only[Builtin.Range.rangeFitsLong,cw,AG,decide_eq_true_eq,beq_iff_eq,show c > 0 by omega,if_true]
 split<;>omega
theorem MT{a b c:Int}(h:zw a b c):Js (b - a) c=false:=by
 obtain⟨h1,h2,h3,h4,h5,h6⟩:=h
 have e0:(c == 0)=false:=by rw[beq_eq_false_iff_ne];omega
 have e1:c.natAbs.log2 < 30:=(Nat.log2_lt (by omega)).mpr (by omega)
 have e2:c.natAbs.log2 / 30=0:=Nat.div_eq_of_lt e1
 simp[Js,e0,e2]
theorem tq{P:Wc}{w:Wf}{A:V'}{E:We->Wd->Prop}{s:Wd}{a b c:Int}{t u v:Tok}{Q:We->Wd->Prop}(h:zw a b c)
  (k:Q (.ref s.heap.objs.size) { s with heap:=s.heap.push { cls:=.type "range",data:=.fields #[.int a t,.int b u,.int c v] } }):Wx (model P w) A (call (.type "range") [.int a t,.int b u,.int c v]) Q E s:=by
 refine callType_new F.called_range (by decide) (yR _ _ _) (yS _ _ _) (λobj=>Qp obj _ _ _) F.entry_range_new (AutoRange.range___new___type_int_int_int_1 a b c t u v F.called_range.sub ?_) ⟨MT h,⟨_,bM _ rfl,rfl⟩,k⟩
 have:c≠0:=by have:=h.2.2.2.2.1;omega
 simpa using this
section
variable {X:Cx} {tg:Expr}
def MU(ta:TA):TI:=λσ H R=>ta σ H λvs H1=>∃a b c:Int,vs=[.int a,.int b,.int c]/\zw a b c/\R (Qq a c (fz a b c)) H1
theorem ints3{a b c:Int}{us:List We}(r:Vals [.int a,.int b,.int c] us):∃t u v,us=[.int a t,.int b u,.int c v]:=by
 cases r with
 | cons r1 r=>
  cases r with
  | cons r2 r=>
   cases r with
   | cons r3 r=>
    cases r
    obtain⟨t,rfl⟩:=r1
    obtain⟨u,rfl⟩:=r2
    obtain⟨v,rfl⟩:=r3
    exact⟨t,u,v,rfl⟩
theorem yU{l:Expr}{ls:List Expr}{ta:TA}{p pos:Pos}(hg:Gl X "range")(hm:X.mg "range"=none)(ha:PA X (l::ls) ta)(hst:Ww (l::ls) X.env=(false,eval l X.env)::Ww ls X.env)(hpl:(backTo pos (Ww ls X.env)).any (·.1)=false) :
  PI X tg (.Call (.Name "range" p) (l::ls) [] pos) (MU ta):=by
 intro pins s σ H R I h
 refine wpAny_Call_Name_kw (k7 I hg hm boot_range ?_)
 refine qo (a8 (ha pos pins s σ H _ I h) λus s1 ⟨vs,H1,I1,r1,q1⟩=>?_) hst hpl
 obtain⟨a,b,c,rfl,hc,q⟩:=q1
 obtain⟨t,u,v,rfl⟩:=ints3 r1
 refine tq hc ?_
 refine wpAny_pyIter_range (IsRange.new ..) (vx hc) ?_
 have I2:Inv X pins σ H1 { s1 with heap:=s1.heap.push { cls:=.type "range",data:=.fields #[.int a t,.int b u,.int c v] } }:=I1.kept (t':=s1.toks) λb o e=>a7 _ e
 refine⟨(s1.heap.push { cls:=.type "range",data:=.fields #[.int a t,.int b u,.int c v] }).objs.size,[(s1.heap.push { cls:=.type "range",data:=.fields #[.int a t,.int b u,.int c v] }).objs.size],_,_,H1,rfl,I2.kept (t':=s1.toks) λb o e=>a7 _ e,tm _ a c (fz a b c),?_,λy hy=>?_,q⟩
 ·have e1:a+((0:Nat):Int) * c=a:=by simp
  have e2:((fz a b c:Nat):Int) - ((0:Nat):Int)=qm a b c:=by rw[yT hc];simp
  show IsRangeIter _ _ (a+((0:Nat):Int) * c) (((fz a b c:Nat):Int) - ((0:Nat):Int)) c
  rw[e1,e2]
  exact bM _ rfl
 ·have e:y=(s1.heap.push { cls:=.type "range",data:=.fields #[.int a t,.int b u,.int c v] }).objs.size:=by simpa using hy
  subst e
  exact I2.zK (ay _) (I2.hok.fresh (ay _))
def mx(lo c:Int)(n:Nat):List Wv:=(dJ n).map λk:Nat=>Wv.int (lo+k * c)
theorem kD{lo c:Int}{n:Nat}:(mx lo c n).length=n:=by unfold mx;simp
theorem pU{lo c:Int}{n k:Nat}(h:k < n):(mx lo c n)[k]? =some (.int (lo+k * c)):=by
 unfold mx
 rw[fu,List.getElem?_range h]
 rfl
theorem BB{lo c:Int}{n k:Nat}(h:k < (mx lo c n).length):(mx lo c n)[k]= .int (lo+k * c):=by
 have q:=pU (lo:=lo) (c:=c) (n:=n) (k:=k) (by rw[kD] at h;exact h)
 rw[dD h] at q
 exact Option.some.inj q
def oe(i:Nat)(ga:GA)(gb:GS):GS:=λρ st=>(ga ρ st).a8 ρ λws st1=>match ws with
 | [.int a,.int b,.int c]=>if zw a b c then dI i gb (mx a c (fz a b c)) ρ st1 else .bad
 | _=> .bad
theorem BC(i:Nat){x:Str}{l:Expr}{ls:List Expr}{body:List Stmt}{ga:GA}{gb:GS}{pos pos' p q:Pos}(hN:X.N.Nodup)(hp:PassesOwn (model X.prog X.w) X.A X.env X.xe)(hc:X.calm=true)(hg:Gl X "range")(hm:X.mg "range"=none)(ha:JA X (l::ls) ga)(hb:mL X body gb)
  (hx:X.N[i]? =some x)(hlo:Loc X.env.scope x)(IK:X.fn x=true\/X.env.scope.names.lookup x=some .local)(hst:Ww (l::ls) X.env=(false,eval l X.env)::Ww ls X.env)(hpl:(backTo q (Ww ls X.env)).any (·.1)=false) :
  JS X (.For (.Name x pos') (.Call (.Name "range" p) (l::ls) [] q) body [] pos) (oe i ga gb):=by
 refine JS.of (qp hp hc (yU hg hm iq hst hpl) (j6 hN hx hlo IK) fQ (λ_=>rfl)) λρ st σ H m D S R p=>?_
 refine ha.go S R (aR.bU R p) λws st1 vs m1 H1 p1 e1 S1 rs=>?_
 split at p1
 ·rename_i a b c
  by_cases cc:zw a b c
  ·rw[if_pos cc] at p1
   obtain⟨w1,w2,w3,v1,v2,v3,e,rfl,r1,r2,r3⟩:=Qn rs rfl
   cases e
   cases aO r1
   cases aO r2
   cases aO r3
   refine⟨a,b,c,rfl,cc,kr (J':=Qq a c (fz a b c)) i hb S1 (R.mono e1) (aR.shift p1 e1) (λk H m' e hk=>by rw[kD] at hk;exact hk) (λk H m' e hk=>by rw[kD] at hk;exact j8 hk.symm) λk hk H x H' m' e y=>?_⟩
   obtain⟨y1,y2⟩:=y
   refine⟨y1,?_⟩
   rw[BB,y2]
   exact mkInt
  ·rw[if_neg cc] at p1;exact ae p1
 ·exact ae p1
end
section
variable {X:Cx}
end
section
variable {X:Cx}
end
theorem E1(l:V_)(items:Array We)(n:Nat)(b:V_)(items2:Array We)(n2:Nat)(dd:Option V_)(sl:Array (Option We))(hs0:¬(!items.isEmpty&&nC (items.size+items2.size))=true)(hs1:items.size<=Wu)(hs2:items.size+items2.size<=Wu+1) :
  Meets (Builtin.«list.extend» ⟨[.ref l,.ref b],[]⟩) (λ_ R s=>s.heap.get? l=some { cls:=.type "list",dict:=none,data:=.seq items n,slots:=#[] }/\s.heap.get? b=some ⟨.type "tuple",dd,.seq items2 n2,sl⟩/\R (.ok (.ret bL)) { s with heap:=s.heap.update l (j_ λx=>x++items2),toks:=s.toks }) :=
 .of_wp λprog w A R s h=>by
  obtain⟨hp,g,d,tk,os⟩:=s;obtain⟨hl,hb,h⟩:=h;have f1:=AutoSeq1.idx_int;have f2:=AutoSeq1.sub_tuple_tuple;have f3:=AutoSeq1.sub_list_list;have f4:=AutoSeq1.sub_tuple_list;have f5:=AutoSeq1.sub_list_tuple;
  have hz':(items++items2).size<=Wu+1:=by rw[Array.size_append];exact hs2
  wp_walk using (wpAny_updateSeq hl rfl (hz:=hs1) (_hz':=hz')),wpAny_loadPart' hl,wpAny_loadPart' hb;exact⟨_,rfl,h⟩
def tu(K:PySem.W.Frag):V->List V->Hp->VK->Prop:=λx vs H Q=>∃l b xs zs,x= .ref l/\vs=[.ref b]/\H l=some (.lst xs)/\eM K H b zs/\xs.length+zs.length<=Wu/\Q .non (upd H l (.lst (xs++zs)))
section
variable {X:Cx}
theorem vy:PR X "list.extend" (tu X.K):=by
 intro pins s σ H x vs v us Q I rx rv h
 obtain⟨l,b,xs,zs,rfl,rfl,hH,hB,hz,q⟩:=h
 cases rx
 obtain⟨u,rfl,ru⟩:=rv.one
 cases ru
 obtain⟨z,its,n,r,hl,e⟩:=I.Ad hH
 obtain⟨its2,r2,⟨o,e2,oc,n2,od⟩,z2⟩:=I.tuple hB
 obtain⟨VY,dd,od',sl⟩:=o
 dsimp only at oc od
 subst oc od
 have l1:xs.length=its.length:=r.length
 have l2:zs.length=its2.length:=r2.length
 have hsz:its.toArray.size+its2.toArray.size<=Wu:=by rw[aT,aT];omega
 have sy:¬(!its.toArray.isEmpty&&nC (its.toArray.size+its2.toArray.size))=true:=by
  rw[nB hsz,Bool.and_false]
  exact bz
 refine call_meets F.slot_list_extend ⟨_,e,rfl⟩ F.entry_list_extend (F.args_list_extend_2 _ _)
  (E1 l its.toArray n b its2.toArray n2 dd sl sy (by rw[aT];omega) (by omega)) ⟨e,e2,?_⟩
 refine⟨.non,_,I.HP (its':=its++its2) hH e (by simp) (r.append r2) ?_,rfl,q⟩
 rw[iB]
 omega
def tw(o v:Wv)(st:Hs):Re Wv:=match v with
 | .tup zs=>(match o with
  | .ref l=>(match st[l]? with
   | some (.lst ws)=>if ws.length+zs.length<=lim then .ok .non (st.set l (.lst (ws++zs))) else .bad
   | _=> .bad)
  | _=> .bad)
 | v=>IV o v st
theorem E2:MD X "list.extend" tw:=by
 obtain⟨r0,m0,h0⟩:=IW (X:=X)
 refine⟨λx vs H Q=>r0 x vs H Q\/tu X.K x vs H Q,?_,λo w x v st H m Q S ro rw' p=>?_⟩
 ·intro pins s σ H x vs v us Q I rx rv h
  rcases h with h | h
  ·exact m0 pins s σ H x vs v us Q I rx rv h
  ·exact vy pins s σ H x vs v us Q I rx rv h
 ·cases w with
  | tup zs=>
   refine .inr ?_
   cases o with
   | ref l=>
    unfold ah at ro rw'
    obtain⟨a,rfl,ha⟩:=ro
    obtain⟨b,ys,rfl,hb,g2⟩:=rw'
    have p':cI X.K m H (match st[l]? with | some (.lst ws)=>if ws.length+zs.length<=lim then .ok .non (st.set l (.lst (ws++zs))) else .bad | _=> .bad) Q:=p
    cases e:st[l]? with
    | none=>rw[e] at p';exact ae p'
    | some ob=>
     cases ob with
     | dct kvs=>rw[e] at p';exact ae p'
     | l9 kvs=>rw[e] at p';exact ae p'
     | wV kvs=>rw[e] at p';exact ae p'
     | zu kvs=>rw[e] at p';exact ae p'
     | kY kvs=>rw[e] at p';exact ae p'
     | ins _ _=>rw[e] at p';exact ae p'
     | oJ ns=>rw[e] at p';exact ae p'
     | lst ws=>
      rw[e] at p'
      dsimp only at p'
      by_cases c:ws.length+zs.length<=lim
      ·rw[if_pos c] at p'
       obtain⟨xs,h1,h2⟩:=S.nH ha e
       have e4:Ext X.K m H m (upd H a (.lst (xs++ys))):=Ext.upd (.inr ⟨xs,h1⟩)
       exact⟨a,b,xs,ys,rfl,rfl,h1,eM.of hb,by rw[<-h2.length,<-g2.length];exact dA c,p' _ m _ e4 (S.write ha e (h2.append g2)) w5⟩
      ·rw[if_neg c] at p';exact ae p'
   | _=>exact ae p
  | _=>exact .inl (h0 o _ x v st H m Q S ro rw' p)
end
def fM(neg:Bool):fK:=λx y st=>match aS st 20 y,aS st 20 x with
 | some (.list ds),some d=> .ok (.bl ((ds.any λz=>aI z d) != neg)) st
 | some (.tuple ds),some d=> .ok (.bl ((ds.any λz=>aI z d) != neg)) st
 | _,_=> .bad
section
variable {X:Cx}
def Jt(K:PySem.W.Frag)(neg:Bool):R2:=λa b H Q=>∃m st x y d ds c,bw K m st H/\ah K m H x a/\ah K m H y b/\aS st 20 y=some c/\(c= .list ds\/c= .tuple ds)/\aS st 20 x=some d/\Q (.bl ((ds.any λz=>aI z d) != neg)) H
theorem xn{ds:List PyData}{c:PyData}(h:c= .list ds\/c= .tuple ds)(k:c.canLay0=true):j3 ds=true:=by
 rcases h with rfl | rfl<;>exact k
theorem Ju(hu:X.A.units+64 < cLine):eF X (Wm .In) (Jt X.K false):=by
 intro pins s σ H a b v u Q I rx ry h
 obtain⟨m,st,x,y,d,ds,c,S,h1,h2,e1,hc,e2,q⟩:=h
 obtain⟨as,q1,q2,q3⟩:=de I S 20 x a v d h1 rx e2
 obtain⟨bs,p1,p2,p3⟩:=de I S 20 y b u c h2 ry e1
 have hd:X.A.units+1+min (eX ds) d.depth < cLine:=by
  have:=qu (eX ds) d.depth
  omega
 have e:∀t:Bool,(t != false)=t:=by decide
 rw[e] at q
 have ca:=xn hc p2
 rcases hc with rfl | rfl
 ·exact SeqAt.in_list_reads p1 q1 ca q2 hd ⟨.bl _,H,I,rfl,q⟩
 ·exact SeqAt.in_tuple_reads p1 q1 ca q2 hd ⟨.bl _,H,I,rfl,q⟩
theorem yV(hu:X.A.units+64 < cLine):eF X (Wm .NotIn) (Jt X.K true):=by
 intro pins s σ H a b v u Q I rx ry h
 obtain⟨m,st,x,y,d,ds,c,S,h1,h2,e1,hc,e2,q⟩:=h
 obtain⟨as,q1,q2,q3⟩:=de I S 20 x a v d h1 rx e2
 obtain⟨bs,p1,p2,p3⟩:=de I S 20 y b u c h2 ry e1
 have hd:X.A.units+1+min (eX ds) d.depth < cLine:=by
  have:=qu (eX ds) d.depth
  omega
 have e:∀t:Bool,(t != true)= !t:=by decide
 rw[e] at q
 have ca:=xn hc p2
 rcases hc with rfl | rfl
 ·exact SeqAt.notIn_list_reads p1 q1 ca q2 hd ⟨.bl _,H,I,rfl,q⟩
 ·exact SeqAt.notIn_tuple_reads p1 q1 ca q2 hd ⟨.bl _,H,I,rfl,q⟩
theorem BD{neg:Bool}{x y:Wv}{a b:V}{st:Hs}{H:Hp}{m:Mp}{Q:VK}(S:bw X.K m st H)(rx:ah X.K m H x a)(ry:ah X.K m H y b)(p:cI X.K m H (fM neg x y st) Q):Jt X.K neg a b H Q:=by
 unfold fM at p
 split at p
 ·rename_i ds d e1 e2
  exact⟨m,st,x,y,d,ds,_,S,rx,ry,e1,.inl rfl,e2,p _ m H Ext.refl S iG⟩
 ·rename_i ds d e1 e2
  exact⟨m,st,x,y,d,ds,_,S,rx,ry,e1,.inr rfl,e2,p _ m H Ext.refl S iG⟩
 ·exact ae p
theorem vz(hu:X.A.units+64 < cLine):jg X (Wm .In) (fM false):=⟨_,Ju hu,λx y a b st H m Q S rx ry p=>BD S rx ry p⟩
theorem pV(hu:X.A.units+64 < cLine):jg X (Wm .NotIn) (fM true):=⟨_,yV hu,λx y a b st H m Q S rx ry p=>BD S rx ry p⟩
end
section
variable {prog:Wc} {w:Wf} {A:V'} {E:We->Wd->Prop} {s:Wd}
end
section
variable {X:Cx} {tg:Expr}
end
section
variable {X:Cx} {a b c d:Expr} {pos:Pos}
end
section
variable {X:Cx} {pins:List (V_×Obj)} {σ:St} {E:We->Wd->Prop} {p:V_}
end
section
variable {X:Cx} {pos:Pos}
end
def getD(d k:Wv)(st:Hs):Option Wv:=match d with
 | .ref l=>(match st[l]? with
  | some (.dct kvs)=>(match keyOf k with | some kk=>iL kvs kk | none=>none)
  | some (.l9 kvs)=>(match ly k with | some kk=>iL kvs kk | none=>none)
  | some (.wV kvs)=>(match ly k with | some kk=>iL kvs kk | none=>none)
  | _=>none)
 | _=>none
section
variable {X:Cx}
end
section
variable {X:Cx} {pins:List (V_×Obj)} {σ:St} {H:Hp} {s:Wd} {a:V_} {xs:List (List L2.Key×V)}
end
section
variable {K:PySem.W.Frag} {m:Mp} {st:Hs} {H:Hp}
end
section
variable {X:Cx}
end
section
variable {X:Cx} {tg:Expr}
end
section
variable {prog:Wc} {w:Wf} {A:V'} {E:We->Wd->Prop} {s:Wd} {d:V_} {es:Array DictEntry} {ep:Nat}
theorem E3{Q:We->Wd->Prop}(lo:(d == sysModules)=false)(x:oW s.heap d es ep)(hz:es.size<=Wu)(h:Q (.int es.size (s.toks+1)) { s with toks:=s.toks+1+1 }):Wx (model prog w) A (call (.builtin "len") [.ref d]) Q E s:=by
 have ty:=x.ty
 obtain⟨o,g1,g2,g3⟩:=x
 refine Calls.call_function_entry kind_len plain_len entry_len (args_len1 _) ?_
 have n0:¬((es.size:Int) < 0):=by omega
 have n1:¬((es.size:Int) >= 2 ^ 63):=by rw[sizeLine_eq] at hz;omega
 have M:MeetsIn prog w (Builtin.«dict.__len__» ⟨[.ref d],[]⟩) (λ_ R s'=>s'=s/\R (.ok (.ret (.int es.size s.toks))) { s with toks:=s.toks+1 }):=.of_wp λA R s' ⟨e,h⟩=>by
  subst e
  refine(show Wx _ _ (dictSize d >>= _) _ _ s' from ?_)
  unfold dictSize
  refine Wy (Wy (Wz g1 g3 (WD ?_)))
  exact(show Wx _ _ (Builtin.Dict.pendingCount d >>= _) _ _ s' from Wy (wpAny_pendingCount_other lo (wpAny_ret_mkInt (by rw[Nat.add_zero];exact h))))
 unfold Builtin.«len»
 refine Wy (m:=oneArg "len" _) (WD (Wy (m:=callSpecial? (.ref d) (jd "__len__")) (wpAny_callSpecial?_slot (name:=jd "__len__") ty PySem.F.slot_dict_len
  (call_meetsIn PySem.F.slot_dict_len ty PySem.F.entry_dict_len (PySem.F.args_dict_len_1 _) M ⟨rfl,?_⟩))))
 refine(show Wx _ _ _ _ _ { s with toks:=s.toks+1 } from Wy (WA (WD (Wy (wpAny_letGo ?_)))))
 refine(show Wx _ _ (if((es.size:Nat):Int) < 0 then _ else _) _ _ _ from ?_);rw[if_neg n0]
 refine(show Wx _ _ (if((es.size:Nat):Int) >= 2 ^ 63 then _ else _) _ _ _ from ?_);rw[if_neg n1]
 exact Wy (wpAny_mkInt (WD ⟨_,rfl,h⟩))
end
section
variable {prog:Wc} {w:Wf} {K:Type} [DecidableEq K] {knd:HeapKind prog w K} {A:V'} {E:We->Wd->Prop} {s:Wd} {d a:V_} {xs:List (K×V_×We)} {k:K}
end
section
variable {prog:Wc} {w:Wf} {A:V'} {E:We->Wd->Prop} {s:Wd}
end
section
variable {prog:Wc} {w:Wf} {A:V'} {E:We->Wd->Prop} {s:Wd} {d it:V_} {i:Nat} {es:Array DictEntry} {ep:Nat} {ok ov:We}
end
section
variable {X:Cx}
theorem Jv{P:Wc}{w:Wf}{H:Hp}{h:Heap}{a:V_}{xs:List (List L2.Key×V)}(ok:ip P w H h)(e:Rd H a (.dT xs)) :
  ∃es ep ys,xs.length<=Wu/\(a == sysModules)=false/\oW h a es ep/\es.size=xs.length/\KT H xs ys/\es.toList=ys.map (entryOfKey (tupleKind (bE P w)))/\(ys.map (·.1)).Nodup:=by
 obtain⟨z,lo,ys,kt,o,es,ep,g1,g2,g3,g4,g5⟩:=(show cC P w H h a (.dT xs) from Af ok e)
 have len:es.size=ys.length:=by have:=congrArg k9 g4;simpa using this
 exact⟨es,ep,ys,z,lo,⟨o,g1,g2.1,g3⟩,by rw[len];exact(Paired.length kt).symm,kt,g4,g5⟩
theorem yW:cH X (.builtin "len") (λxs H Q=>∃a kvs,xs=[.ref a]/\Rd H a (.dT kvs)/\Q (.int kvs.length) H):=by
 intro pins s σ H xs us Q I rs q
 obtain⟨a,kvs,rfl,e,q⟩:=q
 cases rs with
 | cons r rr=>
  cases rr
  cases r
  obtain⟨es,ep,ys,z,lo,raw,sz,_⟩:=Jv I.hok e
  refine E3 lo raw (by rw[sz];exact z) ⟨.int kvs.length,H,I.tok _,⟨_,by rw[sz]⟩,q⟩
def iw:Option Ob->Option (List (List L2.Key×Wv))
 | some (.l9 kvs)=>some kvs
 | some (.wV kvs)=>some kvs
 | _=>none
theorem kE{m:Mp}{st:Hs}{H:Hp}{l:Nat}{a:V_}{kvs:List (List L2.Key×Wv)}(S:bw X.K m st H)(ha:m[l]? =some a)(h:iw st[l]? =some kvs):∃xs,Rd H a (.dT xs)/\RelK X.K m H kvs xs:=by
 unfold iw at h
 split at h
 ·rename_i k' e
  cases h
  obtain⟨xs,h1,h2⟩:=(show ∃ys,H a=some (.dT ys)/\RelK X.K m H kvs ys from S.obj _ _ _ ha e)
  exact⟨xs,.inl h1,h2⟩
 ·rename_i k' e
  cases h
  obtain⟨o,xs,h1,h2⟩:=(show ∃o ys,H a=some (.lV o (.dT ys))/\RelK X.K m H kvs ys from S.obj _ _ _ ha e)
  exact⟨xs,.inr ⟨o,h1⟩,h2⟩
 ·cases h
def pW:List Wv->Hs->Re Wv
 | [.ref l],st=>(match iw st[l]? with | some kvs=> .ok (.int kvs.length) st | none=>iH [.ref l] st)
 | ws,st=>iH ws st
theorem E4:b_ X (.builtin "len") pW:=by
 obtain⟨r0,c0,k0⟩:=AB (X:=X)
 refine⟨_,yW.or c0,λws vs st H m Q S r p=>?_⟩
 have old:cI X.K m H (iH ws st) Q->r0 vs H Q:=λp=>k0 ws vs st H m Q S r p
 unfold pW at p
 split at p
 ·rename_i l
  cases e:iw st[l]? with
  | none=>rw[e] at p;exact .inr (old p)
  | some kvs=>
   rw[e] at p
   obtain⟨v,rfl,rx⟩:=kq r
   unfold ah at rx
   obtain⟨a,rfl,ha⟩:=rx
   obtain⟨xs,h1,h2⟩:=kE (X:=X) S ha e
   refine .inl ⟨a,xs,rfl,h1,?_⟩
   rw[<-h2.length]
   exact p _ m H Ext.refl S mkInt
 ·exact .inr (old p)
end
section
variable {X:Cx} {o e f:Expr} {apos cpos:Pos} {td ty tx:TE}
end
section
variable {X:Cx} {es':List Expr} {kt:Nat} {pt:Pos}
end
section
variable {X:Cx}
end
section
variable {prog:Wc} {w:Wf} {K:Type} [DecidableEq K] {knd:HeapKind prog w K} {A:V'} {E:We->Wd->Prop} {s:Wd} {a b:V_} {xs ys:List (K×V_×We)}
end
section
variable {prog:Wc} {w:Wf} {K:Type} [DecidableEq K] {knd:HeapKind prog w K} {A:V'} {E:We->Wd->Prop} {s:Wd} {a b:V_} {xs ys:List (K×V_×We)}
end
section
variable {X:Cx}
end
section
variable {X:Cx}
end
section
variable {prog:Wc} {w:Wf} {K:Type} [DecidableEq K] {knd:HeapKind prog w K} {A:V'} {E:We->Wd->Prop} {s:Wd} {d:V_} {xs:List (K×V_×We)}
end
section
variable {X:Cx}
end
def jL(gd gk:GE):GE:=λρ st=>(gd ρ st).bind λd st1=>match d with
 | .ref l=>if(iw st1[l]?).isSome=true then(gk ρ st1).bind λk st2=>(match ly k,iw st2[l]? with
  | some kk,some kvs=> .ok ((iL kvs kk).getD .non) st2
  | _,_=> .bad) else .bad
 | _=> .bad
section
variable {X:Cx}
theorem tB{o e:Expr}{gd gk:GE}{apos cpos:Pos}(hu:X.A.units+1 < cLine)(ho:JE X o gd)(he:JE X e gk)(M:M1 X o "get" apos e cpos):JE X (.Call (.Attribute o "get" apos) [e] [] cpos) (jL gd gk) :=
 JE.of (Aj hu aP aP M) λρ st σ H m Q S R p=>by
  refine ho.go S R (aC.bind p) λd st1 v m1 H1 p1 e1 S1 r1=>?_
  cases d with
  | ref l=>
   dsimp only at p1
   by_cases hd:(iw st1[l]?).isSome=true
   ·rw[if_pos hd] at p1
    unfold ah at r1
    obtain⟨a,rfl,ha⟩:=r1
    obtain⟨US,hk1⟩:=Option.isSome_iff_exists.mp hd
    obtain⟨Qr,Qs,_⟩:=kE S1 ha hk1
    refine⟨a,rfl,.inr ⟨Qr,Qs⟩,?_⟩
    refine he.go S1 (R.mono e1) ((aC.bind p1).imp e1 λ_ _ q=>q) λk st2 y m2 H2 p2 e2 S2 r2=>?_
    cases q1:ly k with
    | none=>rw[q1] at p2;exact ae p2
    | some kk=>
     cases q2:iw st2[l]? with
     | none=>rw[q1,q2] at p2;exact ae p2
     | some kvs=>
      rw[q1,q2] at p2
      have ha2:m2[l]? =some a:=e2.pre _ _ ha
      obtain⟨xs,y1,y2⟩:=kE S2 ha2 q2
      obtain⟨b,rfl,hb⟩:=n_ r2 q1
      dsimp only at p2
      refine⟨_,.inr ⟨xs,kk,b,y1,rfl,hb,rfl⟩,?_⟩
      obtain⟨i1,i2⟩:=y2.val kk
      cases q3:iL kvs kk with
      | none=>
       rw[i1 q3]
       rw[q3] at p2
       exact p2 .non m2 H2 (e1.trans e2) S2 (by unfold ah;rfl)
      | some w=>
       obtain⟨u,j1,j2⟩:=i2 w q3
       rw[j1]
       rw[q3] at p2
       exact p2 u m2 H2 (e1.trans e2) S2 j2
   ·rw[if_neg hd] at p1;exact ae p1
  | _=>exact ae p1
end
section
variable {X:Cx}
open Classical in
end
section
variable {X:Cx}
end
section
variable {prog:Wc} {w:Wf} {K:Type} [DecidableEq K] {knd:HeapKind prog w K} {A:V'} {E:We->Wd->Prop} {s:Wd} {d a:V_} {k:K} {xs:List (K×V_×We)}
end
section
variable {X:Cx} {o e:Expr} {apos cpos:Pos} {td ty:TE}
end
section
variable {X:Cx} {o e f:Expr} {apos cpos:Pos} {to te tf:TE}
end
section
variable {X:Cx}
end
section
variable {prog:Wc} {w:Wf} {A:V'} {E:We->Wd->Prop} {s:Wd}
end
section
variable {X:Cx}
end
section
variable {X:Cx}
def Ge(ws:List Wv)(st:Hs):Re Wk:=match ws with
 | [.int a,.int b,.int c]=>if zw a b c then .ok (none,mx a c (fz a b c)) st else .bad
 | _=> .bad
def Qt(g:GA):GI:=λρ st=>(g ρ st).bind Ge
end
section
variable {prog:Wc} {w:Wf} {A:V'} {R:Result->Wd->Prop} {I:V_} {fp wr:List V_} {n:Nat} {P:Nat->We->Prop} {St:Nat->Heap->Prop}
end
section
variable {prog:Wc} {w:Wf} {A:V'} {E:We->Wd->Prop} {s:Wd}
end
section
variable {X:Cx}
end
section
variable {lt:Nat->Nat->Bool} {N:Nat}
end
section
variable {P:Wc} {w:Wf} {K:PySem.W.Frag} {mg:Str->Option We} {base:Heap} {p:Lm} {scope:Scope} {x y:Str} {cy:V_}
end
abbrev Kw:=Int×(Int ⊕ Str)
section
variable {prog:Wc} {w:Wf} {A:V'} {E:We->Wd->Prop} {s:Wd}
end
section
variable {X:Cx} {pins:List (V_×Obj)} {σ:L2.St} {H:Hp} {s:Wd} {m:Mp}
end
def kd:Kw:=(0,.inl 0)
section
variable {X:Cx} {pins:List (V_×Obj)} {σ:L2.St} {base:Heap} {m0 m m':Mp} {H0 H H':Hp} {st:Hs} {D kS:V_} {e1:Nat} {s s':Wd}
end
section
variable {X:Cx} {pins:List (V_×Obj)} {σ:L2.St} {base:Heap} {m0 m m':Mp} {H0 H H':Hp} {st:Hs} {D kS:V_} {e1:Nat} {s s':Wd}
end
section
variable {X:Cx} {pins:List (V_×Obj)} {σ:L2.St} {base:Heap} {m:Mp} {H:Hp} {st:Hs} {s:Wd}
end
open Classical in
section
variable {X:Cx}
end
section
variable {X:Cx}
end
section
variable {X:Cx}
end
section
variable {prog:Wc} {w:Wf} {A:V'} {E:We->Wd->Prop} {s:Wd}
end
section
variable {X:Cx}
end
section
variable {X:Cx}
end
section
open PySem.SeqAt PySem.MeetsSeq PySem.MeetsSeq2 PySem.MeetsSeq3
end
variable {X:Cx}
def oLt:fK:=λx y st=>MR x y st
theorem Jw(hu:X.A.units+64 < cLine):jg X (Wm .Lt) oLt:=Jo hu
section
variable {X:Cx}
theorem E5:eF X (Wm .IsNot) (λx y H Q=>∃a b,x= .bl a/\y= .bl b/\Q (.bl (a != b)) H):=by
 intro pins s σ H x y v u Q I rx ry h
 obtain⟨a,b,rfl,rfl,q⟩:=h
 cases rx
 cases ry
 exact isnot_bool ⟨.bl (a != b),H,I,rfl,q⟩
def kF:fK:=λx y st=>match x,y with
 | .bl a,.bl b=> .ok (.bl (a != b)) st
 | x,y=>nO x y st
theorem E6:jg X (Wm .IsNot) kF:=by
 obtain⟨r,h1,h2⟩:=Az (X:=X)
 refine⟨_,eF.or h1 E5,λx y a b st H m Q S rx ry p=>?_⟩
 cases x with
 | bl c=>
  cases y with
  | bl d=>
   have e1:a= .bl c:=by unfold ah at rx;exact rx
   have e2:b= .bl d:=by unfold ah at ry;exact ry
   exact .inr ⟨c,d,e1,e2,p _ m H Ext.refl S iG⟩
  | _=>exact .inl (h2 _ _ _ _ st H m Q S rx ry p)
 | _=>exact .inl (h2 _ _ _ _ st H m Q S rx ry p)
theorem Jx{x:Wv}{st:Hs}:kF x .non st=nO x .non st:=by cases x<;>rfl
end
section
variable {X:Cx} {o e f:Expr} {apos cpos:Pos} {td ty tx:TE}
end
section
variable {X:Cx} {pins:List (V_×Obj)} {σ:L2.St} {m:Mp} {H:Hp} {st:Hs} {s:Wd}
end
section
variable {X:Cx}
end
section
variable {X:Cx} {es':List Expr} {kt:Nat} {pt:Pos}
end
section
variable {prog:Wc} {w:Wf} {A:V'}
end
section
variable {X:Cx}
end
section
variable {X:Cx}
end
section
variable {X:Cx}
end
section
variable {prog:Wc} {w:Wf} {A:V'} {E:We->Wd->Prop} {s:Wd} {d it:V_} {es:Array DictEntry} {ep i:Nat}
end
abbrev KN(H:Hp):List (NK.KD×V)->List (NK.KD×V_×We)->Prop:=Paired λp q=>p.1=q.1/\KA H 8 (.ref q.2.1) p.1.1/\RelV p.2 q.2.2
theorem KN.val{H:Hp}{kvs:List (NK.KD×V)}{xs:List (NK.KD×V_×We)}(r:KN H kvs xs)(k:NK.KD):iA (ke kvs k) ((atKey xs k).map (·.2)):=by
 induction r with
 | nil=>exact eZ
 | @cons p q ps qs h t ih=>
  obtain⟨h1,_,h2⟩:=h
  by_cases e:p.1=k
  ·have e':q.1=k:=h1.symm.trans e
   have b:atKey (q::qs) k=some q.2:=by simp[atKey,iD,e']
   rw[iC e,b];exact h2
  ·have e':¬q.1=k:=λz=>e (h1.trans z)
   have b:atKey (q::qs) k=atKey qs k:=by simp[atKey,iD,e']
   rw[iE e,b];exact ih
theorem KN.keeps{H H':Hp}{kvs:List (NK.KD×V)}{xs:List (NK.KD×V_×We)}(r:KN H kvs xs)(ht:∀b ys,H b=some (.tup ys)->H' b=some (.tup ys)):KN H' kvs xs :=
 Paired.xZ r λ_ _ z=>⟨z.1,KA.stay ht _ _ _ z.2.1,z.2.2⟩
theorem Gf{P:Wc}{w:Wf}{H:Hp}{h:Heap}{a:V_}{kvs:List (NK.KD×V)}(ok:ip P w H h)(e:H a=some (.dN kvs)):kvs.length<=Wu/\(a == sysModules)=false/\∃xs,KN H kvs xs/\h.DictOfH (NK.gA P w) a xs:=by
 obtain⟨z,y,xs,r,o,es,ep,h1,h2,h3,h4,h5⟩:=(show cC P w H h a (.dN kvs) from ok a _ e)
 refine⟨z,y,xs,r,o,es,ep,h1,h2,h3,h4,λx hx=>?_,h5⟩
 have all:∀{l:List (NK.KD×V)}{m:List (NK.KD×V_×We)},KN H l m->∀x∈m,(NK.gA P w).is h x.1 x.2.1:=by
  intro l m q
  induction q with
  | nil=>intro x hx;exact nomatch hx
  | @cons p q ps qs hq t ih=>
   intro x hx
   rcases List.mem_cons.mp hx with e | hx
   ·subst e
    exact KA.rd ok 8 (.ref x.2.1) _ _ (by rw[<-hq.1];exact hq.2.1) rfl
   ·exact ih x hx
 exact all r x hx
def Jy:TE:=λ_ H Q=>∀p,H p=none->Q (.ref p) (upd H p (.dN []))
section
variable {X:Cx} {o e f:Expr} {pos apos cpos:Pos} {td ty tx:TE}
theorem BE:PE X (.Dict [] [] pos) Jy:=λpins s σ H Q I h=>
 wpAny_Dict_empty ⟨.ref s.heap.objs.size,_,I.laid (a:=s.heap.objs.size) (o:=.dN []) (t':=s.toks) (λ_ _ q=>a7 _ q) (ay _) ⟨bV _,beq_eq_false_iff_ne.mpr (bq (bx I.big)),[],.nil,_,#[],0,bM _ rfl,⟨rfl,rfl,rfl⟩,rfl,rfl,List.nodup_nil⟩,rfl,h _ (I.hok.fresh (ay _))⟩
end
section
variable {X:Cx}
end
def og:Nat->Wv->Option PyData
 | _,.non=>some .none
 | _,.int i=>some (.int i)
 | _,.str x=>some (.str x)
 | n+1,.tup ws=>(ws.mapM (og n)).map ji
 | _,_=>none
def vA(w:Wv):Option NK.KD:=match og 8 w with
 | some d=>if h:NK.kd 8 d=true/\NK.FU d=true then some ⟨d,h⟩ else none
 | none=>none
theorem BF{K:PySem.W.Frag}{m:Mp}{H:Hp}:∀(n:Nat)(w:Wv)(v:V)(d:PyData),ah K m H w v->og n w=some d->KA H n v d:=by
 intro n
 induction n with
 | zero=>
  intro w v d r e
  cases w with
  | non=>cases e;unfold ah at r;subst r;exact eZ
  | int i=>cases e;unfold ah at r;subst r;exact rfl
  | str x=>cases e;unfold ah at r;rw[r.1];exact rfl
  | _=>cases e
 | succ n ih=>
  intro w v d r e
  cases w with
  | non=>cases e;unfold ah at r;subst r;exact eZ
  | int i=>cases e;unfold ah at r;subst r;exact rfl
  | str x=>cases e;unfold ah at r;rw[r.1];exact rfl
  | tup ws=>
   unfold ah at r
   obtain⟨a,xs,rfl,ha,rs⟩:=r
   have e':(ws.mapM (og n)).map ji=some d:=e
   cases q:ws.mapM (og n) with
   | none=>rw[q] at e';cases e'
   | some ds=>
    rw[q] at e'
    cases e'
    refine⟨xs,ha,?_⟩
    have key:∀(ws:List Wv)(xs:List V)(ds:List PyData),ai K m H ws xs->ws.mapM (og n)=some ds->Paired (KA H n) xs ds:=by
     intro ws
     induction ws with
     | nil=>intro xs ds r e;unfold ai at r;subst r;cases e;exact .nil
     | cons w ws UT=>
      intro xs ds r e
      unfold ai at r
      obtain⟨y,t,rfl,r1,r2⟩:=r
      rw[List.mapM_cons] at e
      cases e1:og n w with
      | none=>rw[e1] at e;cases e
      | some d1=>
       cases e2:ws.mapM (og n) with
       | none=>rw[e1,e2] at e;cases e
       | some dr=>
        rw[e1,e2] at e
        cases e
        exact .cons (ih _ _ _ r1 e1) (UT _ _ r2 e2)
    exact key ws xs ds rs q
  | _=>cases e
theorem BG{K:PySem.W.Frag}{m:Mp}{H:Hp}{w:Wv}{v:V}{k:NK.KD}(r:ah K m H w v)(e:vA w=some k):∃b,v= .ref b/\KA H 8 (.ref b) k.1:=by
 unfold vA at e
 cases q:og 8 w with
 | none=>rw[q] at e;cases e
 | some d=>
  rw[q] at e
  dsimp only at e
  by_cases h:NK.kd 8 d=true/\NK.FU d=true
  ·rw[dif_pos h] at e
   cases e
   have ka:=BF 8 w v d r q
   cases v with
   | ref b=>exact⟨b,rfl,ka⟩
   | _=>cases d<;>first | exact ae ka | exact(bz h.2).elim
  ·rw[dif_neg h] at e;cases e
def xo:GE:=λ_ st=> .ok (.ref st.length) (st++[.kY []])
section
variable {X:Cx} {o e f:Expr} {apos cpos:Pos}
theorem E7{pos:Pos}:JE X (.Dict [] [] pos) xo:=JE.of BE λρ st σ H m Q S R p=>λq hq=>
 p (.ref q) (m++[q]) _ (Ext.more.trans (Ext.f' (.inl hq))) (S.qH hq ⟨[],bc,RelK.nil⟩) (S.newest q _)
end
def fA(o v:Wv)(st:Hs):Re Wv:=match aS st 20 o,aS st 20 v with
 | some (.list ds),some d=>(match ds.findIdx? (λz=>aI z d) with | some j=>if ds.length < lim then .ok (.int (j:Nat)) st else .bad | none=> .bad)
 | _,_=> .bad
section
variable {X:Cx}
theorem vB(hu:X.A.units+64 < cLine):Oj X "list.index" (λx xs H Q=>∃m st o w v ds d j,bw X.K m st H/\ah X.K m H o x/\xs=[v]/\ah X.K m H w v/\aS st 20 o=some (.list ds)/\aS st 20 w=some d/\ds.findIdx? (λz=>aI z d)=some j/\ds.length < Wu/\Q (.int (j:Nat)) H):=by
 intro pins s σ H x xs v us Q I rx rv h
 obtain⟨m,st,o,w,y,ds,d,j,S,ro,rfl,rw',e1,e2,ej,hl,q⟩:=h
 obtain⟨u,rfl,ru⟩:=vals1 rv
 obtain⟨as,q1,q2,q3⟩:=de I S 20 w y u d rw' ru e2
 obtain⟨bs,p1,p2,p3⟩:=de I S 20 o x v _ ro rx e1
 have hd:X.A.units+1+min (eX ds) d.depth < cLine:=by
  have:=qu (eX ds) d.depth
  omega
 have ca:j3 ds=true:=p2
 have hs:Wu=16777216:=sizeLine_eq
 cases p1 with
 | @list a ob its n _ bs h1 h2 h3 h4=>
  have hm:=SeqAt.readsAll_map ds _ _ ca h4
  have hz:its.size=ds.length:=by rw[<-hm];simp
  obtain⟨cls,dd,data,sl⟩:=ob
  simp only at h2 h3
  subst h2;subst h3
  rw[List.findIdx?_eq_some_iff_getElem] at ej
  obtain⟨hj1,hj2,UU⟩:=ej
  have at':∀(k:Nat)(hk:k < ds.length)(h':k < its.size),aI (mR s.heap its[k]) d=aI ds[k] d:=by
   intro k hk h'
   have:ds[k]? =some (mR s.heap its[k]):=by rw[<-hm];simp[h']
   rw[dD hk] at this
   rw[<-Option.some.inj this]
  refine call_meets PySem.F.slot_list_index ⟨_,h1,rfl⟩ PySem.F.entry_list_index (PySem.F.args_list_index_2 _ _) (SeqAt.list_indexAt a its n dd sl u (λy=>aI (mR s.heap y) d) j (by omega) (by omega) ?_ ?_) ⟨h1,SeqAt.items_eqAt h4 q1 ca q2 hd,⟨.int _,H,I.tok _,⟨_,rfl⟩,q⟩⟩
  ·show aI (mR s.heap its[j]) d=true
   rw[at' j hj1 (by omega)];exact hj2
  ·intro m hm' hlt
   show aI (mR s.heap its[m]) d=false
   rw[at' m (by omega) hm']
   simpa using UU m hlt
theorem vC(hu:X.A.units+64 < cLine):MD X "list.index" fA:=⟨_,vB hu,λo w x v st H m Q S ro rw' p=>by
 unfold fA at p
 split at p
 ·rename_i ds d e1 e2
  cases ej:ds.findIdx? (λz=>aI z d) with
  | none=>rw[ej] at p;exact ae p
  | some j=>
   rw[ej] at p
   dsimp only at p
   by_cases c:ds.length < lim
   ·rw[if_pos c] at p
    exact⟨m,st,o,w,v,ds,d,j,S,ro,rfl,rw',e1,e2,ej,nL c,p _ m H Ext.refl S mkInt⟩
   ·rw[if_neg c] at p;exact ae p
 ·exact ae p⟩
end
end J
namespace TB
open PySem PySem.SetTable
def stp(M i:Nat):Nat:=(i * 5+1) % M
section
variable {t:SetTable} {hashAt:Nat->Int} {h:Int}
end
def DL(h:Heap)(a:V_)(l:List (Int×We)):Prop:=∃o es ep t,h.get? a=some o/\o.ExactSet/\o.data= .set es ep t/\es.toList.Perm l/\t.place.size=es.size/\t.dummies=#[]/\(t.mask=7\/t.mask=31\/t.mask=127\/t.mask=511)/\es.size * 5 < t.mask * 3
section
variable {prog:Wc} {w:Wf} {A:V'} {E:We->Wd->Prop} {s:Wd}
end
end TB
namespace J
open PySem PySem.Spec PyProof.Rows L2 TB
section
variable {prog:Wc} {w:Wf} {A:V'} {R:Result->Wd->Prop} {I:V_} {fp wr:List V_} {n:Nat} {P:Nat->We->Prop} {St:Nat->Heap->Prop}
end
section
variable {prog:Wc} {w:Wf} {A:V'} {E:We->Wd->Prop} {s:Wd}
end
section
variable {prog:Wc} {w:Wf} {A:V'} {E:We->Wd->Prop} {s:Wd}
end
section
variable {X:Cx}
end
end J
namespace JT
open PySem PyProof.Rows
class Od where
 kd:SortKind
 ik:WG->Prop
 kn:WG->Int
abbrev Kd[Od]:SortKind:=Od.kd
abbrev Ik[Od](p:WG):Prop:=Od.ik p
def kn[Od](p:WG):Int:=Od.kn p
def K[Od](xs:Array WG)(i:Nat):Int:=match xs[i]? with
 | some p=>kn p
 | none=>0
class Oa [Od] (prog:Wc) (w:Wf) (A:V') (E:We->Wd->Prop) (s:Wd):Prop where
 lt:∀{st:SortSt}{x y:WG}{Q:Option Bool->SortSt->Prop},kindOf st=Kd->Ik x->Ik y->Q (some (decide (kn x < kn y))) st->wpS (model prog w) A E s (lt' x y) Q st
section
variable [Od] {prog:Wc} {w:Wf} {A:V'} {E:We->Wd->Prop} {s:Wd} [Oa prog w A E s]
def gp(left:Bool)(key:WG)(arr:Array WG)(base i:Nat):Bool:=if left then decide (K arr (base+i) < kn key) else !decide (kn key < K arr (base+i))
end
section
variable {α:Type} {f:α->Int} {A B:List α}
end
section
variable [Od]
section
variable [Od] {prog:Wc} {w:Wf} {A:V'} {E:We->Wd->Prop} {s:Wd} [Oa prog w A E s]
end
section
variable {α:Type} {f:α->Int} {A B:List α}
theorem drop_take{i n:Nat}(h:i<=n):A.drop i=(A.take n).drop i++A.drop n:=by
 have h1:=EJ n A
 have h2:=congrArg (List.drop i) h1
 rw[List.drop_append] at h2
 rw[<-h2]
 by_cases c:n<=A.length
 ·rw[nj,Nat.min_eq_left c,EK h,vn]
 ·rw[Jd (show A.length<=n by exact Nat.le_of_not_le ‹_›),List.drop_nil]
end
theorem qU{a:Array WG}(i n:Nat):(a.extract i n).toList=(a.toList.take n).drop i:=by
 rw[MM,Je,List.drop_take]
section
variable [Od] {prog:Wc} {w:Wf} {A:V'} {E:We->Wd->Prop} {s:Wd} [Oa prog w A E s]
end
section
variable [Od] {prog:Wc} {w:Wf} {A₀:V'} {E:We->Wd->Prop} {s:Wd} [Oa prog w A₀ E s]
end
section
variable [Od] {prog:Wc} {w:Wf} {A:V'} {E:We->Wd->Prop} {s:Wd} [Oa prog w A E s] {P:Array (Nat×Nat×Nat)} {g:Nat}
end
section
variable [Od] {prog:Wc} {w:Wf} {A:V'} {E:We->Wd->Prop} {s:Wd} [Oa prog w A E s] {P:Array (Nat×Nat×Nat)} {g:Nat}
end
section
variable [Od] {prog:Wc} {w:Wf} {A₀:V'} {E:We->Wd->Prop} {s:Wd} [Oa prog w A₀ E s]
end
section
variable [Od] {prog:Wc} {w:Wf} {A₀:V'} {E:We->Wd->Prop} {s:Wd} [Oa prog w A₀ E s]
end
end
section
variable {prog:Wc} {w:Wf} {A:V'} {E:We->Wd->Prop} {s:Wd}
end
end JT
namespace J
open PySem PySem.Spec PyProof.Rows PySem.W L2
section
variable {prog:Wc} {w:Wf} {A:V'} {E:We->Wd->Prop} {s:Wd}
end
section
variable {X:Cx}
end
open PySem PySem.Spec PyProof.Rows L2
section
variable {X:Cx}
end
section
variable {prog:Wc} {w:Wf} {A:V'} {E:We->Wd->Prop} {s:Wd}
end
section
variable {X:Cx}
end
theorem lz:fillsNumberSlot (.type "tuple") "mul"=pure false :=
 PySem.fillsNumberSlot_seq (id:="tuple.__mul__") (r:=some (.builtin "tuple.__rmul__")) F.slot_tuple_mul.lookup (by decide+kernel) F.slot_tuple_rmul.lookup (by decide+kernel)
theorem qY:seqRepeat? (.type "tuple")=pure (some (.builtin "tuple.__mul__")):=by
 unfold seqRepeat?
 rw[PySem.seqSlot_of (T:="tuple") (name:="__mul__") (id:="tuple.__mul__") F.slot_tuple_mul.lookup (by decide+kernel),PySem.seqSlot_of (T:="tuple") (name:="__rmul__") (id:="tuple.__rmul__") F.slot_tuple_rmul.lookup (by decide+kernel)]
 rfl
theorem qZ(a:Int)(t:Tok)(l:V_)(o:Obj)(its:Array We)(n:Nat) :
  Meets (Builtin.«int.__rmul__» ⟨[.int a t,.ref l],[]⟩) (λ_ R s=>s.heap.get? l=some o/\o.cls= .type "tuple"/\o.data= .seq its n/\R (.ok (.ret Value.notImplemented)) s) :=
 .of_wp λprog w A R s h=>by
  obtain⟨hp,g,d,tk,os⟩:=s;obtain⟨hl,hc,hd,h⟩:=h
  have hT:(⟨hp,g,d,tk,os⟩:Wd).TypeIs (.ref l) "tuple":=⟨o,hl,hc⟩
  wp_walk
  rw[hd]
  refine WD ?_
  wp_walk
  exact⟨_,rfl,h⟩
theorem yX(l:V_)(o:Obj)(its:Array We)(n:Nat)(x:Int)(u:Tok)(h0:its.isEmpty=false)(h1:2<=x)(h2:x < 2 ^ 63)(h3:its.size * x.toNat<=Wu) :
  Meets (Builtin.«tuple.__mul__» ⟨[.ref l,.int x u],[]⟩) (λ_ R s=>s.heap.get? l=some o/\o.cls= .type "tuple"/\o.data= .seq its n/\R (.ok (.ret (aH s.heap.objs.size))) { s with heap:=s.heap.push { cls:=mD "tuple",data:=Data.seq (nA (λx1 x2=>x1++x2) #[] (aN x.toNat its)) } }) :=
 .of_wp λprog w A R s h=>by
  obtain⟨hl,hc,hd,h⟩:=h
  show Wx _ _ (asIndex (.int x u) >>= _) _ _ _
  have hT:s.TypeIs (.ref l) "tuple":=⟨o,hl,hc⟩
  have c1:(decide (x < -(2 ^ 63))||decide (x >= 2 ^ 63))=false:=by simp;omega
  have c2:(decide (x<=0)||its.isEmpty)=false:=by rw[h0];simp;omega
  have c3:(its.isEmpty||x == 1)=false:=by rw[h0];simp;omega
  have hm:(its.size:Int) * x<=Wu:=by
   have e:x=(x.toNat:Int):=by omega
   rw[e]
   exact_mod_cast h3
  have c4:¬(its.size:Int) * x > (2 ^ 63 - 1) / 8:=by
   have:(Wu:Int)<=(2 ^ 63 - 1) / 8:=by decide
   omega
  have c5:Builtin.Tuple.tupleTooMany ((its.size:Int) * x)=false:=decide_eq_false (by omega)
  refine Wy (show Wx _ _ (asIndex (.int x u)) _ _ _ from WD ?_)
  rw[c1]
  refine(show Wx _ _ (uC (.ref l) >>= _) _ _ _ from Wy (wpAny_tupleItemsOf hl hd ?_))
  rw[c3]
  simp only[lU,if_false]
  rw[c2]
  simp only[lU,if_false]
  rw[if_neg c4,c5]
  simp only[lU,if_false]
  refine Wy (show Wx _ _ (newObj (.type "tuple") (.seq _)) _ _ _ from WC (WD ⟨_,rfl,h⟩) ?_)
  show(nA (λx1 x2=>x1++x2) #[] (aN x.toNat its)).size<=Wu
  have f0:=foldl_rep its.toList x.toNat []
  rw[nD] at f0
  have f1:its.toList.toArray=its:=by simp
  rw[f1] at f0
  rw[f0,aT,len_rep,zD,wL]
  exact h3
section
variable {X:Cx}
def MV(K:PySem.W.Frag):R2:=λx y H Q=>∃a k xs,x= .ref a/\y= .int k/\eM K H a xs/\xs≠[]/\2<=k/\k < 2 ^ 63/\xs.length * k.toNat<=Wu/\∀p,H p=none->Q (.ref p) (upd H p (.tup (aN k.toNat xs).flatten))
theorem E8:eF X (Wh .Mult) (MV X.K):=by
 intro pins s σ H x y v u Q I rx ry h
 obtain⟨a,k,xs,rfl,rfl,hH,h0,h1,h2,hz,q⟩:=h
 cases rx
 obtain⟨t,rfl⟩:=ry
 obtain⟨its,r,⟨o,g1,g2,n,g3⟩,_⟩:=I.tuple hH
 have hl:=r.length
 have hlen:its.toArray.size * k.toNat<=Wu:=by rw[aT,<-hl];exact hz
 have hne:its.toArray.isEmpty=false:=by
  cases r with
  | nil=>exact absurd rfl h0
  | cons _ _=>rfl
 have hnew:nA (λx1 x2=>x1++x2) #[] (aN k.toNat its.toArray)=(aN k.toNat its).flatten.toArray:=by
  have:=foldl_rep its k.toNat []
  rw[nD] at this
  exact this
 refine wpAny_binaryOp_repeat_ref (T:="tuple") (U:="int") (by decide) ⟨o,g1,g2⟩ (λs'=>typeIs_int s' k t) lz F.fills_int_mul uY qY F.slot_int_index.lookup
  (call_meets uY (typeIs_int s k t) F.entry_int_rmul (F.args_int_rmul_2 _ _) (qZ k t a o its.toArray n)
   ⟨g1,g2,g3,rfl,⟨o,g1,g2⟩,call_meets F.slot_tuple_mul ⟨o,g1,g2⟩ F.entry_tuple_mul (F.args_tuple_mul_2 _ _) (yX a o its.toArray n k t hne h1 h2 hlen) ⟨g1,g2,g3,?_⟩⟩)
 rw[hnew]
 refine⟨.ref s.heap.objs.size,_,I.laid (t':=s.toks) (o:=.tup (aN k.toNat xs).flatten) (λb ob q=>a7 _ q) (ay _) ?_,rfl,q _ (I.hok.fresh (ay _))⟩
 exact⟨by rw[len_rep,wL];exact hz,_,r.rep k.toNat,qw _ _,qg.new _ _⟩
def cK:fK:=λx y st=>match x,y with
 | .tup ws,.int n=>if ws≠[]/\2<=n/\n < 2 ^ 62/\ws.length * n.toNat<=lim then .ok (.tup (aN n.toNat ws).flatten) st else .bad
 | x,y=>Gb x y st
theorem BH:jg X (Wh .Mult) cK:=by
 obtain⟨r,h1,h2⟩:=E0 (X:=X)
 refine⟨_,eF.or E8 h1,λx y a b st H m Q S rx ry p=>?_⟩
 cases x with
 | tup ws=>
  cases y with
  | int n=>
   have p':cI X.K m H (if ws≠[]/\2<=n/\n < 2 ^ 62/\ws.length * n.toNat<=lim then .ok (.tup (aN n.toNat ws).flatten) st else .bad) Q:=p
   by_cases c:ws≠[]/\2<=n/\n < 2 ^ 62/\ws.length * n.toNat<=lim
   ·rw[if_pos c] at p'
    cases aO ry
    unfold ah at rx
    obtain⟨d,xs,rfl,hd,rs⟩:=rx
    refine .inl ⟨d,n,xs,rfl,rfl,eM.of hd,λe=>?_,c.2.1,by have:=c.2.2.1;omega,by rw[<-rs.length];exact dA c.2.2.2,λq hq=>?_⟩
    ·subst e
     exact c.1 (vc rs.length)
    ·have eY:Ext X.K m H m (upd H q (.tup (aN n.toNat xs).flatten)):=Ext.f' (.inl hq)
     refine p' (.ref q) m _ eY (S.fresh hq) ?_
     unfold ah
     exact⟨q,_,rfl,bc,(lq rs n.toNat).mono eY⟩
   ·rw[if_neg c] at p';exact ae p'
  | _=>exact .inr (h2 _ _ _ _ st H m Q S rx ry p)
 | _=>exact .inr (h2 _ _ _ _ st H m Q S rx ry p)
end
def BI(f:PySem.Str)(v:Wv):List (PySem.Str×Wv)->List (PySem.Str×Wv)
 | []=>[(f,v)]
 | (g,x)::r=>if g=f then(g,v)::r else(g,x)::BI f v r
section
variable {K:PySem.W.Frag} {m:Mp} {H:Hp}
theorem pX{f:PySem.Str}{w:Wv}:∀{fs:List (PySem.Str×Wv)}{xs:List (PySem.Str×V)},RelK K m H fs xs->fs.lookup f=some w->∃v,xs.lookup f=some v/\ah K m H w v
 | [],xs,r,e=>by cases e
 | (g,x)::t,xs,r,e=>by
  obtain⟨v,ys,rfl,r1,r2⟩:=r.cons_inv
  rw[dZ] at e ⊢
  cases b:f == g with
  | true=>rw[b] at e;cases e;exact⟨v,rfl,r1⟩
  | false=>rw[b] at e;exact pX r2 e
theorem pY{f:PySem.Str}:∀{fs:List (PySem.Str×Wv)}{xs:List (PySem.Str×V)},RelK K m H fs xs->fs.lookup f=none->xs.lookup f=none
 | [],xs,r,e=>by rw[r.nil_inv];rfl
 | (g,x)::t,xs,r,e=>by
  obtain⟨v,ys,rfl,r1,r2⟩:=r.cons_inv
  rw[dZ] at e ⊢
  cases b:f == g with
  | true=>rw[b] at e;cases e
  | false=>rw[b] at e;exact pY r2 e
theorem tD{f:PySem.Str}{w:Wv}{v:V}(h:ah K m H w v):∀{fs:List (PySem.Str×Wv)}{xs:List (PySem.Str×V)},RelK K m H fs xs->RelK K m H (BI f w fs) (gO f v xs)
 | [],xs,r=>by rw[r.nil_inv];exact RelK.nil.snoc f h
 | (g,x)::t,xs,r=>by
  obtain⟨y,ys,rfl,r1,r2⟩:=r.cons_inv
  unfold BI gO
  by_cases e:g=f
  ·rw[if_pos e,if_pos e];exact RelK.cons h r2
  ·rw[if_neg e,if_neg e];exact RelK.cons r1 (tD h r2)
theorem vD{c:PySem.Str}{C D:V_}(h:ClsAt K c C)(k:ClsAt K c D):C=D:=by
 unfold ClsAt at h k
 rw[h] at k
 cases k
 rfl
end
def Own(K:PySem.W.Frag)(c f:PySem.Str):Prop:=∃C,ClsAt K c C/\zt K C/\jI K C f
def eG(st:Hs)(c:PySem.Str):Wv->Option (List (PySem.Str×Wv))
 | .ref l=>match st[l]? with
  | some (.ins c' fs)=>if c'=c then some fs else none
  | _=>none
 | _=>none
theorem lA{K:PySem.W.Frag}{m:Mp}{H:Hp}{st:Hs}{c:PySem.Str}{o:Wv}{v:V}{fs:List (PySem.Str×Wv)}(S:bw K m st H)(r:ah K m H o v)(e:eG st c o=some fs) :
  ∃l a C dx xs,o= .ref l/\st[l]? =some (.ins c fs)/\v= .ref a/\m[l]? =some a/\H a=some (.ins C dx xs)/\ClsAt K c C/\RelK K m H fs xs:=by
 cases o with
 | ref l=>
  unfold eG at e
  cases e1:st[l]? with
  | none=>simp only[e1] at e;cases e
  | some ob=>
   simp only[e1] at e
   cases ob with
   | ins c' gs=>
    dsimp only at e
    by_cases ec:c'=c
    ·rw[if_pos ec] at e
     cases e
     subst ec
     unfold ah at r
     obtain⟨a,rfl,ha⟩:=r
     obtain⟨C,dx,xs,h1,h2,h3⟩:=S.obj l a _ ha e1
     exact⟨l,a,C,dx,xs,rfl,e1,rfl,ha,h1,h2,h3⟩
    ·rw[if_neg ec] at e;cases e
   | _=>cases e
 | _=>cases e
def gF(c f:PySem.Str)(g:GE):GE:=λρ st=>(g ρ st).bind λo st1=>match(eG st1 c o).bind (·.lookup f) with
 | some w=> .ok w st1
 | none=> .bad
def BJ(c f:PySem.Str)(o v:Wv)(st:Hs):Option Hs:=match eG st c o,o with
 | some fs,.ref l=>if fs.length < 900 then some (st.set l (.ins c (BI f v fs))) else none
 | _,_=>none
def jD(c f:PySem.Str)(gv go:GE):GS:=λρ st=>(gv ρ st).a8 ρ λv st1=>(go ρ st1).a8 ρ λo st2=>match BJ c f o v st2 with
 | some st3=> .nx ρ st3
 | none=> .bad
def jy(c f:PySem.Str)(n:Nat)(F:List Wv->Hs->Re Wv)(go:GE)(ga:GA):GE:=λρ st=>(go ρ st).bind λo st1=>match(eG st1 c o).map (·.lookup f) with
 | some none=>(ga ρ st1).bind λws st2=>if ws.length+1=n then F (o::ws) st2 else .bad
 | _=> .bad
def OD(c:PySem.Str)(F:List Wv->Hs->Re Wv)(ws:List Wv)(st:Hs):Re Wv:=match F (.ref st.length::ws) (st++[.ins c []]) with
 | .ok .non st2=> .ok (.ref st.length) st2
 | _=> .bad
def xp(c:PySem.Str)(n:Nat)(F:List Wv->Hs->Re Wv)(ga:GA):GE:=λρ st=>(ga ρ st).bind λws st1=>if ws.length+1=n then OD c F ws st1 else .bad
def oX(P:Wc)(w:Wf)(K:PySem.W.Frag)(mg:Str->Option We)(base:Heap)(k:Nat)(c f:Str)(n:Nat)(F:List Wv->Hs->Re Wv):Prop :=
 ∃C a fd ps,FnOk P w K mg base (CXJ P w) k a fd ps (spW K n F)/\ClsAt K c C/\zt K C/\Meth K C f a/\Binds K fd ps []
def tE(P:Wc)(w:Wf)(K:PySem.W.Frag)(mg:Str->Option We)(base:Heap)(k:Nat)(c:Str)(n:Nat)(F:List Wv->Hs->Re Wv):Prop :=
 ∃C a fd ps j,j+1<=k/\FnOk P w K mg base (CXJ P w) j a fd ps (spW K n F)/\ClsAt K c C/\mg c=some (.ref C)/\Mk K C a/\Binds K fd ps []
section
variable {X:Cx}
theorem Jz{o:Expr}{c f:Str}{g:GE}{pos:Pos}(ho:JE X o g)(hb:attributeBase o f X.env (eval o X.env)=eval o X.env)(hc:Own X.K c f):JE X (.Attribute o f pos) (gF c f g) :=
 JE.of (Hw aP hb) λρ st σ H m Q S R p=>ho.go S R (aC.bind p) λw st1 v m1 H1 p1 e1 S1 r1=>by
  cases e:eG st1 c w with
  | none=>rw[e] at p1;exact ae p1
  | some fs=>
   rw[e] at p1
   dsimp only[Option.bind] at p1
   obtain⟨l,a,C,dx,xs,rfl,h1,rfl,ha,h2,h3,h4⟩:=lA S1 r1 e
   obtain⟨C',k1,k2,k3⟩:=hc
   cases vD h3 k1
   cases e2:fs.lookup f with
   | none=>rw[e2] at p1;exact ae p1
   | some u=>
    rw[e2] at p1
    obtain⟨y,l1,l2⟩:=pX h4 e2
    exact⟨a,C,dx,xs,y,rfl,h2,k2,k3,l1,p1 y m1 H1 e1 S1 l2⟩
theorem BK{o e:Expr}{c f:Str}{go ge:GE}{pos pos':Pos}(ho:JE X o go)(he:JE X e ge)(hs:swapsWith e (some (.Attribute o f pos')) pos.line X.env=pure false)(hc:Own X.K c f):JS X (.Assign [.Attribute o f pos'] e pos) (jD c f ge go) :=
 JS.of (Hx aP aP hs) λρ st σ H m D S R p=>by
  refine he.go S R (aR.bU R p) λv st1 vv m1 H1 p1 e1 S1 rv=>?_
  refine ho.go S1 (R.mono e1) ((aR.bU (m:=m) (H:=H) R p1).imp e1 λ_ _ q=>q) λd st2 vd m2 H2 p2 e2 S2 rd=>?_
  cases e3:eG st2 c d with
  | none=>unfold BJ at p2;rw[e3] at p2;exact ae p2
  | some fs=>
   obtain⟨l,a,C,dx,xs,rfl,h1,rfl,ha,h2,h3,h4⟩:=lA S2 rd e3
   unfold BJ at p2
   rw[e3] at p2
   dsimp only at p2
   obtain⟨C',k1,k2,k3⟩:=hc
   cases vD h3 k1
   by_cases hl:fs.length < 900
   ·rw[if_pos hl] at p2
    have wr:Wr (H2 a):=.inr (.inr (.inr (.inr (.inr ⟨_,_,_,h2⟩))))
    have ex:Ext X.K m2 H2 m2 (upd H2 a (.ins C dx (gO f vv xs))):=Ext.f' wr
    have MW:=e1.trans e2
    refine⟨a,C,dx,xs,rfl,h2,k2,k3,(by have:=h4.length;omega),p2 σ m2 _ (MW.trans ex) ?_ (R.mono (MW.trans ex))⟩
    exact S2.nI ha h1 rfl ⟨C,dx,_,bc,h3,(tD (ah.mono e2 _ _ rv) h4).mono ex⟩
   ·rw[if_neg hl] at p2;exact ae p2
theorem BL{prog:Wc}{w:Wf}{A:V'}{E:We->Wd->Prop}{s:Wd}{env:Env}{o:Expr}{name:Str}{apos pos:Pos}{args:List Expr}{Q:We->Wd->Prop}(hbase:attributeBase o name env (eval o env)=eval o env)
  (hfew:((backTo pos (Ww args env)).all (λx=> !x.1)&&(backToKw pos (keywordEach [] env)).all (λx=>x.1.isSome)&&decide (args.length+([]:List Keyword).length+(if([]:List Keyword).isEmpty then 0 else 1) < 30))=true)(hline:(apos.endLine == pos.line)=true)
  (h:Wx (model prog w) A (eval o env) (λov s₁=>∀pl,Wx (model prog w) A (getMethod ov name pl) (λfx s₂=>Wx (model prog w) A (callWith pos fx.1 fx.2 (backTo pos (Ww args env)) (backToKw pos (keywordEach [] env))) Q E s₂) E s₁) E s) :
  Wx (model prog w) A (eval (.Call (.Attribute o name apos) args [] pos) env) Q E s:=by
 rw[arm_eval_Call,hbase]
 refine Wy (WB h (λov s₁ h₁=>?_) λ_ _ e=>e)
 refine Wy (wpAny_standAt ?_)
 have MX:methodCallForm (args.length+([]:List Keyword).length) (backTo pos (Ww args env)) (backToKw pos (keywordEach [] env))=true:=hfew
 have hpos:methodCallPos true o env apos pos=pure pos:=by unfold methodCallPos;simp[hline]
 unfold methodCall
 rw[MX]
 refine Wy (WA ?_)
 unfold calleeOf
 rw[if_pos rfl]
 exact WB (h₁ _) (λfx s₂ h₂=>Wy (wpAny_of_eq hpos h₂)) λ_ _ e=>e
theorem JB{k n:Nat}{c f:Str}{F:List Wv->Hs->Re Wv}{o e:Expr}{es:List Expr}{go:GE}{g:GA}{apos pos:Pos}
  (G:oX X.prog X.w X.K X.mg X.base k c f n F)(hr:e7 k X.A)(ho:JE X o go)(ha:JA X (e::es) g)
  (hst:Ww (e::es) X.env=(false,eval e X.env)::Ww es X.env)(hpl:(backTo pos (Ww es X.env)).any (·.1)=false)
  (hbase:attributeBase o f X.env (eval o X.env)=eval o X.env)
  (hfew:((backTo pos (Ww (e::es) X.env)).all (λx=> !x.1)&&(backToKw pos (keywordEach [] X.env)).all (λx=>x.1.isSome)&&decide ((e::es).length+([]:List Keyword).length+(if([]:List Keyword).isEmpty then 0 else 1) < 30))=true)(hline:(apos.endLine == pos.line)=true) :
  JE X (.Call (.Attribute o f apos) (e::es) [] pos) (jy c f n F go g):=by
 obtain⟨C,fa,fd,ps,G,k1,k2,k3,hb⟩:=G
 intro ρ st σ H m Q S R p pins s I
 have ob:=ho.go (T:=λv H1=>∃w st1 m1,dG X σ m H (match(eG st1 c w).map (·.lookup f) with
   | some none=>(g ρ st1).bind λws st2=>if ws.length+1=n then F (w::ws) st2 else .bad
   | _=> .bad) Q/\Ext X.K m H m1 H1/\bw X.K m1 st1 H1/\ah X.K m1 H1 w v) S R (aC.bind p)
  λw st1 v m1 H1 p1 e1 S1 r1=>⟨w,st1,m1,p1,e1,S1,r1⟩
 refine BL hbase hfew hline (a8 (ob pins s I) λu s1 ⟨x,H1,I1,rx,w,st1,m1,p1,e1,S1,r1⟩ pl=>?_)
 cases e3:eG st1 c w with
 | none=>rw[e3] at p1;exact ae p1
 | some fs=>
  obtain⟨l,a,C',dx,xs,rfl,h1,rfl,hla,h2,h3,h4⟩:=lA S1 r1 e3
  rw[e3] at p1
  dsimp only[Option.map] at p1
  cases vD h3 k1
  cases e4:fs.lookup f with
  | some z=>rw[e4] at p1;exact ae p1
  | none=>
   rw[e4] at p1
   dsimp only at p1
   obtain rfl:u=aH a:=rx
   refine uL I1 h2 k2 k3 (pY h4 e4) ?_
   have args:=ha.go (T:=λvs H2=>∃ws st2 m2,dG X σ m H (if ws.length+1=n then F (.ref l::ws) st2 else .bad) Q/\Ext X.K m H m2 H2/\Ext X.K m1 H1 m2 H2/\bw X.K m2 st2 H2/\ai X.K m2 H2 ws vs) S1 (R.mono e1) ((aC.bind p1).imp e1 λ_ _ q=>q)
    λws st2 vs m2 H2 p2 e2 S2 rs=>⟨ws,st2,m2,p2,e1.trans e2,e2,S2,rs⟩
   refine PySem.W.callWith_K (first:=[.ref a]) (h₀:=X.base) I.ok.mod.K8 k3.kp (a8 (args pos pins s1 I1) λus s2 ⟨vs,H2,I2,r,ws,st2,m2,p2,MW,e2,S2,rs⟩=>⟨I2.pq,?_⟩) hst hpl
   by_cases cn:ws.length+1=n
   ·rw[if_pos cn] at p2
    let E:XK:=λcl _ H3=>∃c' st3 m3 C,cl= .ref C/\ClsAt X.K c' C/\F (.ref l::ws) st2= .err c' st3/\Ext X.K m2 H2 m3 H3/\bw X.K m3 st3 H3
    have sp:spW X.K n F (V.ref a::vs) H2 Q E:=by
     refine⟨m2,st2,.ref l::ws,S2,ai.cons (ah.mono e2 _ _ r1) rs,cn,?_⟩
     cases er:F (.ref l::ws) st2 with
     | ok w st3=>rw[er] at p2;exact dG.shift (r:=.ok w st3) p2 MW
     | err c' st3=>exact λm3 H3 C e3 S3 hC=>⟨c',st3,m3,C,rfl,hC,er,e3,S3⟩
     | bad=>rw[er] at p2;exact ae p2
    have r':Vals (V.ref a::vs) (aH a::us):=.cons rfl r
    have hl:(aH a::us).length=ps.length:=by rw[<-r'.length];exact G.len _ _ _ _ sp
    have bd:=hb s2 (aH a::us) I2.pq (by rw[gP];exact hl)
    rw[gP] at bd
    refine wpAny_call (codeAny_mono (G.run X.A X.stack s2 H2 ⟨aH a::us,[]⟩ (aH a::us) (V.ref a::vs) Q E hr I2.HB bd r' sp) λrr s3 hq=>?_)
    cases rr with
    | error x=>
     obtain⟨H3,C,fl,c',st3,m3,C',ec,hC,er,e3,S3⟩:=hq
     cases ec
     rw[er] at p2
     exact p2 m3 H3 x s3 (MW.trans e3) S3 ⟨C,pins,H2,s2,hC,I2,.inl fl.any⟩
    | ok fw=>
     cases fw with
     | ret u=>exact I2.after hq
     | next=>exact ae hq
     | brk=>exact ae hq
     | cont=>exact ae hq
   ·rw[if_neg cn] at p2;exact ae p2
theorem E9{k n:Nat}{c:Str}{F:List Wv->Hs->Re Wv}{e:Expr}{es:List Expr}{g:GA}{p pos:Pos}(G:tE X.prog X.w X.K X.mg X.base k c n F)(hr:e7 k X.A)(hg:Gl X c)(ha:JA X (e::es) g)
  (hdb:(c == ("__debug__":Str))=false:=by decide)(he:Ww (e::es) X.env=(false,eval e X.env)::Ww es X.env:=by rfl)(hpl:(backTo pos (Ww es X.env)).any (·.1)=false:=by rfl) :
  JE X (.Call (.Name c p) (e::es) [] pos) (xp c n F g):=by
 obtain⟨C,fa,fd,ps,j,hj,G,k1,k2,k3,hb⟩:=G
 refine JE.of (DT (E:=λ_ _ _=>False) k3 G (hr.mono hj) hg k2 hb .nil (λpins σ H s x s' I z=>let ⟨_,_,_,y⟩:=z;y.elim) iq hdb he hpl) λρ st σ H m Q S R p=>?_
 refine ha.go S R (aC.bind p) λws st1 vs m1 H1 p1 e1 S1 rs=>?_
 intro x dx hx hdx ne
 by_cases cn:ws.length+1=n
 ·rw[if_pos cn] at p1
  unfold OD at p1
  have SQ:(upd H1 dx (.own x)) x=none:=by rw[aZ (bq ne)];exact hx
  have S2:=S1.fresh (o:=.own x) hdx
  have S3:bw X.K (m1++[x]) (st1++[.ins c []]) (upd (upd H1 dx (.own x)) x (.ins C dx [])):=S2.qH SQ ⟨C,dx,[],bc,k1,RelK.nil⟩
  have ex:Ext X.K m1 H1 (m1++[x]) (upd (upd H1 dx (.own x)) x (.ins C dx [])):=(Ext.f' (.inl hdx)).trans (Ext.more.trans (Ext.f' (.inl SQ)))
  have new:(m1++[x])[st1.length]? =some x:=by rw[<-S1.len,jJ (ay _),mJ];rfl
  cases er:F (.ref st1.length::ws) (st1++[.ins c []]) with
  | ok w st2=>
   rw[er] at p1
   cases w with
   | non=>
    dsimp only at p1
    rw[gP]
    refine⟨m1++[x],st1++[.ins c []],.ref st1.length::ws,S3,ai.cons (by unfold ah;exact⟨x,rfl,new⟩) (ai.mono ex _ _ rs),cn,?_⟩
    rw[er]
    intro v m2 H2 e2 T2 rv
    unfold ah at rv
    refine⟨rv,p1 (.ref x) m2 H2 ((e1.trans ex).trans e2) T2 ?_⟩
    unfold ah
    exact⟨x,rfl,e2.pre _ _ new⟩
   | _=>exact ae p1
  | err c' st2=>rw[er] at p1;exact ae p1
  | bad=>rw[er] at p1;exact ae p1
 ·rw[if_neg cn] at p1;exact ae p1
end
section
variable {prog:Wc} {w:Wf} {A:V'} {E:We->Wd->Prop} {s:Wd} {T:String} {r d:V_} {n:Nat} {P:Nat->We->Prop} {OK:Heap->Prop}
theorem tF{Q:List We->Wd->Prop}(K:KdlSrc prog w T r d n P OK)(hh:A.handled=none)(hok:OK s.heap)(hn:n<=Wu)
  (hQ:∀h' tk acc,(∀b o,s.heap.get? b=some o->h'.get? b=some o)->ItemsOf P acc n->Q acc.toList { s with heap:=h',toks:=tk }):Wx (model prog w) A (collect (.ref r)) Q E s:=by
 unfold collect
 refine Wy (wpAny_runValue (codeAny_builtin F.entry_proto_collect ?_))
 rw[Gg F.plain_proto_collect _]
 show Wx _ A.in1 (newList [] >>= λl=>again (.builtin "list.__iadd__" ⟨[l,.ref r],[]⟩)) _ _ s
 refine Wy (WC ?_)
 refine WD ⟨plainId_quiet F.plain_list_iadd _,codeAny_builtin F.entry_list_iadd ?_⟩
 rw[Gg F.plain_list_iadd _]
 show Wx _ A.in1 (Builtin.List.listExtendWith (.ref s.heap.objs.size) (.ref r) (.ref s.heap.objs.size)) _ _ _
 have hS:(s.heap.push { cls:=.type "list",data:=.seq ([]:List We).toArray }).get? s.heap.objs.size=some { cls:=.type "list",data:=.seq #[] 0 }:=bM _ rfl
 have hlt:=K.there _ hok
 have fin':∀h' tk acc c',(∀b o,b≠s.heap.objs.size->(s.heap.push { cls:=.type "list",data:=.seq ([]:List We).toArray }).get? b=some o->h'.get? b=some o)->h'.get? s.heap.objs.size=some { cls:=.type "list",dict:=none,data:=.seq acc c',slots:=#[] }->ItemsOf P acc n->
   Wx (model prog w) A (match aH s.heap.objs.size with
   | aH a=>do
    match(<-load a).data with
     | Data.seq xs _=>pure xs.toList
     | _=>unsupported "internal:collect"
   | _=>unsupported "internal:collect") Q E { s with heap:=h',toks:=tk }:=by
  intro h' tk acc c' hk hS' hacc
  show Wx _ A (load s.heap.objs.size >>= _) _ _ _
  refine Wy (wpAny_load hS' ?_)
  refine WD ?_
  exact hQ h' tk acc (λb o e=>hk b o (bx (aV e)) (a7 _ e)) hacc
 refine WB (kdl_extend (A:=A) (R:=λr s'=>r= .ok (.ret (.ref s.heap.objs.size))/\∃h' tk acc c',s'={ s with heap:=h',toks:=tk }/\(∀b o,b≠s.heap.objs.size->(s.heap.push { cls:=.type "list",data:=.seq ([]:List We).toArray }).get? b=some o->h'.get? b=some o)/\h'.get? s.heap.objs.size=some { cls:=.type "list",dict:=none,data:=.seq acc c',slots:=#[] }/\ItemsOf P acc n)
  (s:={ s with heap:=s.heap.push { cls:=.type "list",data:=.seq ([]:List We).toArray } }) K hh (K.keep _ _ hok λb _ o e=>a7 _ e) _ (mE hlt.1) (mE hlt.2) _ 0 hS (λh' tk acc c' a1 a2 a3=>⟨rfl,h',tk,acc,c',rfl,a1,a2,a3⟩) hn) (λfin s' h=>?_) (λe s' h=>?_)
 ·cases fin with
  | done f=>
   obtain⟨e,h',tk,acc,c',rfl,a1,a2,a3⟩:=h
   cases e
   exact fin' h' tk acc c' a1 a2 a3
  | again c'=>exact⟨h.1,codeAny_mono h.2 λr s'' hr=>by obtain⟨rfl,h',tk,acc,c'',rfl,a1,a2,a3⟩:=hr;exact fin' h' tk acc c'' a1 a2 a3⟩
 ·exact absurd h.1 (by simp)
theorem tG{Q₁:We->Wd->Prop}(K:KdlSrc prog w T r d n P OK)(hh:A.handled=none)(hok:OK s.heap)(hn:n<=Wu)
  (h:∀(h':Heap)(tk:Nat)(acc:Array We),(∀b o,s.heap.get? b=some o->h'.get? b=some o)->ItemsOf P acc n->Q₁ (.ref h'.objs.size) { s with heap:=h'.push { cls:=.type "tuple",data:=.seq acc },toks:=tk }) :
  Wj (model prog w) A (.call (.builtin "tuple.__new__") ⟨[.type "tuple",.ref r],[]⟩) (wants Q₁ E) s:=by
 refine codeAny_of_tree ?_
 show Wx _ A.in1 (do checkBuiltinCall "tuple.__new__" ⟨[.type "tuple",.ref r],[]⟩;again (.builtin "tuple.__new__" ⟨[.type "tuple",.ref r],[]⟩)) _ _ s
 refine Wy (wpAny_of_eq (F.newCall_tuple_1 _) (WD ⟨plainId_quiet F.plain_tuple_new _,codeAny_builtin F.entry_tuple_new ?_⟩))
 rw[Gg F.plain_tuple_new _]
 have hsub:=sub_tuple_self
 have SR:=init_tuple_lookup
 have VZ:=madeHere_tuple
 have hTI:=K.type s hok
 have nt:=K.notTuple
 wp_walk using wpAny_typeOf hTI,tF (A:=A.in1) K (show A.in1.handled=none from hh) hok hn
 intro h' tk acc kp hacc
 show Wx _ _ (nq acc.toList.toArray >>= λv=>ret v) _ _ _
 unfold nq
 refine Wy (WC ?_ (by show acc.toList.toArray.size<=Wu;simp only[Array.toArray_toList];rw[hacc.1];exact hn))
 refine WD ?_
 have e:acc.toList.toArray=acc:=by simp
 rw[e]
 exact h h' tk acc kp hacc
theorem tH{Q:We->Wd->Prop}(K:KdlSrc prog w T r d n P OK)(hh:A.handled=none)(hok:OK s.heap)(hn:n<=Wu)
  (hQ:∀(h':Heap)(tk:Nat)(acc:Array We),(∀b o,s.heap.get? b=some o->h'.get? b=some o)->ItemsOf P acc n->Q (.ref h'.objs.size) { s with heap:=h'.push { cls:=.type "tuple",data:=.seq acc },toks:=tk }) :
  Wx (model prog w) A (call (.type "tuple") [.ref r]) Q E s:=by
 refine callType_codes (Q₁:=λobj s₁=>s₁.TypeIs obj "tuple"/\Q obj s₁) F.called_tuple (F.typeCall_tuple_1 _) F.entry_object_init
  (tG (A:=A.in1) K hh hok hn λh' tk acc kp hacc=>⟨⟨_,bM _ rfl,rfl⟩,hQ h' tk acc kp hacc⟩) λobj s₁ h₁=>?_
 exact⟨h₁.1,F.args_object_init_2 obj _,object_init_meets F.called_tuple.init.lookup F.called_tuple.made (by decide) prog w A.in1 _ s₁ ⟨h₁.1,rfl,h₁.2⟩⟩
end
section
variable {X:Cx}
theorem tJ(hc:X.calm=true):cH X (.type "tuple") (λxs H Q=>∃(p:V_)(kvs:List (NK.KD×V)),xs=[.ref p]/\H p=some (.dN kvs)/\∀l vs',H l=none->Paired (λv (k:NK.KD×V)=>KA H 8 v k.1.1) vs' kvs->Q (.ref l) (upd H l (.tup vs'))):=by
 intro pins s σ H xs us Q I r h
 obtain⟨p,kvs,rfl,hp,q⟩:=h
 obtain⟨u,rfl,rx⟩:=vals1 r
 cases rx
 obtain⟨z,lo,ys,kt,o,es,ep,g1,g2,g3,g4,g5,g6⟩:=Gf I.hok hp
 have len:es.size=ys.length:=by have:=congrArg k9 g4;simpa using this
 have vE:kvs.length=ys.length:=Paired.length kt
 have raw:oW s.heap p es ep:=⟨o,g1,g2.1,g3⟩
 refine tH (EY lo) (I.ok.hd hc) raw (by rw[len,<-vE];exact z) λh' tk acc kp hacc=>?_
 have UW:acc.toList=ys.map λx=>aH x.2.1:=by
  refine List.ext_getElem? λj=>?_
  cases e:acc.toList[j]? with
  | none=>
   have hj:acc.toList.length<=j:=by simpa using e
   have ha:=hacc.1
   rw[List.getElem?_eq_none]
   simp at hj ⊢
   omega
  | some v=>
   obtain⟨hj,ev⟩:=hacc.2 j v (by rw[<-Array.getElem?_toList];exact e)
   have hj':j < ys.length:=by omega
   have q1:es.toList[j]'(by simpa using hj)=entryOfKey (NK.gA X.prog X.w) ys[j]:=by
    have:es.toList[j]? =(ys.map (entryOfKey (NK.gA X.prog X.w)))[j]?:=by rw[g4]
    rw[dD (by simpa using hj),fu,dD hj'] at this
    simpa using this
   rw[fu,dD hj',ev]
   have q2:es[j]=es.toList[j]'(by simpa using hj):=by simp
   rw[q2,q1]
   rfl
 have I1:Inv X pins σ H { s with heap:=h',toks:=tk }:=I.kept (t':=tk) kp
 have vals:∀{kvs:List (NK.KD×V)}{ys:List (NK.KD×V_×We)},KN H kvs ys->Vals (ys.map λx=>V.ref x.2.1) (ys.map λx=>aH x.2.1)/\Paired (λv (k:NK.KD×V)=>KA H 8 v k.1.1) (ys.map λx=>V.ref x.2.1) kvs:=by
  intro kvs ys h
  induction h with
  | nil=>exact⟨.nil,.nil⟩
  | cons h t ih=>exact⟨.cons rfl ih.1,.cons h.2.1 ih.2⟩
 have I2:Inv X pins σ (upd H h'.objs.size (.tup (ys.map λx=>V.ref x.2.1))) { s with heap:=h'.push { cls:=.type "tuple",data:=.seq acc },toks:=tk }:=by
  refine I1.laid (t':=tk) (λb o e=>a7 _ e) (ay _) (show cC X.prog X.w _ _ _ (.tup _) from⟨?_,acc.toList,by rw[UW];exact(vals kt).1,?_,qg.new _ _⟩)
  ·rw[bT,<-vE];exact z
  ·have:=qw h' acc
   simpa using this
 exact⟨.ref h'.objs.size,_,I2,rfl,q _ _ (I1.hok.fresh (ay _)) (vals kt).2⟩
theorem KN.repl{H:Hp}{kvs:List (NK.KD×V)}{xs:List (NK.KD×V_×We)}(r:KN H kvs xs)(k:NK.KD){y:V}{u:We}(ry:RelV y u) :
  KN H (kvs.map λkv=>if kv.1=k then(kv.1,y) else kv) (xs.map λx=>if x.1=k then(x.1,x.2.1,u) else x):=by
 induction r with
 | nil=>exact .nil
 | @cons p q ps qs h t ih=>
  obtain⟨h1,h2,h3⟩:=h
  refine .cons ?_ ih
  dsimp only
  by_cases e:p.1=k
  ·rw[if_pos e,if_pos (h1.symm.trans e)];exact⟨h1,h2,ry⟩
  ·rw[if_neg e,if_neg (λz=>e (h1.trans z))];exact⟨h1,h2,h3⟩
theorem KN.put{H:Hp}{kvs:List (NK.KD×V)}{xs:List (NK.KD×V_×We)}(r:KN H kvs xs)(k:NK.KD){b:V_}{y:V}{u:We}(hb:KA H 8 (.ref b) k.1)(ry:RelV y u):KN H (putK kvs k y) (storedH xs k b u):=by
 have e:(kvs.any λkv=>decide (kv.1=k))=(atKey xs k).isSome:=by
  rw[nE,(r.val k).pH,Option.isSome_map]
 unfold putK storedH
 rw[e]
 by_cases q:(atKey xs k).isSome=true
 ·rw[if_pos q,if_pos q];exact r.repl k ry
 ·rw[if_neg q,if_neg q];exact Paired.snoc r ⟨rfl,hb,ry⟩
def MY(td ty tv:TE):TS:=λD σ H=>tv σ H λv H1=>td σ H1 λx H2=>ty σ H2 λy H3=>∃a b kvs k,x= .ref a/\H3 a=some (.dN kvs)/\y= .ref b/\KA H3 8 (.ref b) k.1/\kvs.length < Wu/\D.nx σ (upd H3 a (.dN (putK kvs k v)))
theorem BM{o i value:Expr}{td ty tv:TE}{pos pos':Pos}(hu:X.A.units+9 < cLine)(ho:PE X o td)(hi:PE X i ty)(hv:PE X value tv)(hs:swapsWith value (some (.Subscript o i pos')) pos.line X.env=pure false) :
  PS X (.Assign [.Subscript o i pos'] value pos) (MY td ty tv):=by
 intro pins s σ H D I h
 refine wpAny_Assign_Subscript (a8 (hv pins s σ H _ I h) λr s1 ⟨v,H1,I1,rv,q1⟩=>a8 (ho pins s1 σ H1 _ I1 q1) λu s2 ⟨x,H2,I2,rx,q2⟩=>a8 (hi pins s2 σ H2 _ I2 q2) λiv s3 ⟨y,H3,I3,ry,a,b,kvs,k,ex,ea,ey,eb,l,q3⟩=>?_) hs
 subst ex ey
 obtain rfl:u=aH a:=rx
 cases (show iv=aH b from ry)
 obtain⟨z,hd,xs,rel,dd⟩:=Gf I3.hok ea
 have hz:xs.length<=Wu:=by rw[<-Paired.length rel];exact z
 have hl:(putK kvs k v).length<=Wu:=by have:=iF kvs k v;omega
 refine wpAny_setItem_heap (knd:=NK.gA X.prog X.w) (hsz:=hz) (by show X.A.in1.units+8 < cLine;simp only[Around.in1_units];omega) (KA.rd I3.hok 8 (.ref b) _ _ eb rfl) dd λh' HW hs=>?_
 obtain⟨q,es,ep,hq,h2,h3,h4,_,h5⟩:=HW
 refine⟨σ,_,qF (ob:=.dN (putK kvs k v)) I3 (by rw[ea];exact eZ) hs ⟨q,hq⟩ ⟨hl,hd,_,(rel.put k eb rv).keeps λc ys ec=>?_,q,es,ep,hq,h2,h3,h4,h5⟩,q3⟩
 rw[aZ (FV ec ea (λz=>nomatch z))]
 exact ec
end
def wD:Nat->PyData->Option Wv
 | _,.none=>some .non
 | _,.int i=>some (.int i)
 | _,.str x=>if aM x=true then some (.str x) else none
 | n+1,.tuple ds=>(ds.mapM (wD n)).map Wv.tup
 | _,_=>none
theorem JC{K:PySem.W.Frag}{m:Mp}{H:Hp}:∀(n:Nat)(d:PyData)(v:V)(w:Wv),KA H n v d->wD n d=some w->ah K m H w v:=by
 intro n
 induction n with
 | zero=>
  intro d v w r e
  cases d with
  | none=>cases e;cases v<;>first | exact ae r | (unfold ah;rfl)
  | int i=>cases e;cases v<;>first | exact ae r | (unfold ah;rw[show _=i from r])
  | str x=>
   unfold wD at e
   by_cases h:aM x=true
   ·rw[if_pos h] at e;cases e;cases v<;>first | exact ae r | (unfold ah;rw[show _=x from r];exact⟨rfl,h⟩)
   ·rw[if_neg h] at e;cases e
  | _=>cases e
 | succ n ih=>
  intro d v w r e
  cases d with
  | none=>cases e;cases v<;>first | exact ae r | (unfold ah;rfl)
  | int i=>cases e;cases v<;>first | exact ae r | (unfold ah;rw[show _=i from r])
  | str x=>
   unfold wD at e
   by_cases h:aM x=true
   ·rw[if_pos h] at e;cases e;cases v<;>first | exact ae r | (unfold ah;rw[show _=x from r];exact⟨rfl,h⟩)
   ·rw[if_neg h] at e;cases e
  | tuple ds=>
   have e':(ds.mapM (wD n)).map Wv.tup=some w:=e
   cases q:ds.mapM (wD n) with
   | none=>rw[q] at e';cases e'
   | some ws=>
    rw[q] at e'
    cases e'
    cases v with
    | ref a=>
     obtain⟨vs,h1,h2⟩:=(show ∃vs,H a=some (.tup vs)/\Paired (KA H n) vs ds from r)
     unfold ah
     refine⟨a,vs,rfl,h1,?_⟩
     clear e r h1
     induction h2 generalizing ws with
     | nil=>cases q;exact ai.nil
     | @cons x d xs ds h t UX=>
      rw[List.mapM_cons] at q
      cases e1:wD n d with
      | none=>rw[e1] at q;cases q
      | some w1=>
       cases e2:ds.mapM (wD n) with
       | none=>rw[e1,e2] at q;cases q
       | some wr=>
        rw[e1,e2] at q
        cases q
        exact ai.cons (ih _ _ _ h e1) (UX _ e2)
    | _=>exact ae r
  | _=>cases e
def lB(kvs:List (NK.KD×Wv)):Option (List Wv):=dM (λp=>wD 8 p.1.1) kvs
theorem pZ{K:PySem.W.Frag}{m:Mp}{H:Hp}:∀{kvs:List (NK.KD×Wv)}{xs:List (NK.KD×V)}{vs:List V}{ws:List Wv},kvs.map (·.1)=xs.map (·.1)->Paired (λv (k:NK.KD×V)=>KA H 8 v k.1.1) vs xs->lB kvs=some ws->ai K m H ws vs
 | [],[],vs,ws,e,h,q=>by cases h;cases q;exact ai.nil
 | [],x::xs,vs,ws,e,h,q=>by cases e
 | p::kvs,[],vs,ws,e,h,q=>by cases e
 | p::kvs,x::xs,vs,ws,e,h,q=>by
  cases h with
  | @cons v _ vt _ h t=>
   unfold lB dM at q
   cases e1:wD 8 p.1.1 with
   | none=>rw[e1] at q;cases q
   | some w1=>
    cases e2:dM (λp:NK.KD×Wv=>wD 8 p.1.1) kvs with
    | none=>rw[e1,e2] at q;cases q
    | some wr=>
     rw[e1,e2] at q
     cases q
     have e':p.1=x.1/\kvs.map (·.1)=xs.map (·.1):=by simpa using e
     exact ai.cons (JC 8 _ _ _ (by rw[<-e'.1] at h;exact h) e1) (pZ e'.2 t e2)
def dO(gd gk gx:GE):GE:=λρ st=>(gd ρ st).bind λd st1=>match d with
 | .ref l=>if(iw st1[l]?).isSome=true then(gk ρ st1).bind λk st2=>(gx ρ st2).bind λx st3=>(match ly k,iw st3[l]? with
  | some kk,some kvs=> .ok ((iL kvs kk).getD x) st3
  | _,_=> .bad) else .bad
 | _=> .bad
def p_:List Wv->Hs->Re Wv
 | [.ref l],st=>match st[l]? with
  | some (.kY kvs)=>(match lB kvs with | some ws=> .ok (.tup ws) st | none=> .bad)
  | _=> .bad
 | _,_=> .bad
def putN(d k v:Wv)(st:Hs):Option Hs:=match d with
 | .ref l=>(match vA k,st[l]? with
  | some kk,some (.kY kvs)=>if kvs.length < lim then some (st.set l (.kY (mw kvs kk v))) else none
  | _,_=>none)
 | _=>none
def jE(gv gd gk:GE):GS:=λρ st=>(gv ρ st).a8 ρ λv st1=>(gd ρ st1).a8 ρ λd st2=>(gk ρ st2).a8 ρ λk st3=>match putN d k v st3 with
 | some uy=> .nx ρ uy
 | none=> .bad
section
variable {X:Cx}
theorem E_(hc:X.calm=true):b_ X (.type "tuple") p_:=⟨_,tJ hc,λws vs st H m Q S rs p=>by
 match ws,rs,p with
 | [],rs,p=>exact ae p
 | x::y::t,rs,p=>cases x<;>exact ae p
 | [x],rs,p=>
  cases x with
  | ref l=>
   obtain⟨v,rfl,r1⟩:=kq rs
   unfold p_ at p
   unfold ah at r1
   obtain⟨a,rfl,ha⟩:=r1
   cases e:st[l]? with
   | none=>simp only[e] at p;exact ae p
   | some ob=>
    simp only[e] at p
    cases ob with
    | kY kvs=>
     dsimp only at p
     cases e2:lB kvs with
     | none=>rw[e2] at p;exact ae p
     | some ks=>
      rw[e2] at p
      obtain⟨xs,y1,y2⟩:=(show ∃ys,H a=some (.dN ys)/\RelK X.K m H kvs ys from S.obj _ _ _ ha e)
      refine⟨a,xs,rfl,y1,λq vs' hq hv=>?_⟩
      have ex:Ext X.K m H m (upd H q (.tup vs')):=Ext.f' (.inl hq)
      refine p (.ref q) m _ ex (S.fresh hq) ?_
      unfold ah
      exact⟨q,vs',rfl,bc,ai.mono ex _ _ (pZ y2.1 hv e2)⟩
    | _=>exact ae p
  | _=>exact ae p⟩
theorem BN{o i e:Expr}{go gi ge:GE}{pos pos':Pos}(hu:X.A.units+9 < cLine)(he:JE X e ge)(ho:JE X o go)(hi:JE X i gi)(hs:swapsWith e (some (.Subscript o i pos')) pos.line X.env=pure false):JS X (.Assign [.Subscript o i pos'] e pos) (jE ge go gi) :=
 JS.of (BM hu aP aP aP hs) λρ st σ H m D S R p=>by
  refine he.go S R (aR.bU R p) λv st1 vv m1 H1 p1 e1 S1 rv=>?_
  refine ho.go S1 (R.mono e1) ((aR.bU (m:=m) (H:=H) R p1).imp e1 λ_ _ q=>q) λd st2 vd m2 H2 p2 e2 S2 rd=>?_
  refine hi.go S2 (R.mono (e1.trans e2)) ((aR.bU (m:=m) (H:=H) R p2).imp (e1.trans e2) λ_ _ q=>q) λk st3 vk m3 H3 p3 e3 S3 rk=>?_
  have uz:=e1.trans (e2.trans e3)
  have SU:=ah.mono e3 _ _ rd
  have P6:=ah.mono (e2.trans e3) _ _ rv
  unfold putN at p3
  cases d with
  | ref l=>
   dsimp only at p3
   unfold ah at SU
   obtain⟨a,rfl,ha⟩:=SU
   cases q1:vA k with
   | none=>rw[q1] at p3;exact ae p3
   | some kk=>
    cases q2:st3[l]? with
    | none=>rw[q1,q2] at p3;exact ae p3
    | some ob=>
     rw[q1,q2] at p3
     cases ob with
     | kY kvs=>
      dsimp only at p3
      by_cases c:kvs.length < lim
      ·rw[if_pos c] at p3
       obtain⟨xs,y1,y2⟩:=(show ∃ys,H3 a=some (.dN ys)/\RelK X.K m3 H3 kvs ys from S3.obj _ _ _ ha q2)
       obtain⟨b,rfl,hb⟩:=BG rk q1
       have ex:Ext X.K m3 H3 m3 (upd H3 a (.dN (putK xs kk vv))):=Ext.f' (.inr (.inr (.inr (.inr (.inl ⟨_,y1⟩)))))
       exact⟨a,b,xs,kk,rfl,y1,rfl,hb,by rw[<-y2.length];exact nL c,p3 σ m3 _ (uz.trans ex) (S3.nI ha q2 rfl ⟨_,bc,(y2.put kk P6).mono ex⟩) (R.mono (uz.trans ex))⟩
      ·rw[if_neg c] at p3;exact ae p3
     | _=>exact ae p3
  | _=>exact ae p3
theorem yY{o e f:Expr}{gd gk gx:GE}{apos cpos:Pos}(hu:X.A.units+1 < cLine)(ho:JE X o gd)(he:JE X e gk)(hf:JE X f gx)(M:M2 X o "get" apos e f cpos):JE X (.Call (.Attribute o "get" apos) [e,f] [] cpos) (dO gd gk gx) :=
 JE.of (sC hu aP aP aP M) λρ st σ H m Q S R p=>by
  refine ho.go S R (aC.bind p) λd st1 v m1 H1 p1 e1 S1 r1=>?_
  cases d with
  | ref l=>
   dsimp only at p1
   by_cases hd:(iw st1[l]?).isSome=true
   ·rw[if_pos hd] at p1
    unfold ah at r1
    obtain⟨a,rfl,ha⟩:=r1
    obtain⟨US,hk1⟩:=Option.isSome_iff_exists.mp hd
    obtain⟨Qr,Qs,_⟩:=kE S1 ha hk1
    refine⟨a,rfl,.inr ⟨Qr,Qs⟩,?_⟩
    refine he.go S1 (R.mono e1) ((aC.bind p1).imp e1 λ_ _ q=>q) λk st2 y m2 H2 p2 e2 S2 r2=>?_
    refine hf.go S2 (R.mono (e1.trans e2)) ((aC.bind p2).imp (e1.trans e2) λ_ _ q=>q) λx st3 z m3 H3 p3 e3 S3 r3=>?_
    cases q1:ly k with
    | none=>rw[q1] at p3;exact ae p3
    | some kk=>
     cases q2:iw st3[l]? with
     | none=>rw[q1,q2] at p3;exact ae p3
     | some kvs=>
      rw[q1,q2] at p3
      have Qm:m3[l]? =some a:=(e2.trans e3).pre _ _ ha
      obtain⟨xs,y1,y2⟩:=kE S3 Qm q2
      obtain⟨b,rfl,hb⟩:=n_ (ah.mono e3 _ _ r2) q1
      dsimp only at p3
      refine⟨_,.inr ⟨xs,kk,b,y1,rfl,hb,rfl⟩,?_⟩
      obtain⟨i1,i2⟩:=y2.val kk
      cases q3:iL kvs kk with
      | none=>
       rw[i1 q3]
       rw[q3] at p3
       exact p3 z m3 H3 (e1.trans (e2.trans e3)) S3 r3
      | some w=>
       obtain⟨u,j1,j2⟩:=i2 w q3
       rw[j1]
       rw[q3] at p3
       exact p3 u m3 H3 (e1.trans (e2.trans e3)) S3 j2
   ·rw[if_neg hd] at p1;exact ae p1
  | _=>exact ae p1
end
structure Qu where
 c:Str:=""
 xq:List (Str×Nat×(List Wv->Hs->Re Wv)):=[]
 ini:List (Str×Nat×(List Wv->Hs->Re Wv)):=[]
 own:List Str:=[]
structure vF(t:Qu)(k:Nat)(P:Wc)(w:Wf)(K:PySem.W.Frag)(mg:Str->Option We)(base:Heap):Prop where
 xq:∀f n F,t.xq.lookup f=some (n,F)->oX P w K mg base k t.c f n F
 ini:∀x n F,t.ini.lookup x=some (n,F)->tE P w K mg base k x n F
 own:∀f,t.own.contains f=true->Own K t.c f
theorem vF.no{k:Nat}{P:Wc}{w:Wf}{K:PySem.W.Frag}{mg:Str->Option We}{base:Heap}:vF {} k P w K mg base:=⟨(λ_ _ _ e=>by cases e),(λ_ _ _ e=>by cases e),λ_ e=>by cases e⟩
structure Ct where
 N:List Str
 names:List (Str×Wb)
 consts:List (Str×Wv)
 bl:List Str
 fns:List (Str×Nat×(List Wv->Hs->Re Wv))
 tb:Tab:=[]
 tt:vi:=[]
 clss:List Str:=[]
 yZ:List Str:=[]
 tc:Tab:=[]
 y3:List (Str×Dc):=[]
 sd:List Str:=[]
 UY:List Str:=[]
 Gh:List Str:=[]
 uB:List Str:=[]
 Dr:List Str:=[]
 loop:Bool:=true
 free:Bool:=true
 top:Bool:=true
 lam:Option (Lm×LF):=none
 Ds:List (Str×SM):=[]
 Qv:List Str:=[]
 lj:Nat:=0
 sk:Nat:=0
 Qw:List Str:=[]
 self:Str:=""
 it:Qu:={}
def lC(x:Str):List Str->Option Nat
 | []=>none
 | y::r=>if x=y then some 0 else match lC x r with
  | some i=>some (i+1)
  | none=>none
theorem gG{x:Str}:∀{N:List Str}{i:Nat},lC x N=some i->N[i]? =some x
 | [],i,h=>by cases h
 | y::r,i,h=>by
  unfold lC at h
  by_cases e:x=y
  ·rw[if_pos e] at h;cases h;subst e;rfl
  ·rw[if_neg e] at h
   cases q:lC x r with
   | none=>rw[q] at h;cases h
   | some j=>rw[q] at h;cases h;simpa using gG q
def okN(x:Str):Bool:=!(x == ("__debug__":Str))&& !(x == ("__classdict__":Str))&& !(decide (x="__name__"))
theorem fT{x:Str}(h:okN x=true):(x == ("__debug__":Str))=false:=by unfold okN at h;revert h;cases (x == ("__debug__":Str))<;>simp
theorem BO{x:Str}(h:okN x=true):(x == ("__classdict__":Str))=false:=by unfold okN at h;revert h;cases (x == ("__classdict__":Str))<;>simp
theorem BP{x:Str}(h:okN x=true):x≠"__name__":=by
 intro e
 subst e
 unfold okN at h
 simp at h
def tK:List Wv->List V->Prop
 | [],[]=>True
 | .int i::r,.int j::t=>i=j/\tK r t
 | .str x::r,.str y::t=>(x=y/\aM x=true)/\tK r t
 | _,_=>False
theorem tK.rel{K:PySem.W.Frag}{m:Mp}{H:Hp}:∀{ws:List Wv}{vs:List V},tK ws vs->ai K m H ws vs
 | [],[],_=>ai.nil
 | .int i::r,.int j::t,h=>by
  obtain⟨rfl,h⟩:=h
  exact ai.cons (by unfold ah;rfl) h.rel
 | .str x::r,.str y::t,h=>by
  obtain⟨⟨rfl,hx⟩,h⟩:=h
  exact ai.cons (by unfold ah;exact⟨rfl,hx⟩) h.rel
 | [],_::_,h=>ae h
 | .int i::r,[],h=>ae h
 | .str i::r,[],h=>ae h
 | .int i::r,.str _::_,h=>ae h
 | .str i::r,.int _::_,h=>ae h
def BQ(K:PySem.W.Frag)(mg:Str->Option We)(x:Str):Wv->Prop
 | .int i=>∃t,mg x=some (.int i t)
 | .str y=>(∃t,mg x=some (.str y t))/\aM y=true
 | .nG ws=>∃(a:V_)(vs:List V)(o:Obj)(its:Array We)(n:Nat),mg x=some (.ref a)/\K.lookup a=some o/\o.cls= .type "tuple"/\o.data= .seq its n/\its.size<=Wu/\Vals vs its.toList/\tK ws vs
 | _=>False
structure MZ(c:Ct)(k:Nat)(X:Cx):Prop where
 lam:∀p L,c.lam=some (p,L)->Jq X.prog X.w X.K X.mg X.base k p 3 L
 Ds:∀x F,c.Ds.lookup x=some F->SN X.prog X.w X.K X.mg k c.lj x F
 Lj:∀x n F,c.fns.lookup x=some (n,F)->c.Qv.contains x=true->∀base,BA X.K X.mg base->fI X.prog X.w X.K X.mg base c.lj x n F
 at':c.top=true->c.self∈bW->∃P,Gd X c.self P
 sk:c.sk<=k
 Ll:∀x n F,c.fns.lookup x=some (n,F)->c.Qw.contains x=true->fI X.prog X.w X.K X.mg X.base c.lj x n F
 ins:vF c.it k X.prog X.w X.K X.mg X.base
structure Good(c:Ct)(k:Nat)(X:Cx):Prop where
 N:X.N=c.N
 sc:X.env.scope.names=c.names
 nd:c.N.Nodup
 un:X.A.units+64 < cLine
 free:c.free=true->e7 k X.A/\X.calm=true
 loop:c.loop=true->X.calm=true/\PassesOwn (model X.prog X.w) X.A X.env X.xe
 cst:∀x w,c.consts.lookup x=some w->BQ X.K X.mg x w
 bl:∀x,c.bl.contains x=true->X.mg x=none
 fns:∀x n F,c.fns.lookup x=some (n,F)->fI X.prog X.w X.K X.mg X.base k x n F
 stk:c.top=true->Uv X
 fn:c.top=true->∀x,X.fn x=true
 kind:X.env.scope.kind= .function
 tab:TabOk X.K c.tb c.tt c.tc
 cls:∀x,c.clss.contains x=true->∃C,X.mg x=some (.ref C)/\IM X.K x C
 yZ:∀x,c.yZ.contains x=true->∃C,X.mg x=some (.ref C)/\ClsAt X.K x C
 y3:∀x kvs,c.y3.lookup x=some kvs->vw X.K X.w X.mg x kvs
 rm:mi k X.A
 Dr:∀x n F,c.Dr.contains x=true->c.fns.lookup x=some (n,F)->Jp X.prog X.w X.K X.mg X.base k x n F
 x:MZ c k X
 fr:Bf X
 hd:IS X
theorem mS{k:Nat}{A:V'}(hr:e7 k A):A.units+64 < cLine:=by have:=hr.un;omega
theorem BR:Wi "ValueError"=some (.type "ValueError"):=by decide+kernel
theorem BS:Wi "dict"=some (.type "dict"):=by decide+kernel
def Fb(x:Str):Option String :=
 if x="int" then some "int" else if x="str" then some "str" else if x="bool" then some "bool" else if x="tuple" then some "tuple" else if x="list" then some "list" else if x="ValueError" then some "ValueError" else if x="dict" then some "dict" else none
theorem Fc{x:Str}{T:String}(h:Fb x=some T):Wi x=some (.type T):=by
 unfold Fb at h
 by_cases e:x="int"
 ·rw[if_pos e] at h;cases h;subst e;exact AS
 rw[if_neg e] at h
 by_cases e:x="str"
 ·rw[if_pos e] at h;cases h;subst e;exact sN
 rw[if_neg e] at h
 by_cases e:x="bool"
 ·rw[if_pos e] at h;cases h;subst e;exact AU
 rw[if_neg e] at h
 by_cases e:x="tuple"
 ·rw[if_pos e] at h;cases h;subst e;exact nU
 rw[if_neg e] at h
 by_cases e:x="list"
 ·rw[if_pos e] at h;cases h;subst e;exact AV
 rw[if_neg e] at h
 by_cases e:x="ValueError"
 ·rw[if_pos e] at h;cases h;subst e;exact BR
 rw[if_neg e] at h
 by_cases e:x="dict"
 ·rw[if_pos e] at h;cases h;subst e;exact BS
 rw[if_neg e] at h
 cases h
section
variable {X:Cx}
def Fd:fK:=λ_ _ _=> .bad
theorem BU{f:We->We->Sem We}:jg X f Fd:=⟨λ_ _ _ _=>False,λ_ _ _ _ _ _ _ _ _ _ _ _ h=>h.elim,λ_ _ _ _ _ _ _ _ _ _ _ p=>p⟩
def M0:Operator->fK
 | .Add=>bB
 | .Sub=>nN
 | .Mult=>cK
 | .FloorDiv=>eS
 | .Mod=>oMod
 | .Pow=>gS
 | _=>Fd
theorem Fe(o:Operator):jg X (Wh o) (M0 o):=by
 cases o<;>first | exact ID | exact IA | exact BH | exact Ee | exact IB | exact IC | exact BU
def vG:CmpOp->fK
 | .Eq=>oEq
 | .NotEq=>zv
 | .Lt=>oLt
 | .LtE=>oLe
 | .Gt=>Ow
 | .GtE=>Fd
 | .Is=>Ef
 | .IsNot=>kF
 | .In=>Br
 | .NotIn=>Fd
theorem jm(hu:X.A.units+64 < cLine)(o:CmpOp):jg X (Wm o) (vG o):=by
 cases o<;>first | exact Mt hu | exact Mu hu | exact Jw hu | exact Jn hu | exact Mn | exact Mo | exact E6 | exact Ji | exact BU
def BV(c:Ct)(x:Str):GE:=if okN x=true then
  match c.names.lookup x with
  | some .local=>(match lC x c.N with | some i=>ag i | none=>bJ)
  | some .cell=>(match lC x c.N with | some i=>ag i | none=>bJ)
  | some .free=>(match lC x c.N with | some i=>ag i | none=>bJ)
  | some .globalImplicit=>(match c.consts.lookup x with
   | some w=>gC w
   | none=>if c.clss.contains x=true then gC (.cls x) else if c.yZ.contains x=true then gC (.cls x) else if c.bl.contains x=true then(match Fb x with | some T=>gC (.ty T) | none=>bJ) else bJ)
  | _=>bJ
 else bJ
theorem BW{c:Ct}{k:Nat}(G:Good c k X)(x:Str)(pos:Pos):JE X (.Name x pos) (BV c x):=by
 unfold BV
 by_cases hx:okN x=true
 ·rw[if_pos hx]
  cases e:c.names.lookup x with
  | none=>exact aL
  | some kd=>
   have el:X.env.scope.names.lookup x=some kd:=by rw[G.sc];exact e
   cases kd with
   | «local»=>
    dsimp only
    cases e2:lC x c.N with
    | none=>exact aL
    | some i=>exact u_ i (by rw[G.N];exact gG e2) (Or.inl el) (fT hx) (BO hx)
   | cell=>
    dsimp only
    cases e2:lC x c.N with
    | none=>exact aL
    | some i=>exact u_ i (by rw[G.N];exact gG e2) (jf (Or.inl el)) (fT hx) (BO hx)
   | free=>
    dsimp only
    cases e2:lC x c.N with
    | none=>exact aL
    | some i=>exact u_ i (by rw[G.N];exact gG e2) (jf (jf el)) (fT hx) (BO hx)
   | globalImplicit=>
    dsimp only
    have hg:Gl X x:=el
    cases e2:c.consts.lookup x with
    | some w=>
     have q:=G.cst x w e2
     cases w with
     | int i=>obtain⟨t,q⟩:=q;exact As hg q (fT hx)
     | str y=>obtain⟨⟨t,q⟩,z⟩:=q;exact Au hg q z (fT hx)
     | nG ws=>
      obtain⟨a,vs,o,its,n,q1,q2,q3,q4,q5,q6,q7⟩:=q
      exact JE.of (gL (v:=.ref a) hg q1 rfl (fT hx)) λρ st σ H m Q S R p=>p (.ref a) m H Ext.refl S (by unfold ah;exact⟨a,vs,rfl,⟨o,its,n,q2,q3,q4,q5,q6⟩,q7.rel⟩)
     | _=>exact ae q
    | none=>
     dsimp only
     by_cases e5:c.clss.contains x=true
     ·rw[if_pos e5]
      obtain⟨C,q1,q2⟩:=G.cls x e5
      exact JE.of (gL (v:=.ref C) hg q1 rfl (fT hx)) λρ st σ H m Q S R p=>p (.ref C) m H Ext.refl S (by unfold ah;exact⟨C,rfl,q2.cls⟩)
     rw[if_neg e5]
     by_cases e6:c.yZ.contains x=true
     ·rw[if_pos e6]
      obtain⟨C,q1,q2⟩:=G.yZ x e6
      exact JE.of (gL (v:=.ref C) hg q1 rfl (fT hx)) λρ st σ H m Q S R p=>p (.ref C) m H Ext.refl S (by unfold ah;exact⟨C,rfl,q2⟩)
     rw[if_neg e6]
     by_cases e3:c.bl.contains x=true
     ·rw[if_pos e3]
      cases e4:Fb x with
      | none=>exact aL
      | some T=>exact Mf hg (G.bl x e3) (Fc e4) (BP hx) (fT hx)
     ·rw[if_neg e3];exact aL
   | _=>exact aL
 ·rw[if_neg hx];exact aL
def BX:Const->GE
 | .none=>gC .non
 | .bool b=>gC (.bl b)
 | .int i=>gC (.int i)
 | .str x=>if aM x=true then gC (.str x) else bJ
 | _=>bJ
theorem y6(k:Const)(j:Nat)(pos:Pos):JE X (.Constant k j pos) (BX k):=by
 cases k with
 | none=>exact Il
 | bool b=>exact Me
 | int i=>exact Ij
 | str x=>
  show JE X _ (if aM x=true then gC (.str x) else bJ)
  by_cases h:aM x=true
  ·rw[if_pos h];exact Im h
  ·rw[if_neg h];exact aL
 | _=>exact aL
def plain:Expr->Bool
 | .Starred .. =>false
 | _=>true
theorem aE{e:Expr}{es:List Expr}{env:Env}(h:plain e=true):Ww (e::es) env=(false,eval e env)::Ww es env:=by
 cases e<;>first | rfl | cases h
theorem dH{pos:Pos}{env:Env}:∀{es:List Expr},es.all plain=true->(backTo pos (Ww es env)).any (·.1)=false
 | [],_=>rfl
 | e::es,h=>by
  rw[cF,cw] at h
  rw[aE h.1]
  have q:=dH (pos:=pos) (env:=env) h.2
  unfold backTo at q ⊢
  rw[bb,dz,q]
  rfl
def gH(f:Expr->GE):List Expr->GA
 | []=>ak
 | e::es=>af (f e) (gH f es)
theorem dj{f:Expr->GE}(h:∀e,JE X e (f e)):∀es:List Expr,es.all plain=true->JA X es (gH f es)
 | [],_=>Ax
 | e::es,g=>by
  rw[cF,cw] at g
  exact wZ (h e) (dj h es g.2) (aE g.1)
def OE(c:Ct)(x:Str):Option (We×(List Wv->Hs->Re Wv)) :=
 if x="len" then some (.builtin "len",if c.sd.isEmpty=true then iH else pW) else if x="abs" then some (.builtin "abs",En) else if x="isinstance" then some (.builtin "isinstance",lh c.tb c.tt) else if x="str" then some (.type "str",xa) else if x="tuple" then some (.type "tuple",Bl) else if x="max"/\c.free=true then some (.builtin "max",mf) else if x="min"/\c.free=true then some (.builtin "min",mh) else if x="sum"/\c.free=true then some (.builtin "sum",yH) else none
theorem y7:Wi "max"=some (.builtin "max"):=by decide+kernel
theorem y8:Wi "min"=some (.builtin "min"):=by decide+kernel
theorem y9:Wi "sum"=some (.builtin "sum"):=by decide+kernel
theorem JD(c:Ct):b_ X (.builtin "len") (if c.sd.isEmpty=true then iH else pW):=by
 by_cases e2:c.sd.isEmpty=true
 ·rw[if_pos e2];exact AB
 ·rw[if_neg e2];exact E4
theorem JF{c:Ct}{x:Str}{v:We}{op:List Wv->Hs->Re Wv}(O:TabOk X.K c.tb c.tt c.tc)(hc:c.free=true->X.calm=true)(h:OE c x=some (v,op)):Wi x=some v/\b_ X v op/\((∃id,v= .builtin id)\/∃T,v= .type T):=by
 unfold OE at h
 by_cases e:x="len"
 ·rw[if_pos e] at h;cases h;subst e;exact⟨yB,JD c,.inl ⟨_,rfl⟩⟩
 rw[if_neg e] at h
 by_cases e:x="abs"
 ·rw[if_pos e] at h;cases h;subst e;exact⟨yA,IG,.inl ⟨_,rfl⟩⟩
 rw[if_neg e] at h
 by_cases e:x="isinstance"
 ·rw[if_pos e] at h;cases h;subst e;exact⟨AR,IQ O,.inl ⟨_,rfl⟩⟩
 rw[if_neg e] at h
 by_cases e:x="str"
 ·rw[if_pos e] at h;cases h;subst e;exact⟨sN,EB,.inr ⟨_,rfl⟩⟩
 rw[if_neg e] at h
 by_cases e:x="tuple"
 ·rw[if_pos e] at h;cases h;subst e;exact⟨nU,Jc,.inr ⟨_,rfl⟩⟩
 rw[if_neg e] at h
 by_cases e:x="max"/\c.free=true
 ·rw[if_pos e] at h;cases h;obtain⟨rfl,e2⟩:=e;exact⟨y7,EN (hc e2),.inl ⟨_,rfl⟩⟩
 rw[if_neg e] at h
 by_cases e:x="min"/\c.free=true
 ·rw[if_pos e] at h;cases h;obtain⟨rfl,e2⟩:=e;exact⟨y8,EO (hc e2),.inl ⟨_,rfl⟩⟩
 rw[if_neg e] at h
 by_cases e:x="sum"/\c.free=true
 ·rw[if_pos e] at h;cases h;obtain⟨rfl,e2⟩:=e;exact⟨y9,Jf (hc e2),.inl ⟨_,rfl⟩⟩
 rw[if_neg e] at h
 cases h
def vH(c:Ct)(fE:Expr->GE)(x:Str)(es:List Expr):GE:=if okN x=true/\es.all plain=true/\c.names.lookup x=some .globalImplicit then
   (match c.fns.lookup x with
   | some (n,F)=>if c.free=true then aD n F (gH fE es) else bJ
   | none=>if c.bl.contains x=true then(match OE c x with | some (_,op)=>bt op (gH fE es) | none=>bJ) else bJ)
  else bJ
def BY(fE:Expr->GE)(o:Expr)(name:Str)(e:Expr)(apos cpos:Pos):GE:=if plain e=true/\(apos.endLine == cpos.line)=true then
   (if name="append" then jC jv (fE o) (fE e) else if name="extend" then jC tw (fE o) (fE e) else bJ)
  else bJ
def q_(fE:Expr->GE)(o:Expr)(name:Str)(es:List Expr)(apos cpos:Pos):GE:=bJ
theorem all_plain{pos:Pos}{env:Env}:∀{es:List Expr},es.all plain=true->(backTo pos (Ww es env)).all (λx=> !x.1)=true
 | [],_=>rfl
 | e::es,h=>by
  rw[cF,cw] at h
  rw[aE h.1]
  have q:=all_plain (pos:=pos) (env:=env) h.2
  unfold backTo at q ⊢
  rw[bb,cF,q]
  rfl
theorem lD{fE:Expr->GE}(h:∀e,JE X e (fE e))(o:Expr)(name:Str)(e:Expr)(es:List Expr)(apos cpos:Pos):JE X (.Call (.Attribute o name apos) (e::es) [] cpos) (q_ fE o name (e::es) apos cpos):=by
 exact aL
def BZ(fE:Expr->GE)(o:Expr)(e f:Expr)(apos cpos:Pos):GE:=if plain e=true/\plain f=true/\(apos.endLine == cpos.line)=true then Bs (fE o) (fE e) (fE f) else bJ
theorem B0{c:Ct}{k:Nat}(G:Good c k X){fE:Expr->GE}(h:∀e,JE X e (fE e))(o:Expr)(ho:attributeBase o "get" X.env (eval o X.env)=eval o X.env)(e f:Expr)(apos cpos:Pos):JE X (.Call (.Attribute o "get" apos) [e,f] [] cpos) (BZ fE o e f apos cpos):=by
 unfold BZ
 by_cases g:plain e=true/\plain f=true/\(apos.endLine == cpos.line)=true
 ·rw[if_pos g]
  obtain⟨g1,g2,g3⟩:=g
  refine Bu (by have:=G.un;omega) (h _) (h e) (h f) ⟨ho,?_,g3,?_⟩
  ·rw[all_plain (es:=[e,f]) (by simp[g1,g2])]
   rfl
  ·rw[aE g1,aE g2]
   rfl
 ·rw[if_neg g];exact aL
def y_(c:Ct)(x:Str):Option Dc:=if okN x=true/\c.names.lookup x=some .globalImplicit then c.y3.lookup x else none
theorem xt{c:Ct}{k:Nat}(G:Good c k X){x:Str}{kvs:Dc}(h:y_ c x=some kvs):Gl X x/\(x == ("__debug__":Str))=false/\vw X.K X.w X.mg x kvs:=by
 unfold y_ at h
 by_cases g:okN x=true/\c.names.lookup x=some .globalImplicit
 ·rw[if_pos g] at h
  refine⟨?_,fT g.1,G.y3 x kvs h⟩
  show X.env.scope.names.lookup x=_
  rw[G.sc];exact g.2
 ·rw[if_neg g] at h;cases h
def B1(c:Ct)(fE:Expr->GE)(x:Str)(p:Pos)(e:Expr)(apos cpos:Pos):GE:=if c.sd.contains x=true/\plain e=true/\(apos.endLine == cpos.line)=true then jL (fE (.Name x p)) (fE e) else bJ
theorem B2{c:Ct}{k:Nat}(G:Good c k X){fE:Expr->GE}(h:∀e,JE X e (fE e))(x:Str)(p:Pos)(e:Expr)(apos cpos:Pos):JE X (.Call (.Attribute (.Name x p) "get" apos) [e] [] cpos) (B1 c fE x p e apos cpos):=by
 unfold B1
 by_cases g:c.sd.contains x=true/\plain e=true/\(apos.endLine == cpos.line)=true
 ·rw[if_pos g]
  obtain⟨_,g1,g3⟩:=g
  refine tB (by have:=G.un;omega) (h _) (h e) ⟨rfl,?_,g3,?_⟩
  ·rw[all_plain (es:=[e]) (by simp[g1])]
   rfl
  ·rw[aE g1]
   rfl
 ·rw[if_neg g];exact aL
def B3(c:Ct)(fE:Expr->GE)(cpos:Pos):Expr->List Expr->List Keyword->GE
 | .Name x _,e::es,[]=>vH c fE x (e::es)
 | .Attribute (.Name x p) name apos,[e],[]=>if name="get" then B1 c fE x p e apos cpos else if name="append"\/name="extend" then BY fE (.Name x p) name e apos cpos else if name="index"/\c.uB.contains x=true/\plain e=true/\(apos.endLine == cpos.line)=true then jC fA (fE (.Name x p)) (fE e) else q_ fE (.Name x p) name [e] apos cpos
 | .Attribute (.Name x p) name apos,[e,f],[]=>if name="get" then(match y_ c x with | some kvs=>(if plain e=true/\plain f=true/\(apos.endLine == cpos.line)=true then Bx kvs (fE e) (fE f) else bJ) | none=>BZ fE (.Name x p) e f apos cpos) else q_ fE (.Name x p) name [e,f] apos cpos
 | .Attribute o name apos,e::es,[]=>q_ fE o name (e::es) apos cpos
 | _,_,_=>bJ
theorem za{c:Ct}{k:Nat}(G:Good c k X){fE:Expr->GE}(h:∀e,JE X e (fE e))(x:Str)(e:Expr)(es:List Expr)(p pos:Pos):JE X (.Call (.Name x p) (e::es) [] pos) (vH c fE x (e::es)):=by
 unfold vH
 by_cases g:okN x=true/\(e::es).all plain=true/\c.names.lookup x=some .globalImplicit
 ·rw[if_pos g]
  obtain⟨g1,g2,g3⟩:=g
  have hg:Gl X x:=by
   show X.env.scope.names.lookup x=_
   rw[G.sc];exact g3
  have gp:plain e=true/\es.all plain=true:=by rw[cF,cw] at g2;exact g2
  have ha:=dj h (e::es) g2
  cases e1:c.fns.lookup x with
  | some nF=>
   obtain⟨n,F⟩:=nF
   dsimp only
   by_cases cf:c.free=true
   ·rw[if_pos cf]
    obtain⟨a,fd,ps,G1,G2,G3,G4⟩:=G.fns x n F e1
    exact Eu G1 (G.free cf).1 G2 G3 G4 ha hg (fT g1) (aE gp.1) (dH gp.2)
   ·rw[if_neg cf]
    exact aL
  | none=>
   dsimp only
   by_cases e3:c.bl.contains x=true
   ·rw[if_pos e3]
    cases e4:OE c x with
    | none=>exact aL
    | some io=>
     obtain⟨v,op⟩:=io
     obtain⟨b1,b2,b3⟩:=JF (X:=X) G.tab (λz=>(G.free z).2) e4
     rcases b3 with ⟨id,rfl⟩ | ⟨T,rfl⟩
     ·exact AA b2 hg (G.bl x e3) b1 ha (BP g1) (fT g1) (aE gp.1) (dH gp.2)
     ·exact pM b2 hg (G.bl x e3) b1 ha (BP g1) (fT g1) (aE gp.1) (dH gp.2)
   ·rw[if_neg e3]
    exact aL
 ·rw[if_neg g];exact aL
theorem B4{fE:Expr->GE}(h:∀e,JE X e (fE e))(x name:Str)(e:Expr)(p apos cpos:Pos):JE X (.Call (.Attribute (.Name x p) name apos) [e] [] cpos) (BY fE (.Name x p) name e apos cpos):=by
 unfold BY
 by_cases g:plain e=true/\(apos.endLine == cpos.line)=true
 ·rw[if_pos g]
  by_cases n1:name="append"
  ·rw[if_pos n1]
   subst n1
   exact qP A8 PySem.F.slot_list_append PySem.F.type_list_append (h _) (h e) (aE g.1) g.2
  rw[if_neg n1]
  by_cases n2:name="extend"
  ·rw[if_pos n2]
   subst n2
   exact qP E2 PySem.F.slot_list_extend PySem.F.type_list_extend (h _) (h e) (aE g.1) g.2
  rw[if_neg n2]
  exact aL
 ·rw[if_neg g];exact aL
theorem B5{c:Ct}{k:Nat}(G:Good c k X){fE:Expr->GE}(h:∀e,JE X e (fE e))(f:Expr)(as:List Expr)(ks:List Keyword)(pos:Pos):JE X (.Call f as ks pos) (B3 c fE pos f as ks):=by
 unfold B3
 split
 ·exact za G h _ _ _ _ _
 ·rename_i x p name apos e
  by_cases gg:name="get"
  ·rw[if_pos gg];subst gg;exact B2 G h _ _ _ _ _
  rw[if_neg gg]
  by_cases g:name="append"\/name="extend"
  ·rw[if_pos g];exact B4 h _ _ _ _ _ _
  ·rw[if_neg g]
   by_cases gi:name="index"/\c.uB.contains x=true/\plain e=true/\(apos.endLine == pos.line)=true
   ·rw[if_pos gi]
    obtain⟨rfl,_,g1,g3⟩:=gi
    exact qP (vC G.un) PySem.F.slot_list_index PySem.F.type_list_index (h _) (h e) (aE g1) g3
   rw[if_neg gi]
   exact lD h _ _ _ _ _ _
 ·rename_i x p name apos e f
  by_cases g:name="get"
  ·rw[if_pos g]
   subst g
   cases ed:y_ c x with
   | none=>exact B0 G h _ rfl _ _ _ _
   | some kvs=>
    dsimp only
    by_cases g:plain e=true/\plain f=true/\(apos.endLine == pos.line)=true
    ·rw[if_pos g]
     obtain⟨g1,g2,g3⟩:=g
     obtain⟨q1,q2,q3⟩:=xt G ed
     refine By (h e) (h f) ⟨rfl,?_,g3,?_⟩ q1 q2 q3
     ·rw[all_plain (es:=[e,f]) (by simp[g1,g2])]
      rfl
     ·rw[aE g1,aE g2]
      rfl
    ·rw[if_neg g];exact aL
  ·rw[if_neg g]
   exact lD h _ _ _ _ _ _
 ·exact lD h _ _ _ _ _ _
 ·exact aL
def Ff:Expr->Bool
 | .Slice .. =>true
 | _=>false
def B6(f:Expr->GE):Option Expr->GO
 | none=>gT
 | some e=>kl (f e)
theorem xu{f:Expr->GE}(h:∀e,JE X e (f e))(o:Option Expr):JO X o (B6 f o):=by
 cases o with
 | none=>exact El
 | some e=>exact Em (h e)
def Fg(f:Expr->GE)(a:Expr):Expr->GE
 | .Slice lo hi none _=>fb (f a) (B6 f lo) (B6 f hi)
 | .Slice .. =>bJ
 | b=>aj ba (f a) (f b)
theorem B7{f:Expr->GE}(h:∀e,JE X e (f e))(a b:Expr)(pos:Pos):JE X (.Subscript a b pos) (Fg f a b):=by
 unfold Fg
 split
 ·exact yO (h a) (xu h _) (xu h _)
 ·exact aL
 ·rename_i n1 n2
  refine Mw (h a) (h b) ?_
  intro o i
  cases b<;>first | rfl | (rename_i lo hi st p;exact(n2 _ _ _ _ rfl).elim)
def B8(f:Expr->GE)(a:Expr):List CmpOp->List Expr->GE
 | [o],[b]=>if Wg o b=false then aj (vG o) (f a) (f b) else bJ
 | [o,o'],[b,b']=>if lastMarks [o,o'] [b,b']=false then nM (vG o) (vG o') (f a) (f b) (f b') else bJ
 | _,_=>bJ
theorem vI(hu:X.A.units+64 < cLine){f:Expr->GE}(h:∀e,JE X e (f e))(a:Expr)(os:List CmpOp)(bs:List Expr)(pos:Pos):JE X (.Compare a os bs pos) (B8 f a os bs):=by
 unfold B8
 split
 ·rename_i o b
  by_cases g:Wg o b=false
  ·rw[if_pos g];exact va (jm hu o) (h a) (h b) g
  ·rw[if_neg g];exact aL
 ·rename_i o o' b b'
  by_cases g:lastMarks [o,o'] [b,b']=false
  ·rw[if_pos g];exact Av (jm hu o) (jm hu o') (h a) (h b) (h b') g
  ·rw[if_neg g];exact aL
 ·exact aL
def zb(f:Expr->GE)(a:Expr):List CmpOp->List Expr->GT
 | [o],[b]=>if Wg o b=false then bG (aj (vG o) (f a) (f b)) else iI
 | [o,o'],[b,b']=>if lastMarks [o,o'] [b,b']=false then bG (nM (vG o) (vG o') (f a) (f b) (f b')) else iI
 | _,_=>iI
theorem mT(hu:X.A.units+64 < cLine){f:Expr->GE}(h:∀e,JE X e (f e))(a:Expr)(os:List CmpOp)(bs:List Expr)(pos:Pos):JT X (.Compare a os bs pos) (zb f a os bs):=by
 unfold zb
 split
 ·rename_i o b
  by_cases g:Wg o b=false
  ·rw[if_pos g];exact qI (jm hu o) (h a) (h b) g
  ·rw[if_neg g];exact iJ
 ·rename_i o o' b b'
  by_cases g:lastMarks [o,o'] [b,b']=false
  ·rw[if_pos g];exact Aw (jm hu o) (jm hu o') (h a) (h b) (h b') g
  ·rw[if_neg g];exact iJ
 ·exact iJ
def JG(c:Ct)(f:Expr->GE)(a:Expr):List CmpOp->List Expr->GE
 | [.In],[.Name x p]=>if c.uB.contains x=true then(if Wg .In (.Name x p)=false then aj (fM false) (f a) (f (.Name x p)) else bJ) else B8 f a [.In] [.Name x p]
 | [.NotIn],[.Name x p]=>if c.uB.contains x=true then(if Wg .NotIn (.Name x p)=false then aj (fM true) (f a) (f (.Name x p)) else bJ) else B8 f a [.NotIn] [.Name x p]
 | os,bs=>B8 f a os bs
theorem Fh{c:Ct}{k:Nat}(G:Good c k X){f:Expr->GE}(h:∀e,JE X e (f e))(a:Expr)(os:List CmpOp)(bs:List Expr)(pos:Pos):JE X (.Compare a os bs pos) (JG c f a os bs):=by
 unfold JG
 split
 ·rename_i x p
  ·by_cases gd:c.uB.contains x=true
   ·rw[if_pos gd]
    by_cases gm:Wg .In (.Name x p)=false
    ·rw[if_pos gm];exact va (vz G.un) (h a) (h _) gm
    ·rw[if_neg gm];exact aL
   ·rw[if_neg gd];exact vI G.un h a _ _ pos
 ·rename_i x p
  ·by_cases gd:c.uB.contains x=true
   ·rw[if_pos gd]
    by_cases gm:Wg .NotIn (.Name x p)=false
    ·rw[if_pos gm];exact va (pV G.un) (h a) (h _) gm
    ·rw[if_neg gm];exact aL
   ·rw[if_neg gd];exact vI G.un h a _ _ pos
 ·exact vI G.un h a _ _ pos
def B9(c:Ct)(f:Expr->GE)(a:Expr):List CmpOp->List Expr->GT
 | [.In],[.Name x p]=>if c.uB.contains x=true then(if Wg .In (.Name x p)=false then bG (aj (fM false) (f a) (f (.Name x p))) else iI) else zb f a [.In] [.Name x p]
 | [.NotIn],[.Name x p]=>if c.uB.contains x=true then(if Wg .NotIn (.Name x p)=false then bG (aj (fM true) (f a) (f (.Name x p))) else iI) else zb f a [.NotIn] [.Name x p]
 | [.In],[.Attribute o fl p]=>if c.uB.contains fl=true/\Wg .In (.Attribute o fl p)=false then bG (aj (fM false) (f a) (f (.Attribute o fl p))) else zb f a [.In] [.Attribute o fl p]
 | os,bs=>zb f a os bs
theorem B_{c:Ct}{k:Nat}(G:Good c k X){f:Expr->GE}(h:∀e,JE X e (f e))(a:Expr)(os:List CmpOp)(bs:List Expr)(pos:Pos):JT X (.Compare a os bs pos) (B9 c f a os bs):=by
 unfold B9
 split
 ·rename_i x p
  ·by_cases gd:c.uB.contains x=true
   ·rw[if_pos gd]
    by_cases gm:Wg .In (.Name x p)=false
    ·rw[if_pos gm];exact qI (vz G.un) (h a) (h _) gm
    ·rw[if_neg gm];exact iJ
   ·rw[if_neg gd];exact mT G.un h a _ _ pos
 ·rename_i x p
  ·by_cases gd:c.uB.contains x=true
   ·rw[if_pos gd]
    by_cases gm:Wg .NotIn (.Name x p)=false
    ·rw[if_pos gm];exact qI (pV G.un) (h a) (h _) gm
    ·rw[if_neg gm];exact iJ
   ·rw[if_neg gd];exact mT G.un h a _ _ pos
 ·rename_i o fl p
  by_cases gd:c.uB.contains fl=true/\Wg .In (.Attribute o fl p)=false
  ·rw[if_pos gd];exact qI (vz G.un) (h a) (h _) gd.2
  ·rw[if_neg gd];exact mT G.un h a _ _ pos
 ·exact mT G.un h a _ _ pos
def M3(c:Ct):Expr->Bool
 | .Name x _=>c.sd.contains x||c.UY.contains x
 | _=>false
def JH(c:Ct)(f:Expr->GE):Expr->Expr->GE
 | .Name x p,b=>(match y_ c x with | some kvs=>if Ff b=false then xm kvs (f b) else bJ | none=>Fg f (.Name x p) b)
 | a,b=>Fg f a b
theorem Fi{c:Ct}{k:Nat}(G:Good c k X){f:Expr->GE}(h:∀e,JE X e (f e))(a b:Expr)(pos:Pos):JE X (.Subscript a b pos) (JH c f a b):=by
 unfold JH
 split
 ·rename_i x p
  cases e:y_ c x with
  | none=>
   dsimp only
   exact B7 h _ b pos
  | some kvs=>
   dsimp only
   by_cases g:Ff b=false
   ·rw[if_pos g]
    obtain⟨g1,g2,g3⟩:=xt G e
    refine ES (h b) ?_ g1 g2 g3
    intro o i
    cases b<;>first | rfl | cases g
   ·rw[if_neg g];exact aL
 ·exact B7 h _ b pos
def JJ(f:Expr->GE):List Expr->GE
 | []=>bJ
 | [a]=>f a
 | a::b::r=>pJ (f a) (JJ f (b::r))
theorem xv{f:Expr->GE}(h:∀e,JE X e (f e))(pos:Pos):∀es,JE X (.BoolOp .And es pos) (JJ f es)
 | []=>aL
 | [a]=>Iv (h a)
 | a::b::r=>Iw (h a) (xv h pos (b::r))
def JK(f:Expr->GT):List Expr->GT
 | []=>iI
 | [a]=>f a
 | a::b::r=>yv (f a) (JK f (b::r))
def Qx(f:Expr->GT):List Expr->GT
 | []=>iI
 | [a]=>f a
 | a::b::r=>Dp (f a) (Qx f (b::r))
theorem B'{e:Expr}:JW X e iI:=λρ st σ H m Q S R p=>ae p
theorem xw{f:Expr->GT}(h:∀e,JT X e (f e))(pos:Pos):∀es,JW X (.BoolOp .And es pos) (JK f es)
 | []=>B'
 | [a]=>Eb (h a)
 | a::b::r=>Ir (h a) (xw h pos (b::r))
theorem Ca{f:Expr->GT}(h:∀e,JT X e (f e))(pos:Pos):∀es,JW X (.BoolOp .Or es pos) (Qx f es)
 | []=>B'
 | [a]=>Iq (h a)
 | a::b::r=>Mg (h a) (Ca h pos (b::r))
def UZ(f:Expr->GE):UnaryOp->Expr->GE
 | .USub,a=>wY fR (f a)
 | _,_=>bJ
def zc(f:Expr->GE)(g:GA->GE)(es:List Expr):GE:=if es.all plain=true then g (gH f es) else bJ
def isSet:Expr->Bool
 | .Set .. =>true
 | _=>false
theorem jn{e:Expr}{env:Env}(h:isSet e=false)(x:We):Wn e env x=pure x:=by
 cases e<;>first | rfl | cases h
def dk(c:Ct)(x:Str):Bool:=decide (x="range")&&decide (c.names.lookup x=some .globalImplicit)&&c.bl.contains x&&(match c.fns.lookup x with | some _=>false | none=>true)
theorem oh{c:Ct}{k:Nat}(G:Good c k X)(y:Str)(hy:dk c y=true):y="range"/\Gl X y/\X.mg y=none:=by
 unfold dk at hy
 simp only[cw,decide_eq_true_eq] at hy
 refine⟨hy.1.1.1,?_,G.bl y hy.1.2⟩
 show X.env.scope.names.lookup y=_
 rw[G.sc];exact hy.1.1.2
def Cb(c:Ct)(f:Expr->GE):Expr->GI
 | .Call (.Name x p) [a] [] q=>if dk c x=true then(if plain a=true then Ja (gH f [a]) else xg) else gX (f (.Call (.Name x p) [a] [] q))
 | .Call (.Name x p) [a,b] [] q=>if dk c x=true then(if plain a=true/\plain b=true then qT (gH f [a,b]) else xg) else gX (f (.Call (.Name x p) [a,b] [] q))
 | e=>if isSet e=false then gX (f e) else xg
theorem xx{c:Ct}{k:Nat}(G:Good c k X){f:Expr->GE}(h:∀e,JE X e (f e))(tg e:Expr):JI X tg e (Cb c f e):=by
 unfold Cb
 split
 ·rename_i y p a q
  by_cases g:dk c y=true
  ·rw[if_pos g]
   obtain⟨rfl,g2,g3⟩:=oh G y g
   by_cases ga:plain a=true
   ·rw[if_pos ga]
    exact MJ g2 g3 (dj h [a] (by simp[ga])) (aE ga)
   ·rw[if_neg ga];exact vo
  ·rw[if_neg g];exact qV (h _)
 ·rename_i y p a b q
  by_cases g:dk c y=true
  ·rw[if_pos g]
   obtain⟨rfl,g2,g3⟩:=oh G y g
   by_cases ga:plain a=true/\plain b=true
   ·rw[if_pos ga]
    exact MK g2 g3 (dj h [a,b] (by simp[ga])) (by rw[aE ga.1,aE ga.2];rfl) (by rw[aE ga.2];rfl)
   ·rw[if_neg ga];exact vo
  ·rw[if_neg g];exact qV (h _)
 ·by_cases g:isSet e=false
  ·rw[if_pos g];exact qV (h _)
  ·rw[if_neg g];exact vo
def mj(c:Ct):List (Str×Wb)->Option fL
 | []=>some []
 | (n,.free)::r=>if c.names.lookup n=some .cell\/c.names.lookup n=some .free then(match lC n c.N,mj c r with | some i,some l=>some ((n,i)::l) | _,_=>none) else none
 | _::r=>mj c r
theorem oj{c:Ct}:∀{ns:List (Str×Wb)}{cs:fL},mj c ns=some cs->(∀y∈ns,y.2= .free->c.names.lookup y.1=some .cell\/c.names.lookup y.1=some .free)/\∀p∈cs,(p.1,dh)∈ns/\c.N[p.2]? =some p.1
 | [],cs,h=>by cases h;exact⟨(λ_ z=>by cases z),(λ_ z=>by cases z)⟩
 | (n,k)::r,cs,h=>by
  unfold mj at h
  split at h
  ·cases ‹_::_=[]›
  ·rename_i n' r' he
   cases he
   by_cases g:c.names.lookup n=some .cell\/c.names.lookup n=some .free
   ·rw[if_pos g] at h
    cases e1:lC n c.N with
    | none=>rw[e1] at h;cases h
    | some i=>
     cases e2:mj c r with
     | none=>rw[e1,e2] at h;cases h
     | some l=>
      rw[e1,e2] at h
      cases h
      obtain⟨q1,q2⟩:=oj e2
      refine⟨λy hy e=>?_,λp hp=>?_⟩
      ·rcases List.mem_cons.mp hy with z | z
       ·subst z;exact g
       ·exact q1 y z e
      ·rcases List.mem_cons.mp hp with z | z
       ·subst z;exact⟨cG,gG e1⟩
       ·exact⟨bN _ (q2 p z).1,(q2 p z).2⟩
   ·rw[if_neg g] at h;cases h
  ·rename_i kk r' hk he
   cases he
   obtain⟨q1,q2⟩:=oj h
   refine⟨λy hy e=>?_,λp hp=>⟨bN _ (q2 p hp).1,(q2 p hp).2⟩⟩
   rcases List.mem_cons.mp hy with z | z
   ·subst z
    have e':k= .free:=e
    subst e'
    exact(hk n rfl).elim
   ·exact q1 y z e
def vJ(c:Ct)(ns:List (Str×Wb)):List (Str×Wb):=ns.map λ(n,k)=>if(k == .free&&c.names.lookup n == some .cell) then(n,.cell) else(n,k)
def Cc:ScopeKind->Bool
 | .function=>true
 | _=>false
def jo(scope:Scope)(x:Str):Bool:=Cc scope.kind&&scope.names.all (λy=>decide (scope.names.lookup y.1=some y.2))&&scope.names.all (λy=>decide (y.2≠.cell))&&decide (scope.names.lookup x=some .local)
def Ct.block(c:Ct)(scope:Scope)(x:Str)(cs:fL):Ct:={ c with N:=x::cs.map (·.1),names:=vJ c scope.names,loop:=false,top:=false }
def tL(c:Ct)(sub:Ct->(Expr->GE)×(Expr->GT))(f:Expr->GE)(elt:Expr)(x:Str)(iter:Expr)(JM:Ct->GT)(scope:Scope):GE :=
 if jo scope x=true/\c.free=true/\isSet iter=false then(match mj c scope.names with
  | some cs=>if(x::cs.map (·.1)).Nodup then fS cs (Cb c f iter) (JM (c.block scope x cs)) ((sub (c.block scope x cs)).1 elt) else bJ
  | none=>bJ) else bJ
def OF(c:Ct)(sub:Ct->(Expr->GE)×(Expr->GT))(f:Expr->GE)(elt:Expr)(scope:Scope):List Comprehension->GE
 | [⟨.Name x _,iter,[],0⟩]=>tL c sub f elt x iter (λ_=>λ_ st=> .ok true st) scope
 | [⟨.Name x _,iter,[q],0⟩]=>tL c sub f elt x iter (λc'=>(sub c').2 q) scope
 | _=>bJ
theorem om{c:Ct}{k:Nat}(G:Good c k X){scope:Scope}{x:Str}{cs:fL}(hs:jo scope x=true)(nd:(x::cs.map (·.1)).Nodup)(C:V_)(s0:Wd)(H0:Hp)(fp:List V_)(pn:List (V_×Obj))(E:We->Wd->Prop)(hA:yD X.A H0) :
  Good (c.block scope x cs) k (eT X scope x cs C s0 H0 fp pn E):=by
 have hk:scope.kind= .function:=by
  have:Cc scope.kind=true:=by
   unfold jo at hs
   simp only[cw] at hs
   exact hs.1.1.1
  revert this
  cases scope.kind<;>intro z<;>first | rfl | cases z
 refine⟨rfl,?_,nd,G.un,G.free,(λz=>by cases z),G.cst,G.bl,G.fns,(λz=>by cases z),(λz=>by cases z),hk,G.tab,G.cls,G.yZ,G.y3,⟨G.rm.d,G.rm.u⟩,G.Dr,⟨G.x.lam,G.x.Ds,G.x.Lj,(λz=>by cases z),G.x.sk,G.x.Ll,G.x.ins⟩,G.fr,hA⟩
 show(relabel scope X.env).names=vJ c scope.names
 unfold relabel vJ Env.kindOf
 rw[G.kind,G.sc]
 simp
theorem Cd{c:Ct}{k:Nat}(G:Good c k X){scope:Scope}{x:Str}{cs:fL}(hs:jo scope x=true)(hcs:mj c scope.names=some cs)(nd:(x::cs.map (·.1)).Nodup):cA X scope x cs:=by
 have hs:(Cc scope.kind=true/\∀y∈scope.names,scope.names.lookup y.1=some y.2)/\((scope.names.filter λy=>y.2 == .cell)=[]\/(scope.names.filter λy=>y.2 == .cell)=[(x,.cell)])/\(scope.names.lookup x=some .local\/scope.names.lookup x=some .cell):=by
  unfold jo at hs
  simp only[cw,decide_eq_true_eq,List.all_eq_true] at hs
  exact⟨hs.1.1,.inl (List.filter_eq_nil_iff.mpr λy hy=>by simpa using hs.1.2 y hy),.inl hs.2⟩
 obtain⟨⟨h1,h2⟩,h3,h4⟩:=hs
 have hk:scope.kind= .function:=by
  revert h1
  cases scope.kind<;>intro z<;>first | rfl | cases z
 obtain⟨q1,q2⟩:=oj hcs
 refine⟨hk,h2,h3,h4,λy hy e=>?_,λp hp=>⟨by rw[G.N];exact(q2 p hp).2,h2 _ (q2 p hp).1⟩,nd⟩
 show X.env.scope.names.lookup y.1=_\/X.env.scope.names.lookup y.1=_
 rw[G.sc];exact q1 y hy e
def JN(X:Cx)(e:Expr)(g:GE):Prop:=∀(i:Nat)(y:Str)(py spos:Pos),X.N.Nodup->X.N[i]? =some y->Loc X.env.scope y->(X.fn y=true\/X.env.scope.names.lookup y=some .local)->JS X (.Assign [.Name y py] e spos) (a9 i g)
theorem zd{i:Nat}{s:Stmt}:JS X s (a9 i bJ):=λρ st σ H m D S R p=>ae p
theorem fU{e:Expr}:JN X e bJ:=λi y py spos _ _ _ _=>zd
theorem xy{c:Ct}{k:Nat}(G:Good c k X){sub:Ct->(Expr->GE)×(Expr->GT)}(hb:∀c X,Good c k X->(∀e,JE X e ((sub c).1 e))/\∀e,JT X e ((sub c).2 e)){f:Expr->GE}(h:∀e,JE X e (f e))(elt:Expr)(scope:Scope)(gens:List Comprehension)(pos:Pos) :
  JE X (.ListComp elt gens scope pos) (OF c sub f elt scope gens)/\JN X (.ListComp elt gens scope pos) (OF c sub f elt scope gens):=by
 have core:∀(x:Str)(px:Pos)(iter:Expr)(ifs:List Expr)(JM:Ct->GT),(∀c X,Good c k X->Ga X ifs (JM c))->
   JE X (.ListComp elt [⟨.Name x px,iter,ifs,0⟩] scope pos) (tL c sub f elt x iter JM scope)/\JN X (.ListComp elt [⟨.Name x px,iter,ifs,0⟩] scope pos) (tL c sub f elt x iter JM scope):=by
  intro x px iter ifs JM hg
  unfold tL
  by_cases g:jo scope x=true/\c.free=true/\isSet iter=false
  ·rw[if_pos g]
   obtain⟨g1,g2,g3⟩:=g
   cases ec:mj c scope.names with
   | none=>exact⟨aL,fU⟩
   | some cs=>
    dsimp only
    by_cases nd:(x::cs.map (·.1)).Nodup
    ·rw[if_pos nd]
     have CS:=Cd G g1 ec nd
     have hE:∀C s0 H0 fp pn E,yD X.A H0->JE (eT X scope x cs C s0 H0 fp pn E) elt ((sub (c.block scope x cs)).1 elt):=λC s0 H0 fp pn E z=>(hb _ _ (om G g1 nd C s0 H0 fp pn E z)).1 elt
     have hT:∀C s0 H0 fp pn E,yD X.A H0->Ga (eT X scope x cs C s0 H0 fp pn E) ifs (JM (c.block scope x cs)):=λC s0 H0 fp pn E z=>hg _ _ (om G g1 nd C s0 H0 fp pn E z)
     exact⟨xi G.fr CS (sW (G.free g2).2) G.hd (xx G h _ iter).y hE hT (jn g3),λi y py spos hN hi hl hf=>EH i hN G.fr CS (sW (G.free g2).2) G.hd (xx G h _ iter).y hE hT (jn g3) hi hl hf⟩
    ·rw[if_neg nd];exact⟨aL,fU⟩
  ·rw[if_neg g];exact⟨aL,fU⟩
 unfold OF
 split
 ·exact core _ _ _ _ _ λ_ _ _=>EF
 ·exact core _ _ _ _ _ λc X G'=>EG ((hb c X G').2 _)
 ·exact⟨aL,fU⟩
def JP(c:Ct)(x:Str):List Expr->Bool
 | [.Attribute _ fl _]=>decide (x="tuple")&&c.Gh.contains fl&&decide (c.names.lookup x=some .globalImplicit)&&c.bl.contains x&&c.free
 | _=>false
def Qy(c:Ct)(fE:Expr->GE)(d:GE)(x:Str)(e:Expr)(es:List Expr):GE:=match c.it.ini.lookup x with
 | some nF=>if okN x=true/\(e::es).all plain=true/\c.names.lookup x=some .globalImplicit/\c.free=true then xp x nF.1 nF.2 (gH fE (e::es)) else bJ
 | none=>if JP c x (e::es)=true/\(e::es).all plain=true then bt p_ (gH fE (e::es)) else d
def Qz(c:Ct)(fE:Expr->GE)(d:GE)(pos:Pos)(x:Str)(p:Pos)(name:Str)(apos:Pos)(e:Expr)(es:List Expr):GE:=match es with
 | [f]=>if name="get"/\c.sd.contains x=true/\plain e=true/\plain f=true/\(apos.endLine == pos.line)=true then dO (fE (.Name x p)) (fE e) (fE f) else d
 | _=>d
theorem JQ{c:Ct}{k:Nat}(G:Good c k X){fE:Expr->GE}(h:∀e,JE X e (fE e)){d:GE}(x:Str)(p:Pos)(name:Str)(apos:Pos)(e:Expr)(es:List Expr)(pos:Pos)(hd:JE X (.Call (.Attribute (.Name x p) name apos) (e::es) [] pos) d):JE X (.Call (.Attribute (.Name x p) name apos) (e::es) [] pos) (Qz c fE d pos x p name apos e es):=by
 unfold Qz
 split
 ·rename_i f
  by_cases g:name="get"/\c.sd.contains x=true/\plain e=true/\plain f=true/\(apos.endLine == pos.line)=true
  ·rw[if_pos g]
   obtain⟨rfl,_,g1,g2,g3⟩:=g
   refine yY (by have:=G.un;omega) (h _) (h e) (h f) ⟨rfl,?_,g3,?_⟩
   ·rw[all_plain (es:=[e,f]) (by simp[g1,g2])]
    rfl
   ·rw[aE g1,aE g2]
    rfl
  ·rw[if_neg g];exact hd
 ·exact hd
def QA(c:Ct)(fE:Expr->GE)(d:GE)(pos:Pos)(o:Expr)(name:Str)(apos:Pos)(e:Expr)(es:List Expr):GE:=match o with
 | .Name x p=>(match c.it.xq.lookup name with
  | some nF=>if(e::es).all plain=true/\c.free=true/\(e::es).length < 20/\(apos.endLine == pos.line)=true then jy c.it.c name nF.1 nF.2 (fE (.Name x p)) (gH fE (e::es)) else bJ
  | none=>Qz c fE d pos x p name apos e es)
 | .Attribute o2 fl r=>(match es with
  | []=>if name="get"/\c.sd.contains fl=true/\plain e=true/\(apos.endLine == pos.line)=true then jL (fE (.Attribute o2 fl r)) (fE e) else d
  | _=>d)
 | _=>d
def QB(c:Ct)(fE:Expr->GE)(d:GE)(pos:Pos)(f:Expr)(as:List Expr)(ks:List Keyword):GE:=match ks with
 | []=>(match as with
  | e::es=>(match f with
   | .Attribute o name apos=>QA c fE d pos o name apos e es
   | .Name x _=>Qy c fE d x e es
   | _=>d)
  | []=>d)
 | _=>d
theorem JR{c:Ct}{k:Nat}(G:Good c k X){fE:Expr->GE}(h:∀e,JE X e (fE e)){d:GE}(x:Str)(p:Pos)(e:Expr)(es:List Expr)(pos:Pos)(hd:JE X (.Call (.Name x p) (e::es) [] pos) d):JE X (.Call (.Name x p) (e::es) [] pos) (Qy c fE d x e es):=by
 unfold Qy
 cases q:c.it.ini.lookup x with
 | some nF=>
  obtain⟨n,F⟩:=nF
  dsimp only
  by_cases g:okN x=true/\(e::es).all plain=true/\c.names.lookup x=some .globalImplicit/\c.free=true
  ·rw[if_pos g]
   obtain⟨g1,g2,g3,g4⟩:=g
   have gp:plain e=true/\es.all plain=true:=by rw[cF,cw] at g2;exact g2
   exact E9 (G.x.ins.ini x n F q) (G.free g4).1 (by show X.env.scope.names.lookup x=_;rw[G.sc];exact g3) (dj h (e::es) g2) (fT g1) (aE gp.1) (dH gp.2)
  ·rw[if_neg g];exact aL
 | none=>
  dsimp only
  by_cases g:JP c x (e::es)=true/\(e::es).all plain=true
  ·rw[if_pos g]
   obtain⟨g,g0⟩:=g
   have gp:plain e=true/\es.all plain=true:=by rw[cF,cw] at g0;exact g0
   unfold JP at g
   split at g
   ·simp only[cw,decide_eq_true_eq] at g
    obtain⟨⟨⟨⟨rfl,g2⟩,g3⟩,g4⟩,g5⟩:=g
    exact pM (E_ (G.free g5).2) (by show X.env.scope.names.lookup _=_;rw[G.sc];exact g3) (G.bl _ g4) nU (dj h _ g0) (by decide) (by decide) (aE gp.1) (dH gp.2)
   ·cases g
  ·rw[if_neg g];exact hd
theorem JU{c:Ct}{k:Nat}(G:Good c k X){fE:Expr->GE}(h:∀e,JE X e (fE e)){d:GE}(o:Expr)(name:Str)(apos:Pos)(e:Expr)(es:List Expr)(pos:Pos)(hd:JE X (.Call (.Attribute o name apos) (e::es) [] pos) d):JE X (.Call (.Attribute o name apos) (e::es) [] pos) (QA c fE d pos o name apos e es):=by
 unfold QA
 cases o with
 | Name x p=>
  dsimp only
  cases q:c.it.xq.lookup name with
  | some nF=>
   obtain⟨n,F⟩:=nF
   dsimp only
   by_cases g:(e::es).all plain=true/\c.free=true/\(e::es).length < 20/\(apos.endLine == pos.line)=true
   ·rw[if_pos g]
    obtain⟨g2,g4,g5,g6⟩:=g
    have gp:plain e=true/\es.all plain=true:=by rw[cF,cw] at g2;exact g2
    refine JB (G.x.ins.xq name n F q) (G.free g4).1 (h _) (dj h (e::es) g2) (aE gp.1) (dH gp.2) rfl ?_ g6
    rw[all_plain g2]
    show(true&&true&&decide ((e::es).length+0+0 < 30))=true
    rw[decide_eq_true (by omega)]
    rfl
   ·rw[if_neg g];exact aL
  | none=>exact JQ G h x p name apos e es pos hd
 | Attribute o2 fl r=>
  dsimp only
  cases es with
  | cons _ _=>exact hd
  | nil=>
   dsimp only
   by_cases g:name="get"/\c.sd.contains fl=true/\plain e=true/\(apos.endLine == pos.line)=true
   ·rw[if_pos g]
    obtain⟨rfl,_,g1,g3⟩:=g
    refine tB (by have:=G.un;omega) (h _) (h e) ⟨rfl,?_,g3,?_⟩
    ·rw[all_plain (es:=[e]) (by simp[g1])]
     rfl
    ·rw[aE g1]
     rfl
   ·rw[if_neg g];exact hd
 | _=>exact hd
theorem JV{c:Ct}{k:Nat}(G:Good c k X){fE:Expr->GE}(h:∀e,JE X e (fE e)){d:GE}(f:Expr)(as:List Expr)(ks:List Keyword)(pos:Pos)(hd:JE X (.Call f as ks pos) d):JE X (.Call f as ks pos) (QB c fE d pos f as ks):=by
 unfold QB
 cases ks with
 | cons _ _=>exact hd
 | nil=>
  cases as with
  | nil=>exact hd
  | cons e es=>
   cases f with
   | Attribute o name apos=>exact JU G h o name apos e es pos hd
   | Name x p=>exact JR G h x p e es pos hd
   | _=>exact hd
def JX(c:Ct)(f:Expr->GE)(o:Expr)(fl:Str):GE:=match o with
 | .Name x p=>if c.it.own.contains fl=true then gF c.it.c fl (f (.Name x p)) else bJ
 | _=>bJ
theorem Fj{c:Ct}{k:Nat}(G:Good c k X){f:Expr->GE}(h:∀e,JE X e (f e))(o:Expr)(fl:Str)(p:Pos):JE X (.Attribute o fl p) (JX c f o fl):=by
 unfold JX
 cases o with
 | Name x q=>
  dsimp only
  by_cases g:c.it.own.contains fl=true
  ·rw[if_pos g];exact Jz (h _) rfl (G.x.ins.own fl g)
  ·rw[if_neg g];exact aL
 | _=>exact aL
def Ce(c:Ct)(sub:Ct->(Expr->GE)×(Expr->GT))(f:Expr->GE)(t:Expr->GT):Expr->GE
 | .Name x _=>BV c x
 | .Constant k _ _=>BX k
 | .BinOp a o b _=>aj (M0 o) (f a) (f b)
 | .UnaryOp o a _=>UZ f o a
 | .BoolOp .And es _=>JJ f es
 | .Compare a os bs _=>JG c f a os bs
 | .IfExp q a b _=>qJ (t q) (f a) (f b)
 | .Tuple es _ _=>zc f a4 es
 | .List es _=>zc f dY es
 | .Subscript a b _=>JH c f a b
 | .Call g as ks p=>QB c f (B3 c f p g as ks) p g as ks
 | .Attribute o fl _=>JX c f o fl
 | .ListComp elt gens scope _=>OF c sub f elt scope gens
 | _=>bJ
def stepT(c:Ct)(f:Expr->GE)(t:Expr->GT):Expr->GT
 | .UnaryOp .Not a _=>vb (t a)
 | .BoolOp .And es _=>JK t es
 | .BoolOp .Or es _=>Qx t es
 | .Compare a os bs _=>B9 c f a os bs
 | .Name x p=>dC (f (.Name x p))
 | .Call g as ks p=>dC (f (.Call g as ks p))
 | .Subscript a b p=>dC (f (.Subscript a b p))
 | .Constant k j p=>dC (f (.Constant k j p))
 | .BinOp a o b p=>dC (f (.BinOp a o b p))
 | _=>iI
theorem tM{c:Ct}{k:Nat}(G:Good c k X){sub:Ct->(Expr->GE)×(Expr->GT)}(hb:∀k c X,Good c k X->(∀e,JE X e ((sub c).1 e))/\∀e,JT X e ((sub c).2 e)){f:Expr->GE}{t:Expr->GT}(h:∀e,JE X e (f e))(ht:∀e,JT X e (t e))(e:Expr):JE X e (Ce c sub f t e):=by
 have hu:X.A.units+64 < cLine:=G.un
 cases e with
 | Name x p=>exact BW G x p
 | Constant v j p=>exact y6 v j p
 | BinOp a o b p=>exact Io (Fe o) (h a) (h b)
 | UnaryOp o a p=>
  cases o with
  | USub=>exact Ip (h a)
  | _=>exact aL
 | BoolOp o es p=>
  cases o with
  | And=>exact xv h p es
  | Or=>exact aL
 | Compare a os bs p=>exact Fh G h a os bs p
 | IfExp q a b p=>exact Mh (ht q) (h a) (h b)
 | Tuple es j p=>
  show JE X _ (zc f a4 es)
  unfold zc
  by_cases g:es.all plain=true
  ·rw[if_pos g];exact Iy (dj h es g)
  ·rw[if_neg g];exact aL
 | List es p=>
  show JE X _ (zc f dY es)
  unfold zc
  by_cases g:es.all plain=true
  ·rw[if_pos g];exact Iz (dj h es g)
  ·rw[if_neg g];exact aL
 | Subscript a b p=>exact Fi G h a b p
 | Call g as ks p=>exact JV G h g as ks p (B5 G h g as ks p)
 | Attribute o fl p=>exact Fj G h o fl p
 | ListComp elt gens scope p=>exact(xy G (hb k) h elt scope gens p).1
 | _=>exact aL
def ze:Expr->Bool
 | .ListComp .. =>true
 | .SetComp .. =>true
 | .DictComp .. =>true
 | .Set .. =>true
 | _=>false
theorem rf{e:Expr}{t:Option Expr}{n:Nat}{env:Env}(h:ze e=false):swapsWith e t n env=pure false:=by
 cases e<;>first | rfl | cases h
theorem oo{e o i:Expr}{p:Pos}{n:Nat}{env:Env}:swapsWith e (some (.Subscript o i p)) n env=pure false:=by
 cases e<;>rfl
theorem Cf{c:Ct}{k:Nat}(G:Good c k X){sub:Ct->(Expr->GE)×(Expr->GT)}(hb:∀k c X,Good c k X->(∀e,JE X e ((sub c).1 e))/\∀e,JT X e ((sub c).2 e)){f:Expr->GE}{t:Expr->GT}(h:∀e,JE X e (f e))(ht:∀e,JT X e (t e))(e:Expr):JN X e (Ce c sub f t e):=by
 by_cases g:ze e=false
 ·exact λi y py spos hN hi hl hf=>vf i hN (tM G hb h ht e) hi hl (rf g) hf
 ·cases e with
  | ListComp elt gens scope p=>exact(xy G (hb k) h elt scope gens p).2
  | SetComp=>exact fU
  | DictComp=>exact fU
  | Set=>exact fU
  | _=>exact absurd rfl g
theorem Cg{c:Ct}{k:Nat}(G:Good c k X){f:Expr->GE}{t:Expr->GT}(h:∀e,JE X e (f e))(ht:∀e,JT X e (t e))(e:Expr):JT X e (stepT c f t e):=by
 have hu:X.A.units+64 < cLine:=G.un
 cases e with
 | UnaryOp o a p=>
  cases o with
  | Not=>exact Iu (ht a)
  | _=>exact iJ
 | BoolOp o es p=>
  cases o with
  | And=>exact(xw ht p es).jt
  | Or=>exact(Ca ht p es).jt
 | Compare a os bs p=>exact B_ G h a os bs p
 | Name x p=>exact nR (h _) (λ_=>rfl)
 | Call g as ks p=>exact nR (h _) (λ_=>rfl)
 | Subscript a b p=>exact nR (h _) (λ_=>rfl)
 | Constant v j p=>exact nR (h _) (λ_=>rfl)
 | BinOp a o b p=>exact nR (h _) (λ_=>rfl)
 | _=>exact iJ
end
def jF:Nat->Ct->(Expr->GE)×(Expr->GT)
 | 0,_=>(λ_=>bJ,λ_=>iI)
 | n+1,c=>(Ce c (jF n) (jF n c).1 (jF n c).2,stepT c (jF n c).1 (jF n c).2)
section
variable {X:Cx}
theorem df:∀(n:Nat)(k:Nat)(c:Ct)(X:Cx),Good c k X->(∀e,JE X e ((jF n c).1 e))/\∀e,JT X e ((jF n c).2 e)
 | 0,_,_,_,_=>⟨λ_=>aL,λ_=>iJ⟩
 | n+1,k,c,X,G=>⟨λe=>tM G (λk c X G=>df n k c X G) (df n k c X G).1 (df n k c X G).2 e,λe=>Cg G (df n k c X G).1 (df n k c X G).2 e⟩
theorem Ci{k:Nat}:∀(n:Nat)(c:Ct)(X:Cx),Good c k X->∀e,JN X e ((jF n c).1 e)
 | 0,_,_,_,_=>fU
 | n+1,c,X,G,e=>Cf G (λk c X G=>df n k c X G) (df n k c X G).1 (df n k c X G).2 e
def slot(c:Ct)(x:Str):Option Nat:=if c.names.lookup x=some .local\/(c.names.lookup x=some .cell/\c.top=true) then lC x c.N else none
theorem rh{c:Ct}{k:Nat}(G:Good c k X){x:Str}{i:Nat}(h:slot c x=some i):X.N[i]? =some x/\(Loc X.env.scope x/\(X.fn x=true\/X.env.scope.names.lookup x=some .local)):=by
 unfold slot at h
 by_cases e:c.names.lookup x=some .local\/(c.names.lookup x=some .cell/\c.top=true)
 ·rw[if_pos e] at h
  refine⟨by rw[G.N];exact gG h,?_⟩
  rcases e with e | ⟨e,e2⟩
  ·have q:X.env.scope.names.lookup x=some .local:=by rw[G.sc];exact e
   exact⟨.inl q,.inr q⟩
  ·have q:X.env.scope.names.lookup x=some .cell:=by rw[G.sc];exact e
   exact⟨.inr q,.inl (G.fn e2 x)⟩
 ·rw[if_neg e] at h;cases h
def slots(c:Ct):List Expr->Option (List Nat)
 | []=>some []
 | .Name x _::es=>(match slot c x,slots c es with | some i,some is=>some (i::is) | _,_=>none)
 | _=>none
theorem tN{c:Ct}{k:Nat}(G:Good c k X):∀{es:List Expr}{is:List Nat},slots c es=some is->Slots X es is
 | [],is,h=>by cases h;exact .nil
 | e::es,is,h=>by
  cases e with
  | Name x p=>
   have h:(match slot c x,slots c es with | some i,some is=>some (i::is) | _,_=>none)=some is:=h
   cases e1:slot c x with
   | none=>rw[e1] at h;cases h
   | some i=>
    cases e2:slots c es with
    | none=>rw[e1,e2] at h;cases h
    | some js=>
     rw[e1,e2] at h
     cases h
     obtain⟨q1,q2⟩:=rh G e1
     exact .cons q1 q2 (tN G e2)
  | _=>cases h
def M4:Expr->Bool
 | .Tuple .. =>true
 | _=>false
def Fl(es:List Expr)(v:Expr):Bool:=!M4 v||decide (4<=es.length)
def zf:Expr->Bool
 | .Dict [] [] _=>true
 | _=>false
theorem zg{es:List Expr}{k:Nat}{p:Pos}{v:Expr}(h:Fl es v=true):swappedStores [.Tuple es k p] v X.env=pure none:=by
 cases v with
 | Tuple vs k2 p2=>
  have h4:4<=es.length:=by simpa [Fl,M4] using h
  unfold swappedStores
  have:(!(es.length == 2||es.length == 3)||vs.length != es.length||X.env.blockKind != .function)=true:=by
   have h2:(es.length == 2)=false:=by simp;omega
   have h3:(es.length == 3)=false:=by simp;omega
   rw[h2,h3];rfl
  dsimp only
  rw[if_pos this]
 | _=>rfl
def M5(c:Ct):Expr->Bool
 | .Attribute _ fl _=>c.Gh.contains fl
 | _=>false
theorem xA{e o:Expr}{f:Str}{p:Pos}{n:Nat}{env:Env}:swapsWith e (some (.Attribute o f p)) n env=pure false:=by
 cases e<;>rfl
def JY(c:Ct)(f:Expr->GE)(v o:Expr)(fl:Str):GS:=if c.it.own.contains fl=true then jD c.it.c fl (if zf v=true/\c.Gh.contains fl=true then xo else f v) (f o) else cJ
theorem Fm{c:Ct}{k:Nat}(G:Good c k X){f:Expr->GE}(h:∀e,JE X e (f e))(v o:Expr)(fl:Str)(p pos:Pos):JS X (.Assign [.Attribute o fl p] v pos) (JY c f v o fl):=by
 unfold JY
 by_cases g:c.it.own.contains fl=true
 ·rw[if_pos g]
  by_cases g2:zf v=true/\c.Gh.contains fl=true
  ·rw[if_pos g2]
   have gv:=g2.1
   unfold zf at gv
   split at gv
   ·exact BK (h o) E7 xA (G.x.ins.own fl g)
   ·cases gv
  ·rw[if_neg g2];exact BK (h o) (h v) xA (G.x.ins.own fl g)
 ·rw[if_neg g];exact bO
def JZ(c:Ct)(f:Expr->GE)(v:Expr):List Expr->GS
 | [.Name x _]=>(match slot c x with | some i=>if zf v=true/\c.sd.contains x=true then a9 i s_ else a9 i (f v) | none=>cJ)
 | [.Attribute o fl _]=>JY c f v o fl
 | [.Subscript o i _]=>if Ff i=false then(if M5 c o=true then jE (f v) (f o) (f i) else if M3 c o=true then oa (f v) (f o) (f i) else w8 (f v) (f o) (f i)) else cJ
 | [.Tuple es _ _]=>if ze v=false/\Fl es v=true/\c.free=true then(match slots c es with | some is=>iK is (f v) | none=>cJ) else cJ
 | _=>cJ
theorem J0{c:Ct}{k:Nat}(G:Good c k X){f:Expr->GE}(h:∀e,JE X e (f e))(ha:∀e,JN X e (f e))(v:Expr)(ts:List Expr)(pos:Pos):JS X (.Assign ts v pos) (JZ c f v ts):=by
 unfold JZ
 split
 ·rename_i x p
  cases e:slot c x with
  | none=>exact bO
  | some i=>
   obtain⟨e1,e2⟩:=rh G e
   dsimp only
   by_cases g:zf v=true/\c.sd.contains x=true
   ·rw[if_pos g]
    have gv:=g.1
    unfold zf at gv
    split at gv
    ·exact vf i (by rw[G.N];exact G.nd) ET e1 e2.1 rfl e2.2
    ·cases gv
   ·rw[if_neg g];exact ha v i x _ _ (by rw[G.N];exact G.nd) e1 e2.1 e2.2
 ·exact Fm G h v _ _ _ _
 ·rename_i o i p
  by_cases g2:Ff i=false
  ·rw[if_pos g2]
   by_cases gn:M5 c o=true
   ·rw[if_pos gn];exact BN (by have:=G.un;omega) (h v) (h o) (h i) oo
   rw[if_neg gn]
   by_cases gd:M3 c o=true
   ·rw[if_pos gd];exact EV (by have:=G.un;omega) (h v) (h o) (h i) oo
   rw[if_neg gd]
   refine Es (h v) (h o) (h i) (by unfold swapsWithSole;exact oo) ?_ rfl ?_
   ·cases v<;>rfl
   ·intro _
    cases i<;>first | rfl | cases g2
  ·rw[if_neg g2];exact bO
 ·rename_i es kk p
  by_cases g:ze v=false/\Fl es v=true/\c.free=true
  ·rw[if_pos g]
   cases e1:slots c es with
   | none=>exact bO
   | some is=>
    have g2:=g.2.1
    refine EC (by rw[G.N];exact G.nd) (G.free g.2.2).2 (tN G e1) (h v) (rf g.1) ?_
    exact zg g2
  ·rw[if_neg g];exact bO
 ·exact bO
def J1(c:Ct)(f:Expr->GE)(i:Nat)(gb:GS):Expr->GS
 | .Call (.Name x p) [a] [] q=>if dk c x=true then(if plain a=true then nV i (gH f [a]) gb else cJ) else mv i (f (.Call (.Name x p) [a] [] q)) gb
 | .Call (.Name x p) [a,b] [] q=>if dk c x=true then(if plain a=true/\plain b=true then nW i (gH f [a,b]) gb else cJ) else mv i (f (.Call (.Name x p) [a,b] [] q)) gb
 | .Call (.Name x p) [a,b,d] [] q=>if dk c x=true then(if[a,b,d].all plain=true then oe i (gH f [a,b,d]) gb else cJ) else mv i (f (.Call (.Name x p) [a,b,d] [] q)) gb
 | e=>if isSet e=false then mv i (f e) gb else cJ
theorem J2{c:Ct}{k:Nat}(G:Good c k X)(hl:c.loop=true){f:Expr->GE}(h:∀e,JE X e (f e)){x:Str}{i:Nat}(hx:slot c x=some i){body:List Stmt}{gb:GS}(hb:mL X body gb)(e:Expr)(pos pos':Pos):JS X (.For (.Name x pos') e body [] pos) (J1 c f i gb e):=by
 have nd:X.N.Nodup:=by rw[G.N];exact G.nd
 obtain⟨e1,e2⟩:=rh G hx
 have rg:=oh G
 unfold J1
 split
 ·rename_i y p a q
  by_cases g:dk c y=true
  ·rw[if_pos g]
   obtain⟨rfl,g2,g3⟩:=rg y g
   by_cases ga:plain a=true
   ·rw[if_pos ga]
    exact A0 i nd (G.loop hl).2 (G.loop hl).1 g2 g3 (dj h [a] (by simp[ga])) hb e1 e2.1 e2.2 (aE ga)
   ·rw[if_neg ga];exact bO
  ·rw[if_neg g];exact qO i nd (G.loop hl).2 (G.loop hl).1 (h _) hb e1 e2.1 e2.2 (jn rfl)
 ·rename_i y p a b q
  by_cases g:dk c y=true
  ·rw[if_pos g]
   obtain⟨rfl,g2,g3⟩:=rg y g
   by_cases ga:plain a=true/\plain b=true
   ·rw[if_pos ga]
    exact A1 i nd (G.loop hl).2 (G.loop hl).1 g2 g3 (dj h [a,b] (by simp[ga])) hb e1 e2.1 e2.2 (by rw[aE ga.1,aE ga.2];rfl) (by rw[aE ga.2];rfl)
   ·rw[if_neg ga];exact bO
  ·rw[if_neg g];exact qO i nd (G.loop hl).2 (G.loop hl).1 (h _) hb e1 e2.1 e2.2 (jn rfl)
 ·rename_i y p a b d q
  by_cases g:dk c y=true
  ·rw[if_pos g]
   obtain⟨rfl,g2,g3⟩:=rg y g
   by_cases ga:[a,b,d].all plain=true
   ·rw[if_pos ga]
    have gp:plain a=true/\[b,d].all plain=true:=by rw[cF,cw] at ga;exact ga
    exact BC i nd (G.loop hl).2 (G.loop hl).1 g2 g3 (dj h [a,b,d] ga) hb e1 e2.1 e2.2 (aE gp.1) (dH gp.2)
   ·rw[if_neg ga];exact bO
  ·rw[if_neg g];exact qO i nd (G.loop hl).2 (G.loop hl).1 (h _) hb e1 e2.1 e2.2 (jn rfl)
 ·by_cases g:isSet e=false
  ·rw[if_pos g];exact qO i nd (G.loop hl).2 (G.loop hl).1 (h _) hb e1 e2.1 e2.2 (jn g)
  ·rw[if_neg g];exact bO
def Cj(c:Ct)(f:Expr->GE)(t:Expr->GT)(b:Ct->List Stmt->GS):Stmt->GS
 | .Return (some e) _=>aQ (f e)
 | .Return none _=>aQ (gC .non)
 | .Expr e _=>if ze e=false then nP (f e) else cJ
 | .If q x y _=>e8 (t q) (b c x) (b c y)
 | .Assign ts v _=>JZ c f v ts
 | .For (.Name x _) e body [] _=>if c.loop=true then(match slot c x with | some i=>J1 c f i (b c body) e | none=>cJ) else cJ
 | _=>cJ
theorem Ck{c:Ct}{k:Nat}(G:Good c k X){f:Expr->GE}{t:Expr->GT}{b:Ct->List Stmt->GS}(h:∀e,JE X e (f e))(ha:∀e,JN X e (f e))(ht:∀e,JT X e (t e))(hb:∀c X,Good c k X->∀s,mL X s (b c s))(s:Stmt):JS X s (Cj c f t b s):=by
 unfold Cj
 split
 ·exact II (h _)
 ·exact Ey
 ·rename_i e p
  by_cases g:ze e=false
  ·rw[if_pos g];exact Er (h _) (rf g)
  ·rw[if_neg g];exact bO
 ·exact Mz (ht _) (hb c X G _) (hb c X G _)
 ·exact J0 G h ha _ _ _
 ·rename_i x p e body q
  by_cases g:c.loop=true
  ·rw[if_pos g]
   cases e1:slot c x with
   | none=>exact bO
   | some i=>exact J2 G g h e1 (hb c X G body) e _ _
  ·rw[if_neg g];exact bO
 ·exact bO
end
def vK(f:Stmt->GS):List Stmt->GS
 | []=>aW
 | [s]=>f s
 | s::s'::r=>aF (f s) (vK f (s'::r))
theorem tO{X:Cx}{f:Stmt->GS}(h:∀s,JS X s (f s)):∀ss,mL X ss (vK f ss)
 | []=>Eo
 | [s]=>Ep (h s)
 | s::s'::r=>AH (h s) (tO h (s'::r))
def a_:Nat->Ct->List Stmt->GS
 | 0,_=>λ_=>cJ
 | n+1,c=>vK (Cj c (jF 40 c).1 (jF 40 c).2 (a_ n))
theorem iM{k:Nat}:∀(n:Nat)(c:Ct)(X:Cx),Good c k X->∀ss:List Stmt,mL X ss (a_ n c ss)
 | 0,_,_,_,_=>yx
 | n+1,c,X,G,ss=>tO (λs=>Ck G (df 40 k c X G).1 (Ci 40 c X G) (df 40 k c X G).2 (iM n) s) ss
structure Fn(K:PySem.W.Frag)(mg:Str->Option We)(q:Str)(P:V_):Prop where
 tab:gR K q=some P
 code:∃c o vs file tf flags tg QC text tt,PySem.W.tabIn K q=some (c,P)/\K.lookup c=some o/\o.cls= .type "code"/\o.data= .fields vs/\vs[11]? =some (.ref P)/\vs.getD 11 .none= .ref P/\vs.getD 18 .none= .str file tf/\
  vs.getD 7 .none= .int flags tg/\vs.getD 9 .none= .bool QC/\vs.getD 10 .none= .int text tt/\c≠P
 mem:q∈bW
 uniq:∀q',q'∈bW->gR K q'=some P->q'=q
theorem Fn.at'{X:Cx}{q:Str}{P f:V_}{cdv:We}(h:Fn X.K X.mg q P)(M:BA X.K X.mg X.base)(hn:PySem.W.nsIn X.K Wt q=some (some (.ref f)))(hc:AN X.K f cdv)(e1:X.env.code=cdv)(e2:X.env.qual=q++".<locals>."):Gd X q P:=by
 obtain⟨c,o,vs,file,tf,flags,tg,QC,text,tt,t,l,r⟩:=h.code
 refine⟨⟨c,?_,o,vs,file,tf,flags,tg,QC,text,tt,M.1.K8 _ _ l,r⟩,e2,h.tab,h.mem,h.uniq,M.2⟩
 ·obtain⟨of,lf,fd,d,cd⟩:=hc
  rw[e1,<-cd]
  unfold PySem.W.tabIn at t
  rw[hn] at t
  dsimp only at t
  rw[lf] at t
  obtain⟨oc,od,da,sl⟩:=of
  dsimp only at d
  subst d
  dsimp only at t
  cases q1:fd.code with
  | ref c2=>
   rw[q1] at t
   dsimp only at t
   split at t
   ·split at t
    ·cases t;rfl
    ·cases t
   ·cases t
  | _=>rw[q1] at t;cases t
structure lE(c:Ct)(k:Nat)(P:Wc)(w:Wf)(K:PySem.W.Frag)(mg:Str->Option We)(base:Heap):Prop where
 lam:∀p L,c.lam=some (p,L)->Jq P w K mg base k p 3 L
 Ds:∀x F,c.Ds.lookup x=some F->SN P w K mg k c.lj x F
 Lj:∀x n F,c.fns.lookup x=some (n,F)->c.Qv.contains x=true->∀base,BA K mg base->fI P w K mg base c.lj x n F
 at':c.self∈bW->∃P,Fn K mg c.self P
 sk:c.sk<=k
 Ll:∀x n F,c.fns.lookup x=some (n,F)->c.Qw.contains x=true->fI P w K mg base c.lj x n F
 ins:vF c.it k P w K mg base
theorem lE.no{c:Ct}{k:Nat}{P:Wc}{w:Wf}{K:PySem.W.Frag}{mg:Str->Option We}{base:Heap}(h1:c.lam=none)(h2:c.Ds=[])(h3:c.Qv=[])(h4:c.self="")(h5:c.sk=0:=by rfl)(h6:c.Qw=[]:=by rfl)(h7:vF c.it k P w K mg base:=by exact vF.no):lE c k P w K mg base :=
 ⟨(λp L e=>by rw[h1] at e;cases e),(λx F e=>by rw[h2] at e;cases e),(λx n F _ e=>by rw[h3] at e;cases e),(λe=>by rw[h4] at e;exact absurd e (by decide)),by rw[h5];exact bV _,(λx n F _ e=>by rw[h6] at e;cases e),h7⟩
structure tP(c:Ct)(k:Nat)(P:Wc)(w:Wf)(K:PySem.W.Frag)(mg:Str->Option We)(base:Heap):Prop where
 cst:∀x w,c.consts.lookup x=some w->BQ K mg x w
 bl:∀x,c.bl.contains x=true->mg x=none
 fns:∀x n F,c.fns.lookup x=some (n,F)->fI P w K mg base k x n F
 tab:TabOk K c.tb c.tt c.tc
 cls:∀x,c.clss.contains x=true->∃C,mg x=some (.ref C)/\IM K x C
 yZ:∀x,c.yZ.contains x=true->∃C,mg x=some (.ref C)/\ClsAt K x C
 y3:∀x kvs,c.y3.lookup x=some kvs->vw K w mg x kvs
 Dr:∀x n F,c.Dr.contains x=true->c.fns.lookup x=some (n,F)->Jp P w K mg base k x n F
 x:lE c k P w K mg base
theorem aU{P:Wc}{w:Wf}{K:PySem.W.Frag}{mg:Str->Option We}{base:Heap}{h:Heap}{k:Nat}{c:Ct}{x:Str}{st:Stmt}{ps:List Str}{g:GS}(KX:K.In h)(NS:h.Ns Wt mg)(D:bu K x st)(T:tP c k P w K mg base)
  (S:FnScope c.N ps (defScope st))(hn:(defScope st).names=c.names)(hg:a_ 30 c (defBody st)=g)
  (hb:∀(kV doc pm:We)(an:Option V_)(cdv ct:We)(us:List We),us.length=ps.length->bindArgs (PySem.W.fnOf x x (defArgs st) (defBody st) (defScope st) .none kV doc pm an cdv ct) ⟨us,[]⟩=pure (ps.zip us))(hM:c.self∈bW->BA K mg base/\c.self=x:=by exact λz=>absurd (show("":Str)∈bW from z) (by decide)) :
  fI P w K mg base (k+1) x ps.length (b7 c.N.length g):=by
 obtain⟨f,fd,a,F⟩:=D
 refine⟨f,fd,ps,?_,PySem.W.mg_of KX NS a,F.kp,F.binds hb⟩
 subst hg
 refine w9 F S λcdv QD A outer s H E hr=>?_
 refine iM (k:=k) 30 c _ ⟨rfl,hn,S.nd,mS hr,λ_=>⟨hr,rfl⟩,λ_=>⟨rfl,rj⟩,T.cst,T.bl,T.fns,λ_=>⟨rfl,rfl,rfl⟩,λ_ _=>rfl,S.kind,T.tab,T.cls,T.yZ,T.y3,mi.of hr,T.Dr,⟨T.x.lam,T.x.Ds,T.x.Lj,λ_ z=>?_,T.x.sk,T.x.Ll,T.x.ins⟩,⟨_,_,_,rfl,rfl,rfl⟩,.inl hr.hd⟩ _
 obtain⟨P',L⟩:=T.x.at' z
 obtain⟨M,e⟩:=hM z
 exact⟨P',Fn.at' L M (by rw[e];exact a) QD rfl (by rw[e];rfl)⟩
theorem Fo{P:Wc}{w:Wf}{K:PySem.W.Frag}{mg:Str->Option We}{h:Heap}{k:Nat}{F:List Wv->Hs->Re Wv}{fa:V_}{st:Stmt}(KX:K.In h)(NS:h.Ns Wt mg)(hmg:mg "law"=some (.ref fa))(D:bu K "law" st)
  (hp:∀(kV doc pm:We)(an:Option V_)(cdv ct:We)(s:Wd)(u:We),BindsTo s (PySem.W.fnOf "law" "law" (defArgs st) (defBody st) (defScope st) .none kV doc pm an cdv ct) ⟨[u],[]⟩ [("script",u)])
  (FN:∀(f:V_)(fd:Wa),D7 K "law" "law" st f fd->∀base:Heap,K.In base->base.Ns Wt mg->FnOk P w K mg base (CXJ P w) k f fd ["script"] (spW K 1 F)) :
  ∃fd:Wa,(∀(s:Wd)(u:We),BindsTo s fd ⟨[u],[]⟩ [("script",u)])/\∀base:Heap,K.In base->base.Ns Wt mg->FnOk P w K mg base (CXJ P w) k fa fd ["script"] (spW K 1 F):=by
 obtain⟨f,fd,a,Fu⟩:=D
 have e:=hmg.symm.trans (PySem.W.mg_of KX NS a)
 cases e
 refine⟨fd,λs u=>?_,FN fa fd Fu⟩
 obtain⟨oc,od,kV,doc,pm,an,cdv,ct,osl,rfl,lk,hcd⟩:=Fu.ex
 exact hp kV doc pm an cdv ct s u
theorem J3{P:Wc}{w:Wf}{K:PySem.W.Frag}{mg:Str->Option We}{base:Heap}{k:Nat}{c:Ct}{x:Str}{st:Stmt}{ps:List Str}{g:GS}{f:V_}{fd:Wa}(F:D7 K x x st f fd)(T:tP c k P w K mg base)
  (S:FnScope c.N ps (defScope st))(hn:(defScope st).names=c.names)(hg:a_ 30 c (defBody st)=g)(hs:c.self∉bW:=by exact(show("":Str)∉bW by decide)):FnOk P w K mg base (CXJ P w) (k+1) f fd ps (spW K ps.length (b7 c.N.length g)):=by
 subst hg
 refine w9 F S λcdv _ A outer s H E hr=>?_
 exact iM (k:=k) 30 c _ ⟨rfl,hn,S.nd,mS hr,λ_=>⟨hr,rfl⟩,λ_=>⟨rfl,rj⟩,T.cst,T.bl,T.fns,λ_=>⟨rfl,rfl,rfl⟩,λ_ _=>rfl,S.kind,T.tab,T.cls,T.yZ,T.y3,mi.of hr,T.Dr,⟨T.x.lam,T.x.Ds,T.x.Lj,λ_ z=>absurd z hs,T.x.sk,T.x.Ll,T.x.ins⟩,⟨_,_,_,rfl,rfl,rfl⟩,.inl hr.hd⟩ _
def tQ(K:PySem.W.Frag)(cl x qual:Str)(st:Stmt):Prop:=∃C f fd,ClsAt K cl C/\zt K C/\Meth K C x f/\D7 K x qual st f fd
def Cm(K:PySem.W.Frag)(cl qual:Str)(st:Stmt):Prop:=∃C f fd,ClsAt K cl C/\Mk K C f/\D7 K "__init__" qual st f fd
theorem vL{K:PySem.W.Frag}{cl x qual:Str}{st:Stmt}{C f:V_}{oc:We}{od an:Option V_}{osl:Array (Option We)}{kV doc pm cdv ct:We}(a:PySem.W.nsIn K Wt cl=some (some (.ref C)))(b:zt K C)(i:PySem.W.findIn K (.ref C) x=some (some (.ref f)))
  (l:K.lookup f=some ⟨oc,od,.func (PySem.W.fnOf x qual (defArgs st) (defBody st) (defScope st) .none kV doc pm an cdv ct),osl⟩)(c:PySem.W.codeIn K cdv qual=true)(k:PySem.W.keepIn K (.ref f)=true)(n:PySem.W.isFn K (.ref f)=true):tQ K cl x qual st:=⟨C,f,_,a,b,⟨i,n,k⟩,uZ l c k⟩
theorem J4{K:PySem.W.Frag}{cl qual:Str}{st:Stmt}{C f:V_}{oc:We}{od an:Option V_}{osl:Array (Option We)}{kV doc pm cdv ct:We}(a:PySem.W.nsIn K Wt cl=some (some (.ref C)))(b:PySem.W.makesIn K C=true)(kc:PySem.W.keepIn K (.ref C)=true)(i:PySem.W.findIn K (.ref C) "__init__"=some (some (.ref f)))
  (l:K.lookup f=some ⟨oc,od,.func (PySem.W.fnOf "__init__" qual (defArgs st) (defBody st) (defScope st) .none kV doc pm an cdv ct),osl⟩)(c:PySem.W.codeIn K cdv qual=true)(k:PySem.W.keepIn K (.ref f)=true)(n:PySem.W.isFn K (.ref f)=true):Cm K cl qual st:=⟨C,f,_,a,⟨b,i,n,kc⟩,uZ l c k⟩
theorem J5{K:PySem.W.Frag}{cl f:Str}{C:V_}(a:PySem.W.nsIn K Wt cl=some (some (.ref C)))(b:zt K C)(n:PySem.W.findIn K (.ref C) f=some none):Own K cl f:=⟨C,a,b,n⟩
theorem rn{P:Wc}{w:Wf}{K:PySem.W.Frag}{mg:Str->Option We}{base:Heap}{k:Nat}{c:Ct}{cl x qual:Str}{st:Stmt}{ps:List Str}{g:GS}(D:tQ K cl x qual st)(T:tP c k P w K mg base)
  (S:FnScope c.N ps (defScope st))(hn:(defScope st).names=c.names)(hg:a_ 30 c (defBody st)=g)
  (hb:∀(kV doc pm:We)(an:Option V_)(cdv ct:We)(us:List We),us.length=ps.length->bindArgs (PySem.W.fnOf x qual (defArgs st) (defBody st) (defScope st) .none kV doc pm an cdv ct) ⟨us,[]⟩=pure (ps.zip us))(hs:c.self∉bW:=by exact(show("":Str)∉bW by decide)) :
  oX P w K mg base (k+1) cl x ps.length (b7 c.N.length g):=by
 obtain⟨C,f,fd,a,b,d,F⟩:=D
 refine⟨C,f,fd,ps,?_,a,b,d,F.binds hb⟩
 subst hg
 refine w9 F S λcdv _ A outer s H E hr=>?_
 exact iM (k:=k) 30 c _ ⟨rfl,hn,S.nd,mS hr,λ_=>⟨hr,rfl⟩,λ_=>⟨rfl,rj⟩,T.cst,T.bl,T.fns,λ_=>⟨rfl,rfl,rfl⟩,λ_ _=>rfl,S.kind,T.tab,T.cls,T.yZ,T.y3,mi.of hr,T.Dr,⟨T.x.lam,T.x.Ds,T.x.Lj,λ_ z=>absurd z hs,T.x.sk,T.x.Ll,T.x.ins⟩,⟨_,_,_,rfl,rfl,rfl⟩,.inl hr.hd⟩ _
theorem Fp{P:Wc}{w:Wf}{K:PySem.W.Frag}{mg:Str->Option We}{base h:Heap}{k:Nat}{c:Ct}{cl qual:Str}{st:Stmt}{ps:List Str}{g:GS}(KX:K.In h)(NS:h.Ns Wt mg)(D:Cm K cl qual st)(T:tP c k P w K mg base)
  (S:FnScope c.N ps (defScope st))(hn:(defScope st).names=c.names)(hg:a_ 30 c (defBody st)=g)
  (hb:∀(kV doc pm:We)(an:Option V_)(cdv ct:We)(us:List We),us.length=ps.length->bindArgs (PySem.W.fnOf "__init__" qual (defArgs st) (defBody st) (defScope st) .none kV doc pm an cdv ct) ⟨us,[]⟩=pure (ps.zip us))(hs:c.self∉bW:=by exact(show("":Str)∉bW by decide)) :
  tE P w K mg base (k+2) cl ps.length (b7 c.N.length g):=by
 obtain⟨C,f,fd,a,b,F⟩:=D
 refine⟨C,f,fd,ps,k+1,ay _,?_,a,PySem.W.mg_of KX NS a,b,F.binds hb⟩
 subst hg
 refine w9 F S λcdv _ A outer s H E hr=>?_
 exact iM (k:=k) 30 c _ ⟨rfl,hn,S.nd,mS hr,λ_=>⟨hr,rfl⟩,λ_=>⟨rfl,rj⟩,T.cst,T.bl,T.fns,λ_=>⟨rfl,rfl,rfl⟩,λ_ _=>rfl,S.kind,T.tab,T.cls,T.yZ,T.y3,mi.of hr,T.Dr,⟨T.x.lam,T.x.Ds,T.x.Lj,λ_ z=>absurd z hs,T.x.sk,T.x.Ll,T.x.ins⟩,⟨_,_,_,rfl,rfl,rfl⟩,.inl hr.hd⟩ _
theorem oX.mono{P:Wc}{w:Wf}{K:PySem.W.Frag}{mg:Str->Option We}{base:Heap}{j k:Nat}{c x:Str}{n:Nat}{F:List Wv->Hs->Re Wv}(h:oX P w K mg base j c x n F)(l:j<=k):oX P w K mg base k c x n F:=by
 obtain⟨C,f,fd,ps,G,r⟩:=h
 exact⟨C,f,fd,ps,G.mono l,r⟩
theorem tE.mono{P:Wc}{w:Wf}{K:PySem.W.Frag}{mg:Str->Option We}{base:Heap}{j k:Nat}{c:Str}{n:Nat}{F:List Wv->Hs->Re Wv}(h:tE P w K mg base j c n F)(l:j<=k):tE P w K mg base k c n F:=by
 obtain⟨C,f,fd,ps,i,hi,r⟩:=h
 exact⟨C,f,fd,ps,i,a5 hi l,r⟩
def AllP{α:Type}(P:α->Prop):List α->Prop
 | []=>True
 | a::l=>P a/\AllP P l
theorem AllP.look{κ β:Type}[BEq κ][LawfulBEq κ]{P:κ×β->Prop}:∀{l:List (κ×β)}{x:κ}{b:β},AllP P l->l.lookup x=some b->P (x,b)
 | [],_,_,_,h=>by cases h
 | (y,c)::l,x,b,a,h=>by
  rw[dZ] at h
  cases e:x == y with
  | true=>
   rw[e] at h
   cases h
   have e':=eq_of_beq e
   subst e'
   exact a.1
  | false=>rw[e] at h;exact AllP.look a.2 h
theorem AllP.mem{P:Str->Prop}:∀{l:List Str}{x:Str},AllP P l->l.contains x=true->P x
 | [],_,_,h=>by cases h
 | y::l,x,a,h=>by
  rw[A3,AG] at h
  rcases h with e | h
  ·have e':=eq_of_beq e
   subst e'
   exact a.1
  ·exact AllP.mem a.2 h
theorem kG{K:PySem.W.Frag}{c:PySem.Str}{C D:V_}(h:ClsAt K c C)(k:ClsAt K c D):C=D:=by
 unfold ClsAt at h k
 rw[h] at k
 cases k
 rfl
theorem J6{K:PySem.W.Frag}{tb:Tab}{tt:vi}{tc:Tab}(h:AllP (λp=>∃C D,ClsAt K p.1.1 C/\ClsAt K p.1.2 D/\k_ K C/\PySem.W.kitOne K (.ref C) (.ref D)=some p.2) tb)
  (g:AllP (λp=>∃C,ClsAt K p.1.1 C/\k_ K C/\PySem.W.kitOne K (.ref C) (.type p.1.2)=some p.2) tt)
  (f:AllP (λp=>∃C D,ClsAt K p.1.1 C/\ClsAt K p.1.2 D/\PySem.W.excIn K C F' Ez=true/\PySem.W.excIn K D F' Ez=true/\PySem.W.mroIn K C (.ref D)=some p.2) tc):TabOk K tb tt tc :=
 ⟨λc d b C D e hC hD=>by
  obtain⟨C',D',q1,q2,r⟩:=AllP.look h e
  cases kG hC q1
  cases kG hD q2
  exact r,λc d b C D e hC hD=>by
  obtain⟨C',D',q1,q2,r⟩:=AllP.look f e
  cases kG hC q1
  cases kG hD q2
  exact r,λc T b C e hC=>by
  obtain⟨C',q1,r⟩:=AllP.look g e
  cases kG hC q1
  exact r⟩
theorem aG{c:Ct}{k:Nat}{P:Wc}{w:Wf}{K:PySem.W.Frag}{mg:Str->Option We}{base:Heap}(hc:AllP (λp=>BQ K mg p.1 p.2) c.consts)(hb:AllP (λx=>mg x=none) c.bl)(hf:AllP (λp=>fI P w K mg base k p.1 p.2.1 p.2.2) c.fns)
  (ht:TabOk K c.tb c.tt c.tc)(hk:AllP (λx=>∃C,mg x=some (.ref C)/\IM K x C) c.clss)(hn:AllP (λx=>∃C,mg x=some (.ref C)/\ClsAt K x C) c.yZ)(hd:AllP (λp=>vw K w mg p.1 p.2) c.y3)
  (hu:AllP (λx=>∀n F,c.fns.lookup x=some (n,F)->Jp P w K mg base k x n F) c.Dr:=by exact trivial)(hx:lE c k P w K mg base:=by exact lE.no rfl rfl rfl rfl):tP c k P w K mg base :=
 ⟨λ_ _ h=>hc.look h,λ_ h=>hb.mem h,λx n F h=>hf.look (b:=(n,F)) h,ht,λ_ h=>hk.mem h,λ_ h=>hn.mem h,λx kvs h=>hd.look (b:=kvs) h,λx n F h k=>hu.mem h n F k,hx⟩
theorem iN{t:Qu}{k:Nat}{P:Wc}{w:Wf}{K:PySem.W.Frag}{mg:Str->Option We}{base:Heap}(h1:AllP (λp=>oX P w K mg base k t.c p.1 p.2.1 p.2.2) t.xq)(h2:AllP (λp=>tE P w K mg base k p.1 p.2.1 p.2.2) t.ini)(h3:AllP (λf=>Own K t.c f) t.own):vF t k P w K mg base :=
 ⟨λx n F h=>h1.look (b:=(n,F)) h,λx n F h=>h2.look (b:=(n,F)) h,λ_ h=>h3.mem h⟩
def Rs.sq(r:Rs)(h:GS):Rs:=match r with
 | .nx ρ st=>h ρ st
 | r=>r
section
variable {α β:Type} {ρ ρ':bA} {st:Hs} {h g V0 V1:GS} {ga gb gc:GE} {gt gu:GT} {w:Wv} {c:PySem.Str} {f:α->Hs->Re β} {k:α->Hs->Rs} {a:α} {i:Nat}
@[simp] theorem SV:(Rs.nx ρ st).sq h=h ρ st:=rfl
@[simp] theorem SX:(Rs.rt w st).sq h= .rt w st:=rfl
@[simp] theorem SY:(Rs.bk ρ st).sq h= .bk ρ st:=rfl
@[simp] theorem S0:(Rs.ct ρ st).sq h= .ct ρ st:=rfl
@[simp] theorem QE:(Rs.err c ρ st).sq h= .err c ρ st:=rfl
@[simp] theorem QF:Rs.bad.sq h= .bad:=rfl
@[simp] theorem rp:(Re.ok a st).bind f=f a st:=rfl
@[simp] theorem M6:(Re.err c st).bind f= .err c st:=rfl
@[simp] theorem M7:(Re.bad:Re α).bind f= .bad:=rfl
@[simp] theorem vM:(Re.ok a st).a8 ρ k=k a st:=rfl
@[simp] theorem OG:(Re.err c st:Re α).a8 ρ k= .err c ρ st:=rfl
@[simp] theorem vN:(Re.ok a st).mK= .ok a st:=rfl
@[simp] theorem OH:(Re.bad:Re α).mK= .bad:=rfl
@[simp] theorem OI:(Re.bad:Re α).a8 ρ k= .bad:=rfl
@[simp] theorem M8:aF g h ρ st=(g ρ st).sq h:=by unfold aF Rs.sq;cases g ρ st<;>rfl
@[simp] theorem e_next:aW ρ st= .nx ρ st:=rfl
@[simp] theorem S6:aQ ga ρ st=(ga ρ st).a8 ρ λw st'=> .rt w st':=rfl
@[simp] theorem e_expr:nP ga ρ st=(ga ρ st).a8 ρ λ_ st'=> .nx ρ st':=rfl
@[simp] theorem Cn:a9 i ga ρ st=(ga ρ st).a8 ρ λw st'=> .nx (ρ.set i (some w)) st':=rfl
def QG(ga gb:GS)(ρ:bA):Bool->Hs->Rs:=λb st'=>if b=true then ga ρ st' else gb ρ st'
@[simp] theorem S7:QG g h ρ true st=g ρ st:=rfl
@[simp] theorem S8:QG g h ρ false st=h ρ st:=rfl
@[simp] theorem U0:e8 gt g h ρ st=(gt ρ st).a8 ρ (QG g h ρ):=rfl
def S_(o:Option (Option Wv))(st:Hs):Re Wv:=match o with
 | some (some w)=> .ok w st
 | _=> .bad
@[simp] theorem Co:S_ (some (some w)) st= .ok w st:=rfl
@[simp] theorem xB:ag i ρ st=S_ ρ[i]? st:=rfl
@[simp] theorem e_c:gC w ρ st= .ok w st:=rfl
def kB(op:fK)(gb:GE)(ρ:bA):Wv->Hs->Re Wv:=λx st1=>(gb ρ st1).bind λy st2=>(op x y st2).mK
@[simp] theorem M9{op:fK}{x:Wv}:kB op gb ρ x st=(gb ρ st).bind λy st2=>(op x y st2).mK:=rfl
@[simp] theorem Cp{op:fK}:aj op ga gb ρ st=(ga ρ st).bind (kB op gb ρ):=rfl
@[simp] theorem Tf:bG ga ρ st=(ga ρ st).bind Ld:=rfl
@[simp] theorem Tg{b:Bool}:Ld (.bl b) st= .ok b st:=rfl
@[simp] theorem Th:dC ga ρ st=(ga ρ st).bind nQ:=rfl
@[simp] theorem QH{b:Bool}:nQ (.bl b) st= .ok b st:=rfl
@[simp] theorem Ti:vb gt ρ st=(gt ρ st).bind λb st1=> .ok (!b) st1:=rfl
def J7(gb:GT)(ρ:bA):Bool->Hs->Re Bool:=λb st1=>if b=true then gb ρ st1 else .ok false st1
@[simp] theorem QI:J7 gu ρ true st=gu ρ st:=rfl
@[simp] theorem QJ:J7 gu ρ false st= .ok false st:=rfl
@[simp] theorem Tj:yv gt gu ρ st=(gt ρ st).bind (J7 gu ρ):=rfl
def QK(gb:GT)(ρ:bA):Bool->Hs->Re Bool:=λb st1=>if b=true then .ok true st1 else gb ρ st1
@[simp] theorem Tn:QK gu ρ true st= .ok true st:=rfl
@[simp] theorem To:QK gu ρ false st=gu ρ st:=rfl
@[simp] theorem U1:Dp gt gu ρ st=(gt ρ st).bind (QK gu ρ):=rfl
def Cq(gb:GE)(ρ:bA):Wv->Hs->Re Wv:=λw st1=>match w with
 | .bl true=>gb ρ st1
 | .bl false=> .ok (.bl false) st1
 | _=> .bad
@[simp] theorem OJ:Cq gb ρ (.bl true) st=gb ρ st:=rfl
@[simp] theorem OL:Cq gb ρ (.bl false) st= .ok (.bl false) st:=rfl
@[simp] theorem QL:pJ ga gb ρ st=(ga ρ st).bind (Cq gb ρ):=rfl
def M_:Wv->Hs->Re Wv:=λw st1=>match w with
 | .bl b=> .ok (.bl (!b)) st1
 | _=> .bad
@[simp] theorem OM{b:Bool}:M_ (.bl b) st= .ok (.bl (!b)) st:=rfl
def J8(ga gb:GE)(ρ:bA):Bool->Hs->Re Wv:=λb st1=>if b=true then ga ρ st1 else gb ρ st1
@[simp] theorem QM:J8 ga gb ρ true st=ga ρ st:=rfl
@[simp] theorem QN:J8 ga gb ρ false st=gb ρ st:=rfl
@[simp] theorem Tp:qJ gt ga gb ρ st=(gt ρ st).bind (J8 ga gb ρ):=rfl
@[simp] theorem M':ak ρ st= .ok [] st:=rfl
def Gi(gr:GA)(ρ:bA):Wv->Hs->Re (List Wv):=λx st1=>(gr ρ st1).bind λxs st2=> .ok (x::xs) st2
@[simp] theorem ON{gr:GA}{x:Wv}:Gi gr ρ x st=(gr ρ st).bind λxs st2=> .ok (x::xs) st2:=rfl
@[simp] theorem J9{gr:GA}:af ga gr ρ st=(ga ρ st).bind (Gi gr ρ):=rfl
def zh:List Wv->Hs->Re Wv:=λws st1=>if ws.length<=lim then .ok (.tup ws) st1 else .bad
theorem rA{ws:List Wv}(hl:ws.length<=lim):zh ws st= .ok (.tup ws) st:=if_pos hl
@[simp] theorem Tq{gr:GA}:a4 gr ρ st=(gr ρ st).bind zh:=rfl
def rB:List Wv->Hs->Re Wv:=λws st1=>if ws.length<=lim then .ok (.ref st1.length) (st1++[.lst ws]) else .bad
theorem jM{ws:List Wv}(hl:ws.length<=lim):rB ws st= .ok (.ref st.length) (st++[.lst ws]):=if_pos hl
@[simp] theorem Na{gr:GA}:dY gr ρ st=(gr ρ st).bind rB:=rfl
section
variable {x x0 x1 x2 x3 x4 x5 x6 x7:Wv}
@[simp] theorem QO:zh [x0] st= .ok (.tup [x0]) st:=rA (by simp[lim])
@[simp] theorem QP:zh [x0,x1] st= .ok (.tup [x0,x1]) st:=rA (by simp[lim])
@[simp] theorem QQ:zh [x0,x1,x2] st= .ok (.tup [x0,x1,x2]) st:=rA (by simp[lim])
@[simp] theorem QR:zh [x0,x1,x2,x3] st= .ok (.tup [x0,x1,x2,x3]) st:=rA (by simp[lim])
@[simp] theorem QS:rB [] st= .ok (.ref st.length) (st++[.lst []]):=jM (by simp[lim])
@[simp] theorem QT:rB [x0] st= .ok (.ref st.length) (st++[.lst [x0]]):=jM (by simp[lim])
@[simp] theorem QU:rB [x0,x1] st= .ok (.ref st.length) (st++[.lst [x0,x1]]):=jM (by simp[lim])
@[simp] theorem QV:rB [x0,x1,x2] st= .ok (.ref st.length) (st++[.lst [x0,x1,x2]]):=jM (by simp[lim])
@[simp] theorem QW:rB [x0,x1,x2,x3] st= .ok (.ref st.length) (st++[.lst [x0,x1,x2,x3]]):=jM (by simp[lim])
@[simp] theorem QX:rB [x0,x1,x2,x3,x4] st= .ok (.ref st.length) (st++[.lst [x0,x1,x2,x3,x4]]):=jM (by simp[lim])
@[simp] theorem QY:rB [x0,x1,x2,x3,x4,x5] st= .ok (.ref st.length) (st++[.lst [x0,x1,x2,x3,x4,x5]]):=jM (by simp[lim])
end
def qa(n:Nat)(F:List Wv->Hs->Re Wv):List Wv->Hs->Re Wv:=λws st1=>if ws.length=n then F ws st1 else .bad
section
variable {F:List Wv->Hs->Re Wv} {x0 x1 x2 x3:Wv} {gr:GA}
@[simp] theorem OO:qa 1 F [x0] st=F [x0] st:=rfl
@[simp] theorem OP:qa 2 F [x0,x1] st=F [x0,x1] st:=rfl
@[simp] theorem OQ:qa 3 F [x0,x1,x2] st=F [x0,x1,x2] st:=rfl
@[simp] theorem OR:qa 4 F [x0,x1,x2,x3] st=F [x0,x1,x2,x3] st:=rfl
@[simp] theorem J_{n:Nat}:aD n F gr ρ st=(gr ρ st).bind (qa n F):=rfl
@[simp] theorem OS{op:List Wv->Hs->Re Wv}:bt op gr ρ st=(gr ρ st).bind λws st1=>(op ws st1).mK:=rfl
end
@[simp] theorem U2{op:Wv->Hs->Re Wv}:wY op ga ρ st=(ga ρ st).bind op:=rfl
@[simp] theorem Tr{i:Int}:fR (.int i) st= .ok (.int (-i)) st:=rfl
@[simp] theorem Nb{i j:Int}:bB (.int i) (.int j) st= .ok (.int (i+j)) st:=rfl
@[simp] theorem Ts{i j:Int}:nN (.int i) (.int j) st= .ok (.int (i - j)) st:=rfl
@[simp] theorem QZ{x:Wv}:kF x .non st=nO x .non st:=Jx
@[simp] theorem U3{i j:Int}:oLt (.int i) (.int j) st= .ok (.bl (decide (i < j))) st:=rfl
@[simp] theorem U4{i j:Int}:oLe (.int i) (.int j) st= .ok (.bl (decide (i<=j))) st:=rfl
@[simp] theorem U5{i j:Int}:Ow (.int i) (.int j) st= .ok (.bl (decide (j < i))) st:=rfl
@[simp] theorem U6{i j:Int}:Uq (.int i) (.int j) st= .ok (.bl (decide (j<=i))) st:=rfl
@[simp] theorem U7{i j:Int}:oEq (.int i) (.int j) st= .ok (.bl (i == j)) st:=rfl
@[simp] theorem U8{i j:Int}:zv (.int i) (.int j) st= .ok (.bl (!(i == j))) st:=rfl
@[simp] theorem U9{i j:PySem.Str}:oEq (.str i) (.str j) st= .ok (.bl (i == j)) st:=rfl
@[simp] theorem U_{i j:PySem.Str}:zv (.str i) (.str j) st= .ok (.bl (!(i == j))) st:=rfl
@[simp] theorem U'{i j:Bool}:oEq (.bl i) (.bl j) st= .ok (.bl (i == j)) st:=by cases i<;>cases j<;>rfl
@[simp] theorem Va{i j:Bool}:zv (.bl i) (.bl j) st= .ok (.bl (!(i == j))) st:=by cases i<;>cases j<;>rfl
theorem lF{i j:Int}(h:j≠0/\j.natAbs.log2 < 9000):eS (.int i) (.int j) st= .ok (.int (i.fdiv j)) st:=by show(if _ then _ else _)=_;rw[if_pos h]
theorem iO{i j:Int}(h:j≠0):oMod (.int i) (.int j) st= .ok (.int (i.fmod j)) st:=by show(if _ then _ else _)=_;rw[if_pos h]
theorem xC{i j:Int}(h:IntMulOk i j):cK (.int i) (.int j) st= .ok (.int (i * j)) st:=by show(if _ then _ else _)=_;rw[if_pos h]
theorem Cr{i j:Int}(h1:-(2 ^ 64) < i)(h2:i < 2 ^ 64):cK (.int i) (.int j) st= .ok (.int (i * j)) st:=xC (IntMulOk.of_left (intBits_le_64 h1 h2))
theorem mul_r{i j:Int}(h1:-(2 ^ 64) < j)(h2:j < 2 ^ 64):cK (.int i) (.int j) st= .ok (.int (i * j)) st:=xC (IntMulOk.of_right (intBits_le_64 h1 h2))
theorem Cs{i j:Int}(h:0<=j/\j<=1000000/\i.natAbs < 2 ^ 64):gS (.int i) (.int j) st= .ok (.int (i ^ j.toNat)) st:=by show(if _ then _ else _)=_;rw[if_pos h]
theorem lG{l:Nat}{i:Int}{ws:List Wv}{v:Wv}(h:aq st l=some ws)(h2:kX ws i=some v):ba (.ref l) (.int i) st= .ok v st:=by
 show(match aq st l with | some ws=>(match kX ws i with | some w=>Re.ok w st | none=> .bad) | none=> .bad)=_
 rw[h]
 dsimp only
 rw[h2]
theorem add_l{l k:Nat}{xs ys:List Wv}(h1:aq st l=some xs)(h2:aq st k=some ys)(hl:xs.length+ys.length<=lim):bB (.ref l) (.ref k) st= .ok (.ref st.length) (st++[.lst (xs++ys)]):=by
 show(match aq st l,aq st k with | some i,some j=>if i.length+j.length<=lim then Re.ok (Wv.ref st.length) (st++[Ob.lst (i++j)]) else .bad | _,_=> .bad)=_
 rw[h1,h2]
 exact if_pos hl
theorem Fq{i:Int}{ws:List Wv}{v:Wv}(h2:kX ws i=some v):ba (.tup ws) (.int i) st= .ok v st:=by
 show(match kX ws i with | some w=>Re.ok w st | none=> .bad)=_
 rw[h2]
end
theorem Nc{n:Nat}{g:GS}{ws:List Wv}{st st':Hs}{w:Wv}(h:g (ws.map some++aN (n - ws.length) none) st= .rt w st'):b7 n g ws st= .ok w st':=by unfold b7;rw[h]
section
variable {ρ:bA} {st:Hs} {ga gb gc:GE} {gl gh:GO}
def Tt(gl gh:GO)(ρ:bA):Wv->Hs->Re Wv:=λx st1=>(gl ρ st1).bind λlo st2=>(gh ρ st2).bind λhi st3=>yN x lo hi st3
@[simp] theorem OT:fb ga gl gh ρ st=(ga ρ st).bind (Tt gl gh ρ):=rfl
@[simp] theorem Tu{x:Wv}:Tt gl gh ρ x st=(gl ρ st).bind λlo st2=>(gh ρ st2).bind λhi st3=>yN x lo hi st3:=rfl
@[simp] theorem Nd:gT ρ st= .ok none st:=rfl
def Gj:Wv->Hs->Re (Option Int):=λw st1=>match w with
 | .int i=> .ok (some i) st1
 | _=> .bad
@[simp] theorem Q0:kl ga ρ st=(ga ρ st).bind Gj:=rfl
@[simp] theorem OU{i:Int}:Gj (.int i) st= .ok (some i) st:=rfl
theorem Q1{l:Nat}{ws:List Wv}{lo hi:Option Int}(h:aq st l=some ws):yN (.ref l) lo hi st= .ok (.ref st.length) (st++[.lst (ko ws lo hi)]):=by
 show(match aq st l with | some ws=>Re.ok (Wv.ref st.length) (st++[Ob.lst (ko ws lo hi)]) | none=> .bad)=_
 rw[h]
theorem qb{l:Nat}{ws:List Wv}(h:aq st l=some ws):iH [.ref l] st= .ok (.int ws.length) st:=by
 show(match aq st l with | some ws=>Re.ok (Wv.int ws.length) st | none=> .bad)=_
 rw[h]
def Q2(op':fK)(gc:GE)(y:Wv)(ρ:bA):Wv->Hs->Re Wv:=λz st3=>match z with
 | .bl true=>(gc ρ st3).bind λu uy=>(op' y u uy).mK
 | .bl false=> .ok (.bl false) st3
 | _=> .bad
def Q3(op' Ka:fK)(gc gd:GE)(y:Wv)(ρ:bA):Wv->Hs->Re Wv:=λz st3=>match z with
 | .bl true=>(gc ρ st3).bind λu uy=>(op' y u uy).mK.bind (Q2 Ka gd u ρ)
 | .bl false=> .ok (.bl false) st3
 | _=> .bad
@[simp] theorem Q4{op' Ka:fK}{gd:GE}{y:Wv}:Q3 op' Ka gc gd y ρ (.bl false) st= .ok (.bl false) st:=rfl
def Gk(cat:PySem.Str->Option Bool)(gs:GS)(r:Rs):Rs:=match r with
 | .err c ρ' st'=>(match cat c with
  | some true=>(match gs ρ' st' with
   | .nx ρ2 st2=> .nx ρ2 st2
   | .rt w st2=> .rt w st2
   | _=> .bad)
  | _=> .bad)
 | r=>r
@[simp] theorem Nf{cat:PySem.Str->Option Bool}{gs:GS}:Gk cat gs (.nx ρ st)= .nx ρ st:=rfl
@[simp] theorem Ng{cat:PySem.Str->Option Bool}{gs:GS}{w:Wv}:Gk cat gs (.rt w st)= .rt w st:=rfl
end
theorem aX{st:Hs}{ws:List Wv}:aq (st++[.lst ws]) st.length=some ws:=by unfold aq;simp
theorem tR{st:Hs}{l:Nat}{ws:List Wv}(h:aq st l=some ws):l < st.length:=by
 unfold aq at h
 cases e:st[l]? with
 | none=>rw[e] at h;cases h
 | some o=>exact(List.getElem?_eq_some_iff.mp e).1
def cj(l:Nat)(st st':Hs):Prop:=st.length<=st'.length/\∀k,k < st.length->k≠l->st'[k]? =st[k]?
theorem cj.refl{l:Nat}{st:Hs}:cj l st st:=⟨ay _,λ_ _ _=>rfl⟩
theorem cj.trans{l:Nat}{a b c:Hs}(h:cj l a b)(k:cj l b c):cj l a c:=⟨a5 h.1 k.1,λj h1 h2=>(k.2 j (bp h1 h.1) h2).trans (h.2 j h1 h2)⟩
theorem cj.push{l:Nat}{st:Hs}{o:Ob}:cj l st (st++[o]):=⟨by simp,λk h _=>fq h⟩
theorem cj.set{l:Nat}{st:Hs}{o:Ob}:cj l st (st.set l o):=⟨by simp,λk _ h=>dy (λz=>h z.symm)⟩
theorem cj.lst{l:Nat}{st st':Hs}(k:cj l st st'){j:Nat}{ws:List Wv}(h:aq st j=some ws)(hj:j≠l):aq st' j=some ws:=by
 unfold aq at h ⊢
 rw[k.2 j (tR (st:=st) (ws:=ws) (by unfold aq;exact h)) hj]
 exact h
@[simp] theorem OV{i:Nat}{ga:GA}{gb:GS}{ρ:bA}{st:Hs}:nV i ga gb ρ st=(ga ρ st).a8 ρ λws st1=>match ws with
 | [.int j]=>if bP j then dI i gb (br 0 j.toNat) ρ st1 else .bad
 | _=> .bad:=rfl
@[simp] theorem OW{i:Nat}{ga:GA}{gb:GS}{ρ:bA}{st:Hs}:nW i ga gb ρ st=(ga ρ st).a8 ρ λws st1=>match ws with
 | [.int a,.int j]=>if bP a/\bP j then dI i gb (br a (j - a).toNat) ρ st1 else .bad
 | _=> .bad:=rfl
def Gm(mt:Wv->Wv->Hs->Re Wv)(ga:GE)(ρ:bA):Wv->Hs->Re Wv:=λo st1=>match o with
 | .ref l=>(match aq st1 l with
  | some _=>(ga ρ st1).bind λv st2=>(mt o v st2).mK
  | none=> .bad)
 | _=> .bad
@[simp] theorem Kb{mt:Wv->Wv->Hs->Re Wv}{go ga:GE}{ρ:bA}{st:Hs}:jC mt go ga ρ st=(go ρ st).bind (Gm mt ga ρ):=rfl
theorem kH{mt:Wv->Wv->Hs->Re Wv}{ga:GE}{ρ:bA}{st:Hs}{l:Nat}{ws:List Wv}(h:aq st l=some ws):Gm mt ga ρ (.ref l) st=(ga ρ st).bind λv st2=>(mt (.ref l) v st2).mK:=by
 show(match aq st l with | some _=>(ga ρ st).bind λv st2=>(mt (.ref l) v st2).mK | none=> .bad)=_
 rw[h]
theorem xD{st:Hs}{l:Nat}{v:Wv}{ws:List Wv}(h:st[l]? =some (.lst ws))(hl:ws.length < lim):jv (.ref l) v st= .ok .non (st.set l (.lst (ws++[v]))):=by
 show(match st[l]? with | some (.lst ws)=>if ws.length < lim then Re.ok Wv.non (st.set l (.lst (ws++[v]))) else .bad | _=> .bad)=_
 rw[h]
 exact if_pos hl
def kFor(i:Nat)(gb:GS)(ρ:bA):Wv->Hs->Rs:=λw st1=>match w with
 | .ref l=>(match aq st1 l with | some ws=>forL i gb l ws ws ρ st1 | none=> .bad)
 | .tup ws=>dI i gb ws ρ st1
 | .nG ws=>dI i gb ws ρ st1
 | _=> .bad
@[simp] theorem Nh{i:Nat}{ga:GE}{gb:GS}{ρ:bA}{st:Hs}:mv i ga gb ρ st=(ga ρ st).a8 ρ (kFor i gb ρ):=rfl
theorem jN{i:Nat}{gb:GS}{ρ:bA}{st:Hs}{l:Nat}{ws:List Wv}(h:aq st l=some ws):kFor i gb ρ (.ref l) st=forL i gb l ws ws ρ st:=by
 show(match aq st l with | some ws=>forL i gb l ws ws ρ st | none=> .bad)=_
 rw[h]
@[simp] theorem Q5{i:Nat}{gb:GS}{ρ:bA}{st:Hs}{ws:List Wv}:kFor i gb ρ (.tup ws) st=dI i gb ws ρ st:=rfl
theorem kI{i:Nat}{gb:GS}{l:Nat}{all:List Wv}(P:bA->Hs->Prop):∀(ws:List Wv)(ρ:bA)(st:Hs),P ρ st->aq st l=some all->
  (∀w∈ws,∀ρ st,P ρ st->aq st l=some all->∃ρ' st',gb (ρ.set i (some w)) st= .nx ρ' st'/\aq st' l=some all/\P ρ' st')->
  ∃ρ' st',forL i gb l all ws ρ st= .nx ρ' st'/\P ρ' st'/\aq st' l=some all
 | [],ρ,st,h,hl,_=>⟨ρ,st,rfl,h,hl⟩
 | w::r,ρ,st,h,hl,step=>by
  obtain⟨ρ1,st1,e1,l1,p1⟩:=step w cG ρ st h hl
  obtain⟨ρ2,st2,e2,p2,l2⟩:=kI P r ρ1 st1 p1 l1 λw hw=>step w (bN _ hw)
  refine⟨ρ2,st2,?_,p2,l2⟩
  unfold forL
  rw[e1]
  simp only[if_pos l1]
  exact e2
theorem kJ{i:Nat}{gb:GS}(P:Nat->bA->Hs->Prop):∀(ws:List Wv)(k:Nat)(ρ:bA)(st:Hs),P k ρ st->
  (∀(j:Nat)(w:Wv),ws[j]? =some w->∀ρ st,P (k+j) ρ st->∃ρ' st',gb (ρ.set i (some w)) st= .nx ρ' st'/\P (k+j+1) ρ' st')->∃ρ' st',dI i gb ws ρ st= .nx ρ' st'/\P (k+ws.length) ρ' st'
 | [],k,ρ,st,h,_=>⟨ρ,st,rfl,h⟩
 | w::r,k,ρ,st,h,step=>by
  obtain⟨ρ1,st1,e1,p1⟩:=step 0 w rfl ρ st h
  obtain⟨ρ2,st2,e2,p2⟩:=kJ P r (k+1) ρ1 st1 p1 λj w hw ρ st hp=>by
   have e:k+(j+1)=k+1+j:=by omega
   have q:=step (j+1) w hw ρ st (by rw[e];exact hp)
   rw[e] at q
   exact q
  refine⟨ρ2,st2,?_,?_⟩
  ·unfold dI
   rw[e1]
   exact e2
  ·have e:k+(w::r).length=k+1+r.length:=by simp;omega
   rw[e]
   exact p2
theorem tS{i:Nat}{gb:GS}(P:bA->Hs->Prop):∀(ws:List Wv)(ρ:bA)(st:Hs),P ρ st->
  (∀w∈ws,∀ρ st,P ρ st->∃ρ' st',gb (ρ.set i (some w)) st= .nx ρ' st'/\P ρ' st')->∃ρ' st',dI i gb ws ρ st= .nx ρ' st'/\P ρ' st'
 | [],ρ,st,h,_=>⟨ρ,st,rfl,h⟩
 | w::r,ρ,st,h,step=>by
  obtain⟨ρ1,st1,e1,p1⟩:=step w cG ρ st h
  obtain⟨ρ2,st2,e2,p2⟩:=tS P r ρ1 st1 p1 λw hw=>step w (bN _ hw)
  refine⟨ρ2,st2,?_,p2⟩
  unfold dI
  rw[e1]
  exact e2
@[simp] theorem Q6{i:Int}{st:Hs}:xa [.int i] st=IT [.int i] st:=rfl
@[simp] theorem Q7{cs:fL}{gi:GI}{gt:GT}{ge:GE}{ρ:bA}{st:Hs}:fS cs gi gt ge ρ st=(gi ρ st).bind (e_ cs gt ge ρ):=rfl
@[simp] theorem OX{g:GE}{ρ:bA}{st:Hs}:gX g ρ st=(g ρ st).bind sZ:=rfl
@[simp] theorem Q8{g:GA}{ρ:bA}{st:Hs}:Ja g ρ st=(g ρ st).bind Bj:=rfl
@[simp] theorem Q9{g:GA}{ρ:bA}{st:Hs}:qT g ρ st=(g ρ st).bind xf:=rfl
@[simp] theorem Q_{g:GA}{ρ:bA}{st:Hs}:Qt g ρ st=(g ρ st).bind Ge:=rfl
theorem vO{i j:Int}{st:Hs}(h:bP i)(k:bP j):xf [.int i,.int j] st= .ok (none,br i (j - i).toNat) st:=if_pos ⟨h,k⟩
theorem lH{l:Nat}{st:Hs}{ws:List Wv}(h:aq st l=some ws):sZ (.ref l) st= .ok (some l,ws) st:=by
 show(match aq st l with | some ws=>Re.ok (some l,ws) st | none=> .bad)=_
 rw[h]
@[simp] theorem Ra{st:Hs}{z:PySem.Str}:sZ (.str z) st= .ok (none,gf z) st:=rfl
@[simp] theorem Rb{st:Hs}{ws:List Wv}:sZ (.tup ws) st= .ok (none,ws) st:=rfl
theorem Fs{st:Hs}{acc:List Wv}{v:Wv}(h:acc.length < lim):jv (.ref st.length) v (st++[.lst acc])= .ok .non (st++[.lst (acc++[v])]):=by
 rw[xD (ws:=acc) (by simp) h]
 congr 1
 simp
theorem jO{w:Wk}{gt:Wv->Hs->Re Bool}{ge:Wv->Hs->Re Wv}{st:Hs}{t:Wv->Bool}{f:Wv->Wv}(ck:lp w st):∀(ws acc:List Wv),(∀v∈ws,∀acc,gt v (st++[.lst acc])= .ok (t v) (st++[.lst acc]))->
  (∀v∈ws,t v=true->∀acc,ge v (st++[.lst acc])= .ok (f v) (st++[.lst acc]))->acc.length+ws.length < lim->kx (lp w) gt ge st.length ws (st++[.lst acc])=some (st++[.lst (acc++(ws.filter t).map f)])
 | [],acc,_,_,_=>by simp[kx]
 | v::r,acc,h1,h2,hl=>by
  have hl':acc.length+(r.length+1) < lim:=hl
  unfold kx
  rw[h1 v cG acc]
  cases e:t v with
  | false=>
   dsimp only
   rw[if_pos (nZ ck),jO ck r acc (λv hv=>h1 v (bN _ hv)) (λv hv=>h2 v (bN _ hv)) (by omega),Ba (by simp[e])]
  | true=>
   dsimp only
   rw[h2 v cG e acc]
   dsimp only
   rw[Fs (by omega)]
   dsimp only
   rw[if_pos (nZ ck),jO ck r (acc++[f v]) (λv hv=>h1 v (bN _ hv)) (λv hv=>h2 v (bN _ hv)) (by simp;omega),A_ e]
   simp
theorem fk{cs:fL}{gt:GT}{ge:GE}{ρ:bA}{w:Wk}{st:Hs}{t:Wv->Bool}{f:Wv->Wv}(ck:lp w st)(h1:∀v∈w.2,∀acc,gt (some v::jw cs ρ) (st++[.lst acc])= .ok (t v) (st++[.lst acc]))
  (h2:∀v∈w.2,t v=true->∀acc,ge (some v::jw cs ρ) (st++[.lst acc])= .ok (f v) (st++[.lst acc]))(hl:w.2.length < lim):e_ cs gt ge ρ w st= .ok (.ref st.length) (st++[.lst ((w.2.filter t).map f)]):=by
 unfold e_
 rw[jO ck w.2 [] h1 h2 (by simpa using hl)]
 simp
theorem oq{α:Type}{ws:List α}{d:Int}(h0:0<=d)(h1:d < ws.length):∃v,L2.kX ws d=some v/\v∈ws:=by
 have hk:d.toNat < ws.length:=by omega
 have ek:d=((d.toNat:Nat):Int):=by omega
 refine⟨ws[d.toNat],?_,List.getElem_mem hk⟩
 have q:=L2.je (dD hk)
 rw[<-ek] at q
 exact q
theorem dm{st:Hs}{l:Nat}{o o':Ob}(h:st[l]? =some o):(st.set l o')[l]? =some o':=m8 (List.getElem?_eq_some_iff.mp h).1
theorem tT{st:Hs}{l:Nat}{o o':Ob}(h:st[l]? =some o):(st++[o'])[l]? =some o:=by rw[fq (List.getElem?_eq_some_iff.mp h).1];exact h
theorem fV{st:Hs}{l:Nat}{ws:List Wv}(h:st[l]? =some (.lst ws)):aq st l=some ws:=by unfold aq;rw[h]
theorem eN{st:Hs}{l:Nat}{o:Ob}(h:st[l]? =some o):l < st.length:=(List.getElem?_eq_some_iff.mp h).1
theorem mU{st:Hs}{o:Ob}:(st++[o])[st.length]? =some o:=by simp
@[simp] theorem Tv{i:Int}{st:Hs}:En [.int i] st= .ok (.int (if i < 0 then -i else i)) st:=rfl
@[simp] theorem Gn{l:Nat}{st:Hs}{ns:List Int}(h:aq st l=some (ns.map Wv.int)):yH [.ref l] st= .ok (.int ns.sum) st:=by
 show(match aq st l with | some ws=>(match intsOf ws with | some ns=>Re.ok (Wv.int ns.sum) st | none=> .bad) | none=> .bad)=_
 rw[h]
 dsimp only
 rw[gU]
theorem Ft{lo:Int}{n:Nat}{w:Wv}(h:w∈br lo n):∃k:Int,w= .int k/\lo<=k/\k < lo+n:=by
 unfold br at h
 obtain⟨k,hk,rfl⟩:=List.mem_map.mp h
 have:=List.mem_range.mp hk
 exact⟨lo+k,rfl,by omega,by omega⟩
theorem tU{i:Int}(h1:-1000000<=i)(h2:i<=1000000):bP i:=⟨by omega,by omega⟩
@[simp] theorem OY{F:List Wv->Hs->Re Wv}{st:Hs}:qa 0 F [] st=F [] st:=rfl
def Gr(st st':Hs):Prop:=st.length<=st'.length/\∀k,k < st.length->st'[k]? =st[k]?
theorem Gr.refl{st:Hs}:Gr st st:=⟨ay _,λ_ _=>rfl⟩
theorem Gr.trans{a b c:Hs}(h:Gr a b)(k:Gr b c):Gr a c:=⟨a5 h.1 k.1,λj h1=>(k.2 j (bp h1 h.1)).trans (h.2 j h1)⟩
theorem Gr.push{st:Hs}{o:Ob}:Gr st (st++[o]):=⟨by simp,λk h=>fq h⟩
theorem Gr.app{st xs:Hs}:Gr st (st++xs):=⟨by simp,λk h=>fq h⟩
theorem Gr.lst{st st':Hs}(k:Gr st st'){j:Nat}{ws:List Wv}(h:aq st j=some ws):aq st' j=some ws:=by
 unfold aq at h ⊢
 rw[k.2 j (tR (st:=st) (ws:=ws) (by unfold aq;exact h))]
 exact h
theorem Gr.get{st st':Hs}(k:Gr st st'){j:Nat}{o:Ob}(h:st[j]? =some o):st'[j]? =some o:=by rw[k.2 j (eN h)];exact h
theorem Gr.keep{st st':Hs}{l:Nat}(k:Gr st st'):cj l st st':=⟨k.1,λj h _=>k.2 j h⟩
theorem Gr.vP{st s1 s2:Hs}{l:Nat}(h:st.length<=l)(g:Gr st s1)(k:cj l s1 s2):Gr st s2:=⟨a5 g.1 k.1,λj h1=>(k.2 j (bp h1 g.1) (by omega)).trans (g.2 j h1)⟩
theorem Ni{i:Int}:aI (.int i) (.int i)=true:=by simp[aI]
theorem Nj{x:PySem.Str}:aI (.str x) (.str x)=true:=by simp[aI]
theorem Kc{x y:PySem.Str}:aI (.tuple [.str x,.str y]) (.tuple [.str x,.str y])=true:=by simp[aI,eB]
theorem Ke{st:Hs}{x y:Wv}{d:PyData}(h1:aS st 20 x=some d)(h2:aS st 20 y=some d)(h:aI d d=true):zv x y st= .ok (.bl false) st:=by
 unfold zv
 rw[h1,h2]
 show Re.ok (Wv.bl (!PyData.eqv d d)) st=_
 rw[h]
 rfl
theorem Nk{l:Nat}{st:Hs}{n:Int}{ns:List Int}(h:aq st l=some ((n::ns).map Wv.int)):mf [.ref l] st= .ok (.int (yI n ns)) st:=by
 unfold mf
 simp only[h,gU]
theorem Nl{l:Nat}{st:Hs}{n:Int}{ns:List Int}(h:aq st l=some ((n::ns).map Wv.int)):mh [.ref l] st= .ok (.int (yJ n ns)) st:=by
 unfold mh
 simp only[h,gU]
@[simp] theorem Tw{i j:Int}{st:Hs}:mf [.int i,.int j] st= .ok (.int (if j > i then j else i)) st:=rfl
@[simp] theorem Tz{i j:Int}{st:Hs}:mh [.int i,.int j] st= .ok (.int (if j < i then j else i)) st:=rfl
theorem Nm{α:Type}{a:α}{r:List α}:L2.kX (a::r) 0=some a:=L2.je (j:=0) rfl
theorem ou{α:Type}{t:List α}{a:α}:L2.kX (t++[a]) (-1)=some a:=by
 unfold L2.kX L2.ym
 simp
 rw[if_pos (by omega)]
 have e:(-1+((t.length:Int)+1)).toNat=t.length:=by omega
 simp[e]
def Gp(kvs:Dc):Wv->Hs->Re Wv:=λa st1=>match a with
 | .str k=>(match kvs.lookup k with | some w=> .ok w st1 | none=> .bad)
 | _=> .bad
@[simp] theorem Rc{kvs:Dc}{ga:GE}{ρ:bA}{st:Hs}:xm kvs ga ρ st=(ga ρ st).bind (Gp kvs):=rfl
theorem Fv{kvs:Dc}{k:PySem.Str}{w:Wv}{st:Hs}(h:kvs.lookup k=some w):Gp kvs (.str k) st= .ok w st:=by
 show(match kvs.lookup k with | some w=>Re.ok w st | none=> .bad)=_
 rw[h]
theorem rC{st:Hs}{o o':Ob}:(st++[o]).set st.length o'=st++[o']:=by simp
open PySem L2
theorem tb_none{K:PySem.W.Frag}{H:Hp}(h1:PySem.W.nsIn K Wt "form_of"=some none)(h2:PySem.W.nsIn K Wt "formula_by"=some none)(h3:PySem.W.nsIn K Wt "turned"=some none)(h4:PySem.W.nsIn K Wt "readied_content"=some none)(h5:PySem.W.nsIn K Wt "ordered"=some none):qG K H:=λq P hq e=>by
 have no:∀q,PySem.W.nsIn K Wt q=some none->gR K q=none:=λq h=>by
  unfold gR PySem.W.tabIn
  rw[h]
 simp only[bW,List.mem_cons,List.not_mem_nil,or_false] at hq
 rcases hq with rfl | rfl | rfl | rfl | rfl
 ·rw[no _ h1] at e;cases e
 ·rw[no _ h2] at e;cases e
 ·rw[no _ h3] at e;cases e
 ·rw[no _ h4] at e;cases e
 ·rw[no _ h5] at e;cases e
theorem Cu{fd:Wa}{ps:List Str}(us:List We)(hl:us.length=1)(h:∀a0:We,bindArgs fd { pos:=[a0] }=pure (ps.zip [a0])):bindArgs fd { pos:=us }=pure (ps.zip us):=match us,hl with | [a0],_=>h a0
theorem ln2{fd:Wa}{ps:List Str}(us:List We)(hl:us.length=2)(h:∀a0 a1:We,bindArgs fd { pos:=[a0,a1] }=pure (ps.zip [a0,a1])):bindArgs fd { pos:=us }=pure (ps.zip us):=match us,hl with | [a0,a1],_=>h a0 a1
theorem Nn{fd:Wa}{ps:List Str}(us:List We)(hl:us.length=3)(h:∀a0 a1 a2:We,bindArgs fd { pos:=[a0,a1,a2] }=pure (ps.zip [a0,a1,a2])):bindArgs fd { pos:=us }=pure (ps.zip us):=match us,hl with | [a0,a1,a2],_=>h a0 a1 a2
theorem Rf{fd:Wa}{ps:List Str}(us:List We)(hl:us.length=4)(h:∀a0 a1 a2 a3:We,bindArgs fd { pos:=[a0,a1,a2,a3] }=pure (ps.zip [a0,a1,a2,a3])):bindArgs fd { pos:=us }=pure (ps.zip us):=match us,hl with | [a0,a1,a2,a3],_=>h a0 a1 a2 a3
end J
namespace K19
open PySem J
open L2 (defScope defBody defArgs FnScope CX0 FnOk XK Hp)
def top (i:Nat):Stmt:=PySem.Challenge.pw_onelook_k19_areas_looked_at.main.body.getD i (.Pass ⟨0,0,0,0⟩)
def k6:Tab:=[]
def jP:vi:=[]
def eC:Dc:=[("num",.int 0),("text",.int 0),("lost",.int 0),("at",.int 0),("minus",.int 1),("not",.int 1),("+",.int 2),("-",.int 2),("*",.int 2),("/",.int 2),("&",.int 2),("<",.int 2),("=",.int 2),("rest",.int 2),("if",.int 3),("else",.int 2),("sum",.int 0),("count",.int 0),("least",.int 0),("greatest",.int 0),("find",.int 1)]
def Cv:Tab:=[]
def cB(s:Stmt)(n b:List Str)(f:List (Str×Nat×(List Wv->Hs->Re Wv))):Ct:={ N:=n,names:=(defScope s).names,consts:=[],bl:=b,fns:=f,tb:=k6,tt:=jP,tc:=Cv }
theorem iP{N P:List Str}{sc:Scope}(h:sc.kind= .function/\sc.isCoroutine=false/\sc.isGenerator=false/\N.take P.length=P)(k:N.Nodup/\(∀x∈P,sc.names.lookup x=some .local\/sc.names.lookup x=some .cell)/\∀y∈sc.names,y.2≠.free):FnScope N P sc:=⟨h.1,h.2.1,h.2.2.1,k.1,h.2.2.2,k.2.1,k.2.2⟩
abbrev dQ:Stmt:=top 33
def fB:GS:=(aF (e8 (bG (aj oLt (ag 1) (bt iH (af (ag 0) ak)))) (aQ (aj ba (ag 0) (ag 1))) aW)
  (aQ (gC (.int 0))))
def bf:List Wv->Hs->Re Wv:=b7 2 fB
def fD:Ct:=cB dQ ["script","k"] ["len"] []
theorem ow:a_ 30 (fD) (defBody dQ)=fB:=by kernel_rfl
theorem my:FnScope (fD).N ["script","k"] (defScope dQ):=iP ⟨rfl,rfl,rfl,rfl⟩ (by decide+kernel)
abbrev fW:Stmt:=top 44
def iQ:GS:=(aF (a9 1 (aj eS (aD 2 bf (af (ag 0) (af (gC (.int 0)) ak))) (gC (.int 2))))
  (aF (a9 2 (aj ba (dY (af (gC (.int 0)) (af (aj oMod (aj eS (ag 1) (gC (.int 4))) (gC (.int 97))) ak))) (aj oMod (ag 1) (gC (.int 2)))))
  (aQ (a4 (af (ag 2) (af (aj ba (dY (af (gC (.int 0)) (af (aj oMod (aj eS (ag 1) (gC (.int 400))) (gC (.int 23))) ak))) (aj oMod (aj eS (ag 1) (gC (.int 2))) (gC (.int 2)))) ak))))))
def eI:List Wv->Hs->Re Wv:=b7 3 iQ
def iR:Ct:=cB fW ["script","first","down"] [] [("_law_cell_at",2,bf)]
theorem tV:a_ 30 (iR) (defBody fW)=iQ:=by kernel_rfl
theorem rD:FnScope (iR).N ["script"] (defScope fW):=iP ⟨rfl,rfl,rfl,rfl⟩ (by decide+kernel)
abbrev fc:Stmt:=top 36
def gY:GS:=(aF (a9 2 (aj oMod (aj ba (ag 0) (gC (.int 0))) (ag 1)))
  (aF (w8 (aj eS (aj ba (ag 0) (gC (.int 0))) (ag 1)) (ag 0) (gC (.int 0)))
  (aQ (ag 2))))
def aA:List Wv->Hs->Re Wv:=b7 3 gY
def gZ:Ct:=cB fc ["row","many","digit"] [] []
theorem rE:a_ 30 (gZ) (defBody fc)=gY:=by kernel_rfl
theorem oY:FnScope (gZ).N ["row","many"] (defScope fc):=iP ⟨rfl,rfl,rfl,rfl⟩ (by decide+kernel)
abbrev fe:Stmt:=top 46
def g_:GS:=(aF (a9 1 (aD 2 aA (af (ag 0) (af (gC (.int 8)) ak))))
  (aF (e8 (bG (aj oEq (ag 1) (gC (.int 0)))) (aQ (gC .non)) aW)
  (aF (e8 (bG (aj oEq (ag 1) (gC (.int 1)))) (aQ (a4 (af (gC (.str "fault")) (af (aj ba (dY (af (gC (.str "kind")) (af (gC (.str "great")) (af (gC (.str "nought")) (af (gC (.str "none")) (af (gC (.str "lost")) ak)))))) (aD 2 aA (af (ag 0) (af (gC (.int 5)) ak)))) ak)))) aW)
  (aF (e8 (bG (aj oEq (ag 1) (gC (.int 2)))) (aQ (aj ba (dY (af (gC (.str "")) (af (gC (.str "a")) (af (gC (.str "b7")) (af (gC (.str "no")) (af (aj cK (gC (.str "a")) (gC (.int 199))) (af (gC (.str "-1")) ak))))))) (aD 2 aA (af (ag 0) (af (gC (.int 6)) ak))))) aW)
  (aF (e8 (bG (aj oEq (ag 1) (gC (.int 3)))) (aQ (aj nN (aD 2 aA (af (ag 0) (af (aj bB (aj cK (gC (.int 2)) (aj gS (gC (.int 10)) (gC (.int 60)))) (gC (.int 1))) ak))) (aj gS (gC (.int 10)) (gC (.int 60))))) aW)
  (aF (e8 (bG (aj oEq (ag 1) (gC (.int 4)))) (aQ (aj ba (dY (af (aj gS (gC (.int 10)) (gC (.int 60))) (af (wY fR (aj gS (gC (.int 10)) (gC (.int 60)))) (af (aj gS (gC (.int 10)) (gC (.int 30))) (af (aj nN (gC (.int 1)) (aj gS (gC (.int 10)) (gC (.int 60)))) ak))))) (aD 2 aA (af (ag 0) (af (gC (.int 4)) ak))))) aW)
  (aQ (aj nN (aD 2 aA (af (ag 0) (af (gC (.int 7)) ak))) (gC (.int 3))))))))))
def dR:List Wv->Hs->Re Wv:=b7 2 g_
def hG:Ct:=cB fe ["row","way"] [] [("_law_digit",2,aA)]
theorem rF:a_ 30 (hG) (defBody fe)=g_:=by kernel_rfl
theorem oZ:FnScope (hG).N ["row"] (defScope fe):=iP ⟨rfl,rfl,rfl,rfl⟩ (by decide+kernel)
abbrev ff:Stmt:=top 34
def hI:GS:=(aF (a9 2 (aj oMod (aj cK (aj bB (aj bB (aj oMod (ag 0) (gC (.int 1000000007))) (aj cK (gC (.int 7919)) (ag 1))) (gC (.int 1))) (gC (.int 48271))) (gC (.int 2147483647))))
  (aQ (aj oMod (aj cK (aj oMod (aj cK (ag 2) (ag 2)) (gC (.int 2147483629))) (gC (.int 69621))) (gC (.int 2147483647)))))
def dS:List Wv->Hs->Re Wv:=b7 3 hI
def hJ:Ct:=cB ff ["cell","k","stir"] [] []
theorem rG:a_ 30 (hJ) (defBody ff)=hI:=by kernel_rfl
theorem o_:FnScope (hJ).N ["cell","k"] (defScope ff):=iP ⟨rfl,rfl,rfl,rfl⟩ (by decide+kernel)
abbrev eD:Stmt:=top 35
def cR:GS:=(aF (a9 5 (aD 2 dS (af (aj bB (ag 2) (bt yH (af (ag 0) ak))) (af (aj bB (aj cK (gC (.int 8)) (ag 1)) (ag 3)) ak))))
  (a9 4 (aj bB (aj cK (ag 4) (gC (.int 2147483647))) (ag 5))))
def bH:GS:=(a9 2 (aj bB (aj cK (ag 2) (aj gS (gC (.int 10)) (gC (.int 60)))) (aj oMod (aj ba (ag 0) (ag 3)) (aj gS (gC (.int 10)) (gC (.int 60))))))
def gj:GS:=(aF (a9 2 (gC (.int 0)))
  (aF (oe 3 (af (aj bB (ag 1) (gC (.int 1))) (af (bt iH (af (ag 0) ak)) (af (gC (.int 13)) ak))) bH)
  (aF (e8 (bG (aj oEq (aj oMod (aD 2 bf (af (ag 0) (af (gC (.int 0)) ak))) (gC (.int 2))) (gC (.int 1)))) (aQ (dY (af (ag 2) ak))) aW)
  (aF (a9 4 (gC (.int 0)))
  (aF (nV 3 (af (gC (.int 8)) ak) cR)
  (aQ (dY (af (aj eS (ag 4) (gC (.int 8))) ak))))))))
def dg:List Wv->Hs->Re Wv:=b7 6 gj
def gq:Ct:=cB eD ["script","k","cell","j","found","drawn"] ["range","len","sum"] [("_law_mixed",2,dS),("_law_cell_at",2,bf)]
theorem pb:a_ 30 (gq) (defBody eD)=gj:=by kernel_rfl
theorem oy:FnScope (gq).N ["script","k"] (defScope eD):=iP ⟨rfl,rfl,rfl,rfl⟩ (by decide+kernel)
abbrev fg:Stmt:=top 47
def bC:GS:=(aF (a9 6 (a4 (af (aj bB (aj ba (ag 1) (gC (.int 0))) (aj eS (ag 5) (gC (.int 4)))) (af (aj bB (aj ba (ag 1) (gC (.int 1))) (aj oMod (ag 5) (gC (.int 4)))) ak))))
  (aF (a9 7 (aD 1 dR (af (ag 2) ak)))
  (e8 (bG (aj oEq (aD 2 aA (af (ag 2) (af (gC (.int 6)) ak))) (gC (.int 0)))) (nP (jC jv (ag 4) (ag 6))) (e8 (Dp (bG (aj kF (ag 7) (gC .non))) (bG (aj oEq (aD 2 aA (af (ag 2) (af (gC (.int 2)) ak))) (gC (.int 0))))) (oa (ag 7) (ag 3) (ag 6)) aW))))
def hR:GS:=(aF (a9 2 (dY (af (aj bB (aj ba (aD 2 dg (af (ag 0) (af (gC (.int 40)) ak))) (gC (.int 0))) (aj oMod (aD 2 bf (af (ag 0) (af (gC (.int 2)) ak))) (aj gS (gC (.int 10)) (gC (.int 60))))) ak)))
  (aF (a9 3 s_)
  (aF (a9 4 (dY ak))
  (aF (nV 5 (af (gC (.int 12)) ak) bC)
  (aQ (a4 (af (ag 3) (af (ag 4) ak))))))))
def cm:List Wv->Hs->Re Wv:=b7 8 hR
def hU:Ct:={ cB fg ["script","spot","row","worths","waiting","k","place","worth"] ["range"] [("_law_worth",1,dR),("_law_digit",2,aA),("_law_stream",2,dg),("_law_cell_at",2,bf)] with sd:=["worths"] }
theorem rH:a_ 30 (hU) (defBody fg)=hR:=by kernel_rfl
theorem pe:FnScope (hU).N ["script","spot"] (defScope fg):=iP ⟨rfl,rfl,rfl,rfl⟩ (by decide+kernel)
abbrev fX:Stmt:=top 38
def iS:GS:=(aF (a9 2 (aD 2 aA (af (ag 0) (af (gC (.int 3)) ak))))
  (aF (a9 3 (aD 2 aA (af (ag 0) (af (gC (.int 4)) ak))))
  (aF (a9 4 (aj bB (ag 2) (aD 2 aA (af (ag 0) (af (aj nN (gC (.int 3)) (ag 2)) ak)))))
  (aF (a9 5 (aj bB (ag 3) (aD 2 aA (af (ag 0) (af (aj nN (gC (.int 4)) (ag 3)) ak)))))
  (aF (iK [6,7] (ag 1))
  (aQ (a4 (af (aj bB (ag 6) (ag 2)) (af (aj bB (ag 7) (ag 3)) (af (aj bB (ag 6) (ag 4)) (af (aj bB (ag 7) (ag 5)) ak)))))))))))
def eJ:List Wv->Hs->Re Wv:=b7 8 iS
def iT:Ct:=cB fX ["row","spot","top","left","bottom","right","down","across"] [] [("_law_digit",2,aA)]
theorem tW:a_ 30 (iT) (defBody fX)=iS:=by kernel_rfl
theorem rJ:FnScope (iT).N ["row","spot"] (defScope fX):=iP ⟨rfl,rfl,rfl,rfl⟩ (by decide+kernel)
abbrev cS:Stmt:=L2.inClass (top 22) 0
def d_:GS:=(aF (jD "Look" "worths" (ag 1) (ag 0))
  (aF (jD "Look" "waiting" (ag 2) (ag 0))
  (jD "Look" "met" xo (ag 0))))
def bo:List Wv->Hs->Re Wv:=b7 3 d_
def eh:Ct:={ cB cS ["self","worths","waiting"] [] [] with it:={ c:="Look",xq:=[],ini:=[],own:=["worths","waiting","met"] },Gh:=["met"] }
theorem lI:a_ 30 (eh) (defBody cS)=d_:=by kernel_rfl
theorem kK:FnScope (eh).N ["self","worths","waiting"] (defScope cS):=iP ⟨rfl,rfl,rfl,rfl⟩ (by decide+kernel)
abbrev fY:Stmt:=top 4
def iU:GS:=(aQ (xm eC (ag 0)))
def eK:List Wv->Hs->Re Wv:=b7 1 iU
def iV:Ct:={ cB fY ["word"] [] [] with y3:=[("PART_COUNTS",eC)] }
theorem tX:a_ 30 (iV) (defBody fY)=iU:=by kernel_rfl
theorem rK:FnScope (iV).N ["word"] (defScope fY):=iP ⟨rfl,rfl,rfl,rfl⟩ (by decide+kernel)
abbrev hV:Stmt:=top 5
def jQ:GS:=(aQ (fb (ag 0) (kl (gC (.int 1))) (kl (aj bB (gC (.int 1)) (aD 1 eK (af (aj ba (ag 0) (gC (.int 0))) ak))))))
def dF:List Wv->Hs->Re Wv:=b7 1 jQ
def jR:Ct:=cB hV ["formula"] [] [("part_many",1,eK)]
theorem vQ:a_ 30 (jR) (defBody hV)=jQ:=by kernel_rfl
theorem tY:FnScope (jR).N ["formula"] (defScope hV):=iP ⟨rfl,rfl,rfl,rfl⟩ (by decide+kernel)
abbrev cT:Stmt:=top 1
def cL:GT:=(λ_ st=> .ok true st)
def bQ:GE:=(a4 (af (ag 1) (af (ag 0) ak)))
def bX:GS:=(nP (jC tw (ag 1) (fS [("row",2)] (qT (af (aj ba (ag 0) (gC (.int 1))) (af (aj bB (aj ba (ag 0) (gC (.int 3))) (gC (.int 1))) ak))) cL bQ)))
def cU:GS:=(aF (a9 1 (dY ak))
  (aF (nW 2 (af (aj ba (ag 0) (gC (.int 0))) (af (aj bB (aj ba (ag 0) (gC (.int 2))) (gC (.int 1))) ak)) bX)
  (aQ (ag 1))))
def b8:List Wv->Hs->Re Wv:=b7 3 cU
def ei:Ct:=cB cT ["area","places","row"] ["range"] []
theorem lJ:a_ 30 (ei) (defBody cT)=cU:=by kernel_rfl
theorem kL:FnScope (ei).N ["area"] (defScope cT):=iP ⟨rfl,rfl,rfl,rfl⟩ (by decide+kernel)
abbrev cV:Stmt:=L2.inClass (top 22) 1
def eo:GS:=(aQ (qJ (bG (aj (fM false) (ag 1) (gF "Look" "waiting" (ag 0)))) (a4 (af (gC (.str "waits")) (af (ag 1) ak))) (jL (gF "Look" "worths" (ag 0)) (ag 1))))
def aY:List Wv->Hs->Re Wv:=b7 2 eo
def et:Ct:={ cB cV ["self","place"] [] [] with sd:=["worths"],it:={ c:="Look",xq:=[],ini:=[],own:=["worths","waiting"] },uB:=["waiting"] }
theorem lK:a_ 30 (et) (defBody cV)=eo:=by kernel_rfl
theorem kM:FnScope (et).N ["self","place"] (defScope cV):=iP ⟨rfl,rfl,rfl,rfl⟩ (by decide+kernel)
abbrev mV:Stmt:=top 23
def xE:GS:=(aQ (bt (lh k6 jP) (af (ag 0) (af (gC (.ty "tuple")) ak))))
def bY:List Wv->Hs->Re Wv:=b7 1 xE
def rL:Ct:=cB mV ["standing"] ["isinstance","tuple"] []
theorem Fw:a_ 30 (rL) (defBody mV)=xE:=by kernel_rfl
theorem Cw:FnScope (rL).N ["standing"] (defScope mV):=iP ⟨rfl,rfl,rfl,rfl⟩ (by decide+kernel)
abbrev hX:Stmt:=top 9
def oz:GS:=(aQ (pJ (bt (lh k6 jP) (af (ag 0) (af (gC (.ty "tuple")) ak))) (aj oEq (fb (ag 0) gT (kl (gC (.int 1)))) (a4 (af (gC (.str "fault")) ak)))))
def bD:List Wv->Hs->Re Wv:=b7 1 oz
def jS:Ct:=cB hX ["worth"] ["isinstance","tuple"] []
theorem vR:a_ 30 (jS) (defBody hX)=oz:=by kernel_rfl
theorem tZ:FnScope (jS).N ["worth"] (defScope hX):=iP ⟨rfl,rfl,rfl,rfl⟩ (by decide+kernel)
abbrev fh:Stmt:=top 12
def kN:GS:=(aF (e8 (Dp (dC (aD 1 bD (af (ag 0) ak))) (dC (aD 1 bD (af (ag 1) ak)))) (aQ (gC (.bl false))) aW)
  (aF (e8 (bG (aj Ef (ag 0) (gC .non))) (aQ (aj Br (ag 1) (a4 (af (gC .non) (af (gC (.int 0)) (af (gC (.str "")) ak)))))) aW)
  (aF (e8 (bG (aj Ef (ag 1) (gC .non))) (aQ (aj Br (ag 0) (a4 (af (gC (.int 0)) (af (gC (.str "")) ak))))) aW)
  (aQ (aj oEq (ag 0) (ag 1))))))
def bR:List Wv->Hs->Re Wv:=b7 2 kN
def hZ:Ct:=cB fh ["one","other"] [] [("is_fault",1,bD)]
theorem rM:a_ 30 (hZ) (defBody fh)=kN:=by kernel_rfl
theorem pf:FnScope (hZ).N ["one","other"] (defScope fh):=iP ⟨rfl,rfl,rfl,rfl⟩ (by decide+kernel)
abbrev rN:Stmt:=top 24
def vS:GS:=(aQ (pJ (aj kF (ag 1) (gC .non)) (pJ (aj kF (ag 0) (gC .non)) (aD 2 bR (af (ag 0) (af (ag 1) ak))))))
def jT:List Wv->Hs->Re Wv:=b7 2 vS
def vT:Ct:=cB rN ["standing","key"] [] [("same_worth",2,bR)]
theorem Kg:a_ 30 (vT) (defBody rN)=vS:=by kernel_rfl
theorem Fx:FnScope (vT).N ["standing","key"] (defScope rN):=iP ⟨rfl,rfl,rfl,rfl⟩ (by decide+kernel)
abbrev dn:Stmt:=L2.inClass (top 22) 3
def bK:GS:=(aF (nP (jC jv (ag 3) (jy "Look" "standing" 2 aY (ag 0) (af (ag 4) ak))))
  (e8 (Dp (dC (aD 1 bY (af (aj ba (ag 3) (wY fR (gC (.int 1)))) ak))) (dC (aD 2 jT (af (aj ba (ag 3) (wY fR (gC (.int 1)))) (af (ag 2) ak))))) (aF (jE (gC (.bl true)) (gF "Look" "met" (ag 0)) (a4 (af (gC (.str "part")) (af (ag 1) (af (ag 4) ak)))))
    (aQ (ag 3))) aW))
def eO:GS:=(aF (a9 3 (dY ak))
  (aF (mv 4 (aD 1 b8 (af (ag 1) ak)) bK)
  (aF (jE (gC (.bl true)) (gF "Look" "met" (ag 0)) (a4 (af (gC (.str "part")) (af (ag 1) (af (fb (ag 1) (kl (gC (.int 2))) gT) ak)))))
  (aQ (ag 3)))))
def a6:List Wv->Hs->Re Wv:=b7 5 eO
def eP:Ct:={ cB dn ["self","area","key","standings","place"] [] [("places_between",1,b8),("halts",1,bY),("fits",2,jT)] with it:={ c:="Look",xq:=[("standing",2,aY)],ini:=[],own:=["met"] },Gh:=["met"] }
theorem mz:a_ 30 (eP) (defBody dn)=eO:=by kernel_rfl
theorem lL:FnScope (eP).N ["self","area","key"] (defScope dn):=iP ⟨rfl,rfl,rfl,rfl⟩ (by decide+kernel)
abbrev h8:Stmt:=top 10
def jU:GS:=(aQ (aj Ow (bt En (af (ag 0) ak)) (aj gS (gC (.int 10)) (gC (.int 60)))))
def fF:List Wv->Hs->Re Wv:=b7 1 jU
def jV:Ct:=cB h8 ["number"] ["abs"] []
theorem vU:a_ 30 (jV) (defBody h8)=jU:=by kernel_rfl
theorem t8:FnScope (jV).N ["number"] (defScope h8):=iP ⟨rfl,rfl,rfl,rfl⟩ (by decide+kernel)
abbrev mW:Stmt:=top 8
def xF:GS:=(aQ (a4 (af (gC (.str "fault")) (af (ag 0) ak))))
def cq:List Wv->Hs->Re Wv:=b7 1 xF
def rO:Ct:=cB mW ["word"] [] []
theorem Fy:a_ 30 (rO) (defBody mW)=xF:=by kernel_rfl
theorem Cy:FnScope (rO).N ["word"] (defScope mW):=iP ⟨rfl,rfl,rfl,rfl⟩ (by decide+kernel)
abbrev jq:Stmt:=top 11
def lM:GS:=(aQ (qJ (dC (aD 1 fF (af (ag 0) ak))) (aD 1 cq (af (gC (.str "great")) ak)) (ag 0)))
def cW:List Wv->Hs->Re Wv:=b7 1 lM
def lN:Ct:=cB jq ["number"] [] [("is_great",1,fF),("fault",1,cq)]
theorem zi:a_ 30 (lN) (defBody jq)=lM:=by kernel_rfl
theorem vV:FnScope (lN).N ["number"] (defScope jq):=iP ⟨rfl,rfl,rfl,rfl⟩ (by decide+kernel)
abbrev h_:Stmt:=top 20
def fG:GT:=(dC (bt (lh k6 jP) (af (ag 0) (af (gC (.ty "int")) ak))))
def iW:GE:=(ag 0)
def fH:GT:=(dC (aD 1 bD (af (ag 0) ak)))
def iX:GE:=(ag 0)
def ia:GS:=(aF (a9 2 (fS [] (gX (ag 1)) fH iX))
  (aF (e8 (dC (ag 2)) (aQ (aj ba (ag 2) (gC (.int 0)))) aW)
  (aF (a9 3 (fS [] (gX (ag 1)) fG iW))
  (aF (e8 (bG (aj oEq (ag 0) (gC (.str "sum")))) (aQ (aD 1 cW (af (bt yH (af (ag 3) ak)) ak))) aW)
  (aF (e8 (bG (aj oEq (ag 0) (gC (.str "count")))) (aQ (bt iH (af (ag 3) ak))) aW)
  (aF (e8 (vb (dC (ag 3))) (aQ (aD 1 cq (af (gC (.str "none")) ak))) aW)
  (aQ (aD 1 cW (af (qJ (bG (aj oEq (ag 0) (gC (.str "least")))) (bt mh (af (ag 3) ak)) (bt mf (af (ag 3) ak))) ak)))))))))
def cM:List Wv->Hs->Re Wv:=b7 4 ia
def jW:Ct:=cB h_ ["word","worths","faults","numbers"] ["len","isinstance","int","sum","min","max"] [("bounded",1,cW),("fault",1,cq),("is_fault",1,bD)]
theorem vW:a_ 30 (jW) (defBody h_)=ia:=by kernel_rfl
theorem t9:FnScope (jW).N ["word","worths"] (defScope h_):=iP ⟨rfl,rfl,rfl,rfl⟩ (by decide+kernel)
abbrev bZ:Stmt:=top 29
def b0:GS:=(aF (a9 3 (jy "Look" "stretch" 3 a6 (ag 2) (af (ag 1) (af (gC .non) ak))))
  (aQ (qJ (dC (aD 1 bY (af (aj ba (ag 3) (wY fR (gC (.int 1)))) ak))) (aj ba (ag 3) (wY fR (gC (.int 1)))) (aD 2 cM (af (ag 0) (af (ag 3) ak))))))
def bh:List Wv->Hs->Re Wv:=b7 4 b0
def c_:Ct:={ cB bZ ["word","area","look","standings"] [] [("halts",1,bY),("gathered",2,cM)] with it:={ c:="Look",xq:=[("stretch",3,a6)],ini:=[],own:=[] } }
theorem jz:a_ 30 (c_) (defBody bZ)=b0:=by kernel_rfl
theorem iY:FnScope (c_).N ["word","area","look"] (defScope bZ):=iP ⟨rfl,rfl,rfl,rfl⟩ (by decide+kernel)
abbrev fi:Stmt:=L2.inClass (top 22) 2
def ib:GS:=(aF (jE (gC (.bl true)) (gF "Look" "met" (ag 0)) (a4 (af (gC (.str "at")) (af (ag 1) ak))))
  (aQ (jy "Look" "standing" 2 aY (ag 0) (af (ag 1) ak))))
def bF:List Wv->Hs->Re Wv:=b7 2 ib
def ic:Ct:={ cB fi ["self","place"] [] [] with it:={ c:="Look",xq:=[("standing",2,aY)],ini:=[],own:=["met"] },Gh:=["met"] }
theorem rP:a_ 30 (ic) (defBody fi)=ib:=by kernel_rfl
theorem ph:FnScope (ic).N ["self","place"] (defScope fi):=iP ⟨rfl,rfl,rfl,rfl⟩ (by decide+kernel)
abbrev fZ:Stmt:=top 13
def ml:GS:=(aQ (qJ (bG (aj Ef (ag 0) (gC .non))) (gC (.int 0)) (ag 0)))
def f7:List Wv->Hs->Re Wv:=b7 1 ml
def iZ:Ct:=cB fZ ["worth"] [] []
theorem t_:a_ 30 (iZ) (defBody fZ)=ml:=by kernel_rfl
theorem rQ:FnScope (iZ).N ["worth"] (defScope fZ):=iP ⟨rfl,rfl,rfl,rfl⟩ (by decide+kernel)
abbrev kO:Stmt:=top 15
def oA:GS:=(aF (e8 (dC (aD 1 bD (af (ag 1) ak))) (aQ (ag 1)) aW)
  (aF (e8 (dC (bt (lh k6 jP) (af (ag 1) (af (gC (.ty "str")) ak)))) (aQ (aD 1 cq (af (gC (.str "kind")) ak))) aW)
  (aF (a9 2 (aD 1 f7 (af (ag 1) ak)))
  (aF (e8 (bG (aj oEq (ag 0) (gC (.str "minus")))) (aQ (aD 1 cW (af (wY fR (ag 2)) ak))) aW)
  (aQ (qJ (bG (aj oEq (ag 2) (gC (.int 0)))) (gC (.int 1)) (gC (.int 0))))))))
def i5:List Wv->Hs->Re Wv:=b7 3 oA
def oB:Ct:=cB kO ["word","one","number"] ["isinstance","str"] [("is_fault",1,bD),("number_of",1,f7),("fault",1,cq),("bounded",1,cW)]
theorem Cz:a_ 30 (oB) (defBody kO)=oA:=by kernel_rfl
theorem zj:FnScope (oB).N ["word","one"] (defScope kO):=iP ⟨rfl,rfl,rfl,rfl⟩ (by decide+kernel)
abbrev dq:Stmt:=top 30
def dt(ax ao au:List Wv->Hs->Re Wv):GS:=(aF (a9 2 (aD 2 au (af (aj ba (ag 0) (gC (.int 1))) (af (ag 1) ak))))
  (aF (e8 (dC (aD 1 bY (af (ag 2) ak))) (aQ (ag 2)) aW)
  (aF (e8 (bG (aj Ef (ag 2) (gC .non))) (aQ (aD 1 cq (af (gC (.str "none")) ak))) aW)
  (aF (a9 3 (aj ba (ag 0) (gC (.int 2))))
  (aF (a9 4 (jy "Look" "stretch" 3 a6 (ag 1) (af (a4 (af (aj ba (ag 3) (gC (.int 0))) (af (aj ba (ag 3) (gC (.int 1))) (af (aj ba (ag 3) (gC (.int 2))) (af (aj ba (ag 3) (gC (.int 1))) ak))))) (af (ag 2) ak))))
  (aF (e8 (dC (aD 1 bY (af (aj ba (ag 4) (wY fR (gC (.int 1)))) ak))) (aQ (aj ba (ag 4) (wY fR (gC (.int 1))))) aW)
  (aF (e8 (vb (dC (aD 2 jT (af (aj ba (ag 4) (wY fR (gC (.int 1)))) (af (ag 2) ak))))) (aQ (aD 1 cq (af (gC (.str "none")) ak))) aW)
  (aQ (jy "Look" "cell" 2 bF (ag 1) (af (a4 (af (aj nN (aj bB (aj ba (ag 3) (gC (.int 0))) (bt iH (af (ag 4) ak))) (gC (.int 1))) (af (aj ba (ag 3) (gC (.int 3))) ak))) ak))))))))))
def iu(ax ao au:List Wv->Hs->Re Wv):Ct where
  N:=["formula","look","key","area","standings"]
  names:=(defScope dq).names
  consts:=[]
  bl:=["len"]
  fns:=[("gone_through",2,au),("halts",1,bY),("fault",1,cq),("fits",2,jT)]
  tb:=k6
  tt:=jP
  tc:=Cv
  it:={ c:="Look",xq:=[("stretch",3,a6),("cell",2,bF)],ini:=[],own:=[] }
theorem mB(ax ao au:List Wv->Hs->Re Wv):a_ 30 (iu ax ao au) (defBody dq)=dt ax ao au:=by kernel_rfl
theorem lO(ax ao au:List Wv->Hs->Re Wv):FnScope ["formula","look","key","area","standings"] ["formula","look"] (defScope dq):=iP ⟨rfl,rfl,rfl,rfl⟩ (by decide+kernel)
abbrev b4:Stmt:=top 26
def cu(ax ao au:List Wv->Hs->Re Wv):GS:=(aF (nP (jC jv (ag 2) (aD 2 au (af (ag 3) (af (ag 1) ak)))))
  (e8 (dC (aD 1 bY (af (aj ba (ag 2) (wY fR (gC (.int 1)))) ak))) (aQ (aj ba (ag 2) (wY fR (gC (.int 1))))) aW))
def b5(ax ao au:List Wv->Hs->Re Wv):GS:=(aF (a9 2 (dY ak))
  (aF (mv 3 (aD 1 dF (af (ag 0) ak)) (cu ax ao au))
  (aF (e8 (bG (aj oEq (bt iH (af (ag 2) ak)) (gC (.int 1)))) (aQ (aD 2 i5 (af (aj ba (ag 0) (gC (.int 0))) (af (aj ba (ag 2) (gC (.int 0))) ak)))) aW)
  (aQ bJ))))
def eV(ax ao au:List Wv->Hs->Re Wv):Ct where
  N:=["formula","look","standings","part"]
  names:=(defScope b4).names
  consts:=[]
  bl:=["len"]
  fns:=[("parts_of",1,dF),("halts",1,bY),("single",2,i5),("gone_through",2,au)]
  tb:=k6
  tt:=jP
  tc:=Cv
theorem jA(ax ao au:List Wv->Hs->Re Wv):a_ 30 (eV ax ao au) (defBody b4)=b5 ax ao au:=by kernel_rfl
theorem i6(ax ao au:List Wv->Hs->Re Wv):FnScope ["formula","look","standings","part"] ["formula","look"] (defScope b4):=iP ⟨rfl,rfl,rfl,rfl⟩ (by decide+kernel)
abbrev dU:Stmt:=top 25
def bg(ax ao au:List Wv->Hs->Re Wv):GS:=(aF (a9 2 (aj ba (ag 0) (gC (.int 0))))
  (aF (e8 (Dp (bG (aj oEq (ag 2) (gC (.str "num")))) (bG (aj oEq (ag 2) (gC (.str "text"))))) (aQ (aj ba (ag 0) (gC (.int 1)))) aW)
  (aF (e8 (bG (aj oEq (ag 2) (gC (.str "lost")))) (aQ (aD 1 cq (af (gC (.str "lost")) ak))) aW)
  (aF (e8 (bG (aj oEq (ag 2) (gC (.str "at")))) (aQ (jy "Look" "cell" 2 bF (ag 1) (af (aj ba (ag 0) (gC (.int 1))) ak))) aW)
  (aF (e8 (bG (aj oEq (ag 2) (gC (.str "if")))) (aQ bJ) aW)
  (aF (e8 (bG (aj oEq (ag 2) (gC (.str "else")))) (aQ bJ) aW)
  (aF (e8 (bG (aj oEq (ag 2) (gC (.str "find")))) (aQ (aD 2 ax (af (ag 0) (af (ag 1) ak)))) aW)
  (aF (e8 (dC (aD 1 dF (af (ag 0) ak))) (aQ (aD 2 ao (af (ag 0) (af (ag 1) ak)))) aW)
  (aQ (aD 3 bh (af (ag 2) (af (aj ba (ag 0) (gC (.int 1))) (af (ag 1) ak)))))))))))))
def i7(ax ao au:List Wv->Hs->Re Wv):Ct where
  N:=["formula","look","word"]
  names:=(defScope dU).names
  consts:=[]
  bl:=[]
  fns:=[("parts_of",1,dF),("gathered_standing",3,bh),("fault",1,cq),("find_standing",2,ax),("reckoned_standing",2,ao)]
  tb:=k6
  tt:=jP
  tc:=Cv
  it:={ c:="Look",xq:=[("cell",2,bF)],ini:=[],own:=[] }
theorem oC(ax ao au:List Wv->Hs->Re Wv):a_ 30 (i7 ax ao au) (defBody dU)=bg ax ao au:=by kernel_rfl
theorem mC(ax ao au:List Wv->Hs->Re Wv):FnScope ["formula","look","word"] ["formula","look"] (defScope dU):=iP ⟨rfl,rfl,rfl,rfl⟩ (by decide+kernel)
def aK:Nat->(List Wv->Hs->Re Wv)×(List Wv->Hs->Re Wv)×(List Wv->Hs->Re Wv)
  | 0=>(EZ,EZ,EZ)
  | n+1=>(b7 5 (dt ((aK n).1) ((aK n).2.1) ((aK n).2.2)),b7 4 (b5 ((aK n).1) ((aK n).2.1) ((aK n).2.2)),b7 3 (bg ((aK n).1) ((aK n).2.1) ((aK n).2.2)))
def aB(n:Nat):List Wv->Hs->Re Wv:=(aK n).1
def av(n:Nat):List Wv->Hs->Re Wv:=(aK n).2.1
def az(n:Nat):List Wv->Hs->Re Wv:=(aK n).2.2
theorem i8(n:Nat):aB (n+1)=b7 5 (dt (aB n) (av n) (az n)):=rfl
def ax:List Wv->Hs->Re Wv:=aB 6
theorem gw(n:Nat):av (n+1)=b7 4 (b5 (aB n) (av n) (az n)):=rfl
def ao:List Wv->Hs->Re Wv:=av 6
theorem bj(n:Nat):az (n+1)=b7 3 (bg (aB n) (av n) (az n)):=rfl
def au:List Wv->Hs->Re Wv:=az 6
abbrev jr:Stmt:=top 31
def lP:GS:=(aF (a9 3 (xp "Look" 3 bo (af (ag 1) (af (ag 2) ak))))
  (aF (a9 4 (aD 2 au (af (ag 0) (af (ag 3) ak))))
  (aF (a9 5 (bt p_ (af (gF "Look" "met" (ag 3)) ak)))
  (aF (e8 (yv (dC (aD 1 bY (af (ag 4) ak))) (vb (dC (aD 1 bD (af (ag 4) ak))))) (aQ (a4 (af (gC (.str "waits")) (af (aj ba (ag 4) (gC (.int 1))) (af (ag 5) ak))))) aW)
  (aQ (a4 (af (gC (.str "worth")) (af (ag 4) (af (ag 5) ak)))))))))
def b9:List Wv->Hs->Re Wv:=b7 6 lP
def lQ:Ct:={ cB jr ["formula","worths","waiting","look","standing","reads"] ["tuple"] [("gone_through",2,au),("halts",1,bY),("is_fault",1,bD)] with it:={ c:="Look",xq:=[],ini:=[("Look",3,bo)],own:=["met"] },Gh:=["met"] }
theorem zk:a_ 30 (lQ) (defBody jr)=lP:=by kernel_rfl
theorem vX:FnScope (lQ).N ["formula","worths","waiting"] (defScope jr):=iP ⟨rfl,rfl,rfl,rfl⟩ (by decide+kernel)
abbrev fj:Stmt:=top 37
def ie:GS:=(aQ (a4 (af (aj bB (aj ba (ag 1) (gC (.int 0))) (aD 2 aA (af (ag 0) (af (gC (.int 3)) ak)))) (af (aj bB (aj ba (ag 1) (gC (.int 1))) (aD 2 aA (af (ag 0) (af (gC (.int 4)) ak)))) ak))))
def cX:List Wv->Hs->Re Wv:=b7 2 ie
def ig:Ct:=cB fj ["row","spot"] [] [("_law_digit",2,aA)]
theorem rR:a_ 30 (ig) (defBody fj)=ie:=by kernel_rfl
theorem pj:FnScope (ig).N ["row","spot"] (defScope fj):=iP ⟨rfl,rfl,rfl,rfl⟩ (by decide+kernel)
abbrev f9:Stmt:=top 48
def cN:GS:=(aF (a9 5 (dO (ag 1) (ag 4) (gC .non)))
  (aF (e8 (Dp (bG (aj (fM false) (ag 4) (ag 2))) (dC (bt (lh k6 jP) (af (ag 5) (af (gC (.ty "tuple")) ak))))) (aQ (ag 4)) aW)
  (e8 (yv (bG (aj kF (ag 3) (gC .non))) (yv (bG (aj kF (ag 5) (gC .non))) (dC (aD 2 bR (af (ag 5) (af (ag 3) ak)))))) (aQ (ag 4)) aW)))
def i9:GS:=(aF (mv 4 (ag 0) cN)
  (aQ (aj ba (ag 0) (aj nN (bt pW (af (ag 0) ak)) (gC (.int 1))))))
def cg:List Wv->Hs->Re Wv:=b7 6 i9
def i_:Ct:={ cB f9 ["places","worths","waiting","key","place","worth"] ["isinstance","tuple","len"] [("same_worth",2,bR)] with sd:=["worths"],uB:=["waiting"] }
theorem ua:a_ 30 (i_) (defBody f9)=i9:=by kernel_rfl
theorem rS:FnScope (i_).N ["places","worths","waiting","key"] (defScope f9):=iP ⟨rfl,rfl,rfl,rfl⟩ (by decide+kernel)
abbrev cY:Stmt:=top 49
def cO:GT:=(λ_ st=> .ok true st)
def cP:GE:=(dO (ag 1) (ag 0) (gC .non))
def cQ:GT:=(λ_ st=> .ok true st)
def bS:GE:=(a4 (af (ag 1) (af (ag 0) ak)))
def b6:GS:=(a9 8 (aj bB (ag 8) (fS [("row",9)] (qT (af (ag 5) (af (aj bB (ag 7) (gC (.int 1))) ak))) cQ bS)))
def cZ:GS:=(aF (iK [4,5,6,7] (ag 1))
  (aF (a9 8 (dY ak))
  (aF (nW 9 (af (ag 4) (af (aj bB (ag 6) (gC (.int 1))) ak)) b6)
  (aF (a9 10 (aD 4 cg (af (ag 8) (af (ag 2) (af (ag 3) (af (gC .non) ak))))))
  (aF (a9 11 (a4 (af (a4 (af (gC (.str "part")) (af (ag 1) (af (ag 10) ak)))) ak)))
  (aF (e8 (bG (aj (fM false) (ag 10) (ag 3))) (aQ (a4 (af (gC (.str "waits")) (af (ag 10) (af (ag 11) ak))))) aW)
  (aF (a9 12 (fS [("worths",2)] (gX (fb (ag 8) gT (kl (aj bB (jC fA (ag 8) (ag 10)) (gC (.int 1)))))) cO cP))
  (aQ (a4 (af (gC (.str "worth")) (af (aD 2 cM (af (ag 0) (af (ag 12) ak))) (af (ag 11) ak))))))))))))
def bI:List Wv->Hs->Re Wv:=b7 13 cZ
def ez:Ct:={ cB cY ["word","area","worths","waiting","top","left","bottom","right","places","row","last","reads","some"] ["range"] [("_law_stop",4,cg),("gathered",2,cM)] with sd:=["worths"],uB:=["waiting","places"] }
theorem lR:a_ 30 (ez) (defBody cY)=cZ:=by kernel_rfl
theorem kP:FnScope (ez).N ["word","area","worths","waiting"] (defScope cY):=iP ⟨rfl,rfl,rfl,rfl⟩ (by decide+kernel)
abbrev f_:Stmt:=top 50
def eQ:GT:=(λ_ st=> .ok true st)
def du:GE:=(a4 (af (ag 0) (af (ag 1) ak)))
def ja:GS:=(aF (a9 4 (aD 3 b9 (af (ag 0) (af (ag 2) (af (ag 3) ak)))))
  (aF (e8 (Dp (bG (aj oEq (aj ba (ag 4) (gC (.int 0))) (gC (.str "waits")))) (dC (bt (lh k6 jP) (af (aj ba (ag 4) (gC (.int 1))) (af (gC (.ty "tuple")) ak))))) (aQ (ag 4)) aW)
  (aF (e8 (bG (aj Ef (aj ba (ag 4) (gC (.int 1))) (gC .non))) (aQ (a4 (af (gC (.str "worth")) (af (a4 (af (gC (.str "fault")) (af (gC (.str "none")) ak))) (af (aj ba (ag 4) (gC (.int 2))) ak))))) aW)
  (aF (iK [5,6,7,8] (ag 1))
  (aF (a9 9 (fS [("left",6)] (qT (af (ag 5) (af (aj bB (ag 7) (gC (.int 1))) ak))) eQ du))
  (aF (a9 10 (aD 4 cg (af (ag 9) (af (ag 2) (af (ag 3) (af (aj ba (ag 4) (gC (.int 1))) ak))))))
  (aF (a9 11 (aj bB (aj ba (ag 4) (gC (.int 2))) (a4 (af (a4 (af (gC (.str "part")) (af (a4 (af (ag 5) (af (ag 6) (af (ag 7) (af (ag 6) ak))))) (af (ag 10) ak)))) ak))))
  (aF (a9 12 (dO (ag 2) (ag 10) (gC .non)))
  (aF (e8 (bG (aj (fM false) (ag 10) (ag 3))) (aQ (a4 (af (gC (.str "waits")) (af (ag 10) (af (ag 11) ak))))) aW)
  (aF (e8 (dC (bt (lh k6 jP) (af (ag 12) (af (gC (.ty "tuple")) ak)))) (aQ (a4 (af (gC (.str "worth")) (af (ag 12) (af (ag 11) ak))))) aW)
  (aF (e8 (Dp (bG (aj Ef (ag 12) (gC .non))) (vb (dC (aD 2 bR (af (ag 12) (af (aj ba (ag 4) (gC (.int 1))) ak)))))) (aQ (a4 (af (gC (.str "worth")) (af (a4 (af (gC (.str "fault")) (af (gC (.str "none")) ak))) (af (ag 11) ak))))) aW)
  (aF (a9 13 (a4 (af (gC (.str "at")) (af (a4 (af (aj ba (ag 10) (gC (.int 0))) (af (ag 8) ak))) ak))))
  (aF (e8 (bG (aj (fM true) (ag 13) (ag 11))) (a9 11 (aj bB (ag 11) (a4 (af (ag 13) ak)))) aW)
  (aF (e8 (bG (aj (fM false) (aj ba (ag 13) (gC (.int 1))) (ag 3))) (aQ (a4 (af (gC (.str "waits")) (af (aj ba (ag 13) (gC (.int 1))) (af (ag 11) ak))))) aW)
  (aQ (a4 (af (gC (.str "worth")) (af (dO (ag 2) (aj ba (ag 13) (gC (.int 1))) (gC .non)) (af (ag 11) ak)))))))))))))))))))
def eL:List Wv->Hs->Re Wv:=b7 14 ja
def jb:Ct:={ cB f_ ["key","area","worths","waiting","look","top","left","bottom","right","places","last","reads","worth","there"] ["isinstance","tuple","range"] [("look_at",3,b9),("_law_stop",4,cg),("same_worth",2,bR)] with sd:=["worths"],uB:=["waiting","reads"] }
theorem ub:a_ 30 (jb) (defBody f_)=ja:=by kernel_rfl
theorem rT:FnScope (jb).N ["key","area","worths","waiting"] (defScope f_):=iP ⟨rfl,rfl,rfl,rfl⟩ (by decide+kernel)
abbrev xG:Stmt:=top 51
def kQ:GS:=(aF (a9 12 (aD 4 bI (af (ag 11) (af (ag 10) (af (ag 2) (af (ag 3) ak))))))
  (e8 (bG (aj zv (aD 3 b9 (af (a4 (af (ag 11) (af (ag 10) (af (a4 (af (gC (.int 0)) (af (gC (.int 0)) (af (gC (.int 0)) (af (gC (.int 0)) ak))))) ak)))) (af (ag 2) (af (ag 3) ak)))) (ag 12))) (aQ (gC (.bl false))) aW))
def kR:GS:=(aF (mv 11 (dY (af (gC (.str "sum")) (af (gC (.str "count")) (af (gC (.str "least")) (af (gC (.str "greatest")) ak))))) kQ)
  (aF (a9 13 (aD 3 b9 (af (a4 (af (gC (.str "find")) (af (ag 9) (af (ag 10) (af (a4 (af (gC (.int 0)) (af (gC (.int 0)) (af (gC (.int 0)) (af (gC (.int 0)) ak))))) ak))))) (af (ag 2) (af (ag 3) ak)))))
  (e8 (bG (aj zv (ag 13) (aD 4 eL (af (ag 9) (af (ag 10) (af (ag 2) (af (ag 3) ak))))))) (aQ (gC (.bl false))) aW)))
def kT:GS:=(aF (a9 6 (dY (af (aj oMod (ag 5) (aj gS (gC (.int 10)) (gC (.int 60)))) ak)))
  (aF (a9 7 (aD 2 eJ (af (ag 6) (af (ag 1) ak))))
  (aF (a9 8 (dY (af (a4 (af (gC (.str "num")) (af (aD 2 aA (af (ag 6) (af (gC (.int 4)) ak))) ak))) (af (a4 (af (gC (.str "at")) (af (aD 2 cX (af (ag 6) (af (ag 1) ak))) (af (a4 (af (gC (.int 0)) (af (gC (.int 0)) ak))) ak)))) (af (a4 (af (gC (.str "text")) (af (gC (.str "a")) ak))) ak)))))
  (aF (a9 9 (aj ba (aj bB (ag 8) (dY (af (a4 (af (gC (.str "minus")) (af (a4 (af (gC (.str "num")) (af (gC (.int 1)) ak))) ak))) ak))) (aD 2 aA (af (ag 6) (af (gC (.int 4)) ak)))))
  (mv 10 (dY (af (ag 7) (af (ag 4) ak))) kR)))))
def CA:GS:=(aF (a9 1 (aD 1 eI (af (ag 0) ak)))
  (aF (iK [2,3] (aD 2 cm (af (ag 0) (af (ag 1) ak))))
  (aF (a9 4 (a4 (af (aj ba (ag 1) (gC (.int 0))) (af (aj ba (ag 1) (gC (.int 1))) (af (aj bB (aj ba (ag 1) (gC (.int 0))) (gC (.int 2))) (af (aj bB (aj ba (ag 1) (gC (.int 1))) (gC (.int 3))) ak))))))
  (aF (mv 5 (aj bB (dY (af (gC (.int 0)) ak)) (ag 0)) kT)
  (aQ (gC (.bl true)))))))
def F_law:List Wv->Hs->Re Wv:=b7 14 CA
def CB:Ct:={ cB xG ["script","spot","worths","waiting","whole_grid","cell","row","area","keys","key","some","word","due","found"] [] [("_law_spot",1,eI),("_law_known",2,cm),("_law_area",2,eJ),("_law_digit",2,aA),("look_at",3,b9),("_law_place",2,cX),("_law_gathering",4,bI),("_law_find",4,eL)] with sd:=["worths"] }
theorem Np:a_ 30 (CB) (defBody xG)=CA:=by kernel_rfl
theorem Kh:FnScope (CB).N ["script"] (defScope xG):=iP ⟨rfl,rfl,rfl,rfl⟩ (by decide+kernel)
inductive Wo where
 | non
 | int (i:Int)
 | txt (x:PySem.Str)
 | oN (x:PySem.Str)
def Wo.w:Wo->Wv
 | .non=> .non
 | .int i=> .int i
 | .txt x=> .str x
 | .oN x=> .tup [.str "fault",.str x]
def Wo.f:Wo->Bool
 | .oN _=>true
 | _=>false
def Wo.n:Wo->Bool
 | .int _=>true
 | _=>false
theorem Rg(a:Wo)(st:Hs):bD [a.w] st= .ok (.bl a.f) st:=by cases a<;>rfl
def nums:List Wo->List Int
 | []=>[]
 | .int i::r=>i::nums r
 | _::r=>nums r
def iy:List Wo->List PySem.Str
 | []=>[]
 | .oN x::r=>x::iy r
 | _::r=>iy r
theorem ud:∀(a b:List Wo),iy (a++b)=iy a++iy b
 | [],b=>rfl
 | x::r,b=>by cases x<;>simp[iy,ud r b]
theorem ue:∀a:List Wo,(a.map Wo.w).filter (λv=>match v with | .int _=>true | _=>false)=(nums a).map Wv.int
 | []=>rfl
 | x::r=>by
  have:=ue r
  cases x<;>simp[nums,Wo.w,this]
theorem uf:∀a:List Wo,(a.map Wo.w).filter (λv=>match v with | .tup _=>true | _=>false)=(iy a).map λx=>Wv.tup [.str "fault",.str x]
 | []=>rfl
 | x::r=>by
  have:=uf r
  cases x<;>simp[iy,Wo.w,this]
def ju:Int:=10 ^ (60:Int).toNat
theorem Nq{st:Hs}:gS (.int 10) (.int 60) st= .ok (.int ju) st:=Cs (by decide)
def bnd(i:Int):Wv:=if ju < (if i < 0 then -i else i) then .tup [.str "fault",.str "great"] else .int i
theorem bounded{i:Int}{st:Hs}:cW [.int i] st= .ok (bnd i) st:=by
 have g:fF [.int i] st= .ok (.bl (decide (ju < (if i < 0 then -i else i)))) st:=by
  unfold fF b7 jU
  simp[Nq]
 have f:cq [.str "great"] st= .ok (.tup [.str "fault",.str "great"]) st:=rfl
 unfold cW b7 lM bnd
 by_cases c:ju < (if i < 0 then -i else i)
 ·simp[g,f,c]
 ·simp[g,f,c]
inductive iz where
 | sum | count | least | kU
def iz.s:iz->PySem.Str
 | .sum=>"sum"
 | .count=>"count"
 | .least=>"least"
 | .kU=>"greatest"
def due(wd:iz)(ws:List Wo):Wv:=match iy ws with
 | x::_=> .tup [.str "fault",.str x]
 | []=>match wd with
  | .sum=>bnd (nums ws).sum
  | .count=> .int (nums ws).length
  | .least=>(match nums ws with | []=> .tup [.str "fault",.str "none"] | n::r=>bnd (yJ n r))
  | .kU=>(match nums ws with | []=> .tup [.str "fault",.str "none"] | n::r=>bnd (yI n r))
theorem Nr:(("sum":PySem.Str) == "sum")=true:=rfl
theorem Nt:(("count":PySem.Str) == "sum")=false:=rfl
theorem Nu:(("least":PySem.Str) == "sum")=false:=rfl
theorem Nv:(("greatest":PySem.Str) == "sum")=false:=rfl
theorem Nw:(("count":PySem.Str) == "count")=true:=rfl
theorem Nx:(("least":PySem.Str) == "count")=false:=rfl
theorem Ny:(("greatest":PySem.Str) == "count")=false:=rfl
theorem Nz:(("least":PySem.Str) == "least")=true:=rfl
theorem NA:(("greatest":PySem.Str) == "least")=false:=rfl
theorem Vb(a:Wo)(st:Hs):lh k6 jP [a.w,.ty "int"] st= .ok (.bl a.n) st:=by cases a<;>rfl
theorem FU(a:Wo)(st:Hs):lh k6 jP [a.w,.ty "tuple"] st= .ok (.bl a.f) st:=by cases a<;>rfl
theorem gather{wd:iz}{ws:List Wo}{l:Nat}{st:Hs}(h:aq st l=some (ws.map Wo.w))(hl:ws.length < 100):∃st',cM [.str wd.s,.ref l] st= .ok (due wd ws) st'/\Gr st st':=by
 have c1:∀st:Hs,aq st l=some (ws.map Wo.w)->∀ρ,e_ [] fH iX ρ (some l,ws.map Wo.w) st= .ok (.ref st.length) (st++[.lst ((iy ws).map λx=>Wv.tup [.str "fault",.str x])]):=by
  intro st h ρ
  rw[fk (w:=(some l,ws.map Wo.w)) (t:=λv=>match v with | .tup _=>true | _=>false) (f:=id) h]
  ·rw[List.map_id,uf]
  ·intro v hv acc
   obtain⟨a,_,rfl⟩:=List.mem_map.mp hv
   unfold fH
   simp[Rg]
   cases a<;>rfl
  ·intro v hv _ acc
   rfl
  ·simp;unfold lim;omega
 have c2:∀st:Hs,aq st l=some (ws.map Wo.w)->∀ρ,e_ [] fG iW ρ (some l,ws.map Wo.w) st= .ok (.ref st.length) (st++[.lst ((nums ws).map Wv.int)]):=by
  intro st h ρ
  rw[fk (w:=(some l,ws.map Wo.w)) (t:=λv=>match v with | .int _=>true | _=>false) (f:=id) h]
  ·rw[List.map_id,ue]
  ·intro v hv acc
   obtain⟨a,_,rfl⟩:=List.mem_map.mp hv
   unfold fG
   simp[Vb]
   cases a<;>rfl
  ·intro v hv _ acc
   rfl
  ·simp;unfold lim;omega
 have l1:=aX (st:=st) (ws:=(iy ws).map λx=>Wv.tup [.str "fault",.str x])
 cases e2:iy ws with
 | cons x r=>
  have q:due wd ws= .tup [.str "fault",.str x]:=by unfold due;rw[e2]
  rw[e2] at l1
  refine⟨st++[.lst ((iy ws).map λx=>Wv.tup [.str "fault",.str x])],?_,Gr.push⟩
  rw[q]
  have i:=lG (st:=st++[.lst ((iy ws).map λx=>Wv.tup [.str "fault",.str x])]) (l:=st.length) (i:=0) (ws:=(x::r).map λx=>Wv.tup [.str "fault",.str x]) (v:=.tup [.str "fault",.str x]) (by rw[e2];exact l1) (by rw[bb];exact Nm)
  have tr:nQ (.ref st.length) (st++[.lst ((iy ws).map λx=>Wv.tup [.str "fault",.str x])])= .ok true (st++[.lst ((iy ws).map λx=>Wv.tup [.str "fault",.str x])]):=by
   unfold nQ
   simp only[e2,l1]
   rfl
  unfold cM b7 ia
  simp[lH h,c1 _ h,tr,i]
 | nil=>
  rw[e2] at l1
  have h2:aq (st++[.lst []]) l=some (ws.map Wo.w):=Gr.push.lst h
  have l3:=aX (st:=st++[.lst []]) (ws:=(nums ws).map Wv.int)
  have NB:=c1 _ h
  rw[e2] at NB
  simp only[qC] at NB
  have OZ:=c2 _ h2
  have tr:nQ (.ref st.length) (st++[.lst []])= .ok false (st++[.lst []]):=by
   unfold nQ
   simp only[show aq (st++[.lst []]) st.length=some [] from l1]
   rfl
  refine⟨st++[.lst []]++[.lst ((nums ws).map Wv.int)],?_,Gr.push.trans Gr.push⟩
  generalize st++[.lst []]=s1 at tr h2 l3 OZ NB
  generalize hs2:s1++[.lst ((nums ws).map Wv.int)]=s2 at l3 OZ
  have f:cq [.str "none"] s2= .ok (.tup [.str "fault",.str "none"]) s2:=rfl
  have sm:=Gn l3
  have ln:iH [.ref s1.length] s2= .ok (.int (nums ws).length) s2:=by
   have:=qb l3
   rwa [bT] at this
  have O0:nQ (.ref s1.length) s2= .ok (!((nums ws).map Wv.int).isEmpty) s2:=by
   unfold nQ
   simp only[l3]
  unfold due
  rw[e2]
  unfold cM b7 ia
  cases en:nums ws with
  | nil=>
   rw[en] at sm ln O0
   cases wd<;>simp[lH h,NB,tr,lH h2,OZ,sm,ln,O0,f,iz.s,Nr,Nt,Nu,Nv,Nw,Nx,Ny,Nz,NA,bounded]
  | cons n r=>
   rw[en] at sm ln O0 l3
   cases wd<;>simp[lH h,NB,tr,lH h2,OZ,sm,ln,O0,f,iz.s,Nr,Nt,Nu,Nv,Nw,Nx,Ny,Nz,NA,bounded,Nk l3,Nl l3]
theorem digit{st:Hs}{l:Nat}{n many:Int}(h:st[l]? =some (.lst [.int n]))(hm:many≠0/\many.natAbs.log2 < 9000) :
  aA [.ref l,.int many] st= .ok (.int (n.fmod many)) (st.set l (.lst [.int (n.fdiv many)])):=by
 have hl:aq st l=some [.int n]:=by unfold aq;rw[h]
 have h0:L2.kX [Wv.int n] 0=some (.int n):=rfl
 unfold aA b7 gY
 simp[lG hl h0,iO hm.1,lF hm,w8,MA,h,L2.ym]
theorem pick{st:Hs}{l:Nat}{n many:Int}{ws:List Wv}(h:st[l]? =some (.lst [.int n]))(hm:many≠0/\many.natAbs.log2 < 9000)(hp:0 < many)(hw:(ws.length:Int)=many) :
  ∃v st',v∈ws/\aA [.ref l,.int many] (st++[.lst ws])= .ok (.int (n.fmod many)) st'/\ba (.ref st.length) (.int (n.fmod many)) st'= .ok v st'/\cj l st st'/\st'[l]? =some (.lst [.int (n.fdiv many)]):=by
 have hl:l < st.length:=(List.getElem?_eq_some_iff.mp h).1
 obtain⟨v,e1,e2⟩:=oq (ws:=ws) (d:=n.fmod many) (gy _ hp) (by rw[hw];exact ij _ hp)
 refine⟨v,_,e2,digit (tT h) hm,lG (ws:=ws) ?_ e1,cj.push.trans cj.set,dm (tT h)⟩
 have k:cj l (st++[Ob.lst ws]) ((st++[Ob.lst ws]).set l (.lst [.int (n.fdiv many)])):=cj.set
 exact k.lst aX (by omega)
def TC:Int:=10 ^ (30:Int).toNat
theorem Vc{st:Hs}:gS (.int 10) (.int 30) st= .ok (.int TC) st:=Cs (by decide)
theorem Rh{st:Hs}:cK (.int 2) (.int ju) st= .ok (.int (2 * ju)) st:=xC (by decide+kernel)
def NC:PySem.Str:=oU (199:Int).toNat "a"
theorem Ri{st:Hs}:cK (.str "a") (.int 199) st= .ok (.str NC) st:=by
 have c:ma "a" 199:=by decide+kernel
 show(if(199:Int)=0\/(199:Int)=1 then Re.ok (Wv.str (if(199:Int)=0 then PySem.Str.empty else "a")) st else AQ (.str "a") (.int 199) st)=_
 rw[if_neg (by decide)]
 show(if ma "a" 199 then Re.ok (Wv.str (oU (199:Int).toNat "a")) st else .bad)=_
 rw[if_pos c]
 rfl
def Wo.Ok:Wo->Prop
 | .int i=> -ju<=i/\i<=ju
 | .txt x=>x.length<=200
 | _=>True
theorem worth{st:Hs}{l:Nat}{n:Int}(h:st[l]? =some (.lst [.int n])):∃(a:Wo)(st':Hs)(n':Int),dR [.ref l] st= .ok a.w st'/\cj l st st'/\st'[l]? =some (.lst [.int n'])/\a.Ok:=by
 have d8:=digit (many:=8) h (by decide)
 have h1:=dm (o':=.lst [.int (n.fdiv 8)]) h
 have k1:cj l st (st.set l (.lst [.int (n.fdiv 8)])):=cj.set
 generalize st.set l (.lst [.int (n.fdiv 8)])=st1 at d8 h1 k1
 generalize n.fdiv 8=n1 at h1
 generalize hw:n.fmod 8=way at d8
 unfold dR b7 g_
 by_cases w0:way=0
 ·subst w0
  exact⟨.non,st1,n1,by simp[d8,Wo.w],k1,h1,trivial⟩
 by_cases w1:way=1
 ·subst w1
  obtain⟨v,st2,hv,e1,e2,k2,h2⟩:=pick (many:=5) (ws:=[.str "kind",.str "great",.str "nought",.str "none",.str "lost"]) h1 (by decide) (by decide) rfl
  obtain⟨x,rfl⟩:∃x,v= .str x:=by simp at hv;rcases hv with rfl | rfl | rfl | rfl | rfl<;>exact⟨_,rfl⟩
  exact⟨.oN x,st2,_,by simp[d8,e1,e2,Wo.w],k1.trans k2,h2,trivial⟩
 by_cases w2:way=2
 ·subst w2
  obtain⟨v,st2,hv,e1,e2,k2,h2⟩:=pick (many:=6) (ws:=[.str "",.str "a",.str "b7",.str "no",.str NC,.str "-1"]) h1 (by decide) (by decide) rfl
  obtain⟨x,rfl,hx⟩:∃x,v= .str x/\x.length<=200:=by simp at hv;rcases hv with rfl | rfl | rfl | rfl | rfl | rfl<;>exact⟨_,rfl,by decide+kernel⟩
  exact⟨.txt x,st2,_,by simp[d8,e1,e2,Ri,Wo.w],k1.trans k2,h2,hx⟩
 by_cases w3:way=3
 ·subst w3
  exact⟨.int (n1.fmod (2 * ju+1) - ju),_,n1.fdiv (2 * ju+1),by simp[d8,Nq,Rh,digit h1 (many:=2 * ju+1) (by decide+kernel),Wo.w],k1.trans cj.set,dm h1,by
   have q1:=gy n1 (b:=2 * ju+1) (by decide+kernel)
   have q2:=ij n1 (b:=2 * ju+1) (by decide+kernel)
   exact⟨by omega,by omega⟩⟩
 by_cases w4:way=4
 ·subst w4
  obtain⟨v,st2,hv,e1,e2,k2,h2⟩:=pick (many:=4) (ws:=[.int ju,.int (-ju),.int TC,.int (1 - ju)]) h1 (by decide) (by decide) rfl
  obtain⟨x,rfl,hx⟩:∃x,v= .int x/\-ju<=x/\x<=ju:=by simp at hv;rcases hv with rfl | rfl | rfl | rfl<;>exact⟨_,rfl,by decide+kernel,by decide+kernel⟩
  exact⟨.int x,st2,_,by simp[d8,e1,e2,Nq,Vc,Wo.w],k1.trans k2,h2,hx⟩
 ·have v0:(way == 0)=false:=beq_false_of_ne w0
  have v1:(way == 1)=false:=beq_false_of_ne w1
  have v2:(way == 2)=false:=beq_false_of_ne w2
  have v3:(way == 3)=false:=beq_false_of_ne w3
  have v4:(way == 4)=false:=beq_false_of_ne w4
  exact⟨.int (n1.fmod 7 - 3),_,n1.fdiv 7,by simp[d8,v0,v1,v2,v3,v4,digit h1 (many:=7) (by decide),Wo.w],k1.trans cj.set,dm h1,by
   have q1:=gy n1 (b:=7) (by decide)
   have q2:=ij n1 (b:=7) (by decide)
   have q3:(10:Int)<=ju:=by decide+kernel
   exact⟨by omega,by omega⟩⟩
def same:Wo->Wo->Bool
 | .oN _,_=>false
 | _,.oN _=>false
 | .non,.non=>true
 | .non,.int j=>((0:Int) == j)||false
 | .non,.txt y=>(("":PySem.Str) == y)||false
 | .int i,.non=>((0:Int) == i)||false
 | .txt x,.non=>(("":PySem.Str) == x)||false
 | .int i,.int j=>i == j
 | .txt x,.txt y=>x == y
 | _,_=>false
theorem sw(a b:Wo)(st:Hs):bR [a.w,b.w] st= .ok (.bl (same a b)) st:=by
 cases a<;>cases b<;>rfl
abbrev S:=PySem.Str
def tI(l:List Int):Wv:=.tup (l.map Wv.int)
def dW(a b c d:Int):Prop:=0<=a/\a<=c/\c < 99/\0<=b/\b<=d/\d < 26/\(c - a+1) * (d - b+1)<=300
def Fz(a b:Int):Prop:=0<=a/\a<=96/\0<=b/\b<=22
def Ro(r:Nat)(st:Hs):Prop:=∃v:Int,st[r]? =some (.lst [.int v])
def Dw(r:Nat)(st st':Hs):Prop:=cj r st st'/\Ro r st'
theorem Dw.trans{r:Nat}{a b c:Hs}(h:Dw r a b)(k:Dw r b c):Dw r a c:=⟨h.1.trans k.1,k.2⟩
theorem Ro.gr{r:Nat}{st st':Hs}(h:Ro r st)(g:Gr st st'):Ro r st':=let ⟨v,e⟩:=h;⟨v,g.get e⟩
theorem dig{r:Nat}{st:Hs}{m:Int}(h:Ro r st)(h0:0 < m)(h1:m < 1000000):∃d st',aA [.ref r,.int m] st= .ok (.int d) st'/\0<=d/\d < m/\Dw r st st':=by
 obtain⟨v,e⟩:=h
 have hl:m.natAbs.log2 < 9000:=wR ((Nat.log2_lt (k:=20) (by omega)).mpr (by omega)) (by decide)
 exact⟨_,_,digit e ⟨by omega,hl⟩,gy _ h0,ij _ h0,cj.set,_,dm e⟩
theorem Vd{st:Hs}{a b:Wv}:ba (.tup [a,b]) (.int 0) st= .ok a st:=rfl
theorem Ve{st:Hs}{a b:Wv}:ba (.tup [a,b]) (.int 1) st= .ok b st:=rfl
theorem place{r:Nat}{st:Hs}{a b:Int}(h:Ro r st):∃c d st',cX [.ref r,tI [a,b]] st= .ok (tI [a+c,b+d]) st'/\(0<=c/\c < 3/\0<=d/\d < 4)/\Dw r st st':=by
 obtain⟨c,s1,e1,c0,c1,d1⟩:=dig (m:=3) h (by decide) (by decide)
 obtain⟨d,s2,e2,a0,a1,d2⟩:=dig (m:=4) d1.2 (by decide) (by decide)
 unfold cX b7 ie
 exact⟨c,d,s2,by simp[e1,e2,tI,Vd,Ve],⟨c0,c1,a0,a1⟩,d1.trans d2⟩
theorem Rj{r:Nat}{st:Hs}{a b:Int}(h:Ro r st):∃t l p q st',eJ [.ref r,tI [a,b]] st= .ok (tI [a+t,b+l,a+p,b+q]) st'/\(0<=t/\t<=p/\p < 3/\0<=l/\l<=q/\q < 4)/\Dw r st st':=by
 obtain⟨t,s1,e1,t0,t1,d1⟩:=dig (m:=3) h (by decide) (by decide)
 obtain⟨l,s2,e2,l0,l1,d2⟩:=dig (m:=4) d1.2 (by decide) (by decide)
 obtain⟨p,s3,e3,p0,p1,d3⟩:=dig (m:=3 - t) d2.2 (by omega) (by omega)
 obtain⟨q,s4,e4,q0,q1,d4⟩:=dig (m:=4 - l) d3.2 (by omega) (by omega)
 have sT:iK [6,7] (ag 1) [some (.ref r),some (tI [a,b]),some (.int t),some (.int l),some (.int (t+p)),some (.int (l+q)),none,none] s4= .nx [some (.ref r),some (tI [a,b]),some (.int t),some (.int l),some (.int (t+p)),some (.int (l+q)),some (.int a),some (.int b)] s4:=rfl
 refine⟨t,l,t+p,l+q,s4,?_,by omega,((d1.trans d2).trans d3).trans d4⟩
 unfold eJ b7 iS
 simp[e1,e2,e3,e4,sT]
 rfl
theorem mixed{st:Hs}{c k:Int}(h0:0<=k)(h1:k < 1000000):∃v:Int,0<=v/\dS [.int c,.int k] st= .ok (.int v) st:=by
 have z1:cK (.int 7919) (.int k) st= .ok (.int (7919 * k)) st:=Cr (by decide) (by decide)
 have z2:∀i:Int,cK (.int i) (.int 48271) st= .ok (.int (i * 48271)) st:=λi=>mul_r (by decide) (by decide)
 have z3:∀i:Int,cK (.int i) (.int 69621) st= .ok (.int (i * 69621)) st:=λi=>mul_r (by decide) (by decide)
 generalize hs:((c.fmod 1000000007+7919 * k+1) * 48271).fmod 2147483647=s
 have s0:0<=s:=by rw[<-hs];exact gy _ (by decide)
 have s1:s < 2147483647:=by rw[<-hs];exact ij _ (by decide)
 have z4:cK (.int s) (.int s) st= .ok (.int (s * s)) st:=Cr (by omega) (by omega)
 refine⟨((s * s).fmod 2147483629 * 69621).fmod 2147483647,gy _ (by decide),?_⟩
 unfold dS b7 hI
 simp[z1,z2,z3,z4,hs,iO]
theorem CC{ns:List Int}{k:Int}(h0:0<=k)(c:k < ns.length):L2.kX (ns.map Wv.int) k=some (.int (ns.getD k.toNat 0)):=by
 have hk:k.toNat < ns.length:=by omega
 have ek:k=((k.toNat:Nat):Int):=by omega
 have q:=L2.je (xs:=ns.map Wv.int) (j:=k.toNat) (v:=.int (ns.getD k.toNat 0)) (by simp[hk])
 rw[<-ek] at q
 exact q
theorem rV{st:Hs}{l:Nat}{ns:List Int}(h:aq st l=some (ns.map Wv.int)){k:Int}(h0:0<=k):∃v:Int,bf [.ref l,.int k] st= .ok (.int v) st:=by
 have ln:=qb h
 rw[bT] at ln
 unfold bf b7 fB
 by_cases c:k < ns.length
 ·exact⟨_,by simp[ln,c,lG h (CC h0 c)];rfl⟩
 ·exact⟨0,by simp[ln,c]⟩
theorem ND{st:Hs}:gS (.int 10) (.int 60) st= .ok (.int (10 ^ 60)) st:=Cs (by decide)
theorem CD{lo c:Int}{n:Nat}{j:Nat}{w:Wv}(h:(mx lo c n)[j]? =some w):w= .int (lo+j * c)/\j < n:=by
 have hj:j < n:=by
  have:=(List.getElem?_eq_some_iff.mp h).1
  rw[kD] at this
  exact this
 rw[pU hj] at h
 exact⟨(Option.some.inj h).symm,hj⟩
theorem Ki{c:Int}{k:Nat}(h0:0<=c)(h1:c < (10 ^ 60) ^ k)(hk:k<=5):IntMulOk c (10 ^ 60):=by
 have b:c.natAbs < 2 ^ 1000:=by
  have e:(10 ^ 60:Int) ^ k < 2 ^ 1000:=by
   have hk':k=0\/k=1\/k=2\/k=3\/k=4\/k=5:=by omega
   rcases hk' with rfl | rfl | rfl | rfl | rfl | rfl<;>decide+kernel
  have e2:((2 ^ 1000:Nat):Int)=2 ^ 1000:=by norm_cast
  omega
 exact IntMulOk.of_bits (a5 (FA b) (by decide)) (a5 (FA (k:=200) (by decide+kernel)) (by decide))
theorem stream{st:Hs}{l:Nat}{ns:List Int}(h:aq st l=some (ns.map Wv.int))(hn:ns.length<=63){k:Int}(h0:0<=k)(h1:k<=40):∃n:Int,dg [.ref l,.int k] st= .ok (.ref st.length) (st++[.lst [.int n]]):=by
 obtain⟨v0,TF⟩:=rV h (k:=0) (Int.le_refl _)
 have ln:=qb h
 rw[bT] at ln
 have sm:=Gn h
 have cr:zw (k+1) ns.length 13:=⟨by omega,by omega,by omega,by omega,by decide,by decide⟩
 have sn:fz (k+1) ns.length 13<=5:=by
  unfold fz
  split<;>omega
 have l1:∃(o3:Option Wv)(c:Int),dI 3 bH (mx (k+1) 13 (fz (k+1) ns.length 13)) [some (.ref l),some (.int k),some (.int 0),none,none,none] st= .nx [some (.ref l),some (.int k),some (.int c),o3,none,none] st:=by
  obtain⟨ρ,st',e,o3,c,rfl,rfl,_,_⟩:=kJ (i:=3) (gb:=bH) (λi ρ st'=>∃(o3:Option Wv)(c:Int),ρ=[some (.ref l),some (.int k),some (.int c),o3,none,none]/\st'=st/\0<=c/\c < (10 ^ 60) ^ i) (mx (k+1) 13 (fz (k+1) ns.length 13)) 0 [some (.ref l),some (.int k),some (.int 0),none,none,none] st ⟨none,0,rfl,rfl,by decide,by decide⟩ (by
   rintro j w hw _ s ⟨o3,c,rfl,rfl,c0,c1⟩
   obtain⟨rfl,hj⟩:=CD hw
   have Vf:0+j<=5:=by omega
   have jx:k+1+(j:Int) * 13 < ns.length:=by
    unfold fz at hj
    split at hj<;>omega
   have m1:cK (.int c) (.int (10 ^ 60)) s= .ok (.int (c * 10 ^ 60)) s:=xC (Ki c0 c1 Vf)
   have m2:oMod (.int (ns.getD (k+1+(j:Int) * 13).toNat 0)) (.int (10 ^ 60)) s= .ok (.int ((ns.getD (k+1+(j:Int) * 13).toNat 0).fmod (10 ^ 60))) s:=iO (by decide)
   have x1:=lG h (CC (k:=k+1+(j:Int) * 13) (by omega) jx)
   have q0:=gy (ns.getD (k+1+(j:Int) * 13).toNat 0) (b:=10 ^ 60) (by decide)
   have q1:=ij (ns.getD (k+1+(j:Int) * 13).toNat 0) (b:=10 ^ 60) (by decide)
   generalize (ns.getD (k+1+(j:Int) * 13).toNat 0).fmod (10 ^ 60)=q at m2 q0 q1
   refine⟨_,_,?_,⟨some (.int (k+1+(j:Int) * 13)),c * 10 ^ 60+q,rfl,rfl,?_,?_⟩⟩
   ·unfold bH
    simp only[Cn,Cp,xB,e_c,CF,CG,xH,xI,Co,rp,M9,ND,vN,m1,x1,m2,Nb,vM]
   ·have:=Int.mul_nonneg c0 (show(0:Int)<=10 ^ 60 by decide)
    omega
   ·have e:(10 ^ 60:Int) ^ (0+j+1)=(10 ^ 60) ^ (0+j) * 10 ^ 60:=Int.pow_succ ..
    rw[e]
    have:(c+1) * 10 ^ 60<=(10 ^ 60) ^ (0+j) * 10 ^ 60:=Int.mul_le_mul_of_nonneg_right (by omega) (by decide)
    rw[Int.add_mul] at this
    omega)
  exact⟨o3,c,e⟩
 obtain⟨o3,c,e1⟩:=l1
 have l2:∃(O1 O2:Option Wv)(g':Int),dI 3 cR (br 0 8) [some (.ref l),some (.int k),some (.int c),o3,some (.int 0),none] st= .nx [some (.ref l),some (.int k),some (.int c),O1,some (.int g'),O2] st:=by
  obtain⟨ρ,st',e,O1,O2,g',rfl,rfl⟩:=tS (i:=3) (gb:=cR) (λρ st'=>∃(o3 o5:Option Wv)(g:Int),ρ=[some (.ref l),some (.int k),some (.int c),o3,some (.int g),o5]/\st'=st) (br 0 8) [some (.ref l),some (.int k),some (.int c),o3,some (.int 0),none] st ⟨o3,none,0,rfl,rfl⟩ (by
   rintro w hw _ s ⟨o3,o5,g,rfl,rfl⟩
   obtain⟨j,rfl,j0,j1⟩:=Ft hw
   obtain⟨u,_,eu⟩:=mixed (st:=s) (c:=c+ns.sum) (k:=8 * k+j) (by omega) (by omega)
   have z1:cK (.int 8) (.int k) s= .ok (.int (8 * k)) s:=Cr (by decide) (by decide)
   have z3:cK (.int g) (.int 2147483647) s= .ok (.int (g * 2147483647)) s:=mul_r (by decide) (by decide)
   refine⟨_,_,?_,⟨some (.int j),some (.int u),g * 2147483647+u,rfl,rfl⟩⟩
   unfold cR
   simp[sm,z1,z3,eu])
  exact⟨O1,O2,g',e⟩
 obtain⟨O1,O2,g',e2⟩:=l2
 have f8:∀i:Int,eS (.int i) (.int 8) st= .ok (.int (i.fdiv 8)) st:=λi=>lF (by decide)
 have c8:bP 8:=tU (by decide) (by decide)
 have Vg:∀(ga:GA)(ρ:bA)(s s1:Hs)(a b c:Int),ga ρ s= .ok [.int a,.int b,.int c] s1->zw a b c->oe 3 ga bH ρ s=dI 3 bH (mx a c (fz a b c)) ρ s1:=λga ρ s s1 a b c h1 h2=>by
  unfold oe
  rw[h1]
  show(if zw a b c then _ else _)=_
  rw[if_pos h2]
 have e3:=Vg (af (aj bB (ag 1) (gC (.int 1))) (af (bt iH (af (ag 0) ak)) (af (gC (.int 13)) ak))) [some (.ref l),some (.int k),some (.int 0),none,none,none] st st (k+1) ns.length 13 (by simp[ln]) cr
 rw[e1] at e3
 unfold dg b7 gj
 by_cases b:v0.fmod 2=1
 ·exact⟨c,by simp[e3,TF,iO,b]⟩
 ·have b':(v0.fmod 2 == 1)=false:=beq_false_of_ne b
  exact⟨g'.fdiv 8,by simp[e3,TF,iO,b',c8,e2,f8]⟩
theorem Gq{st:Hs}{ws:List Wv}{d:Int}(h0:0<=d)(h1:d < ws.length):∃v,ba (.ref st.length) (.int d) (st++[.lst ws])= .ok v (st++[.lst ws])/\v∈ws:=by
 obtain⟨v,e3,e4⟩:=oq (ws:=ws) (d:=d) h0 h1
 exact⟨v,lG aX e3,e4⟩
theorem spot{st:Hs}{l:Nat}{ns:List Int}(h:aq st l=some (ns.map Wv.int)):∃a b st',eI [.ref l] st= .ok (tI [a,b]) st'/\Fz a b/\∃more,st'=st++more:=by
 obtain⟨v,e⟩:=rV h (k:=0) (by decide)
 have lg:∀j:Int,(j=2\/j=4\/j=400)->j≠0/\j.natAbs.log2 < 9000:=by rintro j (rfl | rfl | rfl)<;>decide+kernel
 let f:=v.fdiv 2
 let x:=(f.fdiv 4).fmod 97
 let y:=(f.fdiv 400).fmod 23
 have x0:0<=x:=gy _ (by decide)
 have x1:x < 97:=ij _ (by decide)
 have y0:0<=y:=gy _ (by decide)
 have y1:y < 23:=ij _ (by decide)
 let s1:=st++[.lst [.int 0,.int x]]
 let s2:=s1++[.lst [.int 0,.int y]]
 obtain⟨p,e2,hp⟩:=Gq (st:=st) (ws:=[.int 0,.int x]) (d:=f.fmod 2) (gy _ (by decide)) (by simpa using ij f (by decide))
 obtain⟨q,e3,hq⟩:=Gq (st:=s1) (ws:=[.int 0,.int y]) (d:=(f.fdiv 2).fmod 2) (gy _ (by decide)) (by simpa using ij (f.fdiv 2) (by decide))
 obtain⟨a,rfl,ha⟩:∃a:Int,p= .int a/\0<=a/\a<=96:=by
  simp at hp
  rcases hp with rfl | rfl
  ·exact⟨0,rfl,by omega⟩
  ·exact⟨x,rfl,by omega⟩
 obtain⟨b,rfl,hb⟩:∃b:Int,q= .int b/\0<=b/\b<=22:=by
  simp at hq
  rcases hq with rfl | rfl
  ·exact⟨0,rfl,by omega⟩
  ·exact⟨y,rfl,by omega⟩
 refine⟨a,b,s2,?_,⟨ha.1,ha.2,hb.1,hb.2⟩,[.lst [.int 0,.int x],.lst [.int 0,.int y]],by simp[s2,s1]⟩
 have m1:∀{i:Int}{s:Hs},oMod (.int i) (.int 97) s= .ok (.int (i.fmod 97)) s:=iO (by decide)
 have m2:∀{i:Int}{s:Hs},oMod (.int i) (.int 23) s= .ok (.int (i.fmod 23)) s:=iO (by decide)
 have m3:∀{i:Int}{s:Hs},oMod (.int i) (.int 2) s= .ok (.int (i.fmod 2)) s:=iO (by decide)
 have f2:∀{i:Int}{s:Hs},eS (.int i) (.int 2) s= .ok (.int (i.fdiv 2)) s:=lF (lg 2 (by simp))
 have f4:∀{i:Int}{s:Hs},eS (.int i) (.int 4) s= .ok (.int (i.fdiv 4)) s:=lF (lg 4 (by simp))
 have Rk:∀{i:Int}{s:Hs},eS (.int i) (.int 400) s= .ok (.int (i.fdiv 400)) s:=lF (lg 400 (by simp))
 unfold eI b7 iQ
 dsimp only[s1,x,y,f] at e2 e3 ⊢
 simp[e,m1,m2,m3,f2,f4,Rk,e2]
 simp at e3
 simp[e3,tI,s2,s1,x,y,f]
theorem Vh{a b c d:Wv}{st:Hs}:ba (.tup [a,b,c,d]) (.int 0) st= .ok a st/\ba (.tup [a,b,c,d]) (.int 1) st= .ok b st/\ba (.tup [a,b,c,d]) (.int 2) st= .ok c st/\ba (.tup [a,b,c,d]) (.int 3) st= .ok d st:=⟨rfl,rfl,rfl,rfl⟩
theorem qc{st:Hs}{xs:List Ob}{ws:List Wv}:aq (st++ .lst ws::xs) st.length=some ws:=by unfold aq;simp
section
variable {a b c d:Int} {st:Hs}
theorem Vi:L2.kX [Wv.int a,.int b,.int c,.int d] 1=some (.int b):=rfl
theorem Vj:L2.kX [Wv.int a,.int b,.int c,.int d] 3=some (.int d):=rfl
def gz(r b:Int)(n:Nat):List Wv:=(dJ n).map λk:Nat=> .tup [.int r,.int (b+k)]
def dX(a b:Int)(m n:Nat):List Wv:=((dJ m).map λk:Nat=>gz (a+k) b n).flatten
theorem lS{m n:Nat}:(dX a b m n).length=m * n:=by
 unfold dX
 rw[List.length_flatten,eR]
 have:(k9 ∘ λk:Nat=>gz (a+k) b n)=λ_=>n:=by funext k;simp[gz]
 rw[this]
 clear this
 induction m with
 | zero=>simp
 | succ m ih=>rw[mX,dc,List.sum_append,ih,Nat.succ_mul];simp
theorem oE{m n:Nat}:dX a b (m+1) n=dX a b m n++gz (a+m) b n:=by
 unfold dX
 rw[mX,dc,CH]
 simp
theorem CI{o:Wv}{r:Int}{st:Hs}(hb:bP b)(hd:bP (d+1))(hn:(d+1 - b).toNat<=300) :
  fS [("row",2)] (qT (af (aj ba (ag 0) (gC (.int 1))) (af (aj bB (aj ba (ag 0) (gC (.int 3))) (gC (.int 1))) ak))) cL bQ [some (.tup [.int a,.int b,.int c,.int d]),some o,some (.int r)] st=
   .ok (.ref st.length) (st++[.lst (gz r b (d+1 - b).toNat)]):=by
 have q:=fk (cs:=[("row",2)]) (gt:=cL) (ge:=bQ) (ρ:=[some (.tup [.int a,.int b,.int c,.int d]),some o,some (.int r)]) (w:=(none,br b (d+1 - b).toNat)) (st:=st) (t:=λ_=>true) (f:=λv=> .tup [.int r,v]) trivial
  (λv _ acc=>rfl) (λv _ _ acc=>by unfold bQ;simp[jw]) (by rw[show((none,br b (d+1 - b).toNat):Wk).2=br b (d+1 - b).toNat from rfl,cz];unfold lim;omega)
 have e:((br b (d+1 - b).toNat).filter λ_=>true).map (λv=>Wv.tup [.int r,v])=gz r b (d+1 - b).toNat:=by
  rw[List.filter_eq_self.mpr (λ_ _=>rfl)]
  unfold br gz
  rw[eR]
  rfl
 rw[show((none,br b (d+1 - b).toNat):Wk).2=br b (d+1 - b).toNat from rfl,e] at q
 simp[Fq Vi,Fq Vj,vO hb hd,q]
theorem qU{st more:Hs}{acc row:List Wv}(h:acc.length+row.length<=lim):IV (.ref st.length) (.ref (st++ .lst acc::more).length) ((st++ .lst acc::more)++[.lst row])= .ok .non (st++ .lst (acc++row)::(more++[.lst row])):=by
 have g1:((st++Ob.lst acc::more)++[Ob.lst row])[st.length]? =some (.lst acc):=by simp
 have g2:((st++Ob.lst acc::more)++[Ob.lst row])[(st++Ob.lst acc::more).length]? =some (.lst row):=by rw[jJ (ay _),mJ];rfl
 show(match((st++Ob.lst acc::more)++[Ob.lst row])[st.length]?,((st++Ob.lst acc::more)++[Ob.lst row])[(st++Ob.lst acc::more).length]? with
  | some (.lst ws),some (.lst zs)=>if ws.length+zs.length<=lim then Re.ok Wv.non (((st++Ob.lst acc::more)++[Ob.lst row]).set st.length (.lst (ws++zs))) else .bad
  | _,_=> .bad)=_
 rw[g1,g2]
 dsimp only
 rw[if_pos h]
 congr 1
 simp
theorem CJ{st more:Hs}{acc row:List Wv}(h:acc.length+row.length<=lim):tw (.ref st.length) (.ref (st++ .lst acc::more).length) ((st++ .lst acc::more)++[.lst row])= .ok .non (st++ .lst (acc++row)::(more++[.lst row])):=qU h
theorem zl(hb:bP b)(hd:bP (d+1))(hn:(d+1 - b).toNat<=300){m:Nat}(hm:m<=100){ρ0:Option Wv}:∃(o:Option Wv)(more:Hs),
  dI 2 bX (br a m) [some (.tup [.int a,.int b,.int c,.int d]),some (.ref st.length),ρ0] (st++[.lst []])= .nx [some (.tup [.int a,.int b,.int c,.int d]),some (.ref st.length),o] (st++ .lst (dX a b m (d+1 - b).toNat)::more):=by
 obtain⟨ρ1,st1,e1,o,more,rfl,rfl⟩:=kJ (i:=2) (gb:=bX) (λk ρ st'=>∃(o:Option Wv)(more:Hs),ρ=[some (.tup [.int a,.int b,.int c,.int d]),some (.ref st.length),o]/\st'=st++ .lst (dX a b k (d+1 - b).toNat)::more)
  (br a m) 0 [some (.tup [.int a,.int b,.int c,.int d]),some (.ref st.length),ρ0] (st++[.lst []]) ⟨ρ0,[],rfl,rfl⟩ (λj w hw ρ st' hP=>by
   obtain⟨o,more,rfl,rfl⟩:=hP
   have hj:j < m:=by
    have q:=(List.getElem?_eq_some_iff.mp hw).1
    rw[cz] at q
    exact q
   rw[jk hj] at hw
   cases hw
   have ln:(dX a b (0+j) (d+1 - b).toNat).length+(gz (a+j) b (d+1 - b).toNat).length<=lim:=by
    rw[lS]
    have z:(gz (a+(j:Int)) b (d+1 - b).toNat).length=(d+1 - b).toNat:=by unfold gz;simp
    rw[z]
    have:(0+j) * (d+1 - b).toNat<=100 * 300:=xJ (by omega) hn
    unfold lim
    omega
   refine⟨_,_,?_,some (.int (a+(j:Int))),more++[.lst (gz (a+j) b (d+1 - b).toNat)],rfl,rfl⟩
   have e:dX a b (0+j+1) (d+1 - b).toNat=dX a b (0+j) (d+1 - b).toNat++gz (a+j) b (d+1 - b).toNat:=by rw[mY];exact oE
   rw[e]
   have rc:=CI (a:=a) (c:=c) (o:=.ref st.length) (r:=a+(j:Int)) (st:=st++ .lst (dX a b (0+j) (d+1 - b).toNat)::more) hb hd hn
   have km:=λga ρ=>kH (mt:=tw) (ga:=ga) (ρ:=ρ) (st:=st++ .lst (dX a b (0+j) (d+1 - b).toNat)::more) (l:=st.length) qc
   have em:=CJ (st:=st) (more:=more) ln
   unfold bX
   simp only[e_expr,Kb,xB,xI,xH,CG,CF,Co,rp,km,rc,em,vN,vM])
 exact⟨o,more,by rw[e1,cz,mY]⟩
theorem oF(h:dW a b c d):∃more:Hs,b8 [tI [a,b,c,d]] st= .ok (.ref st.length) (st++ .lst (dX a b (c+1 - a).toNat (d+1 - b).toNat)::more):=by
 unfold dW at h
 obtain⟨o,more,e⟩:=zl (a:=a) (c:=c) (st:=st) (b:=b) (d:=d) (ρ0:=none) (by unfold bP;omega) (by unfold bP;omega) (by omega) (m:=(c+1 - a).toNat) (by omega)
 have ca:bP a:=by unfold bP;omega
 have cc:bP (c+1):=by unfold bP;omega
 refine⟨more,Nc (n:=3) (g:=cU) ?_⟩
 unfold cU
 simp[tI,Vh,ca,cc]
 simp[e]
end
abbrev Pt:=Int×Int
def xK(a b:Int)(m n:Nat):List Pt:=((dJ m).map λk:Nat=>(dJ n).map λj:Nat=>((a+k,b+j):Pt)).flatten
theorem oG{a b:Int}{m n:Nat}:dX a b m n=(xK a b m n).map pw:=by
 unfold dX xK gz
 rw[List.map_flatten,eR]
 congr 1
 refine vY λk _=>?_
 show _=((dJ n).map λj:Nat=>((a+k,b+j):Pt)).map pw
 rw[eR]
 rfl
def Lx(x y:Pt):Prop:=x.1 < y.1\/(x.1=y.1/\x.2 < y.2)
theorem FC{a b:Int}{m n:Nat}{p:Pt}:p∈xK a b m n↔(a<=p.1/\p.1 < a+m)/\b<=p.2/\p.2 < b+n:=by
 unfold xK
 rw[List.mem_flatten]
 constructor
 ·rintro⟨l,hl,hp⟩
  obtain⟨k,hk,rfl⟩:=List.mem_map.mp hl
  obtain⟨j,hj,rfl⟩:=List.mem_map.mp hp
  have:=List.mem_range.mp hk
  have:=List.mem_range.mp hj
  dsimp only
  omega
 ·rintro⟨⟨h1,h2⟩,h3,h4⟩
  refine⟨_,List.mem_map.mpr ⟨(p.1 - a).toNat,List.mem_range.mpr (by omega),rfl⟩,List.mem_map.mpr ⟨(p.2 - b).toNat,List.mem_range.mpr (by omega),?_⟩⟩
  refine mG ?_ ?_
  ·show a+((p.1 - a).toNat:Int)=p.1
   omega
  ·show b+((p.2 - b).toNat:Int)=p.2
   omega
theorem Kj{a b:Int}{m n:Nat}:(xK a b m n).Pairwise Lx:=by
 unfold xK
 rw[List.pairwise_flatten]
 refine⟨λl hl=>?_,?_⟩
 ·obtain⟨k,hk,rfl⟩:=List.mem_map.mp hl
  rw[List.pairwise_map]
  exact List.pairwise_lt_range.imp λh=> .inr ⟨rfl,by dsimp only;omega⟩
 ·rw[List.pairwise_map]
  refine List.pairwise_lt_range.imp λ{i j} h x hx y hy=>?_
  obtain⟨k,_,rfl⟩:=List.mem_map.mp hx
  obtain⟨q,_,rfl⟩:=List.mem_map.mp hy
  exact .inl (by dsimp only;omega)
theorem Kk{a b:Int}{m n:Nat}:(xK a b m n).Nodup:=Kj.imp λ{x y} h e=>by
 subst e
 unfold Lx at h
 omega
theorem xM{a b:Int}{m n:Nat}:(xK a b m n).length=m * n:=by
 have:=congrArg k9 (oG (a:=a) (b:=b) (m:=m) (n:=n))
 rw[lS,bT] at this
 exact this.symm
def eE(a b c d:Int):List Pt:=xK a b (c+1 - a).toNat (d+1 - b).toNat
theorem FD{a b c d:Int}(h:dW a b c d){p:Pt}:p∈eE a b c d↔(a<=p.1/\p.1<=c)/\b<=p.2/\p.2<=d:=by
 unfold eE
 rw[FC]
 unfold dW at h
 omega
def dP(p:Pt):PyData:=.tuple [.int p.1,.int p.2]
theorem oH(p q:Pt):aI (dP p) (dP q)=decide (p=q):=by
 rw[wB]
 simp[dP,aI,eB,Prod.ext_iff]
theorem xN{st:Hs}{n:Nat}:∀l:List Pt,dM (aS st (n+1)) (l.map pw)=some (l.map dP)
 | []=>rfl
 | p::r=>by
  rw[bb]
  unfold dM
  rw[xN r]
  have:aS st (n+1) (pw p)=some (dP p):=by cases n<;>rfl
  rw[this]
  rfl
theorem CK{st:Hs}{l:Nat}{ps:List Pt}(h:aq st l=some (ps.map pw)):aS st 20 (.ref l)=some (.list (ps.map dP)):=by
 show(match aq st l with | some ws=>(dM (aS st 19) ws).map w6 | none=>none)=_
 rw[h]
 dsimp only
 rw[xN]
 rfl
theorem NF{st:Hs}{l:Nat}{ps:List Pt}(h:aq st l=some (ps.map pw))(p:Pt):fM false (pw p) (.ref l) st= .ok (.bl (decide (p∈ps))) st:=by
 have d2:aS st 20 (pw p)=some (dP p):=rfl
 have e:((ps.map dP).any λz=>aI z (dP p))=decide (p∈ps):=by
  rw[wB,CL,decide_eq_true_eq]
  constructor
  ·rintro⟨z,hz,e⟩
   obtain⟨m,hm,rfl⟩:=List.mem_map.mp hz
   rw[oH] at e
   rw[<-of_decide_eq_true e]
   exact hm
  ·intro hm
   exact⟨_,List.mem_map.mpr ⟨p,hm,rfl⟩,by rw[oH];simp⟩
 unfold fM
 rw[CK h,d2]
 dsimp only
 rw[e]
 simp
theorem TH{x:Wv}{ws:List Wv}{st:Hs}:ba (.tup (x::ws)) (.int 0) st= .ok x st:=Fq (L2.je (j:=0) rfl)
theorem Vk{x y:Wv}{ws:List Wv}{st:Hs}:ba (.tup (x::y::ws)) (.int 1) st= .ok y st:=Fq (L2.je (j:=1) rfl)
theorem NG{ws us:List Wv}{lo hi:Option Int}{st:Hs}(h:¬lu ws.length lo hi)(h2:ko ws lo hi=us):yN (.tup ws) lo hi st= .ok (.tup us) st:=by
 show(if lu ws.length lo hi then Re.ok (Wv.tup ws) st else Le (.tup ws) lo hi st)=_
 rw[if_neg h]
 show(if lu ws.length lo hi then Re.bad else Re.ok (Wv.tup (ko ws lo hi)) st)=_
 rw[if_neg h,h2]
theorem zm{x:S}{k:Int}{st:Hs}(h:eC.lookup x=some (.int k)):eK [.str x] st= .ok (.int k) st:=by
 unfold eK b7 iU
 simp[Fv h]
theorem ug{x:S}{k:Int}{ws us:List Wv}(h:eC.lookup x=some (.int k))(n1:¬lu (ws.length+1) (some 1) (some (1+k)))(hc:ko (.str x::ws) (some 1) (some (1+k))=us)(st:Hs):dF [.tup (.str x::ws)] st= .ok (.tup us) st:=by
 unfold dF b7 jQ
 have s:=NG (ws:=.str x::ws) (us:=us) (lo:=some 1) (hi:=some (1+k)) (st:=st) n1 hc
 simp[TH,zm h,s]
def vZ(p:Pt):List L2.Key:=[.inl p.1,.inl p.2]
theorem oI{p q:Pt}:vZ p=vZ q↔p=q:=by
 constructor
 ·intro h
  unfold vZ at h
  injection h with h1 h2
  injection h2 with h2 h3
  injection h1 with h1
  injection h2 with h2
  exact mG h1 h2
 ·rintro rfl;rfl
theorem Kl{p:Pt}:ly (pw p)=some (vZ p):=rfl
abbrev Ws:=List (Pt×Wo)
def uh(W:Ws):List (List L2.Key×Wv):=W.map λq=>(vZ q.1,q.2.w)
def wo:Ws->Pt->Wo
 | [],_=> .non
 | q::r,p=>if q.1=p then q.2 else wo r p
theorem v5:∀(W:Ws)(p:Pt),(iL (uh W) (vZ p)).getD .non=(wo W p).w
 | [],p=>rfl
 | q::r,p=>by
  have ih:=v5 r p
  unfold uh at ih ⊢
  rw[bb]
  unfold iL wo
  dsimp only
  by_cases e:q.1=p
  ·rw[if_pos (oI.mpr e),if_pos e];rfl
  ·rw[if_neg (λz=>e (oI.mp z)),if_neg e];exact ih
structure Kn(W:Ws)(P:List Pt)(d l:Nat)(st:Hs):Prop where
 d:st[d]? =some (.l9 (uh W))
 l:st[l]? =some (.lst (P.map pw))
section
variable {W:Ws} {P:List Pt} {d l k m:Nat} {st st':Hs}
theorem Kn.gr(h:Kn W P d l st)(g:Gr st st'):Kn W P d l st':=⟨g.get h.d,g.get h.l⟩
theorem Kn.at'(h:Kn W P d l st){r:Nat}(g:cj r st st')(h1:d≠r)(h2:l≠r):Kn W P d l st':=⟨by rw[g.2 d (eN h.d) h1];exact h.d,by rw[g.2 l (eN h.l) h2];exact h.l⟩
theorem Kn.xO(h:Kn W P d l st)(p:Pt):fM false (pw p) (.ref l) st= .ok (.bl (decide (p∈P))) st:=NF (fV h.l) p
theorem Kn.Rl(h:Kn W P d l st){gd gk:GE}{ρ:bA}{NH:Hs}{p:Pt}(e1:gd ρ NH= .ok (.ref d) st)(e2:gk ρ st= .ok (pw p) st):jL gd gk ρ NH= .ok (wo W p).w st:=by
 have w:iw st[d]? =some (uh W):=by rw[h.d];rfl
 unfold jL
 rw[e1]
 show(if _ then _ else _)=_
 rw[w,if_pos (show(some (uh W)).isSome=true from rfl),e2]
 show(match ly (pw p),iw st[d]? with | some kk,some kvs=>Re.ok ((iL kvs kk).getD .non) st | _,_=> .bad)=_
 rw[Kl,w]
 dsimp only
 rw[v5]
theorem Kn.FE(h:Kn W P d l st){gd gk:GE}{ρ:bA}{NH:Hs}{p:Pt}(e1:gd ρ NH= .ok (.ref d) st)(e2:gk ρ st= .ok (pw p) st):dO gd gk (gC .non) ρ NH= .ok (wo W p).w st:=by
 have w:iw st[d]? =some (uh W):=by rw[h.d];rfl
 unfold dO
 rw[e1]
 show(if _ then _ else _)=_
 rw[w,if_pos (show(some (uh W)).isSome=true from rfl),e2]
 show(match ly (pw p),iw st[d]? with | some kk,some kvs=>Re.ok ((iL kvs kk).getD .non) st | _,_=> .bad)=_
 rw[Kl,w]
 dsimp only
 rw[v5]
end
inductive Sd
 | wt (p:Pt)
 | wo (a:Wo)
def Sd.w:Sd->Wv
 | .wt p=> .tup [.str "waits",pw p]
 | .wo a=>a.w
def Sd.h:Sd->Bool
 | .wt _=>true
 | .wo a=>a.f
def gI(W:Ws)(P:List Pt)(p:Pt):Sd:=if p∈P then .wt p else .wo (wo W p)
def Wo.nn:Wo->Bool
 | .non=>false
 | _=>true
def ft(a b:Wo):Bool:=b.nn&&(a.nn&&same a b)
theorem halts(s:Sd){st:Hs}:bY [s.w] st= .ok (.bl s.h) st:=by
 cases s with
 | wt p=>rfl
 | wo a=>cases a<;>rfl
theorem FF(a:Wo){st:Hs}:nO a.w .non st= .ok (.bl a.nn) st:=by cases a<;>rfl
theorem Rm(a:Wo){st:Hs}:Ef a.w .non st= .ok (.bl (!a.nn)) st:=by cases a<;>rfl
theorem fits(a b:Wo){st:Hs}:jT [a.w,b.w] st= .ok (.bl (ft a b)) st:=by
 unfold jT b7 vS
 cases hb:b.nn<;>cases ha:a.nn<;>simp[FF,sw,ft,ha,hb]
def stp(W:Ws)(P:List Pt)(key:Wo)(p:Pt):Bool:=(gI W P p).h||ft (wo W p) key
inductive Rd
 | rW (p:Pt)
 | part (a b c d:Int) (p:Pt)
 deriving DecidableEq
def Rd.d:Rd->PyData
 | .rW p=> .tuple [.str "at",.tuple [.int p.1,.int p.2]]
 | .part a b c d p=> .tuple [.str "part",.tuple [.int a,.int b,.int c,.int d],.tuple [.int p.1,.int p.2]]
def Rd.w:Rd->Wv
 | .rW p=> .tup [.str "at",pw p]
 | .part a b c d p=> .tup [.str "part",tI [a,b,c,d],pw p]
theorem Gs:aM "at"=true:=by decide+kernel
theorem xP:aM "part"=true:=by decide+kernel
theorem Rd.ok(r:Rd):NK.kd 8 r.d=true/\NK.FU r.d=true:=by cases r<;>exact⟨by simp[NK.kd,Rd.d,Gs,xP],rfl⟩
def Rd.k(r:Rd):NK.KD:=⟨r.d,r.ok⟩
theorem Rd.key(r:Rd):vA r.w=some r.k:=by
 have e:og 8 r.w=some r.d:=by cases r<;>simp[og,Rd.w,Rd.d,tI,pw]
 unfold vA
 rw[e]
 dsimp only
 rw[dif_pos r.ok]
 rfl
theorem Rd.back(r:Rd):wD 8 r.d=some r.w:=by cases r<;>simp[wD,Rd.w,Rd.d,tI,pw,Gs,xP]
theorem Rd.inj{r s:Rd}:r.k=s.k↔r=s:=by
 constructor
 ·intro h
  have h:r.d=s.d:=congrArg Subtype.val h
  cases r<;>cases s<;>simp[Rd.d] at h
  ·exact congrArg Rd.rW (mG h.1 h.2)
  ·obtain⟨⟨rfl,rfl,rfl,rfl⟩,h5,h6⟩:=h
   exact congrArg (Rd.part _ _ _ _) (mG h5 h6)
 ·rintro rfl;rfl
def zy(r:Rd):NK.KD×Wv:=(r.k,.bl true)
def c9(rs:List Rd)(r:Rd):List Rd:=if r∈rs then rs else rs++[r]
theorem Km(rs:List Rd)(r:Rd):mw (rs.map zy) r.k (.bl true)=(c9 rs r).map zy:=by
 unfold mw c9
 have e:((rs.map zy).any λkv=>decide (kv.1=r.k))=decide (r∈rs):=by
  rw[wB,CL,decide_eq_true_eq]
  constructor
  ·rintro⟨z,hz,e⟩
   obtain⟨s,hs,rfl⟩:=List.mem_map.mp hz
   rw[<-Rd.inj.mp (of_decide_eq_true e)]
   exact hs
  ·intro h
   exact⟨zy r,List.mem_map.mpr ⟨r,h,rfl⟩,decide_eq_true rfl⟩
 rw[e]
 by_cases h:r∈rs
 ·rw[if_pos (decide_eq_true h),if_pos h,eR]
  refine vY λs _=>?_
  show(if(zy s).1=r.k then((zy s).1,Wv.bl true) else zy s)=zy s
  split<;>rfl
 ·rw[if_neg (by simp[h]),if_neg h,dc]
  rfl
theorem xQ:∀rs:List Rd,lB (rs.map zy)=some (rs.map Rd.w)
 | []=>rfl
 | r::rs=>by
  have ih:=xQ rs
  unfold lB at ih ⊢
  rw[bb]
  unfold dM
  rw[ih]
  have e:wD 8 (zy r).1.1=some r.w:=r.back
  rw[e]
  rfl
def lf(d l m:Nat):List (S×Wv):=[("worths",.ref d),("waiting",.ref l),("met",.ref m)]
theorem zo{c f:S}{g:GE}{ρ:bA}{st st1:Hs}{k:Nat}{fs:List (S×Wv)}{w:Wv}(h:g ρ st= .ok (.ref k) st1)(h2:st1[k]? =some (.ins c fs))(h3:fs.lookup f=some w):gF c f g ρ st= .ok w st1:=by
 have e:eG st1 c (.ref k)=some fs:=by unfold eG;simp[h2]
 unfold gF
 rw[h]
 show(match(eG st1 c (.ref k)).bind (·.lookup f) with | some w=>Re.ok w st1 | none=> .bad)=_
 rw[e]
 show(match fs.lookup f with | some w=>Re.ok w st1 | none=> .bad)=_
 rw[h3]
theorem zp{c f:S}{n:Nat}{F:List Wv->Hs->Re Wv}{go:GE}{ga:GA}{ρ:bA}{st st1 st2:Hs}{k:Nat}{fs:List (S×Wv)}{ws:List Wv}(h:go ρ st= .ok (.ref k) st1)(h2:st1[k]? =some (.ins c fs))(h3:fs.lookup f=none)(h4:ga ρ st1= .ok ws st2)(h5:ws.length+1=n) :
  jy c f n F go ga ρ st=F (.ref k::ws) st2:=by
 have e:eG st1 c (.ref k)=some fs:=by unfold eG;simp[h2]
 unfold jy
 rw[h]
 show(match(eG st1 c (.ref k)).map (·.lookup f) with
  | some none=>(ga ρ st1).bind λws st2=>if ws.length+1=n then F (.ref k::ws) st2 else .bad
  | _=> .bad)=_
 rw[e]
 show(match some (fs.lookup f) with
  | some none=>(ga ρ st1).bind λws st2=>if ws.length+1=n then F (.ref k::ws) st2 else .bad
  | _=> .bad)=_
 rw[h3]
 dsimp only
 rw[h4]
 show(if ws.length+1=n then F (.ref k::ws) st2 else .bad)=_
 rw[if_pos h5]
structure Lk(W:Ws)(P:List Pt)(d l k m:Nat)(rs:List Rd)(st:Hs):Prop where
 n:Kn W P d l st
 o:st[k]? =some (.ins "Look" (lf d l m))
 m:st[m]? =some (.kY (rs.map zy))
section
variable {W:Ws} {P:List Pt} {d l k m:Nat} {rs:List Rd} {st st':Hs}
theorem Lk.ne(h:Lk W P d l k m rs st):d≠m/\l≠m/\k≠m:=by
 refine⟨λe=>?_,λe=>?_,λe=>?_⟩
 ·have:=h.n.d;rw[e,h.m] at this;cases this
 ·have:=h.n.l;rw[e,h.m] at this;cases this
 ·have:=h.o;rw[e,h.m] at this;cases this
theorem Lk.gr(h:Lk W P d l k m rs st)(g:Gr st st'):Lk W P d l k m rs st':=⟨h.n.gr g,g.get h.o,g.get h.m⟩
theorem Lk.set(h:Lk W P d l k m rs st){s:Nat}{us vs:List Wv}(hs:st[s]? =some (.lst us))(hl:l≠s):Lk W P d l k m rs (st.set s (.lst vs)):=by
 have q:∀j o,st[j]? =some o->j≠s->(st.set s (.lst vs))[j]? =some o:=λj o e z=>by rw[dy (bq z)];exact e
 refine⟨⟨q _ _ h.n.d λe=>?_,q _ _ h.n.l hl⟩,q _ _ h.o λe=>?_,q _ _ h.m λe=>?_⟩
 ·have:=h.n.d;rw[e,hs] at this;cases this
 ·have:=h.o;rw[e,hs] at this;cases this
 ·have:=h.m;rw[e,hs] at this;cases this
def gJ(st:Hs)(m:Nat)(rs:List Rd):Hs:=st.set m (.kY (rs.map zy))
theorem Lk.met(h:Lk W P d l k m rs st){rs':List Rd}:Lk W P d l k m rs' (gJ st m rs'):=by
 obtain⟨n1,n2,n3⟩:=h.ne
 have q:∀j o,st[j]? =some o->j≠m->(gJ st m rs')[j]? =some o:=λj o e z=>by unfold gJ;rw[dy (bq z)];exact e
 exact⟨⟨q _ _ h.n.d n1,q _ _ h.n.l n2⟩,q _ _ h.o n3,dm h.m⟩
theorem lT{rs':List Rd}:cj m st (gJ st m rs'):=cj.set
theorem Lk.Ko(h:Lk W P d l k m rs st)(hl:rs.length < 100){gv gd gk:GE}{ρ:bA}{r:Rd}(e1:gv ρ st= .ok (.bl true) st)(e2:gd ρ st= .ok (.ref m) st)(e3:gk ρ st= .ok r.w st):jE gv gd gk ρ st= .nx ρ (gJ st m (c9 rs r)):=by
 have e:putN (.ref m) r.w (.bl true) st=some (gJ st m (c9 rs r)):=by
  show(match vA r.w,st[m]? with | some kk,some (.kY kvs)=>if kvs.length < lim then some (st.set m (.kY (mw kvs kk (.bl true)))) else none | _,_=>none)=_
  rw[r.key,h.m]
  dsimp only
  rw[if_pos (by rw[bT];unfold lim;omega),Km]
  rfl
 unfold jE
 rw[e1]
 show(gd ρ st).a8 ρ _=_
 rw[e2]
 show(gk ρ st).a8 ρ _=_
 rw[e3]
 show(match putN (.ref m) r.w (.bl true) st with | some uy=>Rs.nx ρ uy | none=> .bad)=_
 rw[e]
theorem Lk.tup(h:Lk W P d l k m rs st):p_ [.ref m] st= .ok (.tup (rs.map Rd.w)) st:=by
 unfold p_
 simp only[h.m]
 rw[xQ]
theorem ui(h:Lk W P d l k m rs st)(p:Pt):aY [.ref k,pw p] st= .ok (gI W P p).w st:=by
 have f1:gF "Look" "waiting" (ag 0) [some (.ref k),some (pw p)] st= .ok (.ref l) st:=zo rfl h.o rfl
 have f2:gF "Look" "worths" (ag 0) [some (.ref k),some (pw p)] st= .ok (.ref d) st:=zo rfl h.o rfl
 have f3:jL (gF "Look" "worths" (ag 0)) (ag 1) [some (.ref k),some (pw p)] st= .ok (wo W p).w st:=h.n.Rl f2 rfl
 have f4:=h.n.xO p
 unfold aY b7 eo gI
 by_cases c:p∈P
 ·simp[f1,f4,c,Sd.w]
 ·simp[f1,f4,f3,c,Sd.w]
theorem cell(h:Lk W P d l k m rs st)(hl:rs.length < 100)(p:Pt):bF [.ref k,pw p] st= .ok (gI W P p).w (gJ st m (c9 rs (.rW p))):=by
 have f1:gF "Look" "met" (ag 0) [some (.ref k),some (pw p)] st= .ok (.ref m) st:=zo rfl h.o rfl
 have f2:jE (gC (.bl true)) (gF "Look" "met" (ag 0)) (a4 (af (gC (.str "at")) (af (ag 1) ak))) [some (.ref k),some (pw p)] st= .nx [some (.ref k),some (pw p)] (gJ st m (c9 rs (.rW p))):=h.Ko hl (r:=.rW p) rfl f1 rfl
 have h2:Lk W P d l k m (c9 rs (.rW p)) (gJ st m (c9 rs (.rW p))):=h.met
 have f3:jy "Look" "standing" 2 aY (ag 0) (af (ag 1) ak) [some (.ref k),some (pw p)] (gJ st m (c9 rs (.rW p)))= .ok (gI W P p).w (gJ st m (c9 rs (.rW p))):=by
  exact(zp (k:=k) (ws:=[pw p]) rfl h2.o rfl rfl rfl).trans (ui h2 p)
 unfold bF b7 ib
 simp[f2,f3]
end
def upto{α:Type}(f:α->Bool):List α->List α
 | []=>[]
 | a::r=>if f a=true then[a] else a::upto f r
theorem uj{α:Type}{f:α->Bool}:∀{ps:List α},ps.any f=true->∃pre x post,ps=pre++x::post/\upto f ps=pre++[x]/\f x=true/\∀y∈pre,f y=false
 | [],h=>by cases h
 | a::r,h=>by
  cases c:f a with
  | true=>exact⟨[],a,r,rfl,by unfold upto;rw[if_pos c];rfl,c,by simp⟩
  | false=>
   rw[dz,c,Bool.false_or] at h
   obtain⟨pre,x,post,e1,e2,e3,e4⟩:=uj h
   exact⟨a::pre,x,post,by rw[e1];rfl,by unfold upto;rw[if_neg (by rw[c];exact bz),e2];rfl,e3,by
    intro y hy
    rcases List.mem_cons.mp hy with rfl | hy
    ·exact c
    ·exact e4 y hy⟩
theorem xR{α:Type}{f:α->Bool}:∀{ps:List α},ps.any f=false->upto f ps=ps/\∀y∈ps,f y=false
 | [],h=>⟨rfl,by simp⟩
 | a::r,h=>by
  rw[dz,Gu] at h
  obtain⟨e1,e2⟩:=xR h.2
  refine⟨by unfold upto;rw[if_neg (by rw[h.1];exact bz),e1],λy hy=>?_⟩
  rcases List.mem_cons.mp hy with rfl | hy
  ·exact h.1
  ·exact e2 y hy
theorem fm{f:Pt->Bool}{ps:List Pt}(h:ps≠[]):∃pre x,upto f ps=pre++[x]/\(∀y∈pre,f y=false)/\(∃post,ps=pre++x::post)/\(f x=false->ps=pre++[x]):=by
 cases c:ps.any f with
 | true=>
  obtain⟨pre,x,post,e1,e2,e3,e4⟩:=uj c
  exact⟨pre,x,e2,e4,⟨post,e1⟩,λz=>by rw[e3] at z;cases z⟩
 | false=>
  obtain⟨e1,e2⟩:=xR c
  obtain⟨pre,x,rfl⟩:∃pre x,ps=pre++[x]:=⟨ps.dropLast,ps.getLast h,(List.dropLast_concat_getLast h).symm⟩
  exact⟨pre,x,e1,λy hy=>e2 y (by simp[hy]),⟨[],rfl⟩,λ_=>rfl⟩
section
variable {W:Ws} {P:List Pt} {d l k m:Nat} {rs:List Rd} {st:Hs} {key:Wo} {a b c e:Int}
def gK(W:Ws)(P:List Pt)(p:Pt):Wv:=(gI W P p).w
theorem turn(h:Lk W P d l k m rs st)(hr:rs.length < 100){s:Nat}{pre:List Pt}(hs:st[s]? =some (.lst (pre.map (gK W P))))(hl:l≠s)(hp:pre.length < 400)(p:Pt) :
  bK [some (.ref k),some (tI [a,b,c,e]),some key.w,some (.ref s),some (pw p)] st=
   if stp W P key p=true then .rt (.ref s) (gJ (st.set s (.lst ((pre++[p]).map (gK W P)))) m (c9 rs (.part a b c e p)))
   else .nx [some (.ref k),some (tI [a,b,c,e]),some key.w,some (.ref s),some (pw p)] (st.set s (.lst ((pre++[p]).map (gK W P)))):=by
 have km:=λga ρ=>kH (mt:=jv) (ga:=ga) (ρ:=ρ) (st:=st) (l:=s) (fV hs)
 have f1:jy "Look" "standing" 2 aY (ag 0) (af (ag 4) ak) [some (.ref k),some (tI [a,b,c,e]),some key.w,some (.ref s),some (pw p)] st= .ok (gK W P p) st:=(zp (k:=k) (ws:=[pw p]) rfl h.o rfl rfl rfl).trans (ui h p)
 have ap:=xD (v:=gK W P p) hs (by rw[bT];unfold lim;omega)
 have eq:pre.map (gK W P)++[gK W P p]=(pre++[p]).map (gK W P):=by simp
 rw[eq] at ap
 have h1:Lk W P d l k m rs (st.set s (.lst ((pre++[p]).map (gK W P)))):=h.set hs hl
 have s1:(st.set s (.lst ((pre++[p]).map (gK W P))))[s]? =some (.lst ((pre++[p]).map (gK W P))):=dm hs
 generalize hst:st.set s (.lst ((pre++[p]).map (gK W P)))=st1 at ap h1 s1 ⊢
 have ix:ba (.ref s) (.int (-1)) st1= .ok (gK W P p) st1:=lG (fV s1) (by rw[<-eq];exact ou)
 have f2:gF "Look" "met" (ag 0) [some (.ref k),some (tI [a,b,c,e]),some key.w,some (.ref s),some (pw p)] st1= .ok (.ref m) st1:=zo rfl h1.o rfl
 have f3:jE (gC (.bl true)) (gF "Look" "met" (ag 0)) (a4 (af (gC (.str "part")) (af (ag 1) (af (ag 4) ak)))) [some (.ref k),some (tI [a,b,c,e]),some key.w,some (.ref s),some (pw p)] st1= .nx [some (.ref k),some (tI [a,b,c,e]),some key.w,some (.ref s),some (pw p)] (gJ st1 m (c9 rs (.part a b c e p))):=h1.Ko hr (r:=.part a b c e p) rfl f2 rfl
 have hh:=halts (gI W P p) (st:=st1)
 unfold bK stp
 unfold gK at ix ap f1
 cases q:(gI W P p).h with
 | true=>
  rw[q] at hh
  simp[km,f1,ap,ix,hh,f3]
 | false=>
  rw[q] at hh
  have e:gI W P p= .wo (wo W p):=by
   unfold gI at q ⊢
   split at q
   ·cases q
   ·rename_i z;rw[if_neg z]
  have hf:=fits (wo W p) key (st:=st1)
  rw[e] at hh ix ap f1
  cases q2:ft (wo W p) key<;>rw[q2] at hf<;>simp[Sd.w] at hh ix ap f1<;>simp[km,f1,ap,ix,hh,hf,f3]
theorem uk(hr:rs.length < 100){s q:Nat}{all:List Wv}(hl:l≠s)(hq:q≠s)(O3:q≠m):∀(post pre:List Pt)(st:Hs)(o4:Option Wv),Lk W P d l k m rs st->st[s]? =some (.lst (pre.map (gK W P)))->aq st q=some all->pre.length+post.length < 400->
  (∀x post',upto (stp W P key) post=post'++[x]->stp W P key x=true->forL 4 bK q all (post.map pw) [some (.ref k),some (tI [a,b,c,e]),some key.w,some (.ref s),o4] st= .rt (.ref s) (gJ (st.set s (.lst ((pre++upto (stp W P key) post).map (gK W P)))) m (c9 rs (.part a b c e x))))/\
  (post.any (stp W P key)=false->∃o,forL 4 bK q all (post.map pw) [some (.ref k),some (tI [a,b,c,e]),some key.w,some (.ref s),o4] st= .nx [some (.ref k),some (tI [a,b,c,e]),some key.w,some (.ref s),o] (st.set s (.lst ((pre++post).map (gK W P)))))
 | [],pre,st,o4,h,hs,hall,hn=>⟨λx post' z=>by simp[upto] at z,λ_=>⟨o4,by
   rw[gP]
   have:st.set s (.lst (pre.map (gK W P)))=st:=by
    refine List.ext_getElem? λj=>?_
    by_cases z:s=j
    ·subst z;rw[dm hs,hs]
    ·rw[dy z]
   rw[this]
   rfl⟩⟩
 | p::post,pre,st,o4,h,hs,hall,hn=>by
  have t:=turn (a:=a) (b:=b) (c:=c) (e:=e) (key:=key) h hr hs hl (by omega) p
  have h1:Lk W P d l k m rs (st.set s (.lst ((pre++[p]).map (gK W P)))):=h.set hs hl
  have s1:(st.set s (.lst ((pre++[p]).map (gK W P))))[s]? =some (.lst ((pre++[p]).map (gK W P))):=dm hs
  have a1:aq (st.set s (.lst ((pre++[p]).map (gK W P)))) q=some all:=by
   unfold aq at hall ⊢
   rw[dy (bq hq)]
   exact hall
  obtain⟨i1,i2⟩:=uk hr hl hq O3 post (pre++[p]) _ (some (pw p)) h1 s1 a1 (by simp at hn ⊢;omega)
  have e1:∀us:List Wv,(st.set s (.lst ((pre++[p]).map (gK W P)))).set s (.lst us)=st.set s (.lst us):=λus=>List.set_set ..
  refine⟨λx post' z zx=>?_,λz=>?_⟩
  ·rw[bb]
   unfold forL
   rw[show([some (Wv.ref k),some (tI [a,b,c,e]),some key.w,some (.ref s),o4]:bA).set 4 (some (pw p))=[some (.ref k),some (tI [a,b,c,e]),some key.w,some (.ref s),some (pw p)] from rfl,t]
   unfold upto at z ⊢
   by_cases cp:stp W P key p=true
   ·rw[if_pos cp] at z ⊢
    rw[if_pos cp]
    have:p=x:=by
     cases post' with
     | nil=>cases z;rfl
     | cons _ r=>cases r<;>cases z
    subst this
    rfl
   ·rw[if_neg cp] at z ⊢
    rw[if_neg cp]
    dsimp only
    rw[if_pos a1]
    cases post' with
    | nil=>
     have:x=p:=(List.cons.inj z).1.symm
     subst this
     exact absurd zx cp
    | cons y r=>
     rw[i1 x r (List.cons.inj z).2 zx,e1]
     simp
  ·rw[dz,Gu] at z
   obtain⟨o,e2⟩:=i2 z.2
   refine⟨o,?_⟩
   rw[bb]
   unfold forL
   rw[show([some (Wv.ref k),some (tI [a,b,c,e]),some key.w,some (.ref s),o4]:bA).set 4 (some (pw p))=[some (.ref k),some (tI [a,b,c,e]),some key.w,some (.ref s),some (pw p)] from rfl,t,if_neg (by rw[z.1];exact bz)]
   dsimp only
   rw[if_pos a1,e2,e1]
   simp
end
section
variable {W:Ws} {P:List Pt} {d l k m:Nat} {rs:List Rd} {st:Hs} {key:Wo} {a b c e:Int}
theorem places'(h:dW a b c e):∃more:Hs,b8 [tI [a,b,c,e]] st= .ok (.ref st.length) (st++ .lst ((eE a b c e).map pw)::more):=by
 obtain⟨more,q⟩:=oF (st:=st) h
 rw[oG] at q
 exact⟨more,q⟩
theorem il(h:dW a b c e):(eE a b c e).length<=300/\eE a b c e≠[]:=by
 have q:(a,b)∈eE a b c e:=(FD h).mpr (by unfold dW at h;dsimp only;omega)
 refine⟨?_,λz=>by rw[z] at q;cases q⟩
 unfold eE
 rw[xM]
 unfold dW at h
 have e1:(((c+1 - a).toNat * (e+1 - b).toNat:Nat):Int)=(c - a+1) * (e - b+1):=by
  rw[Int.natCast_mul,show(((c+1 - a).toNat:Nat):Int)=c - a+1 from by omega,show(((e+1 - b).toNat:Nat):Int)=e - b+1 from by omega]
 omega
theorem FG{a b:Int}{m n:Nat}:∃pre,xK a b (m+1) (n+1)=pre++[(a+m,b+n)]:=by
 have e1:xK a b (m+1) (n+1)=xK a b m (n+1)++(dJ (n+1)).map λj:Nat=>((a+m,b+j):Pt):=by
  unfold xK
  rw[show dJ (m+1)=dJ m++[m] from mX,dc,CH]
  simp
 rw[e1,mX,dc]
 exact⟨_,by rw[bb,qC,Ab]⟩
theorem FH(h:dW a b c e):∃pre,eE a b c e=pre++[(c,e)]:=by
 unfold dW at h
 obtain⟨m,hm⟩:∃m:Nat,(c+1 - a).toNat=m+1:=⟨(c - a).toNat,by omega⟩
 obtain⟨n,hn⟩:∃n:Nat,(e+1 - b).toNat=n+1:=⟨(e - b).toNat,by omega⟩
 obtain⟨pre,q⟩:=FG (a:=a) (b:=b) (m:=m) (n:=n)
 refine⟨pre,?_⟩
 unfold eE
 rw[hm,hn,q,show a+(m:Int)=c from by omega,show b+(n:Int)=e from by omega]
theorem xS(h:Lk W P d l k m rs st)(hr:rs.length < 100)(ok:dW a b c e):∃(pre:List Pt)(x:Pt)(st':Hs),upto (stp W P key) (eE a b c e)=pre++[x]/\
  a6 [.ref k,tI [a,b,c,e],key.w] st= .ok (.ref st.length) st'/\st'[st.length]? =some (.lst ((pre++[x]).map (gK W P)))/\Lk W P d l k m (c9 rs (.part a b c e x)) st'/\cj m st st':=by
 obtain⟨few,ne⟩:=il ok
 obtain⟨pre,x,u1,u2,⟨post,u3⟩,u4⟩:=fm (f:=stp W P key) ne
 obtain⟨more,ep⟩:=places' (st:=st++[Ob.lst []]) ok
 have g0:Gr st ((st++[Ob.lst []])++Ob.lst ((eE a b c e).map pw)::more):=Gr.push.trans Gr.app
 have h0:=h.gr g0
 have s0:((st++[Ob.lst []])++Ob.lst ((eE a b c e).map pw)::more)[st.length]? =some (.lst (([]:List Pt).map (gK W P))):=by simp
 have q0:aq ((st++[Ob.lst []])++Ob.lst ((eE a b c e).map pw)::more) (st++[Ob.lst []]).length=some ((eE a b c e).map pw):=qc
 generalize hst:(st++[Ob.lst []])++Ob.lst ((eE a b c e).map pw)::more=s1 at ep g0 h0 s0 q0
 have hl:l≠st.length:=bx (eN h.n.l)
 have hm:m < st.length:=eN h.m
 have hq:(st++[Ob.lst []]).length≠st.length:=by simp
 have O3:(st++[Ob.lst []]).length≠m:=by simp;omega
 generalize hq1:(st++[Ob.lst []]).length=q1 at ep q0 hq O3
 obtain⟨i1,i2⟩:=uk (a:=a) (b:=b) (c:=c) (e:=e) (key:=key) hr hl hq O3 (eE a b c e) [] s1 none h0 s0 q0 (by simp;omega)
 rw[nD] at i1 i2
 have h1:Lk W P d l k m rs (s1.set st.length (.lst ((pre++[x]).map (gK W P)))):=h0.set s0 hl
 have k1:cj m st (s1.set st.length (.lst ((pre++[x]).map (gK W P)))):=⟨by rw[zZ];exact g0.1,λj hj _=>by rw[dy (by omega)];exact g0.2 j hj⟩
 have s2:(s1.set st.length (.lst ((pre++[x]).map (gK W P))))[st.length]? =some (.lst ((pre++[x]).map (gK W P))):=dm s0
 refine⟨pre,x,gJ (s1.set st.length (.lst ((pre++[x]).map (gK W P)))) m (c9 rs (.part a b c e x)),u1,?_,?_,h1.met,k1.trans lT⟩
 ·unfold a6 b7 eO
  cases cx:stp W P key x with
  | true=>
   have q:=i1 x pre u1 cx
   rw[u1] at q
   generalize s1.set st.length (Ob.lst ((pre++[x]).map (gK W P)))=s3 at q ⊢
   simp[ep,jN q0,q]
  | false=>
   have e1:=u4 cx
   have an:(eE a b c e).any (stp W P key)=false:=by
    rw[e1,List.any_append,dz,List.any_nil,cx]
    simp
    intro y1 y2 hy
    exact u2 _ hy
   obtain⟨o,q⟩:=i2 an
   have q':=q
   rw[show(eE a b c e).map (gK W P)=(pre++[x]).map (gK W P) from by rw[e1]] at q'
   have ex:x=(c,e):=by
    obtain⟨pre',e2⟩:=FH ok
    rw[e1] at e2
    have:=congrArg List.getLast? e2
    simpa using this
   have f2:gF "Look" "met" (ag 0) [some (.ref k),some (tI [a,b,c,e]),some key.w,some (.ref st.length),o] (s1.set st.length (.lst ((pre++[x]).map (gK W P))))= .ok (.ref m) (s1.set st.length (.lst ((pre++[x]).map (gK W P)))):=zo rfl h1.o rfl
   have sl:∀st:Hs,yN (tI [a,b,c,e]) (some 2) none st= .ok (pw (c,e)) st:=λst=>NG (ws:=[.int a,.int b,.int c,.int e]) (by show ¬lu 4 (some 2) none;decide) rfl
   have f3:jE (gC (.bl true)) (gF "Look" "met" (ag 0)) (a4 (af (gC (.str "part")) (af (ag 1) (af (fb (ag 1) (kl (gC (.int 2))) gT) ak)))) [some (.ref k),some (tI [a,b,c,e]),some key.w,some (.ref st.length),o] (s1.set st.length (.lst ((pre++[x]).map (gK W P))))= .nx [some (.ref k),some (tI [a,b,c,e]),some key.w,some (.ref st.length),o] (gJ (s1.set st.length (.lst ((pre++[x]).map (gK W P)))) m (c9 rs (.part a b c e x))) :=
    h1.Ko hr (r:=.part a b c e x) rfl f2 (by rw[ex];simp[sl,Rd.w])
   generalize s1.set st.length (Ob.lst ((pre++[x]).map (gK W P)))=s3 at q' f3 ⊢
   simp[ep,jN q0,q',f3]
 ·unfold gJ
  rw[dy (by omega)]
  exact s2
end
theorem CM(wd:iz)(ws:List Wo):∃a:Wo,due wd ws=a.w:=by
 have b:∀i:Int,∃a:Wo,bnd i=a.w:=λi=>by
  unfold bnd
  by_cases c:ju < (if i < 0 then -i else i)
  ·exact⟨.oN "great",if_pos c⟩
  ·exact⟨.int i,if_neg c⟩
 unfold due
 split
 ·rename_i x _ _;exact⟨.oN x,rfl⟩
 ·cases wd with
  | sum=>exact b _
  | count=>exact⟨.int _,rfl⟩
  | least=>
   dsimp only
   split
   ·exact⟨.oN "none",rfl⟩
   ·exact b _
  | kU=>
   dsimp only
   split
   ·exact⟨.oN "none",rfl⟩
   ·exact b _
def Kp(wd:iz)(ws:List Wo):Wo:=Classical.choose (CM wd ws)
theorem CN(wd:iz)(ws:List Wo):(Kp wd ws).w=due wd ws:=(Classical.choose_spec (CM wd ws)).symm
def res:Sd->List Rd->Wv
 | .wt p,rs=> .tup [.str "waits",pw p,.tup (rs.map Rd.w)]
 | .wo a,rs=> .tup [.str "worth",a.w,.tup (rs.map Rd.w)]
def Sd.f:Sd->Bool
 | .wt _=>false
 | .wo a=>a.f
theorem Rn(s:Sd){st:Hs}:bD [s.w] st= .ok (.bl s.f) st:=by
 cases s with
 | wt p=>rfl
 | wo a=>exact Rg a st
theorem Kq{c f:S}{gv go:GE}{ρ:bA}{st st1 st2:Hs}{k:Nat}{fs:List (S×Wv)}{v:Wv}(h1:gv ρ st= .ok v st1)(h2:go ρ st1= .ok (.ref k) st2)(h3:st2[k]? =some (.ins c fs))(h4:fs.length < 900):jD c f gv go ρ st= .nx ρ (st2.set k (.ins c (BI f v fs))):=by
 have e:eG st2 c (.ref k)=some fs:=by unfold eG;simp[h3]
 unfold jD
 rw[h1]
 show(go ρ st1).a8 ρ _=_
 rw[h2]
 show(match BJ c f (.ref k) v st2 with | some st3=>Rs.nx ρ st3 | none=> .bad)=_
 unfold BJ
 rw[e]
 dsimp only
 rw[if_pos h4]
theorem init{st:Hs}{d l:Nat}:bo [.ref st.length,.ref d,.ref l] (st++[.ins "Look" []])= .ok .non (st++[.ins "Look" (lf d l (st.length+1)),.kY []]):=by
 have f1:jD "Look" "worths" (ag 1) (ag 0) [some (.ref st.length),some (.ref d),some (.ref l)] (st++[.ins "Look" []])= .nx [some (.ref st.length),some (.ref d),some (.ref l)] (st++[.ins "Look" [("worths",.ref d)]]):=by
  rw[Kq (k:=st.length) (v:=.ref d) rfl rfl mU (by simp),rC]
  rfl
 have f2:jD "Look" "waiting" (ag 2) (ag 0) [some (.ref st.length),some (.ref d),some (.ref l)] (st++[.ins "Look" [("worths",.ref d)]])= .nx [some (.ref st.length),some (.ref d),some (.ref l)] (st++[.ins "Look" [("worths",.ref d),("waiting",.ref l)]]):=by
  rw[Kq (k:=st.length) (v:=.ref l) rfl rfl mU (by simp),rC]
  rfl
 have f3:jD "Look" "met" xo (ag 0) [some (.ref st.length),some (.ref d),some (.ref l)] (st++[.ins "Look" [("worths",.ref d),("waiting",.ref l)]])= .nx [some (.ref st.length),some (.ref d),some (.ref l)] (st++[.ins "Look" (lf d l (st.length+1)),.kY []]):=by
  rw[Kq (k:=st.length) (v:=.ref (st++[Ob.ins "Look" [("worths",.ref d),("waiting",.ref l)]]).length) (st1:=st++[.ins "Look" [("worths",.ref d),("waiting",.ref l)]]++[.kY []]) (fs:=[("worths",.ref d),("waiting",.ref l)]) rfl rfl (by simp) (by simp)]
  simp
  rfl
 unfold bo b7 d_
 simp[f1,f2,f3]
section
variable {W:Ws} {P:List Pt} {d l k m:Nat} {st:Hs}
theorem rX{f:Wv}{s:Sd}{rs:List Rd}(n:Kn W P d l st)(hg:∀(st:Hs)(k m:Nat),Lk W P d l k m [] st->∃st',au [f,.ref k] st= .ok s.w st'/\Lk W P d l k m rs st'/\cj m st st') :
  ∃st',b9 [f,.ref d,.ref l] st= .ok (res s rs) st'/\Gr st st':=by
 have i:=init (st:=st) (d:=d) (l:=l)
 have g:Gr st (st++[.ins "Look" (lf d l (st.length+1)),.kY []]):=Gr.app
 have hk:Lk W P d l st.length (st.length+1) [] (st++[.ins "Look" (lf d l (st.length+1)),.kY []]):=⟨n.gr g,by simp,by simp⟩
 obtain⟨st',e1,h1,k1⟩:=hg _ _ _ hk
 have mk:xp "Look" 3 bo (af (ag 1) (af (ag 2) ak)) [some f,some (.ref d),some (.ref l),none,none,none] st= .ok (.ref st.length) (st++[.ins "Look" (lf d l (st.length+1)),.kY []]):=by
  show(if([Wv.ref d,.ref l]:List Wv).length+1=3 then OD "Look" bo [.ref d,.ref l] st else .bad)=_
  rw[if_pos (show([Wv.ref d,.ref l]:List Wv).length+1=3 from rfl)]
  unfold OD
  rw[i]
 have fl:gF "Look" "met" (ag 3) [some f,some (.ref d),some (.ref l),some (.ref st.length),some s.w,none] st'= .ok (.ref (st.length+1)) st':=zo rfl h1.o rfl
 have tp:=h1.tup
 have hh:=halts s (st:=st')
 have hf:=Rn s (st:=st')
 refine⟨st',?_,g.vP (by omega) k1⟩
 unfold b9 b7 lP
 generalize st++[.ins "Look" (lf d l (st.length+1)),.kY []]=s1 at mk e1
 cases s with
 | wt p=>
  have ix:ba (Sd.wt p).w (.int 1) st'= .ok (pw p) st':=rfl
  simp[mk,e1,fl,tp,hh,hf,Sd.h,Sd.f,ix,res]
 | wo a=>
  cases q:a.f<;>simp[Sd.h,Sd.f,q] at hh hf<;>simp[mk,e1,fl,tp,hh,hf,res]<;>rfl
end
section
variable {W:Ws} {P:List Pt} {d l k m:Nat} {rs:List Rd} {st:Hs} {a b c e:Int}
theorem xT(p:Pt):stp W P .non p=(gI W P p).h:=by
 unfold stp ft
 simp[Wo.nn]
theorem CO{p:Pt}(h:(gI W P p).h=false):gI W P p= .wo (wo W p)/\p∉P/\(wo W p).f=false:=by
 unfold gI at h ⊢
 by_cases c:p∈P
 ·rw[if_pos c] at h;cases h
 ·rw[if_neg c] at h ⊢;exact⟨rfl,c,h⟩
theorem Kr{ps:List Pt}(h:∀p∈ps,(gI W P p).h=false):ps.map (gK W P)=(ps.map (wo W)).map Wo.w:=by
 rw[eR]
 refine vY λp hp=>?_
 unfold gK
 rw[(CO (h p hp)).1]
 rfl
def FI(W:Ws)(P:List Pt)(wd:iz)(us:List Pt)(x:Pt):Sd:=if(gI W P x).h=true then gI W P x else .wo (Kp wd (us.map (wo W)))
theorem Rp{wd:iz}(h:Lk W P d l k m rs st)(hr:rs.length < 100)(ok:dW a b c e)(hn:(eE a b c e).length < 100):∃(pre:List Pt)(x:Pt)(st':Hs),upto (stp W P .non) (eE a b c e)=pre++[x]/\
  bh [.str wd.s,tI [a,b,c,e],.ref k] st= .ok (FI W P wd (pre++[x]) x).w st'/\Lk W P d l k m (c9 rs (.part a b c e x)) st'/\cj m st st':=by
 obtain⟨pre,x,st',e1,e2,e3,e4,e5⟩:=xS (key:=.non) h hr ok
 obtain⟨pre',x',u1,u2,⟨post,u3⟩,_⟩:=fm (f:=stp W P .non) (il ok).2
 have u0:=e1.symm.trans u1
 have ex:pre=pre'/\x=x':=by
  have:=List.append_inj' u0 rfl
  exact⟨this.1,by simpa using this.2⟩
 obtain⟨rfl,rfl⟩:=ex
 have ix:ba (.ref st.length) (.int (-1)) st'= .ok (gI W P x).w st':=lG (fV e3) (by rw[dc];exact ou)
 have hh:=halts (gI W P x) (st:=st')
 have ms:jy "Look" "stretch" 3 a6 (ag 2) (af (ag 1) (af (gC .non) ak)) [some (.str wd.s),some (tI [a,b,c,e]),some (.ref k),none] st= .ok (.ref st.length) st':=(zp (k:=k) (ws:=[tI [a,b,c,e],.non]) rfl h.o rfl rfl rfl).trans e2
 have hlen:(pre++[x]).length<=(eE a b c e).length:=by rw[u3];simp
 cases q:(gI W P x).h with
 | true=>
  refine⟨pre,x,st',e1,?_,e4,e5⟩
  rw[q] at hh
  unfold bh b7 b0 FI
  rw[if_pos q]
  simp[ms,ix,hh]
 | false=>
  have al:∀p∈pre++[x],(gI W P p).h=false:=λp hp=>by
   rcases List.mem_append.mp hp with hp | hp
   ·rw[<-xT];exact u2 p hp
   ·rw[List.mem_singleton.mp hp];exact q
  have lg:aq st' st.length=some (((pre++[x]).map (wo W)).map Wo.w):=by rw[<-Kr al];exact fV e3
  obtain⟨s2,g1,g2⟩:=gather (wd:=wd) lg (by rw[bT];omega)
  refine⟨pre,x,s2,e1,?_,e4.gr g2,e5.trans g2.keep⟩
  rw[q] at hh
  unfold bh b7 b0 FI
  rw[if_neg (by rw[q];exact bz),show ∀a:Wo,(Sd.wo a).w=a.w from λ_=>rfl,CN]
  generalize (pre++[x]).map (wo W)=us at g1
  simp[ms,ix,hh,g1]
inductive Kf
 | num (i:Int)
 | pt (p:Pt)
 | txt
 | mn
def Kf.w:Kf->Wv
 | .num i=> .tup [.str "num",.int i]
 | .pt p=> .tup [.str "at",pw p,.tup [.int 0,.int 0]]
 | .txt=> .tup [.str "text",.str "a"]
 | .mn=> .tup [.str "minus",.tup [.str "num",.int 1]]
def Kf.s(W:Ws)(P:List Pt):Kf->Sd
 | .num i=> .wo (.int i)
 | .pt p=>gI W P p
 | .txt=> .wo (.txt "a")
 | .mn=> .wo (.int (-1))
def Kf.rd:Kf->List Rd
 | .pt p=>[.rW p]
 | _=>[]
theorem um{n:Nat}{i:Int}:az (n+1) [.tup [.str "num",.int i],.ref k] st= .ok (.int i) st:=by
 have i0:∀st:Hs,ba (.tup [.str "num",.int i]) (.int 0) st= .ok (.str "num") st:=λst=>rfl
 have i1:∀st:Hs,ba (.tup [.str "num",.int i]) (.int 1) st= .ok (.int i) st:=λst=>rfl
 rw[bj]
 unfold b7 bg
 simp[i0,i1]
theorem CP{n:Nat}:az (n+1) [.tup [.str "text",.str "a"],.ref k] st= .ok (.str "a") st:=by
 have i0:∀st:Hs,ba (.tup [.str "text",.str "a"]) (.int 0) st= .ok (.str "text") st:=λst=>rfl
 have i1:∀st:Hs,ba (.tup [.str "text",.str "a"]) (.int 1) st= .ok (.str "a") st:=λst=>rfl
 have t1:(("text":S) == "num")=false:=rfl
 rw[bj]
 unfold b7 bg
 simp[i0,i1,t1]
theorem FJ{n:Nat}{p:Pt}{ws:List Wv}(h:Lk W P d l k m rs st)(hr:rs.length < 100):az (n+1) [.tup (.str "at"::pw p::ws),.ref k] st= .ok (gI W P p).w (gJ st m (c9 rs (.rW p))):=by
 have i0:∀st:Hs,ba (.tup (.str "at"::pw p::ws)) (.int 0) st= .ok (.str "at") st:=λst=>TH
 have i1:∀st:Hs,ba (.tup (.str "at"::pw p::ws)) (.int 1) st= .ok (pw p) st:=λst=>Vk
 have t1:(("at":S) == "num")=false:=rfl
 have t2:(("at":S) == "text")=false:=rfl
 have t3:(("at":S) == "lost")=false:=rfl
 have ms:jy "Look" "cell" 2 bF (ag 1) (af (aj ba (ag 0) (gC (.int 1))) ak) [some (.tup (.str "at"::pw p::ws)),some (.ref k),some (.str "at")] st= .ok (gI W P p).w (gJ st m (c9 rs (.rW p))) :=
  (zp (k:=k) (ws:=[pw p]) rfl h.o rfl (by simp[i1]) rfl).trans (cell h hr p)
 rw[bj]
 unfold b7 bg
 simp[i0,t1,t2,t3,ms]
theorem FK{n:Nat}:az (n+3) [.tup [.str "minus",.tup [.str "num",.int 1]],.ref k] st= .ok (.int (-1)) (st++[.lst [.int 1]]):=by
 have i0:∀st:Hs,ba (.tup [.str "minus",.tup [.str "num",.int 1]]) (.int 0) st= .ok (.str "minus") st:=λst=>rfl
 have t1:(("minus":S) == "num")=false:=rfl
 have t2:(("minus":S) == "text")=false:=rfl
 have t3:(("minus":S) == "lost")=false:=rfl
 have t4:(("minus":S) == "at")=false:=rfl
 have t5:(("minus":S) == "if")=false:=rfl
 have t6:(("minus":S) == "else")=false:=rfl
 have t7:(("minus":S) == "find")=false:=rfl
 have po:=λst=>ug (x:="minus") (k:=1) (ws:=[.tup [.str "num",.int 1]]) (us:=[.tup [.str "num",.int 1]]) rfl (by show ¬lu 2 (some 1) (some (1+1));decide) rfl st
 have rk:av (n+2) [.tup [.str "minus",.tup [.str "num",.int 1]],.ref k] st= .ok (.int (-1)) (st++[.lst [.int 1]]):=by
  have gn:=um (n:=n) (i:=1) (k:=k) (st:=st++[.lst []])
  have km:=λga ρ=>kH (mt:=jv) (ga:=ga) (ρ:=ρ) (st:=st++[.lst []]) (l:=st.length) aX
  have ap:jv (.ref st.length) (.int 1) (st++[.lst []])= .ok .non (st++[.lst [.int 1]]):=by
   rw[xD (ws:=[]) mU (by unfold lim;simp),rC]
   rfl
  have l1:aq (st++[.lst [.int 1]]) st.length=some [.int 1]:=aX
  have ix:∀i:Int,(i= -1\/i=0)->ba (.ref st.length) (.int i) (st++[.lst [.int 1]])= .ok (.int 1) (st++[.lst [.int 1]]):=λi hi=>lG l1 (by rcases hi with rfl | rfl<;>rfl)
  have hh:=halts (.wo (.int 1)) (st:=st++[.lst [.int 1]])
  have Vl:bY [.int 1] (st++[.lst [.int 1]])= .ok (.bl false) (st++[.lst [.int 1]]):=hh
  have ln:=qb l1
  have sg:i5 [.str "minus",.int 1] (st++[.lst [.int 1]])= .ok (.int (-1)) (st++[.lst [.int 1]]):=by
   have f1:=Rg (.int 1) (st++[.lst [.int 1]])
   have f2:f7 [.int 1] (st++[.lst [.int 1]])= .ok (.int 1) (st++[.lst [.int 1]]):=rfl
   have f3:cW [.int (-1)] (st++[.lst [.int 1]])= .ok (.int (-1)) (st++[.lst [.int 1]]):=by
    rw[bounded]
    unfold bnd
    rw[if_neg (by decide+kernel)]
   have f4:∀st,lh k6 jP [.int 1,.ty "str"] st= .ok (.bl false) st:=λst=>rfl
   simp[Wo.w,Wo.f] at f1
   unfold i5 b7 oA
   generalize st++[.lst [.int 1]]=s1 at *
   simp[f1,f2,f3,f4]
  rw[gw]
  have tn:dI 3 (cu (aB (n+1)) (av (n+1)) (az (n+1))) [.tup [.str "num",.int 1]] [some (.tup [.str "minus",.tup [.str "num",.int 1]]),some (.ref k),some (.ref st.length),none] (st++[.lst []])= .nx [some (.tup [.str "minus",.tup [.str "num",.int 1]]),some (.ref k),some (.ref st.length),some (.tup [.str "num",.int 1])] (st++[.lst [.int 1]]):=by
   unfold dI cu
   generalize st++[.lst [.int 1]]=s1 at *
   generalize st++[.lst []]=s0 at *
   simp[km,gn,ap,ix,Vl,dI]
  unfold b7 b5
  generalize st++[.lst [.int 1]]=s1 at *
  simp[po,tn,ln,ix,i0,sg]
 rw[bj]
 unfold b7 bg
 have tr:∀st:Hs,nQ (.tup [.tup [.str "num",.int 1]]) st= .ok true st:=λst=>rfl
 simp[i0,t1,t2,t3,t4,t5,t6,t7,po,tr,rk]
theorem uo{n:Nat}(f:Kf)(h:Lk W P d l k m [] st):∃st',az (n+3) [f.w,.ref k] st= .ok (f.s W P).w st'/\Lk W P d l k m f.rd st'/\cj m st st':=by
 cases f with
 | num i=>exact⟨st,um,h,cj.refl⟩
 | pt p=>exact⟨_,FJ h (by simp),h.met,lT⟩
 | txt=>exact⟨st,CP,h,cj.refl⟩
 | mn=>exact⟨_,FK,h.gr Gr.push,Gr.push.keep⟩
end
def eW(f:Pt->Bool)(ps:List Pt):Pt:=(upto f ps).getLast?.getD (0,0)
theorem jc{f:Pt->Bool}{ps pre:List Pt}{x:Pt}(h:upto f ps=pre++[x]):eW f ps=x:=by
 unfold eW
 rw[h]
 simp
def xU(W:Ws)(P:List Pt)(f:Kf)(a b c e:Int):Sd×List Rd:=match f.s W P with
 | .wt p=>(.wt p,f.rd)
 | .wo kv=>if kv.f=true then(.wo kv,f.rd) else if kv.nn=false then(.wo (.oN "none"),f.rd) else
   if(gI W P (eW (stp W P kv) (eE a b c b))).h=true then(gI W P (eW (stp W P kv) (eE a b c b)),c9 f.rd (.part a b c b (eW (stp W P kv) (eE a b c b))))
   else if ft (wo W (eW (stp W P kv) (eE a b c b))) kv=false then(.wo (.oN "none"),c9 f.rd (.part a b c b (eW (stp W P kv) (eE a b c b))))
   else(gI W P ((eW (stp W P kv) (eE a b c b)).1,e),c9 (c9 f.rd (.part a b c b (eW (stp W P kv) (eE a b c b)))) (.rW ((eW (stp W P kv) (eE a b c b)).1,e)))
section
variable {W:Ws} {P:List Pt} {d l k m:Nat} {rs:List Rd} {st:Hs} {a b c e:Int}
theorem v7(h:dW a b c e):dW a b c b:=by
 unfold dW at h ⊢
 have:(c - a+1) * (b - b+1)=c - a+1:=by rw[Int.sub_self,Int.zero_add,Int.mul_one]
 omega
theorem xV(h:dW a b c e):eE a b c b=(dJ (c+1 - a).toNat).map λk:Nat=>((a+k,b):Pt):=by
 unfold eE xK
 rw[show(b+1 - b).toNat=1 from by omega]
 have e:(λk:Nat=>(dJ 1).map λj:Nat=>((a+k,b+j):Pt))=λk:Nat=>[((a+k,b):Pt)]:=by
  funext k
  simp
 rw[e]
 induction (c+1 - a).toNat with
 | zero=>rfl
 | succ n ih=>rw[mX,dc,CH,ih,dc];simp
theorem Ks(h:dW a b c e){pre post:List Pt}{x:Pt}(u:eE a b c b=pre++x::post):x=(a+(pre.length:Nat),b):=by
 rw[xV h] at u
 have e1:(pre++x::post)[pre.length]? =some x:=by simp
 rw[<-u,fu] at e1
 cases q:(dJ (c+1 - a).toNat)[pre.length]? with
 | none=>rw[q] at e1;cases e1
 | some j=>
  rw[q] at e1
  have hj:j=pre.length:=by
   have hl:=(List.getElem?_eq_some_iff.mp q).1
   have:=(List.getElem?_eq_some_iff.mp q).2
   simpa using this.symm
  subst hj
  exact(Option.some.inj e1).symm
theorem rY(f:Kf):f.rd.length<=1:=by cases f<;>simp[Kf.rd]
theorem uq(rs:List Rd)(r:Rd):(c9 rs r).length<=rs.length+1:=by
 unfold c9
 split
 ·omega
 ·simp
theorem fin{n:Nat}(h:Lk W P d l k m [] st)(ok:dW a b c e)(f:Kf):∃st',aB (n+4) [.tup [.str "find",f.w,tI [a,b,c,e],tI [0,0,0,0]],.ref k] st= .ok (xU W P f a b c e).1.w st'/\Lk W P d l k m (xU W P f a b c e).2 st'/\cj m st st':=by
 obtain⟨s1,g1,h1,k1⟩:=uo (n:=n) f h
 have i1:∀st:Hs,ba (.tup [.str "find",f.w,tI [a,b,c,e],tI [0,0,0,0]]) (.int 1) st= .ok f.w st:=λst=>rfl
 have i2:∀st:Hs,ba (.tup [.str "find",f.w,tI [a,b,c,e],tI [0,0,0,0]]) (.int 2) st= .ok (tI [a,b,c,e]) st:=λst=>rfl
 have j:∀st:Hs,ba (tI [a,b,c,e]) (.int 0) st= .ok (.int a) st/\ba (tI [a,b,c,e]) (.int 1) st= .ok (.int b) st/\ba (tI [a,b,c,e]) (.int 2) st= .ok (.int c) st/\ba (tI [a,b,c,e]) (.int 3) st= .ok (.int e) st:=λst=>⟨rfl,rfl,rfl,rfl⟩
 have hh:=halts (f.s W P) (st:=s1)
 have fl:∀st:Hs,cq [.str "none"] st= .ok (.tup [.str "fault",.str "none"]) st:=λst=>rfl
 rw[i8]
 unfold b7 dt xU
 generalize aB (n+3)=G1
 generalize av (n+3)=G2
 cases q:f.s W P with
 | wt p=>
  rw[q] at hh g1
  dsimp only
  refine⟨s1,?_,h1,k1⟩
  simp[Sd.h] at hh
  simp[i1,g1,hh]
 | wo kv=>
  rw[q] at hh g1
  dsimp only
  cases q1:kv.f with
  | true=>
   refine⟨s1,?_,h1,k1⟩
   simp[Sd.h,q1] at hh
   simp[i1,g1,hh]
  | false=>
   simp only[Sd.h,q1] at hh
   rw[if_neg bz]
   have in1:=Rm kv (st:=s1)
   change az (n+3) [f.w,.ref k] st= .ok kv.w s1 at g1
   change bY [kv.w] s1=_ at hh
   cases q2:kv.nn with
   | false=>
    rw[if_pos rfl]
    rw[q2] at in1
    refine⟨s1,?_,h1,k1⟩
    simp[i1,g1,hh,in1,fl]
    rfl
   | true=>
    rw[if_neg (by simp)]
    rw[q2] at in1
    obtain⟨pre,x,s2,e1,e2,e3,e4,e5⟩:=xS (key:=kv) h1 (by have:=rY f;omega) (v7 ok)
    rw[jc e1]
    obtain⟨pre',x',u1,u2,⟨post,u3⟩,_⟩:=fm (f:=stp W P kv) (il (v7 ok)).2
    have ex:pre=pre'/\x=x':=by
     have:=List.append_inj' (e1.symm.trans u1) rfl
     exact⟨this.1,by simpa using this.2⟩
    obtain⟨rfl,rfl⟩:=ex
    have xc:=Ks ok u3
    have ms:jy "Look" "stretch" 3 a6 (ag 1) (af (a4 (af (aj ba (ag 3) (gC (.int 0))) (af (aj ba (ag 3) (gC (.int 1))) (af (aj ba (ag 3) (gC (.int 2))) (af (aj ba (ag 3) (gC (.int 1))) ak))))) (af (ag 2) ak)) [some (.tup [.str "find",f.w,tI [a,b,c,e],tI [0,0,0,0]]),some (.ref k),some kv.w,some (tI [a,b,c,e]),none] s1= .ok (.ref s1.length) s2 :=
     (zp (k:=k) (ws:=[tI [a,b,c,b],kv.w]) rfl h1.o rfl (by simp[j];rfl) rfl).trans e2
    have ix:ba (.ref s1.length) (.int (-1)) s2= .ok (gI W P x).w s2:=lG (fV e3) (by rw[dc];exact ou)
    have hx:=halts (gI W P x) (st:=s2)
    cases q3:(gI W P x).h with
    | true=>
     rw[if_pos rfl]
     rw[q3] at hx
     refine⟨s2,?_,e4,k1.trans e5⟩
     simp[i1,g1,hh,in1,i2,ms,ix,hx]
    | false=>
     rw[if_neg bz]
     rw[q3] at hx
     have ew:=(CO q3).1
     have O4:=fits (wo W x) kv (st:=s2)
     rw[ew] at ix hx
     change ba (.ref s1.length) (.int (-1)) s2= .ok (wo W x).w s2 at ix
     change bY [(wo W x).w] s2=_ at hx
     cases q4:ft (wo W x) kv with
     | false=>
      rw[if_pos rfl]
      rw[q4] at O4
      refine⟨s2,?_,e4,k1.trans e5⟩
      simp[i1,g1,hh,in1,i2,ms,ix,hx,O4,fl]
      rfl
     | true=>
      rw[if_neg (by simp)]
      rw[q4] at O4
      have ln:=qb (fV e3)
      rw[bT,iB] at ln
      have x1:a+((pre.length+[x].length:Nat):Int) - 1=x.1:=by rw[xc];simp;omega
      have hr2:(c9 f.rd (.part a b c b x)).length < 100:=by have:=rY f;have:=uq f.rd (.part a b c b x);omega
      have cl:=cell e4 hr2 (x.1,e)
      have mc:jy "Look" "cell" 2 bF (ag 1) (af (a4 (af (aj nN (aj bB (aj ba (ag 3) (gC (.int 0))) (bt iH (af (ag 4) ak))) (gC (.int 1))) (af (aj ba (ag 3) (gC (.int 3))) ak))) ak) [some (.tup [.str "find",f.w,tI [a,b,c,e],tI [0,0,0,0]]),some (.ref k),some kv.w,some (tI [a,b,c,e]),some (.ref s1.length)] s2= .ok (gI W P (x.1,e)).w (gJ s2 m (c9 (c9 f.rd (.part a b c b x)) (.rW (x.1,e)))) :=
       (zp (k:=k) (ws:=[pw (x.1,e)]) rfl e4.o rfl (by
        have ln':=ln
        generalize pre.length+[x].length=q at ln' x1
        simp[j,ln',x1]) rfl).trans cl
      refine⟨_,?_,e4.met,(k1.trans e5).trans lT⟩
      simp[i1,g1,hh,in1,i2,ms,ix,hx,O4,mc]
end
section
variable {W:Ws} {P:List Pt} {d l k m:Nat} {rs:List Rd} {st:Hs} {a b c e:Int}
theorem Kt(n:Kn W P d l st)(f:Kf):∃st',b9 [f.w,.ref d,.ref l] st= .ok (res (f.s W P) f.rd) st'/\Gr st st':=rX n λst k m h=>uo (n:=3) f h
theorem Ku(n:Kn W P d l st)(ok:dW a b c e)(f:Kf):∃st',b9 [.tup [.str "find",f.w,tI [a,b,c,e],tI [0,0,0,0]],.ref d,.ref l] st= .ok (res (xU W P f a b c e).1 (xU W P f a b c e).2) st'/\Gr st st':=by
 refine rX n λst k m h=>?_
 obtain⟨st',e1,h1,k1⟩:=fin (n:=1) h ok f
 refine⟨st',?_,h1,k1⟩
 have i0:∀st:Hs,ba (.tup [.str "find",f.w,tI [a,b,c,e],tI [0,0,0,0]]) (.int 0) st= .ok (.str "find") st:=λst=>rfl
 have t1:(("find":S) == "num")=false:=rfl
 have t2:(("find":S) == "text")=false:=rfl
 have t3:(("find":S) == "lost")=false:=rfl
 have t4:(("find":S) == "at")=false:=rfl
 have t5:(("find":S) == "if")=false:=rfl
 have t6:(("find":S) == "else")=false:=rfl
 show az (5+1) _ _=_
 rw[bj]
 unfold b7 bg
 simp[i0,t1,t2,t3,t4,t5,t6,e1]
theorem Kv{wd:iz}(n:Kn W P d l st)(ok:dW a b c e)(hn:(eE a b c e).length < 100):∃st',b9 [.tup [.str wd.s,tI [a,b,c,e],tI [0,0,0,0]],.ref d,.ref l] st= .ok (res (FI W P wd (upto (stp W P .non) (eE a b c e)) (eW (stp W P .non) (eE a b c e))) [.part a b c e (eW (stp W P .non) (eE a b c e))]) st'/\Gr st st':=by
 refine rX n λst k m h=>?_
 obtain⟨pre,x,st',u,e1,h1,k1⟩:=Rp (wd:=wd) h (by simp) ok hn
 rw[jc u,u]
 refine⟨st',?_,h1,k1⟩
 have i0:∀st:Hs,ba (.tup [.str wd.s,tI [a,b,c,e],tI [0,0,0,0]]) (.int 0) st= .ok (.str wd.s) st:=λst=>rfl
 have i1:∀st:Hs,ba (.tup [.str wd.s,tI [a,b,c,e],tI [0,0,0,0]]) (.int 1) st= .ok (tI [a,b,c,e]) st:=λst=>rfl
 have t1:(wd.s == ("num":S))=false:=by cases wd<;>rfl
 have t2:(wd.s == ("text":S))=false:=by cases wd<;>rfl
 have t3:(wd.s == ("lost":S))=false:=by cases wd<;>rfl
 have t4:(wd.s == ("at":S))=false:=by cases wd<;>rfl
 have t5:(wd.s == ("if":S))=false:=by cases wd<;>rfl
 have t6:(wd.s == ("else":S))=false:=by cases wd<;>rfl
 have t7:(wd.s == ("find":S))=false:=by cases wd<;>rfl
 have po:=λst=>ug (x:=wd.s) (k:=0) (ws:=[tI [a,b,c,e],tI [0,0,0,0]]) (us:=[]) (by cases wd<;>rfl) (by show ¬lu 3 (some 1) (some (1+0));decide) rfl st
 have tr:∀st:Hs,nQ (.tup []) st= .ok false st:=λst=>rfl
 show az (5+1) _ _=_
 rw[bj]
 unfold b7 bg
 simp[i0,i1,t1,t2,t3,t4,t5,t6,t7,po,tr,e1]
theorem Kx{l:Nat}{ws:List Wv}{st:Hs}(h:aq st l=some ws):pW [.ref l] st= .ok (.int ws.length) st:=by
 have e:iw st[l]? =none:=by
  unfold aq at h
  cases q:st[l]? with
  | none=>rfl
  | some o=>
   rw[q] at h
   cases o<;>first | rfl | cases h
 show(match iw st[l]? with | some kvs=>Re.ok (Wv.int kvs.length) st | none=>iH [.ref l] st)=_
 rw[e]
 exact qb h
theorem zq(n:Kn W P d l st){q:Nat}{key:Wo}{o5:Option Wv}(p:Pt):cN [some (.ref q),some (.ref d),some (.ref l),some key.w,some (pw p),o5] st=
  if stp W P key p=true then .rt (pw p) st else .nx [some (.ref q),some (.ref d),some (.ref l),some key.w,some (pw p),some (wo W p).w] st:=by
 have f1:dO (ag 1) (ag 4) (gC .non) [some (.ref q),some (.ref d),some (.ref l),some key.w,some (pw p),o5] st= .ok (wo W p).w st:=n.FE rfl rfl
 have f2:=n.xO p
 have f3:=FU (wo W p) st
 have f4:=FF key (st:=st)
 have f5:=FF (wo W p) (st:=st)
 have f6:=sw (wo W p) key st
 unfold cN stp gI ft
 by_cases c1:p∈P
 ·simp[f1,f2,c1,Sd.h]
 ·cases c2:(wo W p).f<;>cases c3:key.nn<;>cases c4:(wo W p).nn<;>cases c5:same (wo W p) key<;>simp[f1,f2,f3,f4,f5,f6,c1,c2,c3,c4,c5,Sd.h]
theorem qd(n:Kn W P d l st){q:Nat}{key:Wo}{all:List Wv}(hq:aq st q=some all):∀(post:List Pt)(o4 o5:Option Wv),
  (∀x post',upto (stp W P key) post=post'++[x]->stp W P key x=true->forL 4 cN q all (post.map pw) [some (.ref q),some (.ref d),some (.ref l),some key.w,o4,o5] st= .rt (pw x) st)/\
  (post.any (stp W P key)=false->∃p4 p5,forL 4 cN q all (post.map pw) [some (.ref q),some (.ref d),some (.ref l),some key.w,o4,o5] st= .nx [some (.ref q),some (.ref d),some (.ref l),some key.w,p4,p5] st)
 | [],o4,o5=>⟨λx post' z=>by simp[upto] at z,λ_=>⟨o4,o5,rfl⟩⟩
 | p::post,o4,o5=>by
  have t:=zq n (q:=q) (key:=key) (o5:=o5) p
  obtain⟨i1,i2⟩:=qd n (key:=key) hq post (some (pw p)) (some (wo W p).w)
  refine⟨λx post' z zx=>?_,λz=>?_⟩
  ·rw[bb]
   unfold forL
   rw[show([some (Wv.ref q),some (.ref d),some (.ref l),some key.w,o4,o5]:bA).set 4 (some (pw p))=[some (.ref q),some (.ref d),some (.ref l),some key.w,some (pw p),o5] from rfl,t]
   unfold upto at z
   by_cases cp:stp W P key p=true
   ·rw[if_pos cp] at z
    rw[if_pos cp]
    have:p=x:=by
     cases post' with
     | nil=>cases z;rfl
     | cons _ r=>cases r<;>cases z
    subst this
    rfl
   ·rw[if_neg cp] at z
    rw[if_neg cp]
    dsimp only
    rw[if_pos hq]
    cases post' with
    | nil=>
     have:x=p:=(List.cons.inj z).1.symm
     subst this
     exact absurd zx cp
    | cons y r=>exact i1 x r (List.cons.inj z).2 zx
  ·rw[dz,Gu] at z
   obtain⟨p4,p5,e2⟩:=i2 z.2
   refine⟨p4,p5,?_⟩
   rw[bb]
   unfold forL
   rw[show([some (Wv.ref q),some (.ref d),some (.ref l),some key.w,o4,o5]:bA).set 4 (some (pw p))=[some (.ref q),some (.ref d),some (.ref l),some key.w,some (pw p),o5] from rfl,t,if_neg (by rw[z.1];exact bz)]
   dsimp only
   rw[if_pos hq]
   exact e2
theorem ur(n:Kn W P d l st){q:Nat}{key:Wo}{ps:List Pt}(hq:aq st q=some (ps.map pw))(ne:ps≠[]):cg [.ref q,.ref d,.ref l,key.w] st= .ok (pw (eW (stp W P key) ps)) st:=by
 obtain⟨i1,i2⟩:=qd n (key:=key) hq ps none none
 obtain⟨pre,x,u1,u2,u3,u4⟩:=fm (f:=stp W P key) ne
 rw[jc u1]
 unfold cg b7 i9
 cases cx:stp W P key x with
 | true=>
  have q1:=i1 x pre u1 cx
  simp[jN hq,q1]
 | false=>
  have e1:=u4 cx
  have an:ps.any (stp W P key)=false:=by
   rw[e1,List.any_append,dz,List.any_nil,cx]
   simp
   intro y1 y2 hy
   exact u2 _ hy
  obtain⟨p4,p5,q1⟩:=i2 an
  have ln:=Kx hq
  have ix:ba (.ref q) (.int ((ps.map pw).length - 1)) st= .ok (pw x) st:=by
   refine lG hq ?_
   rw[e1,dc]
   have:(((pre.map pw++[x].map pw).length:Nat):Int) - 1=((pre.map pw).length:Nat):=by simp
   rw[this]
   exact L2.je (by simp)
  generalize (ps.map pw).length=q2 at ln ix
  simp[jN hq,q1,ln,ix]
end
theorem CQ{ws:List Wv}{a:Nat}(h:a<=ws.length):ko ws none (some (a:Int))=ws.take a:=by
 have i1:HT.cD ws.length 0 none=0:=by
  unfold HT.cD
  simp
 have i2:HT.cD ws.length ws.length (some (a:Int))=a:=by
  unfold HT.cD
  simp
  rw[if_neg (by omega)]
  omega
 unfold ko
 rw[i1,i2,vn,Nat.sub_zero]
section
variable {W:Ws} {P:List Pt} {d l k m:Nat} {rs:List Rd} {st:Hs} {a b c e:Int}
theorem CT{wd:iz}{pre:List Pt}{x:Pt}(h:∀y∈pre,(wo W y).f=false)(hx:(wo W x).f=true):due wd ((pre++[x]).map (wo W))=(wo W x).w:=by
 have e1:iy (pre.map (wo W))=[]:=by
  induction pre with
  | nil=>rfl
  | cons y r ih=>
   have hy:=h y cG
   rw[bb]
   cases q:wo W y with
   | oN z=>rw[q] at hy;cases hy
   | _=>exact ih λz hz=>h z (bN _ hz)
 cases q:wo W x with
 | oN z=>
  have e2:iy ((pre++[x]).map (wo W))=[z]:=by
   rw[dc,ud,e1,bb,q]
   rfl
  unfold due
  rw[e2]
  rfl
 | _=>rw[q] at hx;cases hx
def FO(W:Ws)(P:List Pt)(wd:iz)(us:List Pt)(x:Pt)(rs:List Rd):Wv:=if x∈P then .tup [.str "waits",pw x,.tup (rs.map Rd.w)] else .tup [.str "worth",due wd (us.map (wo W)),.tup (rs.map Rd.w)]
theorem NI{wd:iz}{pre:List Pt}{x:Pt}{rs:List Rd}(h:∀y∈pre,stp W P .non y=false):res (FI W P wd (pre++[x]) x) rs=FO W P wd (pre++[x]) x rs:=by
 unfold FI FO
 by_cases c:x∈P
 ·have e:gI W P x= .wt x:=by unfold gI;rw[if_pos c]
  rw[e,if_pos c]
  rfl
 ·have e:gI W P x= .wo (wo W x):=by unfold gI;rw[if_neg c]
  rw[e,if_neg c]
  cases q:(wo W x).f with
  | true=>
   rw[if_pos (show(Sd.wo (wo W x)).h=true from q),CT (λy hy=>?_) q]
   ·rfl
   ·have:=h y hy
    rw[xT] at this
    exact(CO this).2.2
  | false=>
   rw[if_neg (show ¬(Sd.wo (wo W x)).h=true by show ¬(wo W x).f=true;rw[q];exact bz)]
   show Wv.tup [.str "worth",(Kp wd ((pre++[x]).map (wo W))).w,_]=_
   rw[CN]
theorem NJ{ps pre post:List Pt}{x:Pt}{q:Nat}(h:aq st q=some (ps.map pw))(u:ps=pre++x::post)(nd:ps.Nodup)(hl:ps.length < 1000):fA (.ref q) (pw x) st= .ok (.int (pre.length:Nat)) st:=by
 have d2:aS st 20 (pw x)=some (dP x):=rfl
 have e:(ps.map dP).findIdx? (λz=>aI z (dP x))=some pre.length:=by
  rw[u]
  have hp:∀y∈pre,y≠x:=λy hy z=>by
   subst z
   rw[u] at nd
   exact(List.nodup_append.mp nd).2.2 y hy y cG rfl
  clear u nd h hl
  induction pre with
  | nil=>
   rw[nD,bb,A9,oH]
   simp
  | cons y r ih=>
   rw[List.cons_append,bb,A9,oH,decide_eq_false (hp y cG),ih λz hz=>hp z (bN _ hz)]
   simp
 unfold fA
 rw[CK h,d2]
 dsimp only
 rw[e]
 dsimp only
 rw[if_pos (by rw[bT];unfold lim;omega)]
def TJ(W:Ws):Wv->Wv
 | .tup [.int i,.int j]=>(wo W (i,j)).w
 | _=> .non
theorem Ky{s0 A dd ll aa cc L:Wv}(hb:bP b)(hd:bP (e+1))(hn:(e+1 - b).toNat<=300){oK kW jX:Option Wv} :
  fS [("row",9)] (qT (af (ag 5) (af (aj bB (ag 7) (gC (.int 1))) ak))) cQ bS [some s0,some A,some dd,some ll,some aa,some (.int b),some cc,some (.int e),some L,some (.int a),oK,kW,jX] st= .ok (.ref st.length) (st++[.lst (gz a b (e+1 - b).toNat)]):=by
 have q:=fk (cs:=[("row",9)]) (gt:=cQ) (ge:=bS) (ρ:=[some s0,some A,some dd,some ll,some aa,some (.int b),some cc,some (.int e),some L,some (.int a),oK,kW,jX]) (w:=(none,br b (e+1 - b).toNat)) (st:=st) (t:=λ_=>true) (f:=λv=> .tup [.int a,v]) trivial
  (λv _ acc=>rfl) (λv _ _ acc=>by unfold bS;simp[jw]) (by rw[show((none,br b (e+1 - b).toNat):Wk).2=br b (e+1 - b).toNat from rfl,cz];unfold lim;omega)
 have ee:((br b (e+1 - b).toNat).filter λ_=>true).map (λv=>Wv.tup [.int a,v])=gz a b (e+1 - b).toNat:=by
  rw[List.filter_eq_self.mpr (λ_ _=>rfl)]
  unfold br gz
  rw[eR]
  rfl
 rw[show((none,br b (e+1 - b).toNat):Wk).2=br b (e+1 - b).toNat from rfl,ee] at q
 simp[vO hb hd,q]
theorem FP{s0 A dd ll aa cc:Wv}(hb:bP b)(hd:bP (e+1))(hn:(e+1 - b).toNat<=300){m:Nat}(hm:m<=100){L0:Nat}{o9 oK kW jX:Option Wv}(h0:aq st L0=some []):∃(o:Option Wv)(L:Nat)(st':Hs),
  dI 9 b6 (br a m) [some s0,some A,some dd,some ll,some aa,some (.int b),some cc,some (.int e),some (.ref L0),o9,oK,kW,jX] st= .nx [some s0,some A,some dd,some ll,some aa,some (.int b),some cc,some (.int e),some (.ref L),o,oK,kW,jX] st'/\aq st' L=some (dX a b m (e+1 - b).toNat)/\Gr st st':=by
 obtain⟨ρ1,st1,e1,o,L,rfl,hL,g⟩:=kJ (i:=9) (gb:=b6) (λk ρ st'=>∃(o:Option Wv)(L:Nat),ρ=[some s0,some A,some dd,some ll,some aa,some (.int b),some cc,some (.int e),some (.ref L),o,oK,kW,jX]/\aq st' L=some (dX a b k (e+1 - b).toNat)/\Gr st st')
  (br a m) 0 [some s0,some A,some dd,some ll,some aa,some (.int b),some cc,some (.int e),some (.ref L0),o9,oK,kW,jX] st ⟨o9,L0,rfl,h0,Gr.refl⟩ (λj w hw ρ st' hP=>by
   obtain⟨o,L,rfl,hL,g⟩:=hP
   have hj:j < m:=by
    have q:=(List.getElem?_eq_some_iff.mp hw).1
    rw[cz] at q
    exact q
   rw[jk hj] at hw
   cases hw
   rw[mY] at hL
   have ln:(dX a b j (e+1 - b).toNat).length+(gz (a+j) b (e+1 - b).toNat).length<=lim:=by
    rw[lS]
    have z:(gz (a+(j:Int)) b (e+1 - b).toNat).length=(e+1 - b).toNat:=by unfold gz;simp
    rw[z]
    have:j * (e+1 - b).toNat<=100 * 300:=xJ (by omega) hn
    unfold lim
    omega
   have rc:=Ky (s0:=s0) (A:=A) (dd:=dd) (ll:=ll) (aa:=aa) (cc:=cc) (L:=.ref L) (a:=a+(j:Int)) (st:=st') (oK:=oK) (kW:=kW) (jX:=jX) hb hd hn
   have ad:=add_l (st:=st'++[.lst (gz (a+j) b (e+1 - b).toNat)]) (Gr.push.lst hL) aX ln
   refine⟨_,_,?_,some (.int (a+(j:Int))),(st'++[Ob.lst (gz (a+j) b (e+1 - b).toNat)]).length,rfl,by rw[mY,oE];exact aX,(g.trans Gr.push).trans Gr.push⟩
   unfold b6
   simp only[Cn,Cp,xB,xI,xH,CG,CF,Co,rp,M9,rc,ad,vN,vM])
 exact⟨o,L,st1,e1,by rw[hL,cz,mY],g⟩
theorem CU{wd:iz}(n:Kn W P d l st)(ok:dW a b c e)(hn:(eE a b c e).length < 100):∃st',bI [.str wd.s,tI [a,b,c,e],.ref d,.ref l] st=
  .ok (FO W P wd (upto (stp W P .non) (eE a b c e)) (eW (stp W P .non) (eE a b c e)) [.part a b c e (eW (stp W P .non) (eE a b c e))]) st'/\Gr st st':=by
 have cr:bP a/\bP (c+1)/\bP b/\bP (e+1)/\(e+1 - b).toNat<=300/\(c+1 - a).toNat<=100:=by
  unfold dW at ok
  refine⟨tU (by omega) (by omega),tU (by omega) (by omega),tU (by omega) (by omega),tU (by omega) (by omega),by omega,by omega⟩
 obtain⟨ca,cc,cb,ce,n1,n2⟩:=cr
 have sT:iK [4,5,6,7] (ag 1) [some (.str wd.s),some (tI [a,b,c,e]),some (.ref d),some (.ref l),none,none,none,none,none,none,none,none,none] st= .nx [some (.str wd.s),some (tI [a,b,c,e]),some (.ref d),some (.ref l),some (.int a),some (.int b),some (.int c),some (.int e),none,none,none,none,none] st:=rfl
 obtain⟨o,L,s1,e1,hL,g1⟩:=FP (a:=a) (s0:=.str wd.s) (A:=tI [a,b,c,e]) (dd:=.ref d) (ll:=.ref l) (aa:=.int a) (cc:=.int c) (o9:=none) (oK:=none) (kW:=none) (jX:=none) (st:=st++[.lst []]) (L0:=st.length) cb ce n1 n2 aX
 rw[oG] at hL
 change aq s1 L=some ((eE a b c e).map pw) at hL
 have Rq:Gr st s1:=Gr.push.trans g1
 have k1:=n.gr Rq
 have sp:=ur k1 (key:=.non) hL (il ok).2
 change cg [.ref L,.ref d,.ref l,.non] s1=_ at sp
 obtain⟨pre,x,u1,u2,⟨post,u3⟩,u4⟩:=fm (f:=stp W P .non) (il ok).2
 rw[jc u1] at sp ⊢
 rw[u1]
 have xO:=k1.xO x
 unfold FO
 by_cases c1:x∈P
 ·rw[if_pos c1]
  refine⟨s1,?_,Rq⟩
  unfold bI b7 cZ
  simp[sT,ca,cc]
  simp[e1,sp,xO,c1,Rd.w]
 ·rw[if_neg c1]
  have nd:(eE a b c e).Nodup:=Kk
  have TK:=NJ hL u3 nd (by omega)
  have km:=λga ρ=>kH (mt:=fA) (ga:=ga) (ρ:=ρ) (st:=s1) (l:=L) hL
  have hlen:(pre++[x]).length<=(eE a b c e).length:=by rw[u3];simp
  have sl:=Q1 (lo:=none) (hi:=some (((pre.length+1:Nat):Int))) hL
  have ct:ko ((eE a b c e).map pw) none (some ((pre.length+1:Nat):Int))=(pre++[x]).map pw:=by
   rw[CQ (by rw[bT,u3];simp),u3,show pre++x::post=(pre++[x])++post by simp,dc]
   have hl:((pre++[x]).map pw).length=pre.length+1:=by simp
   rw[<-hl,List.take_left]
  rw[ct,show((pre.length+1:Nat):Int)=((pre.length:Nat):Int)+1 from by omega] at sl
  have l2:aq (s1++[.lst ((pre++[x]).map pw)]) s1.length=some ((pre++[x]).map pw):=aX
  have k2:=k1.gr (Gr.push (o:=.lst ((pre++[x]).map pw)))
  generalize hs2:s1++[.lst ((pre++[x]).map pw)]=s2 at sl l2 k2
  have Vm:Gr st s2:=by rw[<-hs2];exact Rq.trans Gr.push
  have q:=λρ:bA=>fk (cs:=[("worths",2)]) (gt:=cO) (ge:=cP) (ρ:=[some (.str wd.s),some (tI [a,b,c,e]),some (.ref d)]++ρ) (w:=(some s1.length,(pre++[x]).map pw)) (st:=s2) (t:=λ_=>true) (f:=TJ W) l2
   (λv _ acc=>rfl) (λv hv _ acc=>by
    obtain⟨p,_,rfl⟩:=List.mem_map.mp hv
    exact(k2.gr Gr.push).FE (p:=p) rfl rfl) (by show((pre++[x]).map pw).length < lim;rw[bT];unfold lim;omega)
  have ee:(((pre++[x]).map pw).filter λ_=>true).map (TJ W)=((pre++[x]).map (wo W)).map Wo.w:=by
   rw[List.filter_eq_self.mpr (λ_ _=>rfl),eR,eR]
   rfl
  have q':∀ρ:bA,e_ [("worths",2)] cO cP ([some (.str wd.s),some (tI [a,b,c,e]),some (.ref d)]++ρ) (some s1.length,(pre++[x]).map pw) s2= .ok (.ref s2.length) (s2++[.lst (((pre++[x]).map (wo W)).map Wo.w)]):=λρ=>by rw[<-ee];exact q ρ
  obtain⟨s4,h1,g4⟩:=gather (wd:=wd) (ws:=(pre++[x]).map (wo W)) (l:=s2.length) (st:=s2++[.lst (((pre++[x]).map (wo W)).map Wo.w)]) aX (by rw[bT];omega)
  refine⟨s4,?_,(Vm.trans Gr.push).trans g4⟩
  have q1:=q' [some (.ref l),some (.int a),some (.int b),some (.int c),some (.int e),some (.ref L),o,some (pw x),some (.tup [.tup [.str "part",tI [a,b,c,e],pw x]]),none]
  have sq:=lH l2
  generalize s2++[.lst (((pre++[x]).map (wo W)).map Wo.w)]=s3 at q1 h1
  generalize (pre++[x]).map (wo W)=us at h1 ⊢
  generalize (pre++[x]).map pw=us' at q1 sq
  generalize ((pre.length:Nat):Int)=pn at TK sl
  unfold bI b7 cZ
  simp[sT,ca,cc]
  simp at q1
  simp[e1,sp,xO,c1,km,TK,sl,sq,q1,h1,Rd.w]
end
theorem NL{xs ys:List Wv}{st:Hs}(h:xs.length+ys.length<=100):bB (.tup xs) (.tup ys) st= .ok (.tup (xs++ys)) st:=by
 show(if xs.length+ys.length<=lim then Re.ok (Wv.tup (xs++ys)) st else .bad)=_
 rw[if_pos (by unfold lim;omega)]
theorem v8{st:Hs}{n:Nat}(r:Rd):aS st (n+2) r.w=some r.d:=by
 cases r<;>cases n<;>rfl
theorem xW{st:Hs}:∀rs:List Rd,dM (aS st 19) (rs.map Rd.w)=some (rs.map Rd.d)
 | []=>rfl
 | r::rs=>by
  rw[bb]
  unfold dM
  rw[xW rs,v8 (n:=17) r]
  rfl
theorem NM{st:Hs}(r:Rd)(rs:List Rd):fM true r.w (.tup (rs.map Rd.w)) st= .ok (.bl (decide (r∉rs))) st:=by
 have d1:aS st 20 (.tup (rs.map Rd.w))=some (.tuple (rs.map Rd.d)):=by
  show(dM (aS st 19) (rs.map Rd.w)).map ji=_
  rw[xW]
  rfl
 have e:((rs.map Rd.d).any λz=>aI z r.d)=decide (r∈rs):=by
  rw[wB,CL,decide_eq_true_eq]
  constructor
  ·rintro⟨z,hz,e⟩
   obtain⟨s,hs,rfl⟩:=List.mem_map.mp hz
   have e2:aI s.k.1 r.k.1=true:=e
   rw[NK.KD.eqv] at e2
   rw[<-Rd.inj.mp (of_decide_eq_true e2)]
   exact hs
  ·intro h
   refine⟨r.d,List.mem_map.mpr ⟨r,h,rfl⟩,?_⟩
   have:aI r.k.1 r.k.1=true:=by rw[NK.KD.eqv];simp
   exact this
 unfold fM
 rw[d1,v8 (n:=18) r]
 dsimp only
 rw[e]
 by_cases h:r∈rs<;>simp[h]
section
variable {W:Ws} {P:List Pt} {d l k m:Nat} {st:Hs} {a b c e:Int}
theorem Kz{x0 A dd ll lk cc ee:Wv}{o9 oK kW jX oM:Option Wv}(ok:dW a b c e):fS [("left",6)] (qT (af (ag 5) (af (aj bB (ag 7) (gC (.int 1))) ak))) eQ du [some x0,some A,some dd,some ll,some lk,some (.int a),some (.int b),some (.int c),some ee,o9,oK,kW,jX,oM] st= .ok (.ref st.length) (st++[.lst ((eE a b c b).map pw)]):=by
 have cr:bP a/\bP (c+1)/\(c+1 - a).toNat<=300:=by
  unfold dW at ok
  exact⟨tU (by omega) (by omega),tU (by omega) (by omega),by omega⟩
 have q:=fk (cs:=[("left",6)]) (gt:=eQ) (ge:=du) (ρ:=[some x0,some A,some dd,some ll,some lk,some (.int a),some (.int b),some (.int c),some ee,o9,oK,kW,jX,oM]) (w:=(none,br a (c+1 - a).toNat)) (st:=st) (t:=λ_=>true) (f:=λv=> .tup [v,.int b]) trivial
  (λv _ acc=>rfl) (λv _ _ acc=>by unfold du;simp[jw]) (by rw[show((none,br a (c+1 - a).toNat):Wk).2=br a (c+1 - a).toNat from rfl,cz];unfold lim;omega)
 have ee:((br a (c+1 - a).toNat).filter λ_=>true).map (λv=>Wv.tup [v,.int b])=(eE a b c b).map pw:=by
  rw[List.filter_eq_self.mpr (λ_ _=>rfl),xV ok]
  unfold br
  rw[eR,eR]
  rfl
 rw[show((none,br a (c+1 - a).toNat):Wk).2=br a (c+1 - a).toNat from rfl,ee] at q
 simp[vO cr.1 cr.2.1,q]
theorem FQ(f:Kf)(p:Pt):Rd.part a b c e p∉f.rd:=by cases f<;>simp[Kf.rd]
theorem CV(n:Kn W P d l st)(ok:dW a b c e)(f:Kf):∃st',eL [f.w,tI [a,b,c,e],.ref d,.ref l] st= .ok (res (xU W P f a b c e).1 (xU W P f a b c e).2) st'/\Gr st st':=by
 obtain⟨s1,e1,g1⟩:=Kt n f
 have k1:=n.gr g1
 have w1:(("worth":S) == "waits")=false:=rfl
 unfold eL b7 ja xU
 cases q:f.s W P with
 | wt p=>
  rw[q] at e1
  dsimp only
  have i0:ba (res (.wt p) f.rd) (.int 0) s1= .ok (.str "waits") s1:=rfl
  refine⟨s1,?_,g1⟩
  simp[e1,i0]
 | wo kv=>
  rw[q] at e1
  dsimp only
  obtain⟨Gv,hlk⟩:∃v,v=res (.wo kv) f.rd:=⟨_,rfl⟩
  have i0:∀st:Hs,ba Gv (.int 0) st= .ok (.str "worth") st:=λst=>by rw[hlk];rfl
  have i1:∀st:Hs,ba Gv (.int 1) st= .ok kv.w st:=λst=>by rw[hlk];rfl
  have i2:∀st:Hs,ba Gv (.int 2) st= .ok (.tup (f.rd.map Rd.w)) st:=λst=>by rw[hlk];rfl
  rw[<-hlk] at e1
  have t1:=FU kv s1
  cases q1:kv.f with
  | true=>
   rw[q1] at t1
   rw[if_pos rfl]
   refine⟨s1,?_,g1⟩
   simp[e1,i0,i1,t1,w1]
   exact hlk
  | false=>
   rw[q1] at t1
   rw[if_neg bz]
   have in1:=Rm kv (st:=s1)
   cases q2:kv.nn with
   | false=>
    rw[if_pos rfl]
    rw[q2] at in1
    refine⟨s1,?_,g1⟩
    simp[e1,i0,i1,i2,t1,w1,in1,res]
    rfl
   | true=>
    rw[if_neg (by simp)]
    rw[q2] at in1
    have co:=Kz (x0:=f.w) (A:=tI [a,b,c,e]) (dd:=.ref d) (ll:=.ref l) (lk:=Gv) (cc:=.int c) (ee:=.int e) (o9:=none) (oK:=none) (kW:=none) (jX:=none) (oM:=none) (st:=s1) ok
    simp at co
    have sT:iK [5,6,7,8] (ag 1) [some f.w,some (tI [a,b,c,e]),some (.ref d),some (.ref l),some Gv,none,none,none,none,none,none,none,none,none] s1= .nx [some f.w,some (tI [a,b,c,e]),some (.ref d),some (.ref l),some Gv,some (.int a),some (.int b),some (.int c),some (.int e),none,none,none,none,none] s1:=rfl
    have k2:=k1.gr (Gr.push (o:=.lst ((eE a b c b).map pw)))
    have l2:aq (s1++[.lst ((eE a b c b).map pw)]) s1.length=some ((eE a b c b).map pw):=aX
    have g2:Gr st (s1++[.lst ((eE a b c b).map pw)]):=g1.trans Gr.push
    have sp:=ur k2 (key:=kv) l2 (il (v7 ok)).2
    generalize s1++[.lst ((eE a b c b).map pw)]=s2 at co k2 g2 sp
    generalize eW (stp W P kv) (eE a b c b)=x at sp ⊢
    have ar:c9 f.rd (.part a b c b x)=f.rd++[.part a b c b x]:=by unfold c9;rw[if_neg (FQ f x)]
    have ad:bB (.tup (f.rd.map Rd.w)) (.tup [.tup [.str "part",.tup [.int a,.int b,.int c,.int b],pw x]]) s2= .ok (.tup ((c9 f.rd (.part a b c b x)).map Rd.w)) s2:=by
     rw[NL (by have:=rY f;simp;omega),ar,dc]
     rfl
    have rl:(c9 f.rd (.part a b c b x)).length<=2:=by have:=rY f;have:=uq f.rd (.part a b c b x);omega
    generalize c9 f.rd (.part a b c b x)=rs at ad rl ⊢
    have xO:=k2.xO x
    have t2:=FU (wo W x) s2
    have NN:∀oM:Option Wv,dO (ag 2) (ag 10) (gC .non) [some f.w,some (tI [a,b,c,e]),some (.ref d),some (.ref l),some Gv,some (.int a),some (.int b),some (.int c),some (.int e),some (.ref s1.length),some (pw x),some (.tup (rs.map Rd.w)),none,oM] s2= .ok (wo W x).w s2:=λoM=>k2.FE rfl rfl
    by_cases c1:x∈P
    ·have es:gI W P x= .wt x:=by unfold gI;rw[if_pos c1]
     rw[es,if_pos (show(Sd.wt x).h=true from rfl)]
     refine⟨s2,?_,g2⟩
     simp[e1,i0,i1,i2,t1,w1,in1,sT]
     simp[co,sp,i1,i2,ad,NN,xO,c1,res]
    ·have es:gI W P x= .wo (wo W x):=by unfold gI;rw[if_neg c1]
     rw[es]
     show ∃st',_=Re.ok (res (if(wo W x).f=true then _ else _:Sd×List Rd).1 (if(wo W x).f=true then _ else _:Sd×List Rd).2) st'/\_
     cases c2:(wo W x).f with
     | true=>
      rw[if_pos rfl]
      rw[c2] at t2
      refine⟨s2,?_,g2⟩
      simp[e1,i0,i1,i2,t1,w1,in1,sT]
      simp[co,sp,i1,i2,ad,NN,xO,c1,t2,res]
     | false=>
      rw[if_neg bz]
      rw[c2] at t2
      have Ln:=Rm (wo W x) (st:=s2)
      have sm:=sw (wo W x) kv s2
      have ef:ft (wo W x) kv=((wo W x).nn&&same (wo W x) kv):=by unfold ft;rw[q2];rfl
      rw[ef]
      have th:ba (pw x) (.int 0) s2= .ok (.int x.1) s2:=rfl
      cases c3:((wo W x).nn&&same (wo W x) kv) with
      | false=>
       rw[if_pos rfl]
       refine⟨s2,?_,g2⟩
       cases c4:(wo W x).nn with
       | false=>
        rw[c4] at Ln
        simp[e1,i0,i1,i2,t1,w1,in1,sT]
        simp[co,sp,i1,i2,ad,NN,xO,c1,t2,Ln,res]
        rfl
       | true=>
        rw[c4] at Ln c3
        have c5:same (wo W x) kv=false:=by simpa using c3
        rw[c5] at sm
        simp[e1,i0,i1,i2,t1,w1,in1,sT]
        simp[co,sp,i1,i2,ad,NN,xO,c1,t2,Ln,i1,sm,res]
        rfl
      | true=>
       rw[if_neg (by simp)]
       rw[cw] at c3
       rw[c3.1] at Ln
       rw[c3.2] at sm
       have ir:=NM (st:=s2) (.rW (x.1,e)) rs
       have Vn:fM true (.tup [.str "at",.tup [.int x.1,.int e]]) (.tup (rs.map Rd.w)) s2= .ok (.bl (decide (Rd.rW (x.1,e)∉rs))) s2:=ir
       have Vo:bB (.tup (rs.map Rd.w)) (.tup [.tup [.str "at",.tup [.int x.1,.int e]]]) s2= .ok (.tup ((rs++[Rd.rW (x.1,e)]).map Rd.w)) s2:=by
        rw[NL (by simp;omega),dc]
        rfl
       have TL:∀st:Hs,ba (.tup [.str "at",.tup [.int x.1,.int e]]) (.int 1) st= .ok (.tup [.int x.1,.int e]) st:=λst=>rfl
       have Rr:fM false (.tup [.int x.1,.int e]) (.ref l) s2= .ok (.bl (decide ((x.1,e)∈P))) s2:=k2.xO (x.1,e)
       have gl:∀kW jX:Option Wv,dO (ag 2) (aj ba (ag 13) (gC (.int 1))) (gC .non) [some f.w,some (tI [a,b,c,e]),some (.ref d),some (.ref l),some Gv,some (.int a),some (.int b),some (.int c),some (.int e),some (.ref s1.length),some (pw x),kW,jX,some (.tup [.str "at",.tup [.int x.1,.int e]])] s2= .ok (wo W (x.1,e)).w s2:=λkW jX=>k2.FE (p:=(x.1,e)) rfl (by simp[TL])
       refine⟨s2,?_,g2⟩
       simp[e1,i0,i1,i2,t1,w1,in1,sT]
       unfold c9 gI
       by_cases c6:Rd.rW (x.1,e)∈rs<;>by_cases c7:(x.1,e)∈P<;>simp[co,sp,i1,i2,ad,NN,xO,c1,t2,Ln,i1,sm,th,Vn,Vo,TL,Rr,gl,c6,c7,res,-dc]
end
def rZ(W:Ws)(p:Pt)(a:Wo):Ws:=if(W.any λq=>decide (q.1=p))=true then W.map (λq=>if q.1=p then(q.1,a) else q) else W++[(p,a)]
theorem FR(W:Ws)(p:Pt)(a:Wo):mw (uh W) (vZ p) a.w=uh (rZ W p a):=by
 unfold mw rZ
 have e:((uh W).any λkv=>decide (kv.1=vZ p))=W.any λq=>decide (q.1=p):=by
  unfold uh
  rw[List.any_map]
  congr 1
  funext q
  show decide (vZ q.1=vZ p)=decide (q.1=p)
  rw[decide_eq_decide]
  exact oI
 rw[e]
 split
 ·unfold uh
  rw[eR,eR]
  refine vY λq _=>?_
  show(if vZ q.1=vZ p then(vZ q.1,a.w) else(vZ q.1,q.2.w))=(vZ (if q.1=p then(q.1,a) else q).1,(if q.1=p then(q.1,a) else q).2.w)
  by_cases z:q.1=p
  ·rw[if_pos (oI.mpr z),if_pos z]
  ·rw[if_neg (λy=>z (oI.mp y)),if_neg z]
 ·unfold uh
  rw[dc]
  rfl
theorem uu(W:Ws)(p:Pt)(a:Wo):(rZ W p a).length<=W.length+1:=by
 unfold rZ
 split
 ·rw[bT];omega
 ·simp
section
variable {W:Ws} {P:List Pt} {d l:Nat} {st:Hs}
theorem Kn.put(n:Kn W P d l st){p:Pt}{a:Wo}(hl:W.length < 100){ρ:bA}{gv gd gk:GE}(e1:gv ρ st= .ok a.w st)(e2:gd ρ st= .ok (.ref d) st)(e3:gk ρ st= .ok (pw p) st):∃st',oa gv gd gk ρ st= .nx ρ st'/\Kn (rZ W p a) P d l st'/\cj d st st':=by
 refine⟨st.set d (.l9 (uh (rZ W p a))),?_,⟨dm n.d,?_⟩,cj.set⟩
 ·have e:putD (.ref d) (pw p) a.w st=some (st.set d (.l9 (uh (rZ W p a)))):=by
   show(match st[d]? with
    | some (.dct kvs)=>(match keyOf (pw p) with | some kk=>if kvs.length < lim then some (st.set d (.dct (mw kvs kk a.w))) else none | none=>none)
    | some (.l9 kvs)=>(match ly (pw p) with | some kk=>if kvs.length < lim then some (st.set d (.l9 (mw kvs kk a.w))) else none | none=>none)
    | _=>none)=_
   rw[n.d]
   dsimp only
   rw[Kl]
   dsimp only
   rw[if_pos (by unfold uh;rw[bT];unfold lim;omega),FR]
  unfold oa
  rw[e1]
  show(gd ρ st).a8 ρ _=_
  rw[e2]
  show(gk ρ st).a8 ρ _=_
  rw[e3]
  show(match putD (.ref d) (pw p) a.w st with | some uy=>Rs.nx ρ uy | none=> .bad)=_
  rw[e]
 ·have:l≠d:=λz=>by have:=n.l;rw[z,n.d] at this;cases this
  rw[dy (bq this)]
  exact n.l
theorem Kn.dl(n:Kn W P d l st):d≠l:=λz=>by have:=n.d;rw[z,n.l] at this;cases this
theorem v9{r:Nat}{q0:Wv}{a b:Int}{j:Int}{o6 o7:Option Wv}(n:Kn W P d l st)(ro:Ro r st)(h1:r < d)(h2:r < l)(hW:W.length < 50)(hP:P.length < 50)(j0:0<=j)(j1:j < 12) :
  ∃(Rt Ru:Option Wv)(W':Ws)(P':List Pt)(st':Hs),bC [some q0,some (tI [a,b]),some (.ref r),some (.ref d),some (.ref l),some (.int j),o6,o7] st= .nx [some q0,some (tI [a,b]),some (.ref r),some (.ref d),some (.ref l),some (.int j),Rt,Ru] st'/\
   Kn W' P' d l st'/\Ro r st'/\W'.length<=W.length+1/\P'.length<=P.length+1/\st.length<=st'.length/\∀i,i < r->st'[i]? =st[i]?:=by
 obtain⟨v,hv⟩:=ro
 obtain⟨aw,s1,n1,e1,O5,hv1,_⟩:=worth hv
 obtain⟨d6,s2,e2,V2,V3,Rv,Rw⟩:=dig (r:=r) (m:=6) ⟨_,hv1⟩ (by decide) (by decide)
 have k2:=(n.at' O5 (by omega) (by omega)).at' Rv (by omega) (by omega)
 have j4:∀st:Hs,eS (.int j) (.int 4) st= .ok (.int (j.fdiv 4)) st:=λst=>lF (by decide)
 have j5:∀st:Hs,oMod (.int j) (.int 4) st= .ok (.int (j.fmod 4)) st:=λst=>iO (by decide)
 have t0:∀st:Hs,ba (tI [a,b]) (.int 0) st= .ok (.int a) st:=λst=>rfl
 have t1:∀st:Hs,ba (tI [a,b]) (.int 1) st= .ok (.int b) st:=λst=>rfl
 let p:Pt:=(a+j.fdiv 4,b+j.fmod 4)
 have old:∀i,i < r->s2[i]? =st[i]?:=λi hi=>by
  have hlt:r < st.length:=eN hv
  rw[Rv.2 i (bp (by omega) O5.1) (by omega),O5.2 i (by omega) (by omega)]
 have vE:st.length<=s2.length:=a5 O5.1 Rv.1
 have NO:=FF aw (st:=s2)
 by_cases c1:d6=0
 ·subst c1
  have ap:=xD (v:=pw p) k2.l (by rw[bT];unfold lim;omega)
  have km:=λga ρ=>kH (mt:=jv) (ga:=ga) (ρ:=ρ) (st:=s2) (l:=l) (fV k2.l)
  refine⟨some (pw p),some aw.w,W,P++[p],s2.set l (.lst (P.map pw++[pw p])),?_,⟨?_,?_⟩,?_,by omega,by simp,by rw[zZ];exact vE,λi hi=>by rw[dy (by omega)];exact old i hi⟩
  ·unfold bC
   simp[t0,t1,j4,j5,e1,e2,km]
   exact congrArg (λx=>x) (by
    have Vp:jv (.ref l) (.tup [.int (a+j.fdiv 4),.int (b+j.fmod 4)]) s2=_:=ap
    simp[Vp,p])
  ·rw[dy (bq n.dl)];exact k2.d
  ·rw[dm k2.l,dc];rfl
  ·obtain⟨u,hu⟩:=Rw
   exact⟨u,by rw[dy (by omega)];exact hu⟩
 ·have b1:(d6 == 0)=false:=beq_false_of_ne c1
  cases c2:aw.nn with
  | true=>
   rw[c2] at NO
   obtain⟨s3,e3,k3,Gw⟩:=k2.put (p:=p) (a:=aw) (by omega) (ρ:=[some q0,some (tI [a,b]),some (.ref r),some (.ref d),some (.ref l),some (.int j),some (pw p),some aw.w]) (gv:=ag 7) (gd:=ag 3) (gk:=ag 6) rfl rfl rfl
   refine⟨some (pw p),some aw.w,rZ W p aw,P,s3,?_,k3,?_,uu _ _ _,by omega,a5 vE Gw.1,λi hi=>by rw[Gw.2 i (by have:=eN n.d;omega) (by omega)];exact old i hi⟩
   ·unfold bC
    have Vq:oa (ag 7) (ag 3) (ag 6) [some q0,some (tI [a,b]),some (.ref r),some (.ref d),some (.ref l),some (.int j),some (.tup [.int (a+j.fdiv 4),.int (b+j.fmod 4)]),some aw.w] s2=_:=e3
    simp[t0,t1,j4,j5,e1,e2,b1,NO,Vq,p]
   ·obtain⟨u,hu⟩:=Rw
    exact⟨u,by rw[Gw.2 r (eN hu) (by omega)];exact hu⟩
  | false=>
   rw[c2] at NO
   obtain⟨d2,s3,e3,O6,O7,Gw,Lf⟩:=dig (r:=r) (m:=2) Rw (by decide) (by decide)
   have k3:=k2.at' Gw (by omega) (by omega)
   have FT:∀i,i < r->s3[i]? =st[i]?:=λi hi=>by
    have hlt:r < st.length:=eN hv
    rw[Gw.2 i (by omega) (by omega)];exact old i hi
   by_cases c3:d2=0
   ·subst c3
    obtain⟨s4,e4,k4,Rx⟩:=k3.put (p:=p) (a:=aw) (by omega) (ρ:=[some q0,some (tI [a,b]),some (.ref r),some (.ref d),some (.ref l),some (.int j),some (pw p),some aw.w]) (gv:=ag 7) (gd:=ag 3) (gk:=ag 6) rfl rfl rfl
    refine⟨some (pw p),some aw.w,rZ W p aw,P,s4,?_,k4,?_,uu _ _ _,by omega,a5 (a5 vE Gw.1) Rx.1,λi hi=>by rw[Rx.2 i (by have:=eN k3.d;omega) (by omega)];exact FT i hi⟩
    ·unfold bC
     have Vr:oa (ag 7) (ag 3) (ag 6) [some q0,some (tI [a,b]),some (.ref r),some (.ref d),some (.ref l),some (.int j),some (.tup [.int (a+j.fdiv 4),.int (b+j.fmod 4)]),some aw.w] s3=_:=e4
     simp[t0,t1,j4,j5,e1,e2,b1,NO,e3,Vr,p]
    ·obtain⟨u,hu⟩:=Lf
     exact⟨u,by rw[Rx.2 r (eN hu) (by omega)];exact hu⟩
   ·have b2:(d2 == 0)=false:=beq_false_of_ne c3
    refine⟨some (pw p),some aw.w,W,P,s3,?_,k3,Lf,by omega,by omega,a5 vE Gw.1,FT⟩
    unfold bC
    simp[t0,t1,j4,j5,e1,e2,b1,NO,e3,b2,p]
end
theorem known{st:Hs}{q:Nat}{ns:List Int}{a b:Int}(h:aq st q=some (ns.map Wv.int))(hn:ns.length<=63):∃(W:Ws)(P:List Pt)(d l:Nat)(st':Hs),cm [.ref q,tI [a,b]] st= .ok (.tup [.ref d,.ref l]) st'/\Kn W P d l st'/\Gr st st':=by
 obtain⟨n,e1⟩:=stream h hn (k:=40) (by decide) (by decide)
 have h1:aq (st++[.lst [.int n]]) q=some (ns.map Wv.int):=Gr.push.lst h
 obtain⟨v,e2⟩:=rV h1 (k:=2) (by decide)
 have i0:ba (.ref st.length) (.int 0) (st++[.lst [.int n]])= .ok (.int n) (st++[.lst [.int n]]):=lG aX rfl
 have md:oMod (.int v) (.int ju) (st++[.lst [.int n]])= .ok (.int (v.fmod ju)) (st++[.lst [.int n]]):=iO (by decide+kernel)
 obtain⟨s1,hs1⟩:∃s,s=st++[.lst [.int n]]:=⟨_,rfl⟩
 rw[<-hs1] at e1 e2 i0 md
 have gg:Gr st s1:=by rw[hs1];exact Gr.push
 have V4:s1.length=st.length+1:=by rw[hs1];simp
 obtain⟨s2,hs2⟩:∃s,s=s1++[Ob.lst [.int (n+v.fmod ju)],.l9 [],.lst []]:=⟨_,rfl⟩
 have ro:Ro s1.length s2:=⟨n+v.fmod ju,by rw[hs2];simp⟩
 have k2:Kn [] [] (s1.length+1) (s1.length+2) s2:=⟨by rw[hs2];simp[uh],by rw[hs2];simp⟩
 have l2:s1.length < s2.length:=by rw[hs2];simp
 have o2:∀i,i < s1.length->s2[i]? =s1[i]?:=λi hi=>by rw[hs2,fq hi]
 obtain⟨ρ,s3,e3,⟨o5,o6,o7,W,P,rfl,k3,Lf,w3,p3,Nn,FT⟩⟩:=kJ (i:=5) (gb:=bC) (λk ρ st'=>∃(o5 o6 o7:Option Wv)(W:Ws)(P:List Pt),ρ=[some (.ref q),some (tI [a,b]),some (.ref s1.length),some (.ref (s1.length+1)),some (.ref (s1.length+2)),o5,o6,o7]/\Kn W P (s1.length+1) (s1.length+2) st'/\Ro s1.length st'/\W.length<=k/\P.length<=k/\s1.length < st'.length/\∀i,i < s1.length->st'[i]? =s1[i]?)
  (br 0 12) 0 [some (.ref q),some (tI [a,b]),some (.ref s1.length),some (.ref (s1.length+1)),some (.ref (s1.length+2)),none,none,none] s2 ⟨none,none,none,[],[],rfl,k2,ro,ay _,ay _,l2,o2⟩ (λj w hw ρ st' hP=>by
   obtain⟨o5,o6,o7,W,P,rfl,kk,rr,hW,V5,hlen,hold⟩:=hP
   have hj:j < 12:=by
    have q:=(List.getElem?_eq_some_iff.mp hw).1
    rw[cz] at q
    exact q
   rw[jk hj] at hw
   cases hw
   obtain⟨Rt,Ru,W',P',s',e,k',r',w',p',ln',old'⟩:=v9 (q0:=.ref q) (a:=a) (b:=b) (j:=0+(j:Int)) (o6:=o6) (o7:=o7) kk rr (by omega) (by omega) (by omega) (by omega) (by omega) (by omega)
   exact⟨_,s',e,some (.int (0+(j:Int))),Rt,Ru,W',P',rfl,k',r',by omega,by omega,by omega,λi hi=>by rw[old' i hi];exact hold i hi⟩)
 refine⟨W,P,s1.length+1,s1.length+2,s3,?_,k3,⟨by omega,λi hi=>by rw[FT i (by omega)];exact gg.2 i hi⟩⟩
 have c12:bP 12:=tU (by decide) (by decide)
 have a1:s1++[Ob.lst [.int (n+v.fmod ju)]]++[.l9 []]++[.lst []]=s2:=by rw[hs2];simp
 have nt:∀ρ:bA,s_ ρ (s1++[Ob.lst [.int (n+v.fmod ju)]])= .ok (.ref (s1.length+1)) (s1++[Ob.lst [.int (n+v.fmod ju)]]++[.l9 []]):=λρ=>by unfold s_;simp
 have nl:(s1++[Ob.lst [.int (n+v.fmod ju)]]++[Ob.l9 []]).length=s1.length+2:=by simp
 unfold cm b7 hR
 simp only[M8,Cn,Na,J9,M',Cp,J_,xB,e_c,aN,bb,qC]
 simp[e1,i0,e2,Nq,md,nt,c12,-Ab]
 rw[a1]
 simp[e3]
theorem uv:∀rs:List Rd,eB (rs.map Rd.d) (rs.map Rd.d)=true
 | []=>by simp[eB]
 | r::rs=>by
  rw[bb]
  show(aI r.d r.d&&eB (rs.map Rd.d) (rs.map Rd.d))=true
  have:aI r.k.1 r.k.1=true:=by rw[NK.KD.eqv];simp
  rw[uv rs,show aI r.d r.d=true from this]
  rfl
theorem uw(s:Sd)(rs:List Rd){st:Hs}:zv (res s rs) (res s rs) st= .ok (.bl false) st:=by
 have Vs:dM (aS st 18) (rs.map Rd.w)=some (rs.map Rd.d):=by
  induction rs with
  | nil=>rfl
  | cons r rs ih=>
   rw[bb]
   unfold dM
   rw[ih,v8 (n:=16) r]
   rfl
 have key:∀(x:S)(v:Wv)(dv:PyData),aS st 19 v=some dv->aI dv dv=true->zv (.tup [.str x,v,.tup (rs.map Rd.w)]) (.tup [.str x,v,.tup (rs.map Rd.w)]) st= .ok (.bl false) st:=λx v dv h1 h2=>by
  have d:aS st 20 (.tup [.str x,v,.tup (rs.map Rd.w)])=some (.tuple [.str x,dv,.tuple (rs.map Rd.d)]):=by
   show(dM (aS st 19) [.str x,v,.tup (rs.map Rd.w)]).map ji=_
   have d3:aS st 19 (.tup (rs.map Rd.w))=some (.tuple (rs.map Rd.d)):=by
    show(dM (aS st 18) (rs.map Rd.w)).map ji=_
    rw[Vs]
    rfl
   have d1:aS st 19 (.str x)=some (.str x):=rfl
   simp only[dM,d1,h1,d3]
   rfl
  refine Ke d d ?_
  simp[aI,eB,h2,uv]
 cases s with
 | wt p=>exact key _ (pw p) (dP p) rfl (by rw[oH];simp)
 | wo a=>
  cases a with
  | non=>exact key _ _ .none rfl (by simp[aI])
  | int i=>exact key _ _ (.int i) rfl Ni
  | txt x=>exact key _ _ (.str x) rfl Nj
  | oN x=>exact key _ _ (.tuple [.str "fault",.str x]) rfl Kc
section
variable {W:Ws} {P:List Pt} {d l:Nat} {st:Hs} {a b c e:Int}
def NP(a b c e:Int):Prop:=dW a b c e/\(eE a b c e).length < 100
theorem l3(n:Kn W P d l st)(ok:NP a b c e)(wd:iz)(p0 p1 p4 p5 p6 p7 p8 p9 jX oM:Option Wv):∃o st',kQ [p0,p1,some (.ref d),some (.ref l),p4,p5,p6,p7,p8,p9,some (tI [a,b,c,e]),some (.str wd.s),jX,oM] st= .nx [p0,p1,some (.ref d),some (.ref l),p4,p5,p6,p7,p8,p9,some (tI [a,b,c,e]),some (.str wd.s),o,oM] st'/\Gr st st':=by
 obtain⟨s1,e1,g1⟩:=CU (wd:=wd) n ok.1 ok.2
 obtain⟨s2,e2,g2⟩:=Kv (wd:=wd) (n.gr g1) ok.1 ok.2
 obtain⟨pre,x,u1,u2,_,_⟩:=fm (f:=stp W P .non) (il ok.1).2
 rw[jc u1,u1] at e1 e2
 rw[<-NI u2] at e1
 have ne:=uw (FI W P wd (pre++[x]) x) [.part a b c e x] (st:=s2)
 have z:(Wv.tup [.int 0,.int 0,.int 0,.int 0])=tI [0,0,0,0]:=rfl
 rw[<-z] at e2
 refine⟨some (res (FI W P wd (pre++[x]) x) [.part a b c e x]),s2,?_,g1.trans g2⟩
 generalize res (FI W P wd (pre++[x]) x) [.part a b c e x]=v at e1 e2 ne ⊢
 unfold kQ
 simp[e1,e2,ne]
theorem l2(n:Kn W P d l st)(ok:NP a b c e)(f:Kf)(p0 p1 p4 p5 p6 p7 p8 kW jX oM:Option Wv):∃Ry Rz RA st',kR [p0,p1,some (.ref d),some (.ref l),p4,p5,p6,p7,p8,some f.w,some (tI [a,b,c,e]),kW,jX,oM] st= .nx [p0,p1,some (.ref d),some (.ref l),p4,p5,p6,p7,p8,some f.w,some (tI [a,b,c,e]),Ry,Rz,RA] st'/\Gr st st':=by
 have g0:Gr st (st++[.lst [.str "sum",.str "count",.str "least",.str "greatest"]]):=Gr.push
 have l0:aq (st++[.lst [.str "sum",.str "count",.str "least",.str "greatest"]]) st.length=some [.str "sum",.str "count",.str "least",.str "greatest"]:=aX
 obtain⟨ρ,s1,e1,⟨ux,sf,rfl,g1⟩,l1⟩:=kI (i:=11) (gb:=kQ) (l:=st.length) (all:=[.str "sum",.str "count",.str "least",.str "greatest"]) (λρ s=>∃ux sf,ρ=[p0,p1,some (.ref d),some (.ref l),p4,p5,p6,p7,p8,some f.w,some (tI [a,b,c,e]),ux,sf,oM]/\Gr st s)
  [.str "sum",.str "count",.str "least",.str "greatest"] [p0,p1,some (.ref d),some (.ref l),p4,p5,p6,p7,p8,some f.w,some (tI [a,b,c,e]),kW,jX,oM] (st++[.lst [.str "sum",.str "count",.str "least",.str "greatest"]]) ⟨kW,jX,rfl,g0⟩ l0 (by
   rintro w hw _ s ⟨ux,sf,rfl,g⟩ hl
   obtain⟨wd,rfl⟩:∃wd:iz,w= .str wd.s:=by
    simp at hw
    rcases hw with rfl | rfl | rfl | rfl
    ·exact⟨.sum,rfl⟩
    ·exact⟨.count,rfl⟩
    ·exact⟨.least,rfl⟩
    ·exact⟨.kU,rfl⟩
   obtain⟨o,s',e',g'⟩:=l3 (n.gr g) ok wd p0 p1 p4 p5 p6 p7 p8 (some f.w) sf oM
   exact⟨_,s',e',g'.lst hl,some (.str wd.s),o,rfl,g.trans g'⟩)
 have n1:=n.gr g1
 obtain⟨s2,e2,g2⟩:=Ku n1 ok.1 f
 obtain⟨s3,e3,g3⟩:=CV (n1.gr g2) ok.1 f
 have ne:=uw (xU W P f a b c e).1 (xU W P f a b c e).2 (st:=s3)
 have z:(Wv.tup [.int 0,.int 0,.int 0,.int 0])=tI [0,0,0,0]:=rfl
 rw[<-z] at e2
 refine⟨ux,sf,some (res (xU W P f a b c e).1 (xU W P f a b c e).2),s3,?_,(g1.trans g2).trans g3⟩
 generalize res (xU W P f a b c e).1 (xU W P f a b c e).2=v at e2 e3 ne ⊢
 unfold kR
 simp[jN l0,e1,e2,e3,ne]
theorem r_{i:Nat}{g:GE}{h:GS}{ρ:bA}{st st1:Hs}{v:Wv}(e:g ρ st= .ok v st1):aF (a9 i g) h ρ st=h (ρ.set i (some v)) st1:=by simp[e]
theorem CW{A B t l' p q:Int}(s:Fz A B)(h:0<=t/\t<=p/\p < 3/\0<=l'/\l'<=q/\q < 4):NP (A+t) (B+l') (A+p) (B+q):=by
 unfold Fz at s
 have m:(A+p - (A+t)+1) * (B+q - (B+l')+1)<=3 * 4:=Int.mul_le_mul (by omega) (by omega) (by omega) (by omega)
 have ok:dW (A+t) (B+l') (A+p) (B+q):=by
  unfold dW
  omega
 refine⟨ok,?_⟩
 unfold eE
 rw[xM]
 have:(A+p+1 - (A+t)).toNat * (B+q+1 - (B+l')).toNat<=3 * 4:=xJ (by omega) (by omega)
 omega
theorem l1{A B:Int}(n:Kn W P d l st)(s:Fz A B)(cl:Int)(p0 o6 o7 o8 o9 oK kW jX oM:Option Wv):∃q6 q7 q8 q9 CY ux sf zz st',kT [p0,some (tI [A,B]),some (.ref d),some (.ref l),some (tI [A,B,A+2,B+3]),some (.int cl),o6,o7,o8,o9,oK,kW,jX,oM] st= .nx [p0,some (tI [A,B]),some (.ref d),some (.ref l),some (tI [A,B,A+2,B+3]),some (.int cl),q6,q7,q8,q9,CY,ux,sf,zz] st'/\Gr st st':=by
 have Rh:∀st:Hs,oMod (.int cl) (.int ju) st= .ok (.int (cl.fmod ju)) st:=λst=>iO (by decide+kernel)
 have ro:Ro st.length (st++[.lst [.int (cl.fmod ju)]]):=⟨_,mU⟩
 have g0:Gr st (st++[.lst [.int (cl.fmod ju)]]):=Gr.push
 obtain⟨s0,hs0⟩:∃s,s=st++[Ob.lst [.int (cl.fmod ju)]]:=⟨_,rfl⟩
 rw[<-hs0] at ro g0
 obtain⟨t,l',p,q,s1,e1,r1,TM⟩:=Rj (a:=A) (b:=B) ro
 obtain⟨d4,s2,e2,V6,V7,TN⟩:=dig (m:=4) TM.2 (by decide) (by decide)
 obtain⟨pc,pd,s3,e3,_,RB⟩:=place (a:=A) (b:=B) TN.2
 have RC:=(TM.trans TN).trans RB
 have g3:Gr st s3:=g0.vP (ay _) RC.1
 let ks:List Wv:=[.tup [.str "num",.int d4],.tup [.str "at",tI [A+pc,B+pd],.tup [.int 0,.int 0]],.tup [.str "text",.str "a"]]
 let mn:Wv:=.tup [.str "minus",.tup [.str "num",.int 1]]
 have ad:bB (.ref s3.length) (.ref (s3++[Ob.lst ks]).length) (s3++[Ob.lst ks]++[Ob.lst [mn]])= .ok (.ref (s3++[Ob.lst ks]++[Ob.lst [mn]]).length) (s3++[Ob.lst ks]++[Ob.lst [mn]]++[Ob.lst (ks++[mn])]):=add_l (Gr.push.lst aX) aX (by simp[ks,lim])
 obtain⟨s4,O8⟩:∃s,s=s3++[Ob.lst ks]:=⟨_,rfl⟩
 obtain⟨s5,O9⟩:∃s,s=s4++[Ob.lst [mn]]:=⟨_,rfl⟩
 obtain⟨s6,RD⟩:∃s,s=s5++[Ob.lst (ks++[mn])]:=⟨_,rfl⟩
 rw[<-O8,<-O9,<-RD] at ad
 have TQ:Gr s3 s6:=by rw[RD,O9,O8];exact(Gr.push.trans Gr.push).trans Gr.push
 have l5:aq s6 s5.length=some (ks++[mn]):=by rw[RD];exact aX
 obtain⟨d5,s7,e5,Vt,Vu,TR⟩:=dig (m:=4) (RB.2.gr TQ) (by decide) (by decide)
 have l7:aq s7 s5.length=some (ks++[mn]):=by
  refine TR.1.lst l5 ?_
  have:st.length < s5.length:=by rw[O9,O8];have:=eN RB.2.choose_spec;simp;omega
  omega
 obtain⟨v,hv,hm⟩:=oq (ws:=ks++[mn]) (d:=d5) Vt (by simpa [ks] using Vu)
 have ix:ba (.ref s5.length) (.int d5) s7= .ok v s7:=lG l7 hv
 obtain⟨f,rfl⟩:∃f:Kf,v=f.w:=by
  simp[ks,mn] at hm
  rcases hm with rfl | rfl | rfl | rfl
  ·exact⟨.num d4,rfl⟩
  ·exact⟨.pt (A+pc,B+pd),rfl⟩
  ·exact⟨.txt,rfl⟩
  ·exact⟨.mn,rfl⟩
 have g7:Gr st s7:=(g3.trans TQ).vP (ay _) TR.1
 have Vv:=CW s r1
 have Vw:NP A B (A+2) (B+3):=by
  have:=CW (t:=0) (l':=0) (p:=2) (q:=3) s (by omega)
  rwa [Int.add_zero,Int.add_zero] at this
 let ar:=[tI [A+t,B+l',A+p,B+q],tI [A,B,A+2,B+3]]
 have g8:Gr st (s7++[.lst ar]):=g7.trans Gr.push
 have l8:aq (s7++[.lst ar]) s7.length=some ar:=aX
 obtain⟨ρ,s9,e9,⟨CY,ux,sf,zz,rfl,g9⟩,_⟩:=kI (i:=10) (gb:=kR) (l:=s7.length) (all:=ar) (λρ s=>∃CY ux sf zz,ρ=[p0,some (tI [A,B]),some (.ref d),some (.ref l),some (tI [A,B,A+2,B+3]),some (.int cl),some (.ref st.length),some (tI [A+t,B+l',A+p,B+q]),some (.ref s3.length),some f.w,CY,ux,sf,zz]/\Gr st s)
  ar [p0,some (tI [A,B]),some (.ref d),some (.ref l),some (tI [A,B,A+2,B+3]),some (.int cl),some (.ref st.length),some (tI [A+t,B+l',A+p,B+q]),some (.ref s3.length),some f.w,oK,kW,jX,oM] (s7++[.lst ar]) ⟨oK,kW,jX,oM,rfl,g8⟩ l8 (by
   rintro w hw _ s' ⟨CY,ux,sf,zz,rfl,g⟩ hl
   have:∃a b c e,w=tI [a,b,c,e]/\NP a b c e:=by
    simp[ar] at hw
    rcases hw with rfl | rfl
    ·exact⟨_,_,_,_,rfl,Vv⟩
    ·exact⟨_,_,_,_,rfl,Vw⟩
   obtain⟨a,b,c,e,rfl,fw⟩:=this
   obtain⟨RE,RF,RG,s'',e',g'⟩:=l2 (n.gr g) fw f p0 (some (tI [A,B])) (some (tI [A,B,A+2,B+3])) (some (.int cl)) (some (.ref st.length)) (some (tI [A+t,B+l',A+p,B+q])) (some (.ref s3.length)) ux sf zz
   exact⟨_,s'',e',g'.lst hl,some (tI [a,b,c,e]),RE,RF,RG,rfl,g.trans g'⟩)
 refine⟨some (.ref st.length),some (tI [A+t,B+l',A+p,B+q]),some (.ref s3.length),some f.w,CY,ux,sf,zz,s9,?_,g9⟩
 have z2:Wv.tup [.int 0,.int 0]=tI [0,0]:=rfl
 have lk:dY (af (a4 (af (gC (.str "num")) (af (aD 2 aA (af (ag 6) (af (gC (.int 4)) ak))) ak))) (af (a4 (af (gC (.str "at")) (af (aD 2 cX (af (ag 6) (af (ag 1) ak))) (af (a4 (af (gC (.int 0)) (af (gC (.int 0)) ak))) ak)))) (af (a4 (af (gC (.str "text")) (af (gC (.str "a")) ak))) ak))) [p0,some (tI [A,B]),some (.ref d),some (.ref l),some (tI [A,B,A+2,B+3]),some (.int cl),some (.ref st.length),some (tI [A+t,B+l',A+p,B+q]),o8,o9,oK,kW,jX,oM] s1= .ok (.ref s3.length) s4:=by
  rw[O8]
  simp[e2,e3,ks]
 have ky:aj ba (aj bB (ag 8) (dY (af (a4 (af (gC (.str "minus")) (af (a4 (af (gC (.str "num")) (af (gC (.int 1)) ak))) ak))) ak))) (aD 2 aA (af (ag 6) (af (gC (.int 4)) ak))) [p0,some (tI [A,B]),some (.ref d),some (.ref l),some (tI [A,B,A+2,B+3]),some (.int cl),some (.ref st.length),some (tI [A+t,B+l',A+p,B+q]),some (.ref s3.length),o9,oK,kW,jX,oM] s4= .ok f.w s7:=by
  have h5:s4++[Ob.lst [Wv.tup [.str "minus",.tup [.str "num",.int 1]]]]=s5:=O9.symm
  simp[h5,ad,e5,ix]
 have la:dY (af (ag 7) (af (ag 4) ak)) [p0,some (tI [A,B]),some (.ref d),some (.ref l),some (tI [A,B,A+2,B+3]),some (.int cl),some (.ref st.length),some (tI [A+t,B+l',A+p,B+q]),some (.ref s3.length),some f.w,oK,kW,jX,oM] s7= .ok (.ref s7.length) (s7++[.lst ar]):=by
  simp[ar]
 have l6:dY (af (aj oMod (ag 5) (aj gS (gC (.int 10)) (gC (.int 60)))) ak) [p0,some (tI [A,B]),some (.ref d),some (.ref l),some (tI [A,B,A+2,B+3]),some (.int cl),o6,o7,o8,o9,oK,kW,jX,oM] st= .ok (.ref st.length) s0:=by
  rw[hs0]
  simp[Nq,Rh]
 unfold kT
 generalize s7++[.lst ar]=s8 at la l8 e9
 refine(r_ l6).trans ?_
 refine(r_ (v:=tI [A+t,B+l',A+p,B+q]) (st1:=s1) e1).trans ?_
 refine(r_ lk).trans ?_
 refine(r_ ky).trans ?_
 rw[Nh]
 refine Eq.trans (congrArg (λx=>Re.a8 _ x _) la) ?_
 exact(jN l8).trans e9
end
theorem law_true(ns:List Int)(hn:ns.length<=63):∃st,F_law [.ref 0] [.oJ ns]= .ok (.bl true) st:=by
 have h0:aq [.oJ ns] 0=some (ns.map Wv.int):=rfl
 obtain⟨A,B,s1,e1,sp,more,rfl⟩:=spot (st:=[.oJ ns]) h0
 have g1:Gr [.oJ ns] ([.oJ ns]++more):=Gr.app
 generalize [Ob.oJ ns]++more=s1 at e1 g1
 obtain⟨W,P,d,l,s2,e2,k2,g2⟩:=known (a:=A) (b:=B) (g1.lst h0) hn
 have h2:=(g1.trans g2).lst h0
 have ad:=add_l (st:=s2++[.lst [.int 0]]) (l:=s2.length) (k:=0) (xs:=[.int 0]) (ys:=ns.map Wv.int) aX (Gr.push.lst h2) (by rw[bT];simp[lim];omega)
 obtain⟨s3,MI⟩:∃s,s=s2++[Ob.lst [.int 0]]:=⟨_,rfl⟩
 rw[<-MI] at ad
 have g3:Gr s2 (s3++[.lst ([.int 0]++ns.map Wv.int)]):=by rw[MI];exact Gr.push.trans Gr.push
 have RH:aq (s3++[.lst ([.int 0]++ns.map Wv.int)]) s3.length=some ([.int 0]++ns.map Wv.int):=aX
 generalize s3++[.lst ([.int 0]++ns.map Wv.int)]=s4 at ad g3 RH
 obtain⟨ρ,s5,e5,⟨q5,q6,q7,q8,q9,CY,ux,sf,zz,rfl,g5⟩,_⟩:=kI (i:=5) (gb:=kT) (l:=s3.length) (all:=[.int 0]++ns.map Wv.int) (λρ s=>∃q5 q6 q7 q8 q9 CY ux sf zz,ρ=[some (.ref 0),some (tI [A,B]),some (.ref d),some (.ref l),some (tI [A,B,A+2,B+3]),q5,q6,q7,q8,q9,CY,ux,sf,zz]/\Gr s2 s)
  ([.int 0]++ns.map Wv.int) [some (.ref 0),some (tI [A,B]),some (.ref d),some (.ref l),some (tI [A,B,A+2,B+3]),none,none,none,none,none,none,none,none,none] s4 ⟨none,none,none,none,none,none,none,none,none,rfl,g3⟩ RH (by
   rintro w hw _ s ⟨q5,q6,q7,q8,q9,CY,ux,sf,zz,rfl,g⟩ hl
   obtain⟨cl,rfl⟩:∃cl:Int,w= .int cl:=by
    rcases List.mem_append.mp hw with hw | hw
    ·exact⟨0,List.mem_singleton.mp hw⟩
    ·obtain⟨i,_,rfl⟩:=List.mem_map.mp hw
     exact⟨i,rfl⟩
   obtain⟨r6,r7,r8,r9,Vx,RE,RF,RG,s',e',g'⟩:=l1 (k2.gr g) sp cl (some (.ref 0)) q6 q7 q8 q9 CY ux sf zz
   exact⟨_,s',e',g'.lst hl,some (.int cl),r6,r7,r8,r9,Vx,RE,RF,RG,rfl,g.trans g'⟩)
 refine⟨s5,?_⟩
 have sT:iK [2,3] (aD 2 cm (af (ag 0) (af (ag 1) ak))) [some (.ref 0),some (tI [A,B]),none,none,none,none,none,none,none,none,none,none,none,none] s1= .nx [some (.ref 0),some (tI [A,B]),some (.ref d),some (.ref l),none,none,none,none,none,none,none,none,none,none] s2:=by
  have c2:aD 2 cm (af (ag 0) (af (ag 1) ak)) [some (.ref 0),some (tI [A,B]),none,none,none,none,none,none,none,none,none,none,none,none] s1= .ok (.tup [.ref d,.ref l]) s2:=e2
  unfold iK
  rw[c2]
  rfl
 have i0:∀st:Hs,ba (tI [A,B]) (.int 0) st= .ok (.int A) st:=λst=>rfl
 have i1:∀st:Hs,ba (tI [A,B]) (.int 1) st= .ok (.int B) st:=λst=>rfl
 have z4:Wv.tup [.int A,.int B,.int (A+2),.int (B+3)]=tI [A,B,A+2,B+3]:=rfl
 have h3:s2++[Ob.lst [.int 0]]=s3:=MI.symm
 unfold F_law b7 CA
 simp[e1,sT,i0,i1,z4,h3,ad,jN RH]
 simp at e5
 simp[e5]
end K19
namespace PySem.W.Fast
def tw4899287407515128427:=()
def tw15135007994160330958:=()
def tw8523731797494685301:=()
def tw9796580274604127962:=()
def tw16107105122103181259:=()
def tw15833293590838066909:=()
def tw10685094783377021580:=()
def tw14102847031454006004:=()
def tw14725536464149340566:=()
def tw3717470386447261618:=()
def tw3438489829964367582:=()
def tw11724470226411505723:=()
def tw14914820934596830902:=()
def tw15428330837111395569:=()
def tw6062451946637043715:=()
def tw12847943335175012541:=()
def tw10780501246428077158:=()
def tw16025016167283782972:=()
def tw6084700174154007793:=()
def tw8856166856236358674:=()
def tw9753859999752726570:=()
def tw17049116174826158967:=()
def tw8085155404723847005:=()
def tw7033822147767904947:=()
def tw13126271264799984972:=()
def tw4918474336114473456:=()
def tw6969519485617939354:=()
def tw1479940186967761167:=()
def tw7993052215751209224:=()
def tw6500301005072746269:=()
def tw10981446082238467031:=()
def tw17609544913628611542:=()
def tw12047644202442585465:=()
def tw8325432433960861509:=()
def tw4871582140637336059:=()
def tw6441337078509981809:=()
def tw5738346057726425327:=()
def tw3878813862919673891:=()
def tw13886475720256580799:=()
def tw4488008842907772344:=()
def tw7302511993786908238:=()
def tw15075865356403210324:=()
def tw10174197795533834858:=()
def tw7937170784226849020:=()
def tw7797347353971053724:=()
def tw16270595583498119883:=()
def tw9573965297811657648:=()
def tw883703042144149485:=()
def tw13758705018807597461:=()
def tw16184153148138520993:=()
def tw5661557504537420747:=()
def tw11817273294921518672:=()
def tw12132384282237653114:=()
def tw16375205509878321459:=()
def tw13300236956157589716:=()
def tw3505702156956427967:=()
def tw17000111776210482874:=()
def tw2088001926904501677:=()
def tw2031691326103162970:=()
def tw2251667130099262834:=()
def tw3565835553897647275:=()
def tw15818206219220941226:=()
def tw18418159312270570811:=()
def tw16593143430571220996:=()
def tw10799584673933067347:=()
def tw10335037976674750478:=()
def tw11988069017944075001:=()
def tw12168311908865271956:=()
def tw118876256345740521:=()
def tw7046052434028379998:=()
def tw14394954843255667798:=()
def tw7054628692578823470:=()
def tw4061236264366873304:=()
def tw607177109946427274:=()
def tw9751788741068706242:=()
def tw11341164873773772582:=()
def tw14459149365963765725:=()
def tw7095214673372419595:=()
def tw11426954966461574240:=()
def tw3570395864677151626:=()
def tw17010979825092808401:=()
def tw983068874184753053:=()
def tw17808267487618595044:=()
def tw11824614951954744946:=()
def tw15820434270612413518:=()
def tw3443445098037649549:=()
def tw11416140837582477323:=()
def tw16864210063459175130:=()
def tw15904707067953247670:=()
def tw16513366019755719200:=()
def tw4243309674408137003:=()
def tw13285973805407573261:=()
def tw10608530658281555735:=()
def tw9450643642610226104:=()
def tw8708348473169847063:=()
def tw4384312096257233572:=()
def tw8401378956408638388:=()
def tw13732271243162972637:=()
def tw16551909191539812887:=()
def tw11369299842193474349:=()
def tw8519011707469261814:=()
def tw4929665129939406999:=()
def tw658931200265708898:=()
def tw13793607589490557911:=()
def tw13828586039482740931:=()
def tw2099207581831759285:=()
def tw9549131790775527060:=()
def tw5819589260763940115:=()
def tw2731591012112018080:=()
def tw748805527228157085:=()
def tw15909817172605402019:=()
def tw16698859111315811665:=()
def tw14182455315574564403:=()
def tw5014065964177198362:=()
def tw11817524518449669893:=()
def tw12583725102433442480:=()
def tw16082839435525663151:=()
def tw14308580974237252848:=()
def tw17787047280240941572:=()
def tw11869413936308082320:=()
def tw14064127587746792531:=()
def tw16658152104713607924:=()
def tw17974100726951795423:=()
def tw10814129253560431415:=()
def tw14727429240835353613:=()
def tw41303903853746947:=()
def tw17150701758874673627:=()
def tw888669236204989558:=()
def tw1240735502396329646:=()
def tw7849239228405690677:=()
def tw1314859928682758650:=()
def tw9731947962217709350:=()
def tw7472249542720953079:=()
def tw5588295449931740619:=()
def tw10115886792259258613:=()
def tw11935716902873187248:=()
def tw12938018208447999121:=()
def tw4535985696223808426:=()
def tw1540540853240301400:=()
def tw16909802212090681331:=()
def tw15225372805807993970:=()
def tw14533147434581288105:=()
def tw18116608295049679064:=()
def tw13870966497851218697:=()
def tw14573156725452912774:=()
def tw3620254055291088314:=()
def tw9445602279902145321:=()
def tw1554111397107077249:=()
def tw14186172873210222890:=()
def tw13804431455448366914:=()
def tw1256650180033333450:=()
def tw14701242333546148222:=()
def tw4624021238724997574:=()
def tw12158482502594635869:=()
def tw7344075644987312851:=()
def tw4086541715798056806:=()
def tw16995609615425426240:=()
def tw10215055551035325469:=()
def tw12119267563049072732:=()
def tw17778354987185860893:=()
def tw13041770045822307165:=()
def tw4023170714872563021:=()
end PySem.W.Fast
namespace K19
open PySem PySem.W PyProof.Rows
set_option maxHeartbeats 0 in
open_top head for PySem.Challenge.rw_onelook_k19_areas_looked_at
open PySem J
open PySem.W (nsIn mg_of mg_none_of)
open L2 (defScope defBody defArgs FnScope CX0 FnOk XK Hp)
set_option autoImplicit true in
theorem all_mk {l:PySem.W.OpenLaw} {w:World} {K:PySem.W.Frag} {h:Heap} {mg:Str → Option Value} {fa:Addr} (X:K.In h) (G:h.Ns mainGlobals mg) (hfa:mg "law" = some (.ref fa))
        {RI:V_} {Vy:Nat} {Gx Gy Gz GB GC GD GF GG GH GJ CZ C0 C2 C3 C4 C5 C6 C7 C8 C9 C_:Int} {NQ NR NT NU NV NW NX NY NZ N0 KC KG KH KI KJ KL KO KP KQ KR KS N1 N2 N3 N4 N5 N6 N7 N8 N9 N_ KU KW KY KZ K0 K1 K2 K3 K4 K5 K6:Tok}
    (d1:J.bu K "_law_cell_at" dQ)
    (d2:J.bu K "_law_spot" fW)
    (d3:J.bu K "_law_digit" fc)
    (d4:J.bu K "_law_worth" fe)
    (d5:J.bu K "_law_mixed" ff)
    (d6:J.bu K "_law_stream" eD)
    (d7:J.bu K "_law_known" fg)
    (d8:J.bu K "_law_area" fX)
    (d9:J.Cm K "Look" "Look.__init__" cS)
    (RJ:J.bu K "part_many" fY)
    (RK:J.bu K "parts_of" hV)
    (RL:J.bu K "places_between" cT)
    (RM:J.tQ K "Look" "standing" "Look.standing" cV)
    (RN:J.bu K "halts" mV)
    (RO:J.bu K "is_fault" hX)
    (RP:J.bu K "same_worth" fh)
    (RQ:J.bu K "fits" rN)
    (RS:J.tQ K "Look" "stretch" "Look.stretch" dn)
    (RT:J.bu K "is_great" h8)
    (O6:J.bu K "fault" mW)
    (O7:J.bu K "bounded" jq)
    (RU:J.bu K "gathered" h_)
    (RV:J.bu K "gathered_standing" bZ)
    (RW:J.tQ K "Look" "cell" "Look.cell" fi)
    (RX:J.bu K "number_of" fZ)
    (RY:J.bu K "single" kO)
    (O_:J.bu K "find_standing" dq)
    (Pa:J.bu K "reckoned_standing" b4)
    (Pb:J.bu K "gone_through" dU)
    (RZ:J.bu K "look_at" jr)
    (R0:J.bu K "_law_place" fj)
    (R1:J.bu K "_law_stop" f9)
    (R4:J.bu K "_law_gathering" cY)
    (R6:J.bu K "_law_find" f_)
    (R7:J.bu K "law" xG)
    (Pc:J.Own K "Look" "worths")
    (Pd:J.Own K "Look" "waiting")
    (Lo:J.Own K "Look" "met")
    (z0:nsIn K Wt "len"=some none)
    (z1:nsIn K Wt "range"=some none)
    (z2:nsIn K Wt "sum"=some none)
    (z3:nsIn K Wt "isinstance"=some none)
    (z4:nsIn K Wt "tuple"=some none)
    (z5:nsIn K Wt "abs"=some none)
    (z6:nsIn K Wt "int"=some none)
    (z7:nsIn K Wt "min"=some none)
    (z8:nsIn K Wt "max"=some none)
    (z9:nsIn K Wt "str"=some none)
    (R9:nsIn K Wt "PART_COUNTS"=some (some (.ref RI))) (R_:K.lookup RI=some ⟨.type "dict",none,.dict #[⟨Gx,.str "num" NQ,.int 0 N1⟩,⟨Gy,.str "text" NR,.int 0 N2⟩,⟨Gz,.str "lost" NT,.int 0 N3⟩,⟨GB,.str "at" NU,.int 0 N4⟩,⟨GC,.str "minus" NV,.int 1 N5⟩,⟨GD,.str "not" NW,.int 1 N6⟩,⟨GF,.str "+" NX,.int 2 N7⟩,⟨GG,.str "-" NY,.int 2 N8⟩,⟨GH,.str "*" NZ,.int 2 N9⟩,⟨GJ,.str "/" N0,.int 2 N_⟩,⟨CZ,.str "&" KC,.int 2 KU⟩,⟨C0,.str "<" KG,.int 2 KW⟩,⟨C2,.str "=" KH,.int 2 KY⟩,⟨C3,.str "rest" KI,.int 2 KZ⟩,⟨C4,.str "if" KJ,.int 3 K0⟩,⟨C5,.str "else" KL,.int 2 K1⟩,⟨C6,.str "sum" KO,.int 0 K2⟩,⟨C7,.str "count" KP,.int 0 K3⟩,⟨C8,.str "least" KQ,.int 0 K4⟩,⟨C9,.str "greatest" KR,.int 0 K5⟩,⟨C_,.str "find" KS,.int 1 K6⟩] Vy,#[]⟩) (Sa:(RI == sysModules)=false) (Dd:Gx=hashStr w "num") (De:Gy=hashStr w "text") (Df:Gz=hashStr w "lost") (Dg:GB=hashStr w "at") (Dh:GC=hashStr w "minus") (Di:GD=hashStr w "not") (Dj:GF=hashStr w "+") (Dk:GG=hashStr w "-") (Dl:GH=hashStr w "*") (Dm:GJ=hashStr w "/") (v_:CZ=hashStr w "&") (wa:C0=hashStr w "<") (wb:C2=hashStr w "=") (wc:C3=hashStr w "rest") (we:C4=hashStr w "if") (wg:C5=hashStr w "else") (wj:C6=hashStr w "sum") (wk:C7=hashStr w "count") (wq:C8=hashStr w "least") (wu:C9=hashStr w "greatest") (wx:C_=hashStr w "find")
     :
    ∃fd:Wa,(∀(s:Wd)(u:We),BindsTo s fd ⟨[u],[]⟩ [("script",u)])/\∀base:Heap,K.In base->base.Ns Wt mg->FnOk l.prog w K mg base (CXJ l.prog w) 14 fa fd ["script"] (spW K 1 F_law):=by
  refine J.Fo X G hfa R7 (λ_ _ _ _ _ _ s u=> .of_eq rfl) (λf fd Fu base kb nb=>?_)
  have Z0:=mg_none_of kb nb z0
  have Z1:=mg_none_of kb nb z1
  have Z2:=mg_none_of kb nb z2
  have Z3:=mg_none_of kb nb z3
  have Z4:=mg_none_of kb nb z4
  have Z5:=mg_none_of kb nb z5
  have Z6:=mg_none_of kb nb z6
  have Z7:=mg_none_of kb nb z7
  have Z8:=mg_none_of kb nb z8
  have Z9:=mg_none_of kb nb z9
  have TB:TabOk K k6 jP Cv:=J.J6 trivial trivial trivial
  have H1:J.fI l.prog w K mg base 1 "_law_cell_at" 2 bf:=J.aU (ps:=["script","k"]) kb nb d1 (J.aG (c:=fD) (k:=0) trivial ⟨Z0,trivial⟩ trivial TB trivial trivial trivial) my rfl ow (λ_ _ _ _ _ _ us hl=>J.ln2 us hl λ_ _=>rfl)
  have H2:J.fI l.prog w K mg base 2 "_law_spot" 1 eI:=J.aU (ps:=["script"]) kb nb d2 (J.aG (c:=iR) (k:=1) trivial trivial ⟨H1.mono (by decide),trivial⟩ TB trivial trivial trivial) rD rfl tV (λ_ _ _ _ _ _ us hl=>J.Cu us hl λ_=>rfl)
  have H3:J.fI l.prog w K mg base 1 "_law_digit" 2 aA:=J.aU (ps:=["row","many"]) kb nb d3 (J.aG (c:=gZ) (k:=0) trivial trivial trivial TB trivial trivial trivial) oY rfl rE (λ_ _ _ _ _ _ us hl=>J.ln2 us hl λ_ _=>rfl)
  have H4:J.fI l.prog w K mg base 2 "_law_worth" 1 dR:=J.aU (ps:=["row"]) kb nb d4 (J.aG (c:=hG) (k:=1) trivial trivial ⟨H3.mono (by decide),trivial⟩ TB trivial trivial trivial) oZ rfl rF (λ_ _ _ _ _ _ us hl=>J.Cu us hl λ_=>rfl)
  have H5:J.fI l.prog w K mg base 1 "_law_mixed" 2 dS:=J.aU (ps:=["cell","k"]) kb nb d5 (J.aG (c:=hJ) (k:=0) trivial trivial trivial TB trivial trivial trivial) o_ rfl rG (λ_ _ _ _ _ _ us hl=>J.ln2 us hl λ_ _=>rfl)
  have H6:J.fI l.prog w K mg base 2 "_law_stream" 2 dg:=J.aU (ps:=["script","k"]) kb nb d6 (J.aG (c:=gq) (k:=1) trivial ⟨Z1,Z0,Z2,trivial⟩ ⟨H5.mono (by decide),H1.mono (by decide),trivial⟩ TB trivial trivial trivial) oy rfl pb (λ_ _ _ _ _ _ us hl=>J.ln2 us hl λ_ _=>rfl)
  have H7:J.fI l.prog w K mg base 3 "_law_known" 2 cm:=J.aU (ps:=["script","spot"]) kb nb d7 (J.aG (c:=hU) (k:=2) trivial ⟨Z1,trivial⟩ ⟨H4.mono (by decide),H3.mono (by decide),H6.mono (by decide),H1.mono (by decide),trivial⟩ TB trivial trivial trivial) pe rfl rH (λ_ _ _ _ _ _ us hl=>J.ln2 us hl λ_ _=>rfl)
  have H8:J.fI l.prog w K mg base 2 "_law_area" 2 eJ:=J.aU (ps:=["row","spot"]) kb nb d8 (J.aG (c:=iT) (k:=1) trivial trivial ⟨H3.mono (by decide),trivial⟩ TB trivial trivial trivial) rJ rfl tW (λ_ _ _ _ _ _ us hl=>J.ln2 us hl λ_ _=>rfl)
  have H9:J.tE l.prog w K mg base 2 "Look" 3 bo:=J.Fp (ps:=["self","worths","waiting"]) kb nb d9 (J.aG (c:=eh) (k:=0) trivial trivial trivial TB trivial trivial trivial (hx:=J.lE.no rfl rfl rfl rfl rfl rfl (J.iN trivial trivial ⟨Pc,Pd,Lo,trivial⟩))) kK rfl lI (λ_ _ _ _ _ _ us hl=>J.Nn us hl λ_ _ _=>rfl)
  have Li:J.fI l.prog w K mg base 1 "part_many" 1 eK:=J.aU (ps:=["word"]) kb nb RJ (J.aG (c:=iV) (k:=0) trivial trivial trivial TB trivial trivial ⟨⟨_,_,_,mg_of kb nb R9,R_,Sa,⟨⟨Dd,⟨_,rfl⟩,⟨_,rfl⟩⟩,⟨De,⟨_,rfl⟩,⟨_,rfl⟩⟩,⟨Df,⟨_,rfl⟩,⟨_,rfl⟩⟩,⟨Dg,⟨_,rfl⟩,⟨_,rfl⟩⟩,⟨Dh,⟨_,rfl⟩,⟨_,rfl⟩⟩,⟨Di,⟨_,rfl⟩,⟨_,rfl⟩⟩,⟨Dj,⟨_,rfl⟩,⟨_,rfl⟩⟩,⟨Dk,⟨_,rfl⟩,⟨_,rfl⟩⟩,⟨Dl,⟨_,rfl⟩,⟨_,rfl⟩⟩,⟨Dm,⟨_,rfl⟩,⟨_,rfl⟩⟩,⟨v_,⟨_,rfl⟩,⟨_,rfl⟩⟩,⟨wa,⟨_,rfl⟩,⟨_,rfl⟩⟩,⟨wb,⟨_,rfl⟩,⟨_,rfl⟩⟩,⟨wc,⟨_,rfl⟩,⟨_,rfl⟩⟩,⟨we,⟨_,rfl⟩,⟨_,rfl⟩⟩,⟨wg,⟨_,rfl⟩,⟨_,rfl⟩⟩,⟨wj,⟨_,rfl⟩,⟨_,rfl⟩⟩,⟨wk,⟨_,rfl⟩,⟨_,rfl⟩⟩,⟨wq,⟨_,rfl⟩,⟨_,rfl⟩⟩,⟨wu,⟨_,rfl⟩,⟨_,rfl⟩⟩,⟨wx,⟨_,rfl⟩,⟨_,rfl⟩⟩,trivial⟩,by decide+kernel⟩,trivial⟩) rK rfl tX (λ_ _ _ _ _ _ us hl=>J.Cu us hl λ_=>rfl)
  have Qj:J.fI l.prog w K mg base 2 "parts_of" 1 dF:=J.aU (ps:=["formula"]) kb nb RK (J.aG (c:=jR) (k:=1) trivial trivial ⟨Li.mono (by decide),trivial⟩ TB trivial trivial trivial) tY rfl vQ (λ_ _ _ _ _ _ us hl=>J.Cu us hl λ_=>rfl)
  have Vz:J.fI l.prog w K mg base 1 "places_between" 1 b8:=J.aU (ps:=["area"]) kb nb RL (J.aG (c:=ei) (k:=0) trivial ⟨Z1,trivial⟩ trivial TB trivial trivial trivial) kL rfl lJ (λ_ _ _ _ _ _ us hl=>J.Cu us hl λ_=>rfl)
  have TU:J.oX l.prog w K mg base 1 "Look" "standing" 2 aY:=J.rn (ps:=["self","place"]) RM (J.aG (c:=et) (k:=0) trivial trivial trivial TB trivial trivial trivial (hx:=J.lE.no rfl rfl rfl rfl rfl rfl (J.iN trivial trivial ⟨Pc,Pd,trivial⟩))) kM rfl lK (λ_ _ _ _ _ _ us hl=>J.ln2 us hl λ_ _=>rfl)
  have N':J.fI l.prog w K mg base 1 "halts" 1 bY:=J.aU (ps:=["standing"]) kb nb RN (J.aG (c:=rL) (k:=0) trivial ⟨Z3,Z4,trivial⟩ trivial TB trivial trivial trivial) Cw rfl Fw (λ_ _ _ _ _ _ us hl=>J.Cu us hl λ_=>rfl)
  have Pe:J.fI l.prog w K mg base 1 "is_fault" 1 bD:=J.aU (ps:=["worth"]) kb nb RO (J.aG (c:=jS) (k:=0) trivial ⟨Z3,Z4,trivial⟩ trivial TB trivial trivial trivial) tZ rfl vR (λ_ _ _ _ _ _ us hl=>J.Cu us hl λ_=>rfl)
  have Sb:J.fI l.prog w K mg base 2 "same_worth" 2 bR:=J.aU (ps:=["one","other"]) kb nb RP (J.aG (c:=hZ) (k:=1) trivial trivial ⟨Pe.mono (by decide),trivial⟩ TB trivial trivial trivial) pf rfl rM (λ_ _ _ _ _ _ us hl=>J.ln2 us hl λ_ _=>rfl)
  have TV:J.fI l.prog w K mg base 3 "fits" 2 jT:=J.aU (ps:=["standing","key"]) kb nb RQ (J.aG (c:=vT) (k:=2) trivial trivial ⟨Sb.mono (by decide),trivial⟩ TB trivial trivial trivial) Fx rfl Kg (λ_ _ _ _ _ _ us hl=>J.ln2 us hl λ_ _=>rfl)
  have TX:J.oX l.prog w K mg base 4 "Look" "stretch" 3 a6:=J.rn (ps:=["self","area","key"]) RS (J.aG (c:=eP) (k:=3) trivial trivial ⟨Vz.mono (by decide),N'.mono (by decide),TV.mono (by decide),trivial⟩ TB trivial trivial trivial (hx:=J.lE.no rfl rfl rfl rfl rfl rfl (J.iN ⟨TU.mono (by decide),trivial⟩ trivial ⟨Lo,trivial⟩))) lL rfl mz (λ_ _ _ _ _ _ us hl=>J.Nn us hl λ_ _ _=>rfl)
  have VA:J.fI l.prog w K mg base 1 "is_great" 1 fF:=J.aU (ps:=["number"]) kb nb RT (J.aG (c:=jV) (k:=0) trivial ⟨Z5,trivial⟩ trivial TB trivial trivial trivial) t8 rfl vU (λ_ _ _ _ _ _ us hl=>J.Cu us hl λ_=>rfl)
  have Oc:J.fI l.prog w K mg base 1 "fault" 1 cq:=J.aU (ps:=["word"]) kb nb O6 (J.aG (c:=rO) (k:=0) trivial trivial trivial TB trivial trivial trivial) Cy rfl Fy (λ_ _ _ _ _ _ us hl=>J.Cu us hl λ_=>rfl)
  have TY:J.fI l.prog w K mg base 2 "bounded" 1 cW:=J.aU (ps:=["number"]) kb nb O7 (J.aG (c:=lN) (k:=1) trivial trivial ⟨VA.mono (by decide),Oc.mono (by decide),trivial⟩ TB trivial trivial trivial) vV rfl zi (λ_ _ _ _ _ _ us hl=>J.Cu us hl λ_=>rfl)
  have TZ:J.fI l.prog w K mg base 3 "gathered" 2 cM:=J.aU (ps:=["word","worths"]) kb nb RU (J.aG (c:=jW) (k:=2) trivial ⟨Z0,Z3,Z6,Z2,Z7,Z8,trivial⟩ ⟨TY.mono (by decide),Oc.mono (by decide),Pe.mono (by decide),trivial⟩ TB trivial trivial trivial) t9 rfl vW (λ_ _ _ _ _ _ us hl=>J.ln2 us hl λ_ _=>rfl)
  have VB:J.fI l.prog w K mg base 5 "gathered_standing" 3 bh:=J.aU (ps:=["word","area","look"]) kb nb RV (J.aG (c:=c_) (k:=4) trivial trivial ⟨N'.mono (by decide),TZ.mono (by decide),trivial⟩ TB trivial trivial trivial (hx:=J.lE.no rfl rfl rfl rfl rfl rfl (J.iN ⟨TX.mono (by decide),trivial⟩ trivial trivial))) iY rfl jz (λ_ _ _ _ _ _ us hl=>J.Nn us hl λ_ _ _=>rfl)
  have T1:J.oX l.prog w K mg base 2 "Look" "cell" 2 bF:=J.rn (ps:=["self","place"]) RW (J.aG (c:=ic) (k:=1) trivial trivial trivial TB trivial trivial trivial (hx:=J.lE.no rfl rfl rfl rfl rfl rfl (J.iN ⟨TU.mono (by decide),trivial⟩ trivial ⟨Lo,trivial⟩))) ph rfl rP (λ_ _ _ _ _ _ us hl=>J.ln2 us hl λ_ _=>rfl)
  have VC:J.fI l.prog w K mg base 1 "number_of" 1 f7:=J.aU (ps:=["worth"]) kb nb RX (J.aG (c:=iZ) (k:=0) trivial trivial trivial TB trivial trivial trivial) rQ rfl t_ (λ_ _ _ _ _ _ us hl=>J.Cu us hl λ_=>rfl)
  have VD:J.fI l.prog w K mg base 3 "single" 2 i5:=J.aU (ps:=["word","one"]) kb nb RY (J.aG (c:=oB) (k:=2) trivial ⟨Z3,Z9,trivial⟩ ⟨Pe.mono (by decide),VC.mono (by decide),Oc.mono (by decide),TY.mono (by decide),trivial⟩ TB trivial trivial trivial) zj rfl Cz (λ_ _ _ _ _ _ us hl=>J.ln2 us hl λ_ _=>rfl)
  have Se:∀n:Nat,J.fI l.prog w K mg base (5+n) "find_standing" 2 (aB n)/\J.fI l.prog w K mg base (5+n) "reckoned_standing" 2 (av n)/\J.fI l.prog w K mg base (5+n) "gone_through" 2 (az n):=λn=>by
    induction n with
    | zero=>exact⟨J.qX (ps:=["formula","look"]) kb nb O_ (λ_ _ _ _ _ _ us hl=>J.ln2 us hl λ_ _=>rfl),J.qX (ps:=["formula","look"]) kb nb Pa (λ_ _ _ _ _ _ us hl=>J.ln2 us hl λ_ _=>rfl),J.qX (ps:=["formula","look"]) kb nb Pb (λ_ _ _ _ _ _ us hl=>J.ln2 us hl λ_ _=>rfl)⟩
    | succ n ih=>exact⟨J.aU (ps:=["formula","look"]) kb nb O_ (J.aG (c:=(iu (aB n) (av n) (az n))) (k:=(5+n)) trivial ⟨Z0,trivial⟩ ⟨ih.2.2,N'.mono (by omega),Oc.mono (by omega),TV.mono (by omega),trivial⟩ TB trivial trivial trivial (hx:=J.lE.no rfl rfl rfl rfl rfl rfl (J.iN ⟨TX.mono (by omega),T1.mono (by omega),trivial⟩ trivial trivial))) (lO (aB n) (av n) (az n)) rfl (mB (aB n) (av n) (az n)) (λ_ _ _ _ _ _ us hl=>J.ln2 us hl λ_ _=>rfl),J.aU (ps:=["formula","look"]) kb nb Pa (J.aG (c:=(eV (aB n) (av n) (az n))) (k:=(5+n)) trivial ⟨Z0,trivial⟩ ⟨Qj.mono (by omega),N'.mono (by omega),VD.mono (by omega),ih.2.2,trivial⟩ TB trivial trivial trivial) (i6 (aB n) (av n) (az n)) rfl (jA (aB n) (av n) (az n)) (λ_ _ _ _ _ _ us hl=>J.ln2 us hl λ_ _=>rfl),J.aU (ps:=["formula","look"]) kb nb Pb (J.aG (c:=(i7 (aB n) (av n) (az n))) (k:=(5+n)) trivial trivial ⟨Qj.mono (by omega),VB.mono (by omega),Oc.mono (by omega),ih.1,ih.2.1,trivial⟩ TB trivial trivial trivial (hx:=J.lE.no rfl rfl rfl rfl rfl rfl (J.iN ⟨T1.mono (by omega),trivial⟩ trivial trivial))) (mC (aB n) (av n) (az n)) rfl (oC (aB n) (av n) (az n)) (λ_ _ _ _ _ _ us hl=>J.ln2 us hl λ_ _=>rfl)⟩
  have V8:J.fI l.prog w K mg base 11 "find_standing" 2 ax:=(Se 6).1
  have V9:J.fI l.prog w K mg base 11 "reckoned_standing" 2 ao:=(Se 6).2.1
  have VE:J.fI l.prog w K mg base 11 "gone_through" 2 au:=(Se 6).2.2
  have T3:J.fI l.prog w K mg base 12 "look_at" 3 b9:=J.aU (ps:=["formula","worths","waiting"]) kb nb RZ (J.aG (c:=lQ) (k:=11) trivial ⟨Z4,trivial⟩ ⟨VE.mono (by decide),N'.mono (by decide),Pe.mono (by decide),trivial⟩ TB trivial trivial trivial (hx:=J.lE.no rfl rfl rfl rfl rfl rfl (J.iN trivial ⟨H9.mono (by decide),trivial⟩ ⟨Lo,trivial⟩))) vX rfl zk (λ_ _ _ _ _ _ us hl=>J.Nn us hl λ_ _ _=>rfl)
  have VF:J.fI l.prog w K mg base 2 "_law_place" 2 cX:=J.aU (ps:=["row","spot"]) kb nb R0 (J.aG (c:=ig) (k:=1) trivial trivial ⟨H3.mono (by decide),trivial⟩ TB trivial trivial trivial) pj rfl rR (λ_ _ _ _ _ _ us hl=>J.ln2 us hl λ_ _=>rfl)
  have T4:J.fI l.prog w K mg base 3 "_law_stop" 4 cg:=J.aU (ps:=["places","worths","waiting","key"]) kb nb R1 (J.aG (c:=i_) (k:=2) trivial ⟨Z3,Z4,Z0,trivial⟩ ⟨Sb.mono (by decide),trivial⟩ TB trivial trivial trivial) rS rfl ua (λ_ _ _ _ _ _ us hl=>J.Rf us hl λ_ _ _ _=>rfl)
  have VG:J.fI l.prog w K mg base 4 "_law_gathering" 4 bI:=J.aU (ps:=["word","area","worths","waiting"]) kb nb R4 (J.aG (c:=ez) (k:=3) trivial ⟨Z1,trivial⟩ ⟨T4.mono (by decide),TZ.mono (by decide),trivial⟩ TB trivial trivial trivial) kP rfl lR (λ_ _ _ _ _ _ us hl=>J.Rf us hl λ_ _ _ _=>rfl)
  have VH:J.fI l.prog w K mg base 13 "_law_find" 4 eL:=J.aU (ps:=["key","area","worths","waiting"]) kb nb R6 (J.aG (c:=jb) (k:=12) trivial ⟨Z3,Z4,Z1,trivial⟩ ⟨T3.mono (by decide),T4.mono (by decide),Sb.mono (by decide),trivial⟩ TB trivial trivial trivial) rT rfl ub (λ_ _ _ _ _ _ us hl=>J.Rf us hl λ_ _ _ _=>rfl)
  exact J.J3 Fu (J.aG (c:=CB) (k:=13) trivial trivial ⟨H2.mono (by decide),H7.mono (by decide),H8.mono (by decide),H3.mono (by decide),T3.mono (by decide),VF.mono (by decide),VG.mono (by decide),VH.mono (by decide),trivial⟩ TB trivial trivial trivial) Kh rfl Np
end K19
open PySem PySem.W PyProof.Rows
set_option maxRecDepth 100000 in
set_option maxHeartbeats 0 in
theorem PySem.Challenge.cw_onelook_k19_areas_looked_at_holds : PySem.Challenge.rw_onelook_k19_areas_looked_at.Holds := by
  refine K19.head ?_
  k_fill
  refine L2.walk_of (l:=PySem.Challenge.rw_onelook_k19_areas_looked_at) (n:=63) (k:=14) (x:="script") (CX:=fun w => J.CXJ PySem.Challenge.rw_onelook_k19_areas_looked_at.prog w) (sp:=fun w => J.spW _ 1 K19.F_law) rfl (by decide) rfl ⟨rfl,by decide,by decide⟩ (fun w h Y => PySem.W.kIn_of Y) ?F (fun w H a ns hl hO hS => J.law_sp K19.law_true H a ns hl (J.OnlyT.of hO) hS (J.tb_none ?Ta ?Tb ?Tc ?Td ?Te)) (fun _ _ _ _ _ z => z.elim fun _ y => y.elim fun _ x => x.2)
  case F=>
    intro w mg fa h KX G hmg
    refine' K19.all_mk KX G hmg ?d1 ?d2 ?d3 ?d4 ?d5 ?d6 ?d7 ?d8 ?d9 ?RJ ?RK ?RL ?RM ?RN ?RO ?RP ?RQ ?RS ?RT ?O6 ?O7 ?RU ?RV ?RW ?RX ?RY ?O_ ?Pa ?Pb ?RZ ?R0 ?R1 ?R4 ?R6 ?R7 ?Pc ?Pd ?Lo ?z0 ?z1 ?z2 ?z3 ?z4 ?z5 ?z6 ?z7 ?z8 ?z9 ?R9 ?R_ ?Sa ?Dd ?De ?Df ?Dg ?Dh ?Di ?Dj ?Dk ?Dl ?Dm ?v_ ?wa ?wb ?wc ?we ?wg ?wj ?wk ?wq ?wu ?wx
    case d1 | d2 | d3 | d4 | d5 | d6 | d7 | d8=>refine' J.nT ?a ?l ?c ?k;(case a=>k_is);(case l=>k_is);(case c=>k_is);(case k=>k_is)
    case d9=>refine' J.J4 ?a ?b ?e ?i ?l ?c ?k ?n;(case a=>k_is);(case b=>k_is);(case e=>k_is);(case i=>k_is);(case l=>k_is);(case c=>k_is);(case k=>k_is);(case n=>k_is)
    case RJ | RK | RL=>refine' J.nT ?a ?l ?c ?k;(case a=>k_is);(case l=>k_is);(case c=>k_is);(case k=>k_is)
    case RM=>refine' J.vL ?a ⟨?p,?h,?o,?s⟩ ?i ?l ?c ?k ?n;(case a=>k_is);(case p=>k_is);(case h=>k_is);(case o=>k_is);(case s=>k_is);(case i=>k_is);(case l=>k_is);(case c=>k_is);(case k=>k_is);(case n=>k_is)
    case RN | RO | RP | RQ=>refine' J.nT ?a ?l ?c ?k;(case a=>k_is);(case l=>k_is);(case c=>k_is);(case k=>k_is)
    case RS=>refine' J.vL ?a ⟨?p,?h,?o,?s⟩ ?i ?l ?c ?k ?n;(case a=>k_is);(case p=>k_is);(case h=>k_is);(case o=>k_is);(case s=>k_is);(case i=>k_is);(case l=>k_is);(case c=>k_is);(case k=>k_is);(case n=>k_is)
    case RT | O6 | O7 | RU | RV=>refine' J.nT ?a ?l ?c ?k;(case a=>k_is);(case l=>k_is);(case c=>k_is);(case k=>k_is)
    case RW=>refine' J.vL ?a ⟨?p,?h,?o,?s⟩ ?i ?l ?c ?k ?n;(case a=>k_is);(case p=>k_is);(case h=>k_is);(case o=>k_is);(case s=>k_is);(case i=>k_is);(case l=>k_is);(case c=>k_is);(case k=>k_is);(case n=>k_is)
    case RX | RY | O_ | Pa | Pb | RZ | R0 | R1 | R4 | R6 | R7=>refine' J.nT ?a ?l ?c ?k;(case a=>k_is);(case l=>k_is);(case c=>k_is);(case k=>k_is)
    case Pc | Pd | Lo=>refine' J.J5 ?a ⟨?p,?h,?o,?s⟩ ?n;(case a=>k_is);(case p=>k_is);(case h=>k_is);(case o=>k_is);(case s=>k_is);(case n=>k_is)
    case z0 | z1 | z2 | z3 | z4 | z5 | z6 | z7 | z8 | z9 | R9 | R_=>k_is
    case Sa | Dd | De | Df | Dg | Dh | Di | Dj | Dk | Dl | Dm | v_ | wa | wb | wc | we | wg | wj | wk | wq | wu | wx=>rfl
  (case Ta=>k_is)
  (case Tb=>k_is)
  (case Tc=>k_is)
  (case Td=>k_is)
  (case Te=>k_is)
