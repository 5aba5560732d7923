import PyProof.Rows.All
import Wide.All
import OpenK.AllK
import Wide.FinOn
import Lean
import PyProof.EqAt
import PyProof.EqKinds
import PyProof.TupleCall
import PySem.Challenge.RW_onelook_k18_whole_looks_by_parts
open PySem.Around renaming under→Kf,under_plainId→KH
open Array renaming all_eq_true_iff_forall_mem→Ks,length_toList→C7,size_append→Ku,toList_extract→Q8
open Bool renaming and_eq_true→dm,eq_iff_iff→wc,false_eq_true→oK,false_ne_true→bE,or_eq_false_iff→OE,or_eq_true→DZ
open PySem.Builtin.Dict_items renaming ownsTuple→Nq
open PySem.Builtin.List renaming listTooLong→qy
open PySem.Builtin.Range renaming rangeSize→uz,small→Ny
open PySem.Builtin.Slice renaming sliceAdjust→Ds,sliceApplied→L9,slicePlaces→yC
open PySem.Builtin.Str renaming occurrences→ym
open PySem.Builtin.Tuple renaming tupleExact→qo,tupleHashOf→Ll,tupleIsExact→Nk,tupleItemsOf→yh
open PySem.Builtin renaming divisionGoesByPylong→Nz
open PySem.Calls renaming Name_function_global→Lz,callWith_builtin→yG,evalArgs_plain→yH,spliced_cons→qk,spliced_nil→yz
open Classical renaming choose→OF,choose_spec→OG,propDecidable→Ee
open PySem.Code renaming isFrame→Dp
open PySem.EntryCells renaming newEntry→Mw
open PySem.F renaming slot_int_rmul→yJ,typeOf_object_class→Eh
open False renaming elim→ae
open ForInStep renaming yield→uk
open PySem.Heap renaming MadeExcOf→DM,SameBut→nN,get?_push_of_some→bA,get?_push_size→cJ,get?_update_other→qq,get?_update_self→yE,lt_size→bc,size_push→yw
open PySem.Heap.SameBut renaming update→Nr
open Int renaming fmod_lt_of_pos→jQ,fmod_nonneg_of_pos→iJ
open PySem.IntMulOk renaming of_bits→Oq
open PyProof.Rows.IsTup renaming new→uG
open List renaming all_cons→dG,all_eq_true→FE,any_cons→fm,any_eq_true→zG,append_assoc→qw,append_nil→jc,contains_cons→Ei,drop_eq_getElem_cons→Eb,drop_length→Ec,drop_of_length_le→Ng,drop_zero→Ey,eq_nil_of_length_eq_zero→yR,ext_getElem?→EN,extract_eq_take_drop→Nh,filterMap_cons→uv,filter_cons→rY,filter_cons_of_neg→Ep,filter_cons_of_pos→Eo,find?_cons→j8,flatten_append→F8,flatten_cons→qu,foldl→qv,foldl_cons→yI,getD_eq_getElem?_getD→y6,getElem?_append_left→f9,getElem?_append_right→l9,getElem?_cons_succ→rT,getElem?_cons_zero→rS,getElem?_eq_getElem→dJ,getElem?_eq_none→Nu,getElem?_map→fk,getElem?_replicate→L7,getElem?_set_ne→cK,getElem?_set_self→qh,length→l8,length_append→eV,length_cons→ja,length_drop→Du,length_map→bU,length_set→qr,length_take→ql,lookup→lZ,lookup_cons→fu,map_append→eh,map_congr_left→zF,map_cons→bw,map_id→zD,map_map→mI,map_nil→k_,mem_append_left→Hk,mem_append_right→gA,mem_cons→di,mem_cons_of_mem→bq,mem_cons_self→bS,mem_of_getElem?→HC,nil_append→k9,not_mem_nil→dC,of_mem_zip→Aa,range→dh,range_succ→p_,replicate→aS,replicate_succ→ig,set_cons_succ→vX,set_cons_zero→vW,size_toArray→a7,take_append_drop→IL,take_of_length_le→IP
open PySem.NameKind renaming cell→eD,free→eC
open Nat renaming le_of_eq→mP,le_of_lt→zY,le_refl→aC,le_succ→pI,le_trans→bf,lt_irrefl→gz,lt_of_lt_of_le→br,lt_trans→uR,min_le_right→Ab,mul_comm→Ag,ne_of_gt→pH,ne_of_lt→bN,sub_eq_zero_of_le→IM,sub_self→pN,succ_le_succ→um,zero_le→cL
open Ne renaming symm→bo
open PySem.Obj renaming data_mapFields→pM,isFreed_of_fields→Al,mapFields→jd,mapSeq→mS
open Option renaming isSome_some→HR,map_some→mL
open Or renaming inr→lh
open PySem.PassesOwn renaming leaving→vo
open Prod renaming ext→pJ
open PySem.PyData renaming canLayAll0→pF,depthAll→i7,eqv→a4,eqvAll→fM,list→Ar,strOk→aY,tuple→lq
open PyProof.Rows renaming callWith_type1→uA,intBits_le→A9,slot_tuple_getitem→uF,Keyed→ab6
open PySem.SeqAt.EqAt renaming int_none→G9,int_str→G8,none_int→Hd,none_str→Hf,same→Hg,str_int→G_,str_none→Ha
open PySem.Str renaming ofString→pK
open Subtype renaming ext→uo
open True renaming intro→gB
open PySem.Txt renaming slice→lu
open PySem.Value renaming builtin→pS,int→ie,none→cH,ref→aO,str→mK,type→pG
open PySem renaming Addr→abF,Around→abG,FuncData→abH,NameKind→abI,Program→abJ,Shared→abK,Value→abL,World→abM,behindInMarks→abN,binaryOp→abO,bootBuiltins→abP,codeAny→abQ,compPost→abR,compareOp→abS,foldedSetIterable→abT,isSubtype_type→abU,mainGlobals→abV,sizeLine→abW,starEach→abX,wpAny→abY,wpAny_bind→abZ,wpAny_dictEntries→ab0,wpAny_holding→ab1,wpAny_mono→ab2,wpAny_newObj_type→ab3,wpAny_pure→ab4,wpAny_truthy_bool→ab5
noncomputable section
set_option Elab.async false
set_option linter.all false
set_option maxRecDepth 100000
namespace L2
open PySem PySem.Spec PyProof.Rows
inductive Key where
 | inl (i:Int) | inr (x:Str) | non
 deriving DecidableEq
def qc:Key->abL->Bool
 | .inl k,v=>Value.isInt k v
 | .inr x,v=>Value.isStrOf x v
 | .non,v=>(match v with | .none=>true | _=>false)
def G7(w:abM):Key->Int
 | .inl k=>hashInt k
 | .inr x=>hashStr w x
 | .non=>reduceHash 4238894112
theorem dF:∀{k:Key}{v:abL},qc k v=true->(∃i t,k=Key.inl i/\v=ie i t)\/(∃x t,k=Key.inr x/\v=mK x t)\/(k=Key.non/\v=cH)
 | .inl i,v,h=>by
  obtain⟨t,e⟩:=Value.isInt_shape (k:=i) (v:=v) h
  exact .inl ⟨i,t,rfl,e⟩
 | .inr x,v,h=>by
  obtain⟨t,e⟩:=Value.isStrOf_shape (x:=x) (v:=v) h
  exact .inr (.inl ⟨x,t,rfl,e⟩)
 | .non,v,h=>by
  cases v<;>first | exact .inr (.inr ⟨rfl,rfl⟩) | (unfold qc at h;cases h)
theorem Bp(i:Int)(t:Tok):qc (.inl i) (.int i t)=true:=by simp[qc,Value.isInt]
theorem Bq(x:Str)(t:Tok):qc (.inr x) (.str x t)=true:=by simp[qc,Value.isStrOf]
theorem Li(a b:Int):decide ((Key.inl a:Key)=Key.inl b)=(a == b):=by
 by_cases e:a=b
 ·subst e;simp
 ·have h:¬(Key.inl a:Key)=Key.inl b:=λq=>e (Key.inl.inj q)
  rw[decide_eq_false h]
  exact(beq_eq_false_iff_ne.mpr e).symm
theorem Lj(a b:Str):decide ((Key.inr a:Key)=Key.inr b)=decide (a=b):=by
 by_cases e:a=b
 ·subst e;simp
 ·have h:¬(Key.inr a:Key)=Key.inr b:=λq=>e (Key.inr.inj q)
  rw[decide_eq_false h,decide_eq_false e]
theorem qd{prog:abJ}{w:abM}{A:abG}{E:abL->abK->Prop}{s:abK}{Q:Int->abK->Prop}(h:Q (reduceHash 4238894112) { s with toks:=s.toks+1 }):abY (model prog w) A (PySem.pyHash .none) Q E s :=
 PySem.W.pyHash_slot (T:="NoneType") rfl F.slot_NoneType_hash F.entry_NoneType_hash (F.args_NoneType_hash_1 _) (beq_builtin_none _) (.inl rfl) (abZ (ab4 (abZ (wpAny_mkInt (ab4 ⟨_,_,rfl,h⟩)))))
def b4(prog:abJ)(w:abM):PySem.KeyKind prog w Key where
 is:=qc
 hash:=G7 w
 inj:=λv a b ha hb=>by
  rcases dF ha with ⟨i,t,rfl,rfl⟩ | ⟨x,t,rfl,rfl⟩ | ⟨rfl,rfl⟩<;>rcases dF hb with ⟨j,u,rfl,e⟩ | ⟨y,u,rfl,e⟩ | ⟨rfl,e⟩<;>cases e<;>rfl
 byValue:=λk v h=>by
  rcases dF h with ⟨i,t,rfl,rfl⟩ | ⟨x,t,rfl,rfl⟩ | ⟨rfl,rfl⟩<;>rfl
 pyHash:=λhv h=>by
  rcases dF hv with ⟨i,t,rfl,rfl⟩ | ⟨x,t,rfl,rfl⟩ | ⟨rfl,rfl⟩
  ·exact wpAny_pyHash_int h
  ·exact wpAny_pyHash_str h
  ·exact qd h
 eqBool:=λ{A E s a b u v Q} hu hv h=>by
  have no:a≠b->Q false s:=λn=>by rw[decide_eq_false n] at h;exact h
  rcases dF hu with ⟨i,t,rfl,rfl⟩ | ⟨x,t,rfl,rfl⟩ | ⟨rfl,rfl⟩<;>rcases dF hv with ⟨j,u,rfl,rfl⟩ | ⟨y,u,rfl,rfl⟩ | ⟨rfl,rfl⟩
  ·rw[Li] at h;exact wpAny_eqBool_int h
  ·exact G8 i t y u _ _ _ _ (no nofun)
  ·exact G9 i t _ _ _ _ (no nofun)
  ·exact G_ x t j u _ _ _ _ (no nofun)
  ·rw[Lj] at h;exact wpAny_eqBool_str h
  ·exact Ha x t _ _ _ _ (no nofun)
  ·exact Hd j u _ _ _ _ (no nofun)
  ·exact Hf y u _ _ _ _ (no nofun)
  ·exact Hg .none _ _ _ _ (by simpa using h)
 «strs»:=λk x t v h=>by
  rcases dF h with ⟨i,u,rfl,e⟩ | ⟨y,u,rfl,e⟩ | ⟨rfl,e⟩<;>cases e
  cases v<;>rfl
theorem wa(prog:abJ)(w:abM)(i:Int)(t:Tok):(b4 prog w).is (.inl i) (.int i t)=true:=Bp i t
theorem wb(prog:abJ)(w:abM)(x:Str)(t:Tok):(b4 prog w).is (.inr x) (.str x t)=true:=Bq x t
end L2
namespace NK
open PySem L2
def kd:Nat->PyData->Bool
 | _,.none=>true
 | _,.int _=>true
 | _,.str x=>aY x
 | n+1,.tuple xs=>xs.all (kd n)
 | _,_=>false
def kh(w:abM):Nat->PyData->Int
 | _,.none=>G7 w .non
 | _,.int i=>G7 w (.inl i)
 | _,.str x=>G7 w (.inr x)
 | n+1,.tuple xs=>reduceHash (Ll (xs.map (kh w n)))
 | _,_=>0
def PR:Nat->PyData->Nat
 | n+1,.tuple xs=>(xs.map (PR n)).sum+1
 | _,_=>1
def Rd(h:Heap)(v:abL)(d:PyData):Prop:=∃as,Reads h v d as
inductive zW(h:Heap):List abL->List PyData->Prop
 | nil:zW h [] []
 | cons {v:abL} {d:PyData} {vs:List abL} {ds:List PyData}:Rd h v d->zW h vs ds->zW h (v::vs) (d::ds)
theorem zW.of{h:Heap}:∀{vs:List abL}{ds:List PyData}{as:List abF},ReadsAll h vs ds as->zW h vs ds
 | _,_,_,.nil=> .nil
 | _,_,_,.cons r rs=> .cons ⟨_,r⟩ (zW.of rs)
theorem zW.all{h:Heap}{vs:List abL}{ds:List PyData}(r:zW h vs ds):∃as,ReadsAll h vs ds as:=by
 induction r with
 | nil=>exact⟨_,.nil⟩
 | cons a _ ih=>
  obtain⟨as,ra⟩:=a
  obtain⟨bs,rb⟩:=ih
  exact⟨_,.cons ra rb⟩
theorem Rd.tup{h:Heap}{v:abL}{xs:List PyData}(r:Rd h v (.tuple xs)):∃a o vs n,v= .ref a/\h.get? a=some o/\o.cls= .type "tuple"/\o.data= .seq vs n/\zW h vs.toList xs:=by
 obtain⟨as,r⟩:=r
 cases r with
 | tuple h1 h2 h3 h4=>exact⟨_,_,_,_,rfl,h1,h2,h3,.of h4⟩
section
variable {prog:abJ} {w:abM} {E:abL->abK->Prop}
theorem sX{n:Nat}(ih:∀(d:PyData)(v:abL)(A:abG)(s:abK)(Q:Int->abK->Prop),kd n d=true->Rd s.heap v d->A.units+n < cLine->Q (kh w n d) { s with toks:=s.toks+PR n d }->abY (model prog w) A (pyHash v) Q E s) :
  ∀(xs:List PyData)(vs:List abL)(A:abG)(s:abK)(b:Array Int)(Q:Array Int->abK->Prop),xs.all (kd n)=true->zW s.heap vs xs->A.units+n < cLine->
  (∀b':Array Int,b'.toList=b.toList++xs.map (kh w n)->Q b' { s with toks:=s.toks+(xs.map (PR n)).sum })->
  abY (model prog w) A (forIn vs b λx r=>do let h <-pyHash x;pure PUnit.unit;pure (uk (r.push h))) Q E s
 | [],_,A,s,b,Q,_,x,_,h=>by cases x;exact ab4 (h b (by simp))
 | k::xs,_,A,s,b,Q,hk,x,hu,h=>by
  cases x with
  | cons x1 x2=>
   rw[dG,dm] at hk
   rw[List.forIn_cons]
   refine abZ (abZ (ih k _ A s _ hk.1 x1 hu ?_))
   refine abZ (ab4 (ab4 ?_))
   exact sX ih xs _ A _ _ Q hk.2 x2 hu λb' hb=>by
    have:=h b' (by rw[hb];simp)
    rw[bw,List.sum_cons,<-Nat.add_assoc] at this
    exact this
theorem Ln:∀(n:Nat)(d:PyData)(v:abL)(A:abG)(s:abK)(Q:Int->abK->Prop),kd n d=true->Rd s.heap v d->A.units+n < cLine->Q (kh w n d) { s with toks:=s.toks+PR n d }->abY (model prog w) A (pyHash v) Q E s:=by
 intro n
 induction n with
 | zero=>
  intro d v A s Q hk r hu h
  obtain⟨as,r⟩:=r
  cases r with
  | none=>exact qd h
  | int i t=>exact wpAny_pyHash_int h
  | str x t=>exact wpAny_pyHash_str h
  | _=>simp[kd] at hk
 | succ n ih=>
  intro d v A s Q hk r hu h
  cases d with
  | tuple xs=>
   obtain⟨a,o,vs,m,rfl,h1,h2,h3,h4⟩:=r.tup
   refine PySem.W.pyHash_slot (T:="tuple") ⟨o,h1,h2⟩ F.slot_tuple_hash F.entry_tuple_hash (F.args_tuple_hash_1 _) (beq_builtin_none _) (.inr (by omega)) ?_
   show abY _ _ (yh (.ref a) >>= _) _ _ s
   refine abZ (wpAny_tupleItemsOf h1 h3 ?_)
   refine abZ ?_
   rw[<-Array.forIn_toList]
   refine sX ih xs vs.toList A.in1 s #[] _ hk h4 (by simp only[Around.in1_units];omega) λb hb=>?_
   show abY _ _ (retInt (Ll b.toList)) _ _ _
   rw[hb]
   exact abZ (wpAny_mkInt (ab4 ⟨_,_,rfl,h⟩))
  | none=>obtain⟨as,r⟩:=r;cases r;exact qd h
  | int i=>obtain⟨as,r⟩:=r;cases r;exact wpAny_pyHash_int h
  | str x=>obtain⟨as,r⟩:=r;cases r;exact wpAny_pyHash_str h
  | _=>simp[kd] at hk
end
theorem yi:∀(n:Nat)(d:PyData),kd n d=true->d.canLay0=true/\d.depth<=n:=by
 intro n
 induction n with
 | zero=>
  intro d h
  cases d with
  | none=>exact⟨rfl,aC _⟩
  | int i=>exact⟨rfl,aC _⟩
  | str x=>exact⟨h,aC _⟩
  | _=>simp[kd] at h
 | succ n ih=>
  intro d h
  cases d with
  | none=>exact⟨rfl,cL _⟩
  | int i=>exact⟨rfl,cL _⟩
  | str x=>exact⟨h,cL _⟩
  | tuple xs=>
   have hx:xs.all (kd n)=true:=h
   have key:∀xs:List PyData,xs.all (kd n)=true->pF xs=true/\i7 xs<=n:=by
    intro xs
    induction xs with
    | nil=>intro _;exact⟨rfl,cL _⟩
    | cons x r ihr=>
     intro h
     rw[dG,dm] at h
     obtain⟨a,b⟩:=ih x h.1
     obtain⟨c,e⟩:=ihr h.2
     refine⟨?_,?_⟩
     ·show(PyData.canLay0 x&&pF r)=true
      rw[a,c];rfl
     ·show max x.depth (i7 r)<=n
      omega
   obtain⟨a,b⟩:=key xs hx
   exact⟨a,um b⟩
  | _=>simp[kd] at h
theorem zX:∀(n:Nat)(d e:PyData),kd n d=true->kd n e=true->(a4 d e=true↔d=e):=by
 intro n
 induction n with
 | zero=>
  intro d e h k
  cases d<;>cases e<;>first | (simp[kd] at h;done) | (simp[kd] at k;done) | simp[a4]
 | succ n ih=>
  intro d e h k
  cases d with
  | tuple xs=>
   cases e with
   | tuple ys=>
    have key:∀xs ys:List PyData,xs.all (kd n)=true->ys.all (kd n)=true->(fM xs ys=true↔xs=ys):=by
     intro xs
     induction xs with
     | nil=>intro ys _ _;cases ys<;>simp[fM]
     | cons x r ihr=>
      intro ys h k
      cases ys with
      | nil=>simp[fM]
      | cons y t=>
       rw[dG,dm] at h k
       show(a4 x y&&fM r t)=true↔_
       rw[dm,ih x y h.1 k.1,ihr t h.2 k.2,List.cons.injEq]
    show fM xs ys=true↔_
    rw[key xs ys h k,PyData.tuple.injEq]
   | _=>first | (simp[kd] at k;done) | simp[a4]
  | _=>cases e<;>first | (simp[kd] at h;done) | (simp[kd] at k;done) | simp[a4]
def J_:PyData->Bool
 | .tuple _=>true
 | _=>false
def KD:Type:={ d:PyData // kd 8 d=true/\J_ d=true }
instance:DecidableEq KD:=λx y=>decidable_of_iff (a4 x.1 y.1=true) ((zX 8 x.1 y.1 x.2.1 y.2.1).trans ⟨uo,λh=>by rw[h]⟩)
theorem KD.eqv{x y:KD}:a4 x.1 y.1=decide (x=y):=by
 rw[wc,zX 8 x.1 y.1 x.2.1 y.2.1,decide_eq_true_eq]
 exact⟨uo,λh=>by rw[h]⟩
theorem Hh{h h':Heap}{d0:abF}{o:Obj}{es ep}(ho:h.get? d0=some o)(hd:o.data= .dict es ep)(hs:nN d0 h h'):∀(n:Nat)(d:PyData)(v:abL),kd n d=true->Rd h v d->Rd h' v d:=by
 intro n
 induction n with
 | zero=>
  intro d v hk r
  obtain⟨as,r⟩:=r
  cases r with
  | none=>exact⟨_,.none⟩
  | int i t=>exact⟨_,.int i t⟩
  | str x t=>exact⟨_,.str x t⟩
  | _=>simp[kd] at hk
 | succ n ih=>
  intro d v hk r
  cases d with
  | tuple xs=>
   obtain⟨a,o',vs,m,rfl,h1,h2,h3,h4⟩:=r.tup
   have ne:a≠d0:=λz=>by
    subst z
    rw[h1] at ho
    cases ho
    rw[h3] at hd
    cases hd
   have key:∀(vs:List abL)(xs:List PyData),xs.all (kd n)=true->zW h vs xs->zW h' vs xs:=by
    intro vs xs hx r
    induction r with
    | nil=>exact .nil
    | cons a _ ihr=>
     rw[dG,dm] at hx
     exact .cons (ih _ _ hx.1 a) (ihr hx.2)
   obtain⟨as,ra⟩:=(key _ _ hk h4).all
   exact⟨_,.tuple ((hs.2 a ne).trans h1) h2 h3 ra⟩
  | none=>obtain⟨as,r⟩:=r;cases r;exact⟨_,.none⟩
  | int i=>obtain⟨as,r⟩:=r;cases r;exact⟨_,.int _ _⟩
  | str x=>obtain⟨as,r⟩:=r;cases r;exact⟨_,.str _ _⟩
  | _=>simp[kd] at hk
section
variable {prog:abJ} {w:abM} {A:abG} {E:abL->abK->Prop} {s:abK}
theorem Hi:∀(n:Nat)(d:PyData)(v:abL)(Q:Bool->abK->Prop),kd n d=true->Rd s.heap v d->Q true s->abY (model prog w) A (eqIsQuiet n v) Q E s:=by
 intro n
 induction n with
 | zero=>
  intro d v Q hk r h
  obtain⟨as,r⟩:=r
  cases r with
  | none=>rw[eqIsQuiet_byValue 0 rfl];exact ab4 h
  | int i t=>rw[eqIsQuiet_byValue 0 rfl];exact ab4 h
  | str x t=>rw[eqIsQuiet_byValue 0 rfl];exact ab4 h
  | _=>simp[kd] at hk
 | succ n ih=>
  intro d v Q hk r h
  cases d with
  | tuple xs=>
   obtain⟨a,o,vs,m,rfl,h1,h2,h3,h4⟩:=r.tup
   have hT:s.TypeIs (.ref a) "tuple":=⟨o,h1,h2⟩
   unfold eqIsQuiet
   refine abZ (wpAny_specialOf hT F.slot_tuple_eq.lookup ?_)
   show abY _ _ (isInstance (.ref a) (.type "tuple") >>= _) _ _ s
   refine abZ (wpAny_isInstance hT isSubtype_tuple_tuple ?_)
   simp only[Bool.not_true,oK,if_false]
   refine abZ (wpAny_seqItems h1 h3 ?_)
   refine abZ ?_
   show abY _ _ (forIn vs _ _) _ _ s
   rw[<-Array.forIn_toList]
   refine wpAny_forIn_list _ (λrest r s'=>r.1=none/\s'=s/\∃ds,ds.all (kd n)=true/\zW s.heap rest ds) _ ?_ ?_ _ _ ⟨rfl,rfl,xs,hk,h4⟩
   ·rintro v rest r s' ⟨hr,rfl,ds,hds,hall⟩
    cases hall with
    | cons ra rr=>
     rw[dG,dm] at hds
     refine abZ (ih _ _ _ hds.1 ra ?_)
     simp only[Bool.not_true,oK,if_false]
     exact ab4 ⟨rfl,rfl,_,hds.2,rr⟩
   ·rintro⟨r1,r2⟩ s' ⟨hr,rfl,_⟩
    simp only at hr
    subst hr
    exact ab4 h
  | none=>obtain⟨as,r⟩:=r;cases r;rw[eqIsQuiet_byValue _ rfl];exact ab4 h
  | int i=>obtain⟨as,r⟩:=r;cases r;rw[eqIsQuiet_byValue _ rfl];exact ab4 h
  | str x=>obtain⟨as,r⟩:=r;cases r;rw[eqIsQuiet_byValue _ rfl];exact ab4 h
  | _=>simp[kd] at hk
end
def iK(prog:abJ)(w:abM):HeapKind prog w KD where
 is:=λh k a=>Rd h (.ref a) k.1
 hash:=λk=>kh w 8 k.1
 draws:=λk=>PR 8 k.1
 room:=λA=>A.units+8 < cLine
 inj:=λ{h a x y} hx hy=>by
  obtain⟨as,hx⟩:=hx
  obtain⟨bs,hy⟩:=hy
  exact uo (SeqAt.Reads.unique _ _ _ _ _ (yi 8 _ x.2.1).1 hx hy)
 keeps:=λ{h h' k a d o es ep} x ho hd hs=>Hh ho hd hs 8 _ _ k.2.1 x
 pyHash:=λ{A E s k a Q} hu hk h=>Ln 8 _ _ A s Q k.2.1 hk hu h
 eqBool:=λ{A E s x y a b Q} hu hx hy h=>by
  obtain⟨as,hx⟩:=hx
  obtain⟨bs,hy⟩:=hy
  obtain⟨l1,d1⟩:=yi 8 _ x.2.1
  obtain⟨l2,d2⟩:=yi 8 _ y.2.1
  refine SeqAt.eqBoolOverData prog w A E s _ _ _ _ as bs Q hx hy l1 l2 ?_ ?_
  ·have:min x.1.depth y.1.depth<=8:=by omega
   have hu':A.units+8 < cLine:=hu
   omega
  ·rw[KD.eqv];exact h
 quiet:=λ{A E s k a Q} hk h=>Hi 8 _ _ Q k.2.1 hk h
end NK
namespace L2
open PySem PySem.Spec PyProof.Rows
inductive V where
 | non | bl (b:Bool) | int (i:Int) | str (x:Str) | Lo (b:Array UInt8) | i8 (b:UInt64) | ref (a:abF) | ty (n:String)
 deriving DecidableEq
def RelV:V->abL->Prop
 | .non,u=>u=cH
 | .bl b,u=>u=Value.bool b
 | .int i,u=>∃t,u=ie i t
 | .str x,u=>∃t,u=mK x t
 | .Lo b,u=>∃t,u=Value.bytes b t
 | .i8 b,u=>∃t,u=Value.float b t
 | .ref a,u=>u=aO a
 | .ty n,u=>u=pG n
abbrev Vals:List V->List abL->Prop:=Paired RelV
theorem Vals.length{xs:List V}{us:List abL}(r:Vals xs us):xs.length=us.length:=Paired.length r
theorem Vals.get:∀{xs:List V}{us:List abL}{i:Nat}{x:V},Vals xs us->xs[i]? =some x->∃u,us[i]? =some u/\RelV x u
 | _,_,_,_,.nil,e=>by simp at e
 | _,_,0,_,.cons r _,e=>by simp at e;subst e;exact⟨_,rfl,r⟩
 | _,_,i+1,x,.cons _ t,e=>by
  obtain⟨u,h1,h2⟩:=Vals.get (i:=i) (x:=x) t (by simpa using e)
  exact⟨u,by simpa using h1,h2⟩
theorem Vals.set{x:V}{u:abL}(r:RelV x u):∀{xs:List V}{us:List abL}(i:Nat),Vals xs us->Vals (xs.set i x) (us.set i u)
 | _,_,_,.nil=> .nil
 | _,_,0,.cons _ t=> .cons r t
 | _,_,i+1,.cons q t=> .cons q (Vals.set r i t)
theorem Vals.append:∀{xs ys:List V}{us ws:List abL},Vals xs us->Vals ys ws->Vals (xs++ys) (us++ws)
 | _,_,_,_,.nil,s=>s
 | _,_,_,_,.cons r t,s=> .cons r (Vals.append t s)
theorem Vals.take:∀{xs:List V}{us:List abL}(n:Nat),Vals xs us->Vals (xs.take n) (us.take n)
 | _,_,0,_=> .nil
 | _,_,_+1,.nil=> .nil
 | _,_,n+1,.cons r t=> .cons r (Vals.take n t)
theorem Vals.drop:∀{xs:List V}{us:List abL}(n:Nat),Vals xs us->Vals (xs.drop n) (us.drop n)
 | _,_,0,r=>r
 | _,_,_+1,.nil=> .nil
 | _,_,n+1,.cons _ t=>Vals.drop n t
def jZ:Option V->Option abL->Prop
 | some v,some u=>RelV v u
 | none,none=>True
 | _,_=>False
def KV{κ:Type}:List (κ×V)->List (κ×abL)->Prop:=Paired λ(p:κ×V)(q:κ×abL)=>p.1=q.1/\RelV p.2 q.2
def kV:Key->V
 | .inl i=> .int i
 | .inr x=> .str x
 | .non=> .non
inductive HO where
 | dN (kvs:List (NK.KD×V))
  | lst (xs:List V)
  | tup (xs:List V)
  | dK (kvs:List (Key×V)) | dT (kvs:List (List Key×V))
  | set (S:Int->Bool) (n:Nat)
  | ins (C dx:abF) (fs:List (Str×V))
  | own (x:abF)
  | xd (fs:List (Str×V))
  | met (f x:abF)
  | S6 (lo hi:Int)
  | nO (o:Obj) (u:HO)
  | eT (ps:Array abL)
  | ext (φ:Heap->Prop)
abbrev Hp:=abF->Option HO
def upd(H:Hp)(a:abF)(o:HO):Hp:=λb=>if b=a then some o else H b
theorem bC{H:Hp}{a:abF}{o:HO}:upd H a o a=some o:=by unfold upd;rw[if_pos rfl]
theorem a9{H:Hp}{a b:abF}{o:HO}(h:b≠a):upd H a o b=H b:=by unfold upd;rw[if_neg h]
theorem Ka{H:Hp}{a b:abF}{o u:HO}(h:H a=some o)(h':H b=some u)(d:o≠u):a≠b:=by
 intro e;subst e;rw[h] at h';exact d (Option.some.inj h')
theorem dg{H:Hp}{a b:abF}{o:HO}(h:H a=some o)(h':H b=none):a≠b:=by
 intro e;subst e;rw[h] at h';cases h'
def uq(h:Heap)(a:abF):Prop:=∀o,h.get? a=some o->o.dict=none
theorem uq.new(h:Heap)(us:Array abL):uq (h.push { cls:=.type "tuple",data:=.seq us }) h.objs.size:=λo q=>by
 rw[cJ _ rfl] at q
 cases q
 rfl
def KA(H:Hp):Nat->V->PyData->Prop
 | _,.non,.none=>True
 | _,.int i,.int j=>i=j
 | _,.str x,.str y=>x=y
 | n+1,.ref a,.tuple ds=>∃vs,H a=some (.tup vs)/\Paired (KA H n) vs ds
 | _,_,_=>False
section
variable (P:abJ) (w:abM)
def dn(H:Hp)(h:Heap)(a:abF):HO->Prop
 | .lst xs=>xs.length<=abW/\∃(its:List abL)(n:Nat),Vals xs its/\h.get? a=some { cls:=.type "list",data:=.seq its.toArray n }
 | .tup xs=>xs.length<=abW/\∃its:List abL,Vals xs its/\IsTup h a its.toArray/\uq h a
 | .dN kvs=>kvs.length<=abW/\(a == sysModules)=false/\∃xs:List (NK.KD×abF×abL),
   Paired (λ(p:NK.KD×V)(q:NK.KD×abF×abL)=>p.1=q.1/\KA H 8 (.ref q.2.1) p.1.1/\RelV p.2 q.2.2) kvs xs/\
   ∃o es ep,h.get? a=some o/\o.ExactDict/\o.data= .dict es ep/\es.toList=xs.map (entryOfKey (NK.iK P w))/\(xs.map (·.1)).Nodup
 | .dK kvs=>kvs.length<=abW/\(a == sysModules)=false/\∃vs,KV kvs vs/\h.DictOf (b4 P w) a vs
 | .dT kvs=>kvs.length<=abW/\(a == sysModules)=false/\∃xs:List (List Key×abF×abL),
   Paired (λ(p:List Key×V)(q:List Key×abF×abL)=>p.1=q.1/\H q.2.1=some (.tup (p.1.map kV))/\RelV p.2 q.2.2) kvs xs/\
   ∃o es ep,h.get? a=some o/\o.ExactDict/\o.data= .dict es ep/\es.toList=xs.map (entryOfKey (tupleKind (b4 P w)))/\(xs.map (·.1)).Nodup
 | .set S n=>h.SetOf (intKind P w) a S n
 | .ins C dx fs=>H dx=some (.own a)/\fs.length<=1000/\dx≠a/\h.get? a=some (PySem.W.instObj C dx)/\
   ∃mA,h.Ns1 dx mA/\(∀f,jZ (fs.lookup f) (mA f))/\PySem.Within mA (fs.map (·.1))
 | .own _=>∃o,h.get? a=some o
 | .xd fs=>∃mA,h.Ns1 a mA/\∀f,jZ (fs.lookup f) (mA f)
 | .S6 lo hi=>∃t u v,h.get? a=some { cls:=.type "range",data:=.fields #[.int lo t,.int hi u,.int 1 v] }
 | .nO o u=>h.get? a=some o/\dn H h a u
 | .eT ps=>h.get? a=some { cls:=.none,data:=.fields ps }
 | .met f x=>h.get? a=some (PySem.W.methodObj (.ref f) (.ref x))
 | .ext φ=>φ h/\(∃o,h.get? a=some o)/\∀h1 h2:Heap,φ h1->(∀o,h1.get? a=some o->h2.get? a=some o)->φ h2
def jX(H:Hp)(h:Heap):Prop:=∀a o,H a=some o->dn P w H h a o
end
section
variable {P:abJ} {w:abM} {H H':Hp} {h h':Heap} {a:abF} {o:HO}
theorem KA.rd(x:jX P w H h):∀(n:Nat)(v:V)(d:PyData)(u:abL),KA H n v d->RelV v u->NK.Rd h u d:=by
  intro n
  induction n with
  | zero=>
    intro v d u x r
    cases v<;>cases d<;>first | exact ae x | skip
    · cases r;exact⟨_,.none⟩
    · obtain⟨t,rfl⟩:=r;cases (show _=_ from x);exact⟨_,.int _ _⟩
    · obtain⟨t,rfl⟩:=r;cases (show _=_ from x);exact⟨_,.str _ _⟩
  | succ n ih=>
    intro v d u x' r
    cases v with
    | ref a=>
      cases d with
      | tuple ds=>
        obtain⟨vs,e,p⟩:=x'
        obtain⟨_,its,rv,⟨o,ho,hc,k,hd⟩,_⟩:=x a _ e
        cases (show u=aO a from r)
        have key:∀(vs:List V)(its:List abL)(ds:List PyData),Vals vs its->Paired (KA H n) vs ds->NK.zW h its ds:=by
          intro vs its ds rv p
          induction p generalizing its with
          | nil=>cases rv;exact .nil
          | cons a _ ihr=>
            cases rv with
            | cons r1 r2=>exact .cons (ih _ _ _ a r1) (ihr _ r2)
        obtain⟨as,ra⟩:=(key _ _ _ rv p).all
        exact⟨_,.tuple ho hc hd (by simpa using ra)⟩
      | _=>exact ae x'
    | non => cases d <;> first | exact False.elim x' | skip
             cases r;exact⟨_,.none⟩
    | int i => cases d <;> first | exact False.elim x' | skip
               obtain⟨t,rfl⟩:=r;cases (show _=_ from x');exact⟨_,.int _ _⟩
    | str z => cases d <;> first | exact False.elim x' | skip
               obtain⟨t,rfl⟩:=r;cases (show _=_ from x');exact⟨_,.str _ _⟩
    | _=>cases d<;>exact ae x'
theorem dn.lt(x:dn P w H h a o):a < h.objs.size:=by
 cases o with
 | lst xs=>obtain⟨_,_,_,_,e⟩:=x;exact bc e
 | tup xs=>obtain⟨_,_,_,p,_⟩:=x;exact p.lt
 | dK kvs=>obtain⟨_,_,_,_,o,_,_,e,_⟩:=x;exact bc e
 | dT kvs=>obtain⟨_,_,_,_,o,_,_,e,_⟩:=x;exact bc e
 | dN kvs=>obtain⟨_,_,_,_,o,_,_,e,_⟩:=x;exact bc e
 | set S n=>obtain⟨o,_,_,_,e,_⟩:=x;exact bc e
 | ins C dx fs=>obtain⟨_,_,_,e,_⟩:=x;exact bc e
 | own y=>obtain⟨_,e⟩:=x;exact bc e
 | xd fs=>obtain⟨_,⟨_,_,_,e,_⟩,_⟩:=x;exact bc e
 | S6 lo hi=>obtain⟨_,_,_,e⟩:=x;exact bc e
 | nO ob u=>obtain⟨e,_⟩:=x;exact bc e
 | eT ps=>exact bc (show h.get? a=some _ from x)
 | met f y=>exact bc (show h.get? a=some _ from x)
 | ext φ=>obtain⟨_,⟨_,e⟩,_⟩:=x;exact bc e
theorem Paired.Br{α β:Type}{F G:α->β->Prop}:∀{l₁:List α}{l₂:List β},Paired F l₁ l₂->(∀a b,F a b->G a b)->Paired G l₁ l₂
 | _,_,.nil,_=> .nil
 | _,_,.cons r t,f=> .cons (f _ _ r) (Paired.Br t f)
theorem KA.stay(ht:∀b xs,H b=some (.tup xs)->H' b=some (.tup xs)):∀(n:Nat)(v:V)(d:PyData),KA H n v d->KA H' n v d:=by
 intro n
 induction n with
 | zero=>intro v d x;cases v<;>cases d<;>first | exact x | exact ae x
 | succ n ih=>
  intro v d x
  cases v with
  | ref a=>
   cases d with
   | tuple ds=>
    obtain⟨vs,e,p⟩:=x
    exact⟨vs,ht _ _ e,Paired.Br p λv d=>ih v d⟩
   | _=>exact ae x
  | _=>cases d<;>first | exact x | exact ae x
theorem dn.stay(x:dn P w H h a o)(k:∀b u,(b=a\/H b=some (.own a))->h.get? b=some u->h'.get? b=some u)
  (ho:∀b,H b=some (.own a)->H' b=some (.own a))(ht:∀b xs,H b=some (.tup xs)->H' b=some (.tup xs)):dn P w H' h' a o:=by
 induction o with
 | lst xs=>obtain⟨z,its,n,r,e⟩:=x;exact⟨z,its,n,r,k _ _ (.inl rfl) e⟩
 | tup xs=>obtain⟨z,us,r,⟨ob,e,c⟩,nd⟩:=x;exact⟨z,us,r,⟨ob,k _ _ (.inl rfl) e,c⟩,λo q=>by rw[k _ _ (.inl rfl) e] at q;cases q;exact nd _ e⟩
 | dK kvs=>obtain⟨z,y,vs,r,ob,es,ep,e,c⟩:=x;exact⟨z,y,vs,r,ob,es,ep,k _ _ (.inl rfl) e,c⟩
 | dT kvs=>
  obtain⟨z,y,xs,r,ob,es,ep,e,c⟩:=x
  exact⟨z,y,xs,Paired.Br r λp q z=>⟨z.1,ht _ _ z.2.1,z.2.2⟩,ob,es,ep,k _ _ (.inl rfl) e,c⟩
 | dN kvs=>
  obtain⟨z,y,xs,r,ob,es,ep,e,c⟩:=x
  exact⟨z,y,xs,Paired.Br r λp q z=>⟨z.1,KA.stay ht _ _ _ z.2.1,z.2.2⟩,ob,es,ep,k _ _ (.inl rfl) e,c⟩
 | set S n=>obtain⟨ob,es,ep,t,e,c⟩:=x;exact⟨ob,es,ep,t,k _ _ (.inl rfl) e,c⟩
 | ins C dx fs=>
  obtain⟨d,z,ne,e,mA,⟨od,es,ep,e2,c⟩,r⟩:=x
  exact⟨ho _ d,z,ne,k _ _ (.inl rfl) e,mA,⟨od,es,ep,k _ _ (.inr d) e2,c⟩,r⟩
 | own y=>obtain⟨ob,e⟩:=x;exact⟨ob,k _ _ (.inl rfl) e⟩
 | xd fs=>obtain⟨mA,⟨od,es,ep,e,c⟩,r⟩:=x;exact⟨mA,⟨od,es,ep,k _ _ (.inl rfl) e,c⟩,r⟩
 | S6 lo hi=>obtain⟨t,u,v,e⟩:=x;exact⟨t,u,v,k _ _ (.inl rfl) e⟩
 | nO ob u ih=>obtain⟨e,q⟩:=x;exact⟨k _ _ (.inl rfl) e,ih q⟩
 | eT ps=>
  have e:h.get? a=some { cls:=.none,data:=.fields ps }:=x
  show h'.get? a=some { cls:=.none,data:=.fields ps }
  exact k a _ (.inl rfl) e
 | met f y=>
  have e:h.get? a=some (PySem.W.methodObj (.ref f) (.ref y)):=x
  show h'.get? a=some (PySem.W.methodObj (.ref f) (.ref y))
  exact k a _ (.inl rfl) e
 | ext φ=>obtain⟨p,⟨o,e⟩,st⟩:=x;exact⟨st _ _ p λo q=>k _ _ (.inl rfl) q,⟨o,k _ _ (.inl rfl) e⟩,st⟩
theorem jX.lt(x:jX P w H h)(e:H a=some o):a < h.objs.size:=(x a o e).lt
theorem jX.fresh(x:jX P w H h)(e:h.objs.size<=a):H a=none:=by
 cases q:H a with
 | none=>rfl
 | some u=>exact absurd (br (x.lt q) e) (gz _)
theorem jX.kept(x:jX P w H h)(k:∀b u,h.get? b=some u->h'.get? b=some u):jX P w H h':=λa o e=>
 (x a o e).stay (λb u _ q=>k b u q) (λ_ q=>q) λ_ _ q=>q
theorem jX.laid(x:jX P w H h)(k:∀b u,h.get? b=some u->h'.get? b=some u)(hp:h.objs.size<=a)(new:dn P w (upd H a o) h' a o):jX P w (upd H a o) h':=λb u e=>by
 have hn:=x.fresh hp
 by_cases hb:b=a
 ·subst hb;rw[bC] at e;cases e;exact new
 ·rw[a9 hb] at e
  exact(x b u e).stay (λc v _ q=>k c v q) (λc q=>by rw[a9 (dg q hn)];exact q) λc xs q=>by rw[a9 (dg q hn)];exact q
end
def Rd(H:Hp)(a:abF)(u:HO):Prop:=H a=some u\/∃o,H a=some (.nO o u)
theorem Rd.ok{P:abJ}{w:abM}{H:Hp}{h:Heap}{a:abF}{u:HO}(r:Rd H a u)(x:jX P w H h):dn P w H h a u:=by
 rcases r with r | ⟨o,r⟩
 ·exact x a u r
 ·obtain⟨_,q⟩:=x a _ r
  exact q
def PU:Option HO->Prop
 | some (.lst _)=>True
 | some (.dK _)=>True
 | some (.dT _)=>True
 | some (.dN _)=>True
 | some (.set _ _)=>True
 | some (.ins _ _ _)=>True
 | some (.ext _)=>True
 | _=>False
section
variable {P:abJ} {w:abM} {H:Hp} {h h':Heap} {x e:abF} {o':HO}
theorem jX.write(ok:jX P w H h)(mu:PU (H x))(he:e=x\/H e=some (.own x))(k:∀b u,b≠e->h.get? b=some u->h'.get? b=some u)(Pl:∃u,h'.get? e=some u)
  (new:dn P w (upd H x o') h' x o'):jX P w (upd H x o') h':=λb u q=>by
 have PV:∀c y,H c=some (.own y)->c≠x:=λc y r z=>by subst z;rw[r] at mu;exact mu
 have Uw:∀c xs,H c=some (.tup xs)->c≠x:=λc xs r z=>by subst z;rw[r] at mu;exact mu
 by_cases hb:b=x
 ·subst hb;rw[bC] at q;cases q;exact new
 ·rw[a9 hb] at q
  by_cases Lq:b=e
  ·have q':H b=some (.own x):=by
    rcases he with z | z
    ·exact absurd (Lq.trans z) hb
    ·rw[Lq];exact z
   rw[q] at q';cases q'
   obtain⟨v,hv⟩:=Pl
   exact⟨v,by rw[Lq];exact hv⟩
  ·refine(ok b u q).stay (λc v hc r=>k c v ?_ r) (λc r=>by rw[a9 (PV c b r)];exact r) λc xs r=>by rw[a9 (Uw c xs r)];exact r
   rcases hc with rfl | hc
   ·exact Lq
   ·rintro rfl
    rcases he with z | z
    ·exact PV c b hc z
    ·rw[hc] at z;cases z;exact hb rfl
end
structure Un(fs ex:List abF)(H H':Hp)(h h':Heap):Prop where
 keep:∀b o,h.get? b=some o->H b=none->b∉fs->b∉ex->h'.get? b=some o
 slot:∀b o,h.get? b=some o->H b=none->b∈fs->b∉ex->∃sl,h'.get? b=some { o with slots:=sl }
 free:∀b o,h.get? b=some o->H b=none->b∉ex->H' b=none
 there:∀b o,h.get? b=some o->b∉ex->∃o',h'.get? b=some o'
 tups:∀b xs,H b=some (.tup xs)->H' b=some (.tup xs)
 pd:∀b o u,H b=some (.nO o u)->H' b=some (.nO o u)
 sj:∀b ps,H b=some (.eT ps)->∃more,H' b=some (.eT (ps++more))
section
variable {fs fs' ex ex':List abF} {H H1 H2:Hp} {h h1 h2 h':Heap} {a x e:abF} {o:HO}
theorem Un.any(u:Un fs ex H H1 h h1){b:abF}{ob:Obj}(q:h.get? b=some ob)(n:H b=none)(hx:b∉ex):∃sl,h1.get? b=some { ob with slots:=sl }:=by
 by_cases hb:b∈fs
 ·exact u.slot b ob q n hb hx
 ·exact⟨ob.slots,u.keep b ob q n hb hx⟩
theorem Un.kept(k:∀b u,h.get? b=some u->h'.get? b=some u):Un fs ex H H h h' :=
 ⟨λb ob q _ _ _=>k b ob q,λb ob q _ _ _=>⟨ob.slots,k b ob q⟩,λ_ _ _ n _=>n,λb ob q _=>⟨ob,k b ob q⟩,λ_ _ q=>q,λ_ _ _ q=>q,λ_ ps q=>⟨#[],by rw[q];simp⟩⟩
theorem Un.refl:Un fs ex H H h h:=Un.kept λ_ _ q=>q
theorem Un.laid(k:∀b u,h.get? b=some u->h'.get? b=some u)(hp:h.objs.size<=a)(hn:H a=none):Un fs ex H (upd H a o) h h' where
 keep:=λb u q _ _ _=>k b u q
 slot:=λb u q _ _ _=>⟨u.slots,k b u q⟩
 free:=λb u q n _=>by rw[a9 (bN (br (bc q) hp))];exact n
 there:=λb u q _=>⟨u,k b u q⟩
 tups:=λb xs q=>by rw[a9 (dg q hn)];exact q
 pd:=λb u xs q=>by rw[a9 (dg q hn)];exact q
 sj:=λb ps q=>⟨#[],by rw[a9 (dg q hn),q];simp⟩
theorem Un.write(mu:PU (H x))(he:e=x\/H e=some (.own x))(k:∀b u,b≠e->h.get? b=some u->h'.get? b=some u)(Pl:∃u,h'.get? e=some u):Un fs ex H (upd H x o) h h':=by
 have hx:∀b,H b=none->b≠x:=λb n z=>by subst z;rw[n] at mu;exact mu
 have hb:∀b,H b=none->b≠e:=λb n z=>by
  subst z
  rcases he with r | r
  ·exact hx b n r
  ·rw[n] at r;cases r
 have hm:∀b u,H b=some u->¬PU (some u)->b≠x:=λb u q nm z=>by subst z;rw[q] at mu;exact nm mu
 refine⟨λb u q n _ _=>k b u (hb b n) q,λb u q n _ _=>⟨u.slots,k b u (hb b n) q⟩,λb u q n _=>by rw[a9 (hx b n)];exact n,λb u q _=>?_,
  λb xs q=>by rw[a9 (hm b _ q λz=>z)];exact q,λb u xs q=>by rw[a9 (hm b _ q λz=>z)];exact q,λb ps q=>⟨#[],by rw[a9 (hm b _ q λz=>z),q];simp⟩⟩
 by_cases Lq:b=e
 ·subst Lq;exact Pl
 ·exact⟨u,k b u Lq q⟩
end
def S7(h:Heap)(H:Hp):List abF:=(dh h.objs.size).filter λa=>(H a).isSome
def ur(h:Heap)(H:Hp):Heap:=PySem.W.hideAll h (S7 h H)
theorem Bs(h:Heap)(H:Hp):(ur h H).objs.size=h.objs.size:=PySem.W.hideAll_size _ _
theorem C3{h:Heap}{H:Hp}{b:abF}{o:Obj}(e:h.get? b=some o)(n:H b=none):(ur h H).get? b=some o :=
 PySem.W.hideAll_get _ e λhm=>by
  have q:(H b).isSome=true:=(List.mem_filter.mp hm).2
  rw[n] at q;simp at q
theorem Hj{h:Heap}{H:Hp}{b:abF}{o:Obj}(e:(ur h H).get? b=some o):h.get? b=some o/\H b=none:=by
 have e':h.get? b=some o:=PySem.W.of_hideAll (S7 h H) e
 refine⟨e',?_⟩
 cases q:H b with
 | none=>rfl
 | some x=>
  have hm:b∈S7 h H:=List.mem_filter.mpr ⟨List.mem_range.mpr (bc e'),by simp[q]⟩
  have z:(ur h H).get? b=none:=PySem.W.hideAll_none (S7 h H) hm
  rw[z] at e;cases e
def uu(g h:Heap)(L:abF):List (abF×Obj):=(dh h.objs.size).filterMap λa=>if a=L\/(g.get? a).isSome=true then none else(h.get? a).map λo=>(a,o)
theorem oM{g h:Heap}{L a:abF}{o:Obj}(h1:a≠L)(h2:g.get? a=none)(h3:h.get? a=some o):(a,o)∈uu g h L :=
 List.mem_filterMap.mpr ⟨a,List.mem_range.mpr (bc h3),by simp[h1,h2,h3]⟩
theorem qe{g h:Heap}{L:abF}{p:abF×Obj}(hp:p∈uu g h L):p.1≠L/\g.get? p.1=none/\h.get? p.1=some p.2:=by
 obtain⟨b,_,e⟩:=List.mem_filterMap.mp hp
 split at e
 ·cases e
 ·rename_i hn
  cases q:h.get? b with
  | none=>rw[q] at e;simp at e
  | some u=>
   rw[q] at e
   simp only[mL,Option.some.injEq] at e
   subst e
   refine⟨λz=>hn (.inl z),?_,q⟩
   show g.get? b=none
   cases r:g.get? b with
   | none=>rfl
   | some v=>exact(hn (.inr (by simp[r]))).elim
theorem C4{g h:Heap}{L:abF}:News g L h (uu g h L):=λp hp=>let ⟨a,b,c⟩:=qe hp;⟨c,a,b⟩
structure Mod(K:PySem.W.Frag)(mg:Str->Option abL)(base:Heap):Prop where
 Pm:K.In base
 glob:base.Ns abV mg
 blt:∃mb,base.Ns builtinsNs mb/\∀x:Str,x≠"__name__"->mb x=abP x
 nolimit:base.NoLimit
structure Cx where
 prog:abJ
 w:abM
 K:PySem.W.Frag
 mg:Str->Option abL
 base:Heap
 A:abG
 N:List Str
 s₀:abK
 H₀:Hp
 env:Env
 outer:List Env
 stack:List Env
 ex:List abF
 fn:Str->Bool
 calm:Bool
 pn:List (abF×Obj)
 xe:abL->abK->Prop
def frs(l:List Env):List abF:=l.filterMap (·.frame)
abbrev Cx.fs(X:Cx):List abF:=frs X.outer
def Ux(sc:Scope)(x:Str):Prop:=sc.names.lookup x=some .local\/sc.names.lookup x=some .cell\/sc.names.lookup x=some .free
def Loc(sc:Scope)(x:Str):Prop:=sc.names.lookup x=some .local\/sc.names.lookup x=some .cell
def Look(env:Env)(h:Heap)(m:Str->Option abL)(x:Str)(u:abL):Prop :=
 (env.kindOf x=some .local/\m x=some u)\/((env.kindOf x=some .cell\/env.kindOf x=some .free)/\∃c,env.cells.lookup x=some c/\h.IsCell c (some u))
structure Cx.Ok(X:Cx):Prop where
 mod:Mod X.K X.mg X.base
 kind:X.env.scope.kind= .function
 glob:X.env.globals=abV
 blt:X.env.builtins=builtinsNs
 above:X.s₀.heap.objs.size<=X.env.locals
 inj:∀x y c,X.env.cells.lookup x=some c->X.env.cells.lookup y=some c->x=y
 has:∀x,(X.env.kindOf x=some .cell\/X.env.kindOf x=some .free)->∃c,X.env.cells.lookup x=some c
 Uy:∀x c,X.fn x=true->X.env.cells.lookup x=some c->X.s₀.heap.objs.size<=c
 hd:X.calm=true->X.A.handled=none
 frames:X.A.frames=some X.stack
 stk:X.stack=X.outer\/(X.stack=X.env::X.outer/\X.env.frame=some X.env.locals)
 exf:∀b∈X.ex,b≠X.env.locals/\∀x c,X.env.cells.lookup x=some c->c≠b
 bs:∀b o,X.base.get? b=some o->X.s₀.heap.get? b=some o/\X.H₀ b=none
 Lr:X.base.objs.size<=X.s₀.heap.objs.size
 Ls:∀b o,X.base.get? b=some o->b∉X.ex
 PX:∀b∈X.ex,b∉X.fs
 qg:X.s₀.heap.FunFrames X.base X.outer
 Pn:∀b∈X.fs,X.H₀ b=none
structure Inv(X:Cx)(pins:List (abF×Obj))(σ:List (Option V))(H:Hp)(s:abK):Prop where
 ok:X.Ok
 os:s.os=X.s₀.os
 bare:AllBare s.gens
 base:Un X.fs X.ex X.H₀ H X.s₀.heap s.heap
 loc:∃m,s.heap.Ns X.env.locals m/\∀(i:Nat)(x:Str)(v:V),X.N[i]? =some x->σ[i]? =some (some v)->Ux X.env.scope x->∃u,RelV v u/\Look X.env s.heap m x u
 cell:∀x c,X.env.cells.lookup x=some c->∃v,s.heap.IsCell c v
 free:H X.env.locals=none
 oN:∀x c,X.env.cells.lookup x=some c->H c=none
 pin:∀p∈X.pn++pins,s.heap.get? p.1=some p.2/\H p.1=none/\p.1≠X.env.locals/\p.1∉X.fs/\∀v,p.2.data≠.cell v
 hok:jX X.prog X.w H s.heap
 len:σ.length=X.N.length
section
variable {X:Cx} {pins:List (abF×Obj)} {σ:List (Option V)} {H H':Hp} {s:abK} {h':Heap}
theorem Cx.Ok.Uz(ok:X.Ok){b:abF}{o:Obj}(e:X.base.get? b=some o):b∉X.fs:=λhb=>by
 have:=(ok.qg.mem hb).1
 rw[e] at this;cases this
theorem Inv.bs(I:Inv X pins σ H s):∀b o,X.base.get? b=some o->s.heap.get? b=some o/\H b=none:=λb o e=>
 ⟨I.base.keep b o (I.ok.bs b o e).1 (I.ok.bs b o e).2 (I.ok.Uz e) (I.ok.Ls b o e),I.base.free b o (I.ok.bs b o e).1 (I.ok.bs b o e).2 (I.ok.Ls b o e)⟩
theorem Inv.bk(I:Inv X pins σ H s):∀b o,X.base.get? b=some o->s.heap.get? b=some o:=λb o e=>(I.bs b o e).1
theorem Inv.mod(I:Inv X pins σ H s):Mod X.K X.mg X.base:=I.ok.mod
theorem Inv.sY(I:Inv X pins σ H s):X.K.In s.heap:=I.ok.mod.Pm.keeps I.bk
theorem Inv.lt(I:Inv X pins σ H s):X.env.locals < s.heap.objs.size:=let ⟨_,hn,_⟩:=I.loc;hn.lt
theorem Inv.sz(I:Inv X pins σ H s):X.s₀.heap.objs.size<=s.heap.objs.size:=bf I.ok.above (zY I.lt)
theorem Inv.UA(I:Inv X pins σ H s){a:abF}(h:s.heap.objs.size<=a):a∉X.fs:=λhb=>by
 obtain⟨_,o,ho,_⟩:=I.ok.qg.mem hb
 exact absurd (br (bc ho) (bf I.sz h)) (gz _)
theorem Inv.Lu(I:Inv X pins σ H s):∀x c,X.env.cells.lookup x=some c->c≠X.env.locals:=λx c e z=>by
 obtain⟨v,o,ho,hd⟩:=I.cell x c e
 obtain⟨m,⟨o',es,ep,ho',hd',_⟩,_⟩:=I.loc
 rw[z,ho'] at ho;cases ho;rw[hd'] at hd;cases hd
theorem Inv.qg(I:Inv X pins σ H s):s.heap.FunFrames X.base X.outer:=by
 have all:∀(l:List Env),(∀b∈frs l,b∈X.fs)->X.s₀.heap.FunFrames X.base l->s.heap.FunFrames X.base l:=by
  intro l
  induction l with
  | nil=>intro _ _;trivial
  | cons env r ih=>
   intro hs hl
   obtain⟨hk,⟨L,o,hf,hn,ho,hd⟩,hr⟩:=hl
   have hL:L∈X.fs:=hs L (by unfold frs;rw[uv,hf];exact bS)
   obtain⟨sl,e⟩:=I.base.slot L o ho (I.ok.Pn L hL) hL λz=>I.ok.PX L z hL
   exact⟨hk,⟨L,_,hf,hn,e,hd⟩,ih (λb hb=>hs b (by unfold frs;rw[uv,hf];exact bq _ hb)) hr⟩
 exact all X.outer (λ_ hb=>hb) I.ok.qg
theorem Inv.stack(I:Inv X pins σ H s):s.heap.FunFrames X.base X.stack:=by
 rcases I.ok.stk with e | ⟨e,hf⟩
 ·rw[e];exact I.qg
 ·rw[e]
  obtain⟨m,hn,_⟩:=I.loc
  refine .cons (by rw[I.ok.kind];decide) hf hn ?_ I.qg
  exact Heap.get?_none_of_le (bf I.ok.Lr I.ok.above)
theorem Inv.uw(I:Inv X pins σ H s):∀b∈frs X.stack,b∈X.env.locals::X.fs:=λb hb=>by
 rcases I.ok.stk with e | ⟨e,hf⟩
 ·rw[e] at hb;exact bq _ hb
 ·rw[e] at hb
  unfold frs at hb
  rw[uv,hf] at hb
  exact hb
theorem Inv.ux(I:Inv X pins σ H s):∀b∈frs X.stack,H b=none:=λb hb=>by
 rcases List.mem_cons.mp (I.uw b hb) with e | hb
 ·rw[e];exact I.free
 ·obtain⟨_,o,ho,_⟩:=I.ok.qg.mem hb
  exact I.base.free b o ho (I.ok.Pn b hb) λz=>I.ok.PX b z hb
theorem Inv.step{g':Array GenState}{t':Nat}{d':Drawn}{ch:List abF}(I:Inv X pins σ H s)
  (hch:∀b∈ch,(b∈X.ex\/X.s₀.heap.objs.size<=b)/\b≠X.env.locals/\(∀x c,X.env.cells.lookup x=some c->c≠b)/\∀p∈X.pn++pins,p.1≠b)
  (keep:∀b o,b≠X.env.locals->b∉X.fs->b∉ch->s.heap.get? b=some o->H b=none->h'.get? b=some o)
  (slot:∀b o,b≠X.env.locals->b∈X.fs->b∉ch->s.heap.get? b=some o->H b=none->∃sl,h'.get? b=some { o with slots:=sl })(free:∀b o,b∉ch->s.heap.get? b=some o->H b=none->H' b=none)
  (there:∀b o,b∉ch->s.heap.get? b=some o->∃o',h'.get? b=some o')
  (tups:∀b xs,H b=some (.tup xs)->H' b=some (.tup xs))(pd:∀b o u,H b=some (.nO o u)->H' b=some (.nO o u))(sj:∀b ps,H b=some (.eT ps)->∃more,H' b=some (.eT (ps++more)))
  (ns:∀m,s.heap.Ns X.env.locals m->h'.Ns X.env.locals m)(hok:jX X.prog X.w H' h')(hg:AllBare g') :
  Inv X pins σ H' { s with heap:=h',gens:=g',drawn:=d',toks:=t' }:=by
 have PY:∀b o,X.s₀.heap.get? b=some o->b≠X.env.locals:=λb o e=>bN (br (bc e) I.ok.above)
 have S8:∀b o,X.s₀.heap.get? b=some o->b∉X.ex->b∉ch:=λb o e hx hb=>by
  rcases(hch b hb).1 with z | z
  ·exact hx z
  ·exact absurd (br (bc e) z) (gz _)
 have cellK:∀x c,X.env.cells.lookup x=some c->∀v,s.heap.IsCell c v->h'.IsCell c v:=λx c e v ⟨o,ho,hd⟩=>by
  have PZ:c∉ch:=λz=>(hch c z).2.2.1 x c e rfl
  by_cases hc:c∈X.fs
  ·obtain⟨sl,q⟩:=slot c o (I.Lu x c e) hc PZ ho (I.oN x c e)
   exact⟨_,q,hd⟩
  ·exact⟨o,keep c o (I.Lu x c e) hc PZ ho (I.oN x c e),hd⟩
 refine⟨I.ok,I.os,hg,⟨λb o e n hb hx=>?_,λb o e n hb hx=>?_,λb o e n hx=>?_,λb o e hx=>?_,λb xs e=>tups b xs (I.base.tups b xs e),λb o xs e=>pd b o xs (I.base.pd b o xs e),λb ps e=>?_⟩,?_,λx c e=>?_,?_,λx c e=>?_,λp hp=>?_,hok,I.len⟩
 ·exact keep b o (PY b o e) hb (S8 b o e hx) (I.base.keep b o e n hb hx) (I.base.free b o e n hx)
 ·obtain⟨sl,e1⟩:=I.base.slot b o e n hb hx
  obtain⟨YZ,e2⟩:=slot b _ (PY b o e) hb (S8 b o e hx) e1 (I.base.free b o e n hx)
  exact⟨YZ,e2⟩
 ·obtain⟨o',e1⟩:=I.base.there b o e hx
  exact free b o' (S8 b o e hx) e1 (I.base.free b o e n hx)
 ·obtain⟨o',e1⟩:=I.base.there b o e hx
  exact there b o' (S8 b o e hx) e1
 ·obtain⟨m1,e1⟩:=I.base.sj b ps e
  obtain⟨m2,e2⟩:=sj b _ e1
  exact⟨m1++m2,by rw[e2,Array.append_assoc]⟩
 ·obtain⟨m,hn,hl⟩:=I.loc
  refine⟨m,ns m hn,λi x v e1 e2 e3=>?_⟩
  obtain⟨u,r,l⟩:=hl i x v e1 e2 e3
  refine⟨u,r,?_⟩
  rcases l with l | ⟨k,c,e,z⟩
  ·exact .inl l
  ·exact .inr ⟨k,c,e,cellK x c e _ z⟩
 ·obtain⟨v,z⟩:=I.cell x c e
  exact⟨v,cellK x c e v z⟩
 ·obtain⟨m,⟨o,_,_,ho,_⟩,_⟩:=I.loc
  exact free _ o (λz=>(hch _ z).2.1 rfl) ho I.free
 ·obtain⟨v,o,ho,hd⟩:=I.cell x c e
  exact free c o (λz=>(hch c z).2.2.1 x c e rfl) ho (I.oN x c e)
 ·obtain⟨e,n,ne,nf,d⟩:=I.pin p hp
  have PZ:p.1∉ch:=λz=>(hch p.1 z).2.2.2 p hp rfl
  exact⟨keep p.1 p.2 ne nf PZ e n,free p.1 p.2 PZ e n,ne,nf,d⟩
theorem Inv.un{t':Nat}(I:Inv X pins σ H s)(u:Un X.fs [] H H' s.heap h')(hok:jX X.prog X.w H' h'):Inv X pins σ H' { s with heap:=h',toks:=t' }:=by
 obtain⟨m,⟨o,es,ep,ho,r⟩,_⟩:=id I.loc
 obtain⟨sl,hL⟩:=u.any ho I.free (by simp)
 exact I.step (g':=s.gens) (d':=s.drawn) (ch:=[]) (λ_ z=>nomatch z) (λb o _ hb _ e n=>u.keep b o e n hb (by simp)) (λb o _ hb _ e n=>u.slot b o e n hb (by simp)) (λb o _ e n=>u.free b o e n (by simp)) (λb o _ e=>u.there b o e (by simp)) u.tups u.pd u.sj (λm' hm=>by
  obtain⟨o',es',S_,ho',r'⟩:=hm
  rw[ho] at ho';cases ho'
  exact⟨_,es',S_,hL,r'⟩) hok I.bare
theorem Inv.call{g':Array GenState}{t':Nat}{d':Drawn}{ch:List abF}(I:Inv X pins σ H s)(u:Un (frs X.stack) ch H H' s.heap h')(hok:jX X.prog X.w H' h')(hg:AllBare g')
  (hch:∀b∈ch,(b∈X.ex\/X.s₀.heap.objs.size<=b)/\b≠X.env.locals/\(∀x c,X.env.cells.lookup x=some c->c≠b)/\∀p∈X.pn++pins,p.1≠b) :
  Inv X pins σ H' { s with heap:=h',gens:=g',drawn:=d',toks:=t' }:=by
 obtain⟨m,⟨o,es,ep,ho,r⟩,_⟩:=id I.loc
 obtain⟨sl,hL⟩:=u.any ho I.free λz=>(hch _ z).2.1 rfl
 exact I.step (ch:=ch) hch (λb o hL hb hc e n=>u.keep b o e n (λz=>(List.mem_cons.mp (I.uw b z)).elim hL hb) hc) (λb o _ _ hc e n=>u.any e n hc) (λb o hc e n=>u.free b o e n hc) (λb o hc e=>u.there b o e hc) u.tups u.pd u.sj (λm' hm=>by
  obtain⟨o',es',S_,ho',r'⟩:=hm
  rw[ho] at ho';cases ho'
  exact⟨_,es',S_,hL,r'⟩) hok hg
theorem Inv.turned{t':Nat}{it:abF}(I:Inv X pins σ H s)(k:∀b o,b≠it->s.heap.get? b=some o->h'.get? b=some o)(hn:H it=none)(hL:it≠X.env.locals)
  (h1:it∈X.ex\/X.s₀.heap.objs.size<=it)(h2:∀x c,X.env.cells.lookup x=some c->c≠it)(h3:∀p∈X.pn++pins,p.1≠it):Inv X pins σ H { s with heap:=h',toks:=t' }:=by
 have Xy:∀b u,H b=some u->b≠it:=λb u e z=>by rw[z,hn] at e;cases e
 refine I.step (g':=s.gens) (d':=s.drawn) (ch:=[it]) (λb hb=>?_) (λb o _ _ hc e _=>k b o (λz=>hc (by simp[z])) e) (λb o _ _ hc e _=>⟨o.slots,k b o (λz=>hc (by simp[z])) e⟩) (λ_ _ _ _ n=>n)
  (λb o hc e=>⟨o,k b o (λz=>hc (by simp[z])) e⟩) (λ_ _ e=>e) (λ_ _ _ e=>e) (λb ps e=>⟨#[],by rw[e];simp⟩) (λm hm=>?_) (λb u e=>?_) I.bare
 ·have e:b=it:=by simpa using hb
  subst e
  exact⟨h1,hL,h2,h3⟩
 ·obtain⟨o,es,ep,ho,r⟩:=hm
  exact⟨o,es,ep,k _ o (bo hL) ho,r⟩
 ·refine(I.hok b u e).stay (λc v hc q=>k c v ?_ q) (λ_ q=>q) λ_ _ q=>q
  rcases hc with z | z
  ·rw[z];exact Xy b u e
  ·exact Xy c _ z
theorem Inv.tok(I:Inv X pins σ H s)(t:Nat):Inv X pins σ H { s with toks:=t }:=I.un (h':=s.heap) (t':=t) Un.refl I.hok
theorem Inv.kept{t':Nat}(I:Inv X pins σ H s)(k:∀b u,s.heap.get? b=some u->h'.get? b=some u):Inv X pins σ H { s with heap:=h',toks:=t' }:=I.un (Un.kept k) (I.hok.kept k)
theorem Inv.laid{a:abF}{o:HO}{t':Nat}(I:Inv X pins σ H s)(k:∀b u,s.heap.get? b=some u->h'.get? b=some u)(hp:s.heap.objs.size<=a)(new:dn X.prog X.w (upd H a o) h' a o) :
  Inv X pins σ (upd H a o) { s with heap:=h',toks:=t' }:=I.un (Un.laid k hp (I.hok.fresh hp)) (I.hok.laid k hp new)
theorem Inv.write{x e:abF}{o:HO}{t':Nat}(I:Inv X pins σ H s)(mu:PU (H x))(he:e=x\/H e=some (.own x))(k:∀b u,b≠e->s.heap.get? b=some u->h'.get? b=some u)(Pl:∃u,h'.get? e=some u)
  (new:dn X.prog X.w (upd H x o) h' x o):Inv X pins σ (upd H x o) { s with heap:=h',toks:=t' }:=I.un (Un.write mu he k Pl) (I.hok.write mu he k Pl new)
theorem Inv.zZ{z_:List (abF×Obj)}(I:Inv X pins σ H s)(h:∀p∈z_,s.heap.get? p.1=some p.2/\H p.1=none/\p.1≠X.env.locals/\p.1∉X.fs/\∀v,p.2.data≠.cell v):Inv X z_ σ H s :=
 ⟨I.ok,I.os,I.bare,I.base,I.loc,I.cell,I.free,I.oN,λp hp=>(List.mem_append.mp hp).elim (λz=>I.pin p (Hk _ z)) (h p),I.hok,I.len⟩
theorem we{N:List Str}(hN:N.Nodup){i j:Nat}{x:Str}(a:N[i]? =some x)(b:N[j]? =some x):i=j:=by
 obtain⟨h1,e1⟩:=List.getElem?_eq_some_iff.mp a
 obtain⟨h2,e2⟩:=List.getElem?_eq_some_iff.mp b
 exact(List.getElem_inj hN).mp (e1.trans e2.symm)
theorem sZ{M:Model}{A:abG}{E:abL->abK->Prop}{i:Nat}{x:Str}{v:V}{u:abL}{Q:Unit->abK->Prop}(I:Inv X pins σ H s)(hN:X.N.Nodup)(hi:X.N[i]? =some x)(hx:Loc X.env.scope x)(r:RelV v u)
  (h:∀s',Inv X pins (σ.set i (some v)) H s'->(∃a,nN a s.heap s'.heap/\(a=X.env.locals\/X.env.cells.lookup x=some a))->Q () s')(hf:X.fn x=true\/X.env.scope.names.lookup x=some .local:=by first | exact .inl rfl | exact .inr rfl | assumption):abY M A (storeName X.env x u) Q E s:=by
 obtain⟨m,hn,hl⟩:=id I.loc
 have hcls:(X.env.scope.kind == .class||(X.env.scope.kind == .module&&X.env.locals != X.env.globals))=false:=by rw[I.ok.kind];rfl
 have P0:i < σ.length:=by rw[I.len];exact(List.getElem?_eq_some_iff.mp hi).1
 have Lu:=I.Lu
 have tracked:∀{a:abF}{h':Heap},(∃o,s.heap.get? a=some o/\H a=none)->nN a s.heap h'->jX X.prog X.w H h':=λ{a h'} ha hs b ob e=>by
  obtain⟨_,_,hfree⟩:=ha
  refine(I.hok b ob e).stay (λc w' hc q=>(hs.2 c ?_).trans q) (λ_ q=>q) λ_ _ q=>q
  rintro rfl
  rcases hc with rfl | hc
  ·rw[hfree] at e;cases e
  ·rw[hfree] at hc;cases hc
 rcases hx with hk | hk
 ·refine wpAny_storeName_local hk hn (λh' hn' hs=>?_) hcls
  obtain⟨oL,_,_,Y0,_⟩:=id hn
  refine h _ ⟨I.ok,I.os,I.bare,⟨λb o e n hb hx=>?_,λb o e n hb hx=>?_,I.base.free,λb o e hx=>?_,I.base.tups,I.base.pd,I.base.sj⟩,⟨_,hn',λj y v' e1 e2 e3=>?_⟩,λy c e=>?_,I.free,I.oN,λp hp=>?_,tracked ⟨oL,Y0,I.free⟩ hs,by simpa using I.len⟩ ⟨_,hs,.inl rfl⟩
  ·exact(hs.2 b (bN (br (bc e) I.ok.above))).trans (I.base.keep b o e n hb hx)
  ·obtain⟨sl,e1⟩:=I.base.slot b o e n hb hx
   exact⟨sl,(hs.2 b (bN (br (bc e) I.ok.above))).trans e1⟩
  ·obtain⟨o',e1⟩:=I.base.there b o e hx
   exact⟨o',(hs.2 b (bN (br (bc e) I.ok.above))).trans e1⟩
  ·by_cases hj:j=i
   ·subst hj
    rw[hi] at e1;cases e1
    rw[qh P0] at e2
    cases e2
    exact⟨u,r,.inl ⟨hk,by simp⟩⟩
   ·rw[cK (bo hj)] at e2
    obtain⟨u',r',q⟩:=hl j y v' e1 e2 e3
    refine⟨u',r',?_⟩
    rcases q with ⟨k,e⟩ | ⟨k,c,e,z⟩
    ·refine .inl ⟨k,?_⟩
     have:y≠x:=λe=>hj (we hN e1 (e ▸ hi))
     simp[this,e]
    ·exact .inr ⟨k,c,e,z.sameBut hs (Lu y c e)⟩
  ·obtain⟨w',z⟩:=I.cell y c e
   exact⟨w',z.sameBut hs (Lu y c e)⟩
  ·obtain⟨e,n,ne,nf,d⟩:=I.pin p hp
   exact⟨(hs.2 p.1 ne).trans e,n,ne,nf,d⟩
 ·have hfn:X.fn x=true:=by
   rcases hf with z | z
   ·exact z
   ·rw[z] at hk;cases hk
  obtain⟨c,hc⟩:=I.ok.has x (.inl hk)
  obtain⟨w',z⟩:=I.cell x c hc
  refine wpAny_storeName_cell I.ok.kind hk hc z (λh' hc' hs=>?_)
  obtain⟨oc,hoc,UB⟩:=id z
  refine h { s with heap:=h' } ⟨I.ok,I.os,I.bare,⟨λb o e n hb hx=>?_,λb o e n hb hx=>?_,I.base.free,λb o e hx=>?_,I.base.tups,I.base.pd,I.base.sj⟩,⟨m,hn.sameBut hs (bo (Lu x c hc)),λj y v' e1 e2 e3=>?_⟩,λy c' e=>?_,I.free,I.oN,λp hp=>?_,tracked ⟨oc,hoc,I.oN x c hc⟩ hs,by simpa using I.len⟩ ⟨c,hs,.inr hc⟩
  ·exact(hs.2 b (bN (br (bc e) (I.ok.Uy x c hfn hc)))).trans (I.base.keep b o e n hb hx)
  ·obtain⟨sl,e1⟩:=I.base.slot b o e n hb hx
   exact⟨sl,(hs.2 b (bN (br (bc e) (I.ok.Uy x c hfn hc)))).trans e1⟩
  ·obtain⟨o',e1⟩:=I.base.there b o e hx
   exact⟨o',(hs.2 b (bN (br (bc e) (I.ok.Uy x c hfn hc)))).trans e1⟩
  ·by_cases hj:j=i
   ·subst hj
    rw[hi] at e1;cases e1
    rw[qh P0] at e2
    cases e2
    exact⟨u,r,.inr ⟨.inl hk,c,hc,hc'⟩⟩
   ·rw[cK (bo hj)] at e2
    obtain⟨u',r',q⟩:=hl j y v' e1 e2 e3
    refine⟨u',r',?_⟩
    rcases q with q | ⟨k,c',e,z'⟩
    ·exact .inl q
    ·refine .inr ⟨k,c',e,z'.sameBut hs ?_⟩
     rintro rfl
     exact hj (we hN e1 (I.ok.inj _ _ _ e hc ▸ hi))
  ·by_cases hcc:c'=c
   ·subst hcc;exact⟨_,hc'⟩
   ·obtain⟨w2,z2⟩:=I.cell y c' e
    exact⟨w2,z2.sameBut hs hcc⟩
  ·obtain⟨e,n,ne,nf,d⟩:=I.pin p hp
   refine⟨(hs.2 p.1 ?_).trans e,n,ne,nf,d⟩
   intro q
   rw[q,hoc] at e
   have q':oc=p.2:=Option.some.inj e
   exact d w' (by rw[<-q'];exact UB)
theorem qi{M:Model}{A:abG}{E:abL->abK->Prop}{i:Nat}{x:Str}{v:V}{u:abL}{Q:Unit->abK->Prop}(I:Inv X pins σ H s)(hN:X.N.Nodup)(hi:X.N[i]? =some x)(hx:Loc X.env.scope x)(r:RelV v u)
  (h:∀s',Inv X pins (σ.set i (some v)) H s'->Q () s')(hf:X.fn x=true\/X.env.scope.names.lookup x=some .local:=by first | exact .inl rfl | exact .inr rfl | assumption):abY M A (storeName X.env x u) Q E s :=
 sZ I hN hi hx r (λs' I' _=>h s' I') hf
theorem Inv.P1{s':abK}{ch:List abF}(I:Inv X pins σ H s)(ho:s'.os=s.os)(u:Un (frs X.stack) ch H H' s.heap s'.heap)(hok:jX X.prog X.w H' s'.heap)(hg:AllBare s'.gens)
  (hch:∀b∈ch,(b∈X.ex\/X.s₀.heap.objs.size<=b)/\b≠X.env.locals/\(∀x c,X.env.cells.lookup x=some c->c≠b)/\∀p∈X.pn++pins,p.1≠b):Inv X pins σ H' s':=by
 obtain⟨h',g',d',t',o'⟩:=s'
 have e:o'=s.os:=ho
 subst e
 exact I.call (g':=g') (t':=t') (d':=d') u hok hg hch
end
abbrev XK:=abL->Option abF->Hp->Prop
abbrev St:=List (Option V)
abbrev VK:=V->Hp->Prop
abbrev TE:=St->Hp->VK->Prop
abbrev TT:=St->Hp->(Bool->Hp->Prop)->Prop
abbrev TA:=St->Hp->(List V->Hp->Prop)->Prop
structure Ends where
 nx:St->Hp->Prop
 rt:VK
 bk:St->Hp->Prop:=λ_ _=>False
 ct:St->Hp->Prop:=λ_ _=>False
abbrev TS:=Ends->St->Hp->Prop
def EP(X:Cx)(pins:List (abF×Obj))(σ:St)(Q:VK)(u:abL)(s':abK):Prop:=∃v H',Inv X pins σ H' s'/\RelV v u/\Q v H'
def TP(X:Cx)(pins:List (abF×Obj))(σ:St)(Q:Bool->Hp->Prop)(b:Bool)(s':abK):Prop:=∃H',Inv X pins σ H' s'/\Q b H'
def AP(X:Cx)(pins:List (abF×Obj))(σ:St)(Q:List V->Hp->Prop)(us:List abL)(s':abK):Prop:=∃vs H',Inv X pins σ H' s'/\Vals vs us/\Q vs H'
def SP(X:Cx)(pins:List (abF×Obj))(D:Ends)(f:Flow)(s':abK):Prop :=
 match f with
 | .next=>∃σ' H',Inv X pins σ' H' s'/\D.nx σ' H'
 | .brk=>∃σ' H',Inv X pins σ' H' s'/\D.bk σ' H'
 | .cont=>∃σ' H',Inv X pins σ' H' s'/\D.ct σ' H'
 | .ret u=>∃v σ' H',Inv X pins σ' H' s'/\RelV v u/\D.rt v H'
def PE(X:Cx)(e:Expr)(t:TE):Prop :=
 ∀(pins:List (abF×Obj))(s:abK)(σ:St)(H:Hp)(Q:VK),Inv X pins σ H s->t σ H Q->abY (model X.prog X.w) X.A (eval e X.env) (EP X pins σ Q) X.xe s
def PT(X:Cx)(e:Expr)(t:TT):Prop :=
 ∀(pins:List (abF×Obj))(s:abK)(σ:St)(H:Hp)(Q:Bool->Hp->Prop),Inv X pins σ H s->t σ H Q->abY (model X.prog X.w) X.A (isTrue e X.env (eval e X.env)) (TP X pins σ Q) X.xe s
def PW(X:Cx)(e:Expr)(t:TT):Prop :=
 ∀(whole:Sem abL)(pins:List (abF×Obj))(s:abK)(σ:St)(H:Hp)(Q:Bool->Hp->Prop),Inv X pins σ H s->t σ H Q->abY (model X.prog X.w) X.A (isTrue e X.env whole) (TP X pins σ Q) X.xe s
def PA(X:Cx)(es:List Expr)(t:TA):Prop :=
 ∀(pos:Pos)(pins:List (abF×Obj))(s:abK)(σ:St)(H:Hp)(Q:List V->Hp->Prop),Inv X pins σ H s->t σ H Q->abY (model X.prog X.w) X.A (spliced (backTo pos (abX es X.env))) (AP X pins σ Q) X.xe s
def PS(X:Cx)(st:Stmt)(t:TS):Prop :=
 ∀(pins:List (abF×Obj))(s:abK)(σ:St)(H:Hp)(D:Ends),Inv X pins σ H s->t D σ H->abY (model X.prog X.w) X.A (exec st X.env) (SP X pins D) X.xe s
def C5(X:Cx)(st:List Stmt)(t:TS):Prop :=
 ∀(pins:List (abF×Obj))(s:abK)(σ:St)(H:Hp)(D:Ends),Inv X pins σ H s->t D σ H->abY (model X.prog X.w) X.A (execs st X.env) (SP X pins D) X.xe s
theorem bD{α:Type}{t:Sem α}{Q Q':α->abK->Prop}{M:Model}{A:abG}{E:abL->abK->Prop}{s:abK}(h:abY M A t Q E s)(hQ:∀a s,Q a s->Q' a s):abY M A t Q' E s:=ab2 h hQ λ_ _ x=>x
section
variable {X:Cx}
def UC(i:Nat):TE:=λσ H Q=>∃v,σ[i]? =some (some v)/\Q v H
def tC(v:V):TE:=λ_ H Q=>Q v H
theorem Lv{i:Nat}{x:Str}{pos:Pos}(hN:X.N[i]? =some x)(hv:Ux X.env.scope x)(hd:(x == ("__debug__":Str))=false:=by decide)(hcd:(x == ("__classdict__":Str))=false:=by decide):PE X (.Name x pos) (UC i):=by
 intro pins s σ H Q I h
 obtain⟨v,e,h⟩:=h
 obtain⟨m,hn,hl⟩:=I.loc
 obtain⟨u,r,l⟩:=hl i x v hN e hv
 have fin:EP X pins σ Q u s:=⟨v,H,I,r,h⟩
 rcases l with ⟨hk,hm⟩ | ⟨hk,c,hc,hcell⟩
 ·exact wpAny_Name (wpAny_loadName_local I.ok.kind hk hn hm fin) hd
 ·rcases hk with hk | hk
  ·exact wpAny_Name (wpAny_loadName_cell I.ok.kind hk hc hcell fin) hd
  ·exact wpAny_Name (wpAny_loadName_free I.ok.kind hk hc hcell fin hcd) hd
theorem Lw{i j pos}:PE X (.Constant (.int i) j pos) (tC (.int i)):=λ_ _ _ H _ I h=>wpAny_Constant_int ⟨.int i,H,I.tok _,⟨_,rfl⟩,h⟩
theorem P2{b j pos}:PE X (.Constant (.bool b) j pos) (tC (.bl b)):=λ_ _ _ H _ I h=>Constant_bool ⟨.bl b,H,I,rfl,h⟩
theorem Lx{j pos}:PE X (.Constant .none j pos) (tC .non):=λ_ _ _ H _ I h=>Constant_none ⟨.non,H,I,rfl,h⟩
theorem Ly{x j pos}:PE X (.Constant (.str x) j pos) (tC (.str x)):=λ_ _ _ H _ I h=>Calls.Constant_str ⟨.str x,H,I.tok _,⟨_,rfl⟩,h⟩
def Gl(X:Cx)(x:Str):Prop:=X.env.kindOf x=some .globalImplicit
theorem uy{E:abL->abK->Prop}{pins:List (abF×Obj)}{s:abK}{σ:St}{H:Hp}{x:Str}{u:abL}{pos:Pos}{Q:abL->abK->Prop}(I:Inv X pins σ H s)(hg:Gl X x)(hm:X.mg x=some u)(h:Q u s)
  (hd:(x == ("__debug__":Str))=false:=by decide):abY (model X.prog X.w) X.A (eval (.Name x pos) X.env) Q E s :=
 Lz I.ok.kind hg (Calls.loadGlobal_global (by rw[I.ok.glob];exact I.mod.glob.keeps I.bk) hm h) hd
theorem nP{E:abL->abK->Prop}{pins:List (abF×Obj)}{s:abK}{σ:St}{H:Hp}{x:Str}{u:abL}{pos:Pos}{Q:abL->abK->Prop}(I:Inv X pins σ H s)(hg:Gl X x)(hm:X.mg x=none)(hv:abP x=some u)(h:Q u s)
  (hn:x≠"__name__":=by decide)(hd:(x == ("__debug__":Str))=false:=by decide):abY (model X.prog X.w) X.A (eval (.Name x pos) X.env) Q E s:=by
 obtain⟨mb,h1,h2⟩:=I.mod.blt
 exact Lz I.ok.kind hg (Calls.loadGlobal_builtin (by rw[I.ok.glob];exact I.mod.glob.keeps I.bk) hm (by rw[I.ok.blt];exact h1.keeps I.bk) ((h2 x hn).trans hv) h) hd
theorem i9{x:Str}{v:V}{u:abL}{pos:Pos}(hg:Gl X x)(hm:X.mg x=some u)(r:RelV v u)(hd:(x == ("__debug__":Str))=false:=by decide):PE X (.Name x pos) (tC v) :=
 λ_ _ _ H _ I h=>uy I hg hm ⟨v,H,I,r,h⟩ hd
theorem Hl{x:Str}{v:V}{u:abL}{pos:Pos}(hg:Gl X x)(hm:X.mg x=none)(hv:abP x=some u)(r:RelV v u)(hn:x≠"__name__":=by decide)(hd:(x == ("__debug__":Str))=false:=by decide):PE X (.Name x pos) (tC v) :=
 λ_ _ _ H _ I h=>nP I hg hm hv ⟨v,H,I,r,h⟩ hn hd
variable {a b:Expr} {ta tb:TE} {pos:Pos}
variable {tA Tf:TT} {rest:List Expr}
def UD(t u:TT):TT:=λσ H Q=>t σ H λc H1=>if c=true then u σ H1 Q else Q false H1
def Y1(t u:TT):TT:=λσ H Q=>t σ H λc H1=>if c=true then Q true H1 else u σ H1 Q
def UE(t:TT):TT:=λσ H Q=>t σ H λc H1=>Q (!c) H1
theorem Hm(ha:PT X a tA):PW X (.BoolOp .And [a] pos) tA:=by
 intro wh pins s σ H Q I h
 refine isTrue_and (bD (ha pins s σ H Q I h) λc s1 e=>?_)
 cases c with
 | true=>exact isTrue_and_nil e
 | false=>exact e
theorem LA(ha:PT X a tA):PW X (.BoolOp .Or [a] pos) tA:=by
 intro wh pins s σ H Q I h
 refine isTrue_or (bD (ha pins s σ H Q I h) λc s1 e=>?_)
 cases c with
 | false=>exact isTrue_or_nil e
 | true=>exact e
theorem LB(ha:PT X a tA)(hb:PW X (.BoolOp .And (b::rest) pos) Tf):PW X (.BoolOp .And (a::b::rest) pos) (UD tA Tf):=by
 intro wh pins s σ H Q I h
 refine isTrue_and (bD (ha pins s σ H _ I h) λc s1 ⟨H1,I1,q1⟩=>?_)
 cases c with
 | true=>exact hb wh pins s1 σ H1 Q I1 q1
 | false=>exact⟨H1,I1,q1⟩
theorem P4(ha:PT X a tA)(hb:PW X (.BoolOp .Or (b::rest) pos) Tf):PW X (.BoolOp .Or (a::b::rest) pos) (Y1 tA Tf):=by
 intro wh pins s σ H Q I h
 refine isTrue_or (bD (ha pins s σ H _ I h) λc s1 ⟨H1,I1,q1⟩=>?_)
 cases c with
 | true=>exact⟨H1,I1,q1⟩
 | false=>exact hb wh pins s1 σ H1 Q I1 q1
theorem LC(ha:PT X a tA):PT X (.UnaryOp .Not a pos) (UE tA):=by
 intro pins s σ H Q I h
 exact isTrue_not (ha pins s σ H (λc H1=>Q (!c) H1) I h)
def P5(ta tb:TE):TE:=λσ H Q=>ta σ H λx H1=>∃c,x= .bl c/\if c=true then tb σ H1 Q else Q (.bl false) H1
theorem LD{op}{t:TE}(h:PE X a t):PE X (.BoolOp op [a] pos) t:=λpins s σ H Q I hw=>BoolOp_one (h pins s σ H Q I hw)
theorem LG(ha:PE X a ta)(hb:PE X (.BoolOp .And (b::rest) pos) tb):PE X (.BoolOp .And (a::b::rest) pos) (P5 ta tb):=by
 intro pins s σ H Q I h
 refine BoolOp_and (bD (ha pins s σ H _ I h) λv s1 ⟨x,H1,I1,r1,q1⟩=>?_)
 obtain⟨c,rfl,q1⟩:=q1
 cases r1
 refine ab5 ?_
 cases c with
 | true=>exact hb pins s1 σ H1 Q I1 q1
 | false=>exact⟨.bl false,H1,I1,rfl,q1⟩
def Y2(t:TT)(ta tb:TE):TE:=λσ H Q=>t σ H λc H1=>if c=true then ta σ H1 Q else tb σ H1 Q
theorem C6{c:Expr}(hc:PT X c tA)(ha:PE X a ta)(hb:PE X b tb):PE X (.IfExp c a b pos) (Y2 tA ta tb):=by
 intro pins s σ H Q I h
 refine wpAny_IfExp (bD (hc pins s σ H _ I h) λd s1 ⟨H1,I1,q1⟩=>?_)
 cases d with
 | true=>exact ha pins s1 σ H1 Q I1 q1
 | false=>exact hb pins s1 σ H1 Q I1 q1
end
def lX(K:PySem.W.Frag)(H:Hp)(a:abF)(xs:List V):Prop :=
 Rd H a (.lst xs)\/
  ∃(o:Obj)(its:Array abL)(n:Nat),K.lookup a=some o/\o.cls= .type "list"/\o.dict=none/\o.data= .seq its n/\its.size<=abW/\Vals xs its.toList
def fT(K:PySem.W.Frag)(H:Hp)(a:abF)(xs:List V):Prop :=
 Rd H a (.tup xs)\/
  ∃(o:Obj)(its:Array abL)(n:Nat),K.lookup a=some o/\o.cls= .type "tuple"/\o.data= .seq its n/\its.size<=abW/\Vals xs its.toList
def UG:abL->Option V
 | .none=>some .non
 | .bool b=>some (.bl b)
 | .int i _=>some (.int i)
 | .str x _=>some (.str x)
 | .bytes b _=>some (.Lo b)
 | .float b _=>some (.i8 b)
 | .ref a=>some (.ref a)
 | .type n=>some (.ty n)
 | _=>none
theorem RelV.abs{x:V}{u:abL}(r:RelV x u):UG u=some x:=by
 cases x with
 | non=>cases r;rfl
 | bl _=>cases r;rfl
 | int _=>obtain⟨t,rfl⟩:=r;rfl
 | str _=>obtain⟨t,rfl⟩:=r;rfl
 | Lo _=>obtain⟨t,rfl⟩:=r;rfl
 | i8 _=>obtain⟨t,rfl⟩:=r;rfl
 | ref _=>cases r;rfl
 | ty _=>cases r;rfl
theorem RelV.inj{x y:V}{u:abL}(r:RelV x u)(q:RelV y u):x=y:=Option.some.inj (r.abs.symm.trans q.abs)
theorem Vals.inj:∀{xs ys:List V}{us:List abL},Vals xs us->Vals ys us->xs=ys
 | _,_,_,.nil,.nil=>rfl
 | _,_,_,.cons r t,.cons r' t'=>by rw[r.inj r',Vals.inj t t']
section
variable {X:Cx} {pins:List (abF×Obj)} {σ:St} {H:Hp} {s:abK} {a:abF} {xs ys:List V}
theorem lX.of{K:PySem.W.Frag}(h:H a=some (.lst xs)):lX K H a xs:=.inl (.inl h)
theorem fT.of{K:PySem.W.Frag}(h:H a=some (.tup xs)):fT K H a xs:=.inl (.inl h)
theorem Inv.list(I:Inv X pins σ H s)(h:lX X.K H a xs):∃its:List abL,Vals xs its/\PlainL s.heap a its.toArray/\xs.length<=abW:=by
 rcases h with h | ⟨o,its,n,hk,hc,hd,hs,hz,r⟩
 ·obtain⟨z,its,n,r,e⟩:=h.ok I.hok
  exact⟨its,r,⟨_,n,e,rfl,rfl,rfl⟩,z⟩
 ·refine⟨its.toList,r,⟨o,n,I.sY a o hk,hc,hd,by simpa using hs⟩,?_⟩
  have e:=r.length
  simp only[C7] at e
  omega
theorem Inv.tuple(I:Inv X pins σ H s)(h:fT X.K H a xs):∃its:List abL,Vals xs its/\IsTup s.heap a its.toArray/\xs.length<=abW:=by
 rcases h with h | ⟨o,its,n,hk,hc,hs,hz,r⟩
 ·obtain⟨z,its,r,p,_⟩:=h.ok I.hok
  exact⟨its,r,p,z⟩
 ·refine⟨its.toList,r,⟨o,I.sY a o hk,hc,n,by simpa using hs⟩,?_⟩
  have e:=r.length
  simp only[C7] at e
  omega
theorem Inv.C8(I:Inv X pins σ H s)(h:lX X.K H a xs)(h':lX X.K H a ys):xs=ys:=by
 obtain⟨its,r,⟨o,n,e,_,_,d⟩,_⟩:=I.list h
 obtain⟨its',r',⟨o',n',e',_,_,d'⟩,_⟩:=I.list h'
 rw[e] at e';cases e'
 rw[d] at d'
 injection d' with d1 _
 have:its=its':=by simpa using congrArg Array.toList d1
 subst this
 exact r.inj r'
theorem Inv.Bt(I:Inv X pins σ H s)(h:fT X.K H a xs)(h':fT X.K H a ys):xs=ys:=by
 obtain⟨its,r,⟨o,e,_,n,d⟩,_⟩:=I.tuple h
 obtain⟨its',r',⟨o',e',_,n',d'⟩,_⟩:=I.tuple h'
 rw[e] at e';cases e'
 rw[d] at d'
 injection d' with d1 _
 have:its=its':=by simpa using congrArg Array.toList d1
 subst this
 exact r.inj r'
end
section
variable {X:Cx} {pins:List (abF×Obj)} {σ:St} {H:Hp} {s:abK} {E:abL->abK->Prop}
end
section
variable {X:Cx} {st:Stmt} {rest:List Stmt} {t u:TS} {e:Expr} {te:TE} {pos:Pos}
def P6:TS:=λD σ H=>D.nx σ H
def UH(t u:TS):TS:=λD σ H=>t { D with nx:=u D } σ H
theorem Hn:C5 X [] P6:=λ_ _ σ H _ I h=>wpAny_execs_nil ⟨σ,H,I,h⟩
theorem C9(h1:PS X st t)(h2:C5 X rest u):C5 X (st::rest) (UH t u):=by
 intro pins s σ H D I h
 refine wpAny_execs_cons (bD (h1 pins s σ H { D with nx:=u D } I h) λf s1 q=>?_)
 cases f with
 | next=>
  obtain⟨σ',H',I',q⟩:=q
  exact h2 pins s1 σ' H' D I' q
 | ret v=>exact q
 | brk=>exact q
 | cont=>exact q
theorem Ho(h1:PS X st t):C5 X [st] t:=by
 intro pins s σ H D I h
 refine wpAny_execs_cons (bD (h1 pins s σ H D I h) λf s1 q=>?_)
 cases f with
 | next=>exact wpAny_execs_nil q
 | ret v=>exact q
 | brk=>exact q
 | cont=>exact q
theorem Inv.quiet{pins:List (abF×Obj)}{σ:St}{H:Hp}{s:abK}(I:Inv X pins σ H s):interactive X.env=false:=by simp[interactive,I.ok.kind]
def P7(te:TE):TS:=λD σ H=>te σ H λ_ H1=>D.nx σ H1
theorem Hq(he:PE X e te)(hs:swapsWith e none pos.line X.env=pure false:=by rfl):PS X (.Expr e pos) (P7 te):=by
 intro pins s σ H D I h
 exact wpAny_Expr_any (bD (he pins s σ H _ I h) λv s1 ⟨x,H1,I1,r1,q1⟩=>⟨σ,H1,I1,q1⟩) I.quiet hs
def UI(te:TE):TS:=λD σ H=>te σ H D.rt
theorem LH(he:PE X e te):PS X (.Return (some e) pos) (UI te):=by
 intro pins s σ H D I h
 exact wpAny_Return_some (bD (he pins s σ H _ I h) λv s1 ⟨x,H1,I1,r1,q1⟩=>⟨x,σ,H1,I1,r1,q1⟩)
def P8:TS:=λD _ H=>D.rt .non H
theorem Hr:PS X (.Return none pos) P8:=λ_ _ σ H _ I h=>wpAny_Return_none ⟨.non,σ,H,I,rfl,h⟩
def UJ(c:TT)(t u:TS):TS:=λD σ H=>c σ H λb H1=>if b=true then t D σ H1 else u D σ H1
theorem P9{c:Expr}{a b:List Stmt}{tc:TT}(hc:PT X c tc)(ha:C5 X a t)(hb:C5 X b u):PS X (.If c a b pos) (UJ tc t u):=by
 intro pins s σ H D I h
 refine wpAny_If (bD (hc pins s σ H _ I h) λd s1 ⟨H1,I1,q1⟩=>?_)
 cases d with
 | true=>exact ha pins s1 σ H1 D I1 q1
 | false=>exact hb pins s1 σ H1 D I1 q1
def C_:TS:=λ_ _ _=>False
theorem Dd:PS X st C_:=λ_ _ _ _ _ _ h=>h.elim
theorem Bu{sts:List Stmt}:C5 X sts C_:=λ_ _ _ _ _ _ h=>h.elim
end
abbrev TG:=V->St->Hp->(St->Hp->Prop)->Prop
abbrev Kb:=List V->St->Hp->(St->Hp->Prop)->Prop
def PG(X:Cx)(target:Expr)(t:TG):Prop :=
 ∀(pins:List (abF×Obj))(s:abK)(σ:St)(H:Hp)(v:V)(u:abL)(Q:St->Hp->Prop),Inv X pins σ H s->RelV v u->t v σ H Q->
  abY (model X.prog X.w) X.A (assign target X.env u) (λ_ s'=>∃σ' H',Inv X pins σ' H' s'/\Q σ' H') X.xe s
def P_(X:Cx)(ts:List Expr)(t:Kb):Prop :=
 ∀(pins:List (abF×Obj))(s:abK)(σ:St)(H:Hp)(vs:List V)(us:List abL)(Q:St->Hp->Prop),Inv X pins σ H s->Vals vs us->t vs σ H Q->
  abY (model X.prog X.w) X.A (assignInOrder ((assignEach ts X.env).map (·.2)) us) (λ_ s'=>∃σ' H',Inv X pins σ' H' s'/\Q σ' H') X.xe s
abbrev Ht:=V->V->V->Hp->(Hp->Prop)->Prop
def Qa(X:Cx)(t:Ht):Prop :=
 ∀(pins:List (abF×Obj))(s:abK)(σ:St)(H:Hp)(o i v:V)(ov iv u:abL)(Q:Hp->Prop),Inv X pins σ H s->RelV o ov->RelV i iv->RelV v u->t o i v H Q->
  abY (model X.prog X.w) X.A (setItem ov iv u) (λ_ s'=>∃H',Inv X pins σ H' s'/\Q H') X.xe s
section
variable {X:Cx} {pos:Pos}
def wg(i:Nat):TG:=λv σ H Q=>Q (σ.set i (some v)) H
theorem mM{i:Nat}{x:Str}(hN:X.N.Nodup)(hi:X.N[i]? =some x)(hx:Loc X.env.scope x)(hf:X.fn x=true\/X.env.scope.names.lookup x=some .local:=by first | exact .inl rfl | exact .inr rfl | assumption):PG X (.Name x pos) (wg i):=by
 intro pins s σ H v u Q I r h
 exact wpAny_assign_Name (qi I hN hi hx r (λs' I'=>⟨_,H,I',h⟩) hf)
def aj:Kb:=λvs σ H Q=>vs=[]/\Q σ H
def aa(t:TG)(u:Kb):Kb:=λvs σ H Q=>∃v r,vs=v::r/\t v σ H λσ' H'=>u r σ' H' Q
theorem Hu:P_ X [] aj:=by
 intro pins s σ H vs us Q I r h
 obtain⟨e,h⟩:=h
 subst e
 cases r
 exact assignInOrder_nil ⟨σ,H,I,h⟩
theorem De{e:Expr}{es:List Expr}{t:TG}{u:Kb}(h1:PG X e t)(h2:P_ X es u)
  (hs:(assignEach (e::es) X.env).map (·.2)=assign e X.env::(assignEach es X.env).map (·.2):=by rfl):P_ X (e::es) (aa t u):=by
 intro pins s σ H vs us Q I r h
 obtain⟨v,vr,e1,h⟩:=h
 subst e1
 cases r with
 | cons r rr=>
  rw[hs]
  refine assignInOrder_cons (bD (h1 pins s σ H _ _ _ I r h) λ_ s1 ⟨σ1,H1,I1,q1⟩=>?_)
  exact h2 pins s1 σ1 H1 _ _ Q I1 rr q1
def bI(K:PySem.W.Frag)(n:Nat)(t:Kb):TG:=λv σ H Q=>∃a xs,v= .ref a/\fT K H a xs/\xs.length=n/\t xs σ H Q
theorem LI{es:List Expr}{k:Nat}{t:Kb}{n:Nat}(hc:X.calm=true)(h:P_ X es t)
  (hn:(assignEach es X.env).length=n:=by rfl)(hst:(assignEach es X.env).findIdx? (·.1)=none:=by rfl):PG X (.Tuple es k pos) (bI X.K n t):=by
 intro pins s σ H v u Q I r hw
 obtain⟨a,xs,e1,hq,hl,hw⟩:=hw
 subst e1
 cases r
 obtain⟨its,rv,ht,hz⟩:=I.tuple hq
 refine assign_Tuple_tuple (I.ok.hd hc) ht (by simp[hn,<-hl,rv.length]) hst λh' hx=>?_
 have I1:Inv X pins σ H { s with heap:=h' }:=I.kept (t':=s.toks) λb o e=>hx b o (bN (bc e)) e
 exact h pins _ σ H xs _ Q I1 (by simpa using rv) hw
def UK(to ti:TE)(t:Ht):TG:=λv σ H Q=>to σ H λo H1=>ti σ H1 λi H2=>t o i v H2 λH3=>Q σ H3
theorem LJ{o i:Expr}{to ti:TE}{t:Ht}(ho:PE X o to)(hi:PE X i ti)(hs:Qa X t)
  (ha:∀v,assign (.Subscript o i pos) X.env v=(do
   let ov <-holding [v] (eval o X.env)
   let iv <-holding [v,ov] (eval i X.env)
   standAt pos
   holding [v,ov,iv] (setItem ov iv v)
   release [v,ov,iv] []):=by intro _;rfl):PG X (.Subscript o i pos) (UK to ti t):=by
 intro pins s σ H v u Q I r h
 rw[ha]
 refine abZ (ab1 (bD (ho pins s σ H _ I h) λov s1 ⟨x,H1,I1,r1,q1⟩=>?_))
 refine abZ (ab1 (bD (hi pins s1 σ H1 _ I1 q1) λiv s2 ⟨y,H2,I2,r2,q2⟩=>?_))
 refine abZ (wpAny_standAt (abZ (ab1 (bD (hs pins s2 σ H2 x y v ov iv u _ I2 r1 r2 r q2) λ_ s3 ⟨H3,I3,q3⟩=>?_))))
 exact wpAny_release ⟨σ,H3,I3,q3⟩
def Qb(te:TE)(g:TG):TS:=λD σ H=>te σ H λx H1=>g x σ H1 D.nx
theorem Df{tg e:Expr}{te:TE}{g:TG}(he:PE X e te)(hg:PG X tg g)(hs:swapsWithSole [tg] e pos.line X.env=pure false:=by rfl)(hw:swappedStores [tg] e X.env=pure none:=by rfl)
  (h1:(assignEach [tg] X.env).map (·.2)=[assign tg X.env]:=by rfl):PS X (.Assign [tg] e pos) (Qb te g):=by
 intro pins s σ H D I h
 refine wpAny_Assign_stores (bD (he pins s σ H _ I h) λv s1 ⟨x,H1,I1,r1,q1⟩=>?_) hs hw
 rw[h1]
 exact bD (hg pins s1 σ H1 x v _ I1 r1 q1) λ_ s2 q=>q
theorem LK{i:Nat}{x:Str}{e:Expr}{te:TE}{pos':Pos}(hN:X.N.Nodup)(hi:X.N[i]? =some x)(hx:Loc X.env.scope x)(he:PE X e te)(hs:swapsWith e (some (.Name x pos')) pos.line X.env=pure false:=by rfl)(hf:X.fn x=true\/X.env.scope.names.lookup x=some .local:=by first | exact .inl rfl | exact .inr rfl | assumption) :
  PS X (.Assign [.Name x pos'] e pos) (Qb te (wg i)):=by
 intro pins s σ H D I h
 refine wpAny_Assign_Name (bD (he pins s σ H _ I h) λv s1 ⟨y,H1,I1,r1,q1⟩=>?_) hs
 exact qi I1 hN hi hx r1 (λs2 I2=>⟨_,H1,I2,q1⟩) hf
end
section
variable {X:Cx} {pos:Pos}
end
structure It where
 go:Nat->Hp->Prop
 CU:Nat->Hp->V->Hp->Prop
 stop:Nat->Hp->Prop
def h_(X:Cx)(pins:List (abF×Obj))(H:Hp)(b:abF):Prop :=
 H b=none/\b≠X.env.locals/\b∉X.fs/\(b∈X.ex\/X.s₀.heap.objs.size<=b)/\(∀x c,X.env.cells.lookup x=some c->c≠b)/\∀p∈X.pn++pins,p.1≠b
theorem Inv.Dg{X:Cx}{pins:List (abF×Obj)}{σ:St}{H H':Hp}{s:abK}{b:abF}(I:Inv X pins σ H s)(hb:s.heap.objs.size<=b)(hn:H' b=none):h_ X pins H' b:=by
 refine⟨hn,pH (br I.lt hb),I.UA hb,.inr (bf I.sz hb),λx c e z=>?_,λp hp z=>?_⟩
 ·obtain⟨v,q⟩:=I.cell x c e
  exact absurd (br q.lt (by rw[z];exact hb)) (gz _)
 ·exact absurd (br (bc (I.pin p hp).1) (by rw[z];exact hb)) (gz _)
structure Turn(P:abJ)(w:abM)(K:PySem.W.Frag)(tg:Expr)(J:It)(fp:List abF)(it:abF)(tn:Nat->Heap->Prop):Prop where
 mem:it∈fp
 obj:∀i h,tn i h->∀b∈fp,∃o,h.get? b=some o/\∀v,o.data≠.cell v
 keep:∀i h h',tn i h->(∀b∈fp,∀o,h.get? b=some o->h'.get? b=some o)->tn i h'
 item:∀(X:Cx),X.prog=P->X.w=w->X.K=K->X.calm=true->∀(i:Nat)(pins:List (abF×Obj))(s:abK)(σ:St)(H:Hp)(E:abL->abK->Prop),Inv X pins σ H s->(∀b∈fp,h_ X pins H b)->tn i s.heap->J.go i H->
  abY (model P w) X.A (pyNext (.ref it)) (λr s1=>∃u,r=some u/\
   abY (model P w) X.A (letOwnedTupleGo tg (.ref it) u) (λ_ s2=>∃x H',Inv X pins σ H' s2/\RelV x u/\J.CU i H x H'/\tn (i+1) s2.heap/\∀b∈fp,H' b=none) E s1) E s
 done:∀(X:Cx),X.prog=P->X.w=w->X.K=K->X.calm=true->∀(i:Nat)(pins:List (abF×Obj))(s:abK)(σ:St)(H:Hp)(E:abL->abK->Prop),Inv X pins σ H s->(∀b∈fp,h_ X pins H b)->tn i s.heap->J.stop i H->
  abY (model P w) X.A (pyNext (.ref it)) (λr s1=>r=none/\Inv X pins σ H s1) E s
 self:∀(A:abG)(i:Nat)(s:abK)(Q:abL->abK->Prop)(E:abL->abK->Prop),tn i s.heap->Q (.ref it) s->abY (model P w) A (pyIter (.ref it)) Q E s
abbrev TI:=St->Hp->(It->Hp->Prop)->Prop
def Xz(X:Cx)(pins:List (abF×Obj))(σ:St)(tg:Expr)(R:It->Hp->Prop)(itv:abL)(s2:abK):Prop :=
 ∃(it:abF)(fp:List abF)(tn:Nat->Heap->Prop)(J:It)(H':Hp),itv= .ref it/\Inv X pins σ H' s2/\Turn X.prog X.w X.K tg J fp it tn/\tn 0 s2.heap/\(∀b∈fp,h_ X pins H' b)/\R J H'
def PI(X:Cx)(tg iter:Expr)(wi:TI):Prop :=
 ∀(pins:List (abF×Obj))(s:abK)(σ:St)(H:Hp)(R:It->Hp->Prop),Inv X pins σ H s->wi σ H R->
  abY (model X.prog X.w) X.A (eval iter X.env) (λv s1=>abY (model X.prog X.w) X.A (pyIter v) (Xz X pins σ tg R) X.xe s1) X.xe s
theorem s_{M:Model}{A:abG}{E:abL->abK->Prop}{s:abK}{tg:Expr}{it:abF}{u:abL}{o:Obj}{n:String}{vs:Array abL}{Q:Unit->abK->Prop}(ho:s.heap.get? it=some o)(hc:o.cls= .type n)(hd:o.data= .fields vs)
    (hn:["enumerate","zip","dict_itemiterator","dict_reverseitemiterator","odict_iterator","itertools.zip_longest","itertools.pairwise"].contains n=false)(hQ:Q () s):abY M A (letOwnedTupleGo tg (.ref it) u) Q E s:=by
  unfold letOwnedTupleGo
  cases tg<;>first
    | exact ab4 hQ
    | (cases u<;>first
        | exact ab4 hQ
        | (refine abZ (wpAny_load ho ?_)
           rw[hc,hd]
           show abY M A (if(["enumerate","zip","dict_itemiterator","dict_reverseitemiterator","odict_iterator","itertools.zip_longest","itertools.pairwise"].contains n&&vs[0]? == some (rawInt _))=true then _ else _) Q E s
           rw[if_neg (by intro h;rw[hn,Bool.false_and] at h;cases h)]
           exact ab4 hQ))
def XA(K:PySem.W.Frag)(a:abF):It :=
 ⟨λi H=>∃xs x,lX K H a xs/\xs[i]? =some x,λi H x H'=>H'=H/\∀xs,lX K H a xs->xs[i]? =some x,λi H=>∃xs,lX K H a xs/\xs.length<=i⟩
def XB(K:PySem.W.Frag)(a:abF):It :=
 ⟨λi H=>∃xs x,fT K H a xs/\xs[i]? =some x,λi H x H'=>H'=H/\∀xs,fT K H a xs->xs[i]? =some x,λi H=>∃xs,fT K H a xs/\xs.length<=i⟩
def Kc(lo:Int)(n:Nat):It:=⟨λi _=>i < n,λi H x H'=>H'=H/\x= .int (lo+i),λi _=>n<=i⟩
theorem Bv{P:abJ}{w:abM}{K:PySem.W.Frag}{tg:Expr}(a it:abF):Turn P w K tg (XA K a) [it] it (λi h=>h.IsListIter it a i) where
 mem:=by simp
 obj:=λi h st b hb=>by
  have e:b=it:=by simpa using hb
  subst e
  obtain⟨o,e,c,d⟩:=st
  exact⟨o,e,λv z=>by rw[d] at z;cases z⟩
 keep:=λi h h' st k=>st.at λo e=>k it (by simp) o e
 item:=by
  intro X hP hw hK hc i pins s σ H E I hf st hg
  subst hP hw hK
  obtain⟨xs,x,hq,hx⟩:=hg
  obtain⟨its,rv,p,hz⟩:=I.list hq
  obtain⟨u,hu,ru⟩:=rv.get hx
  obtain⟨f0,f1,f2,f3,f4,f5⟩:=hf it (by simp)
  refine wpAny_pyNext_list_item st p.isList (x:=u) (by simpa using hu) λh' st' sb=>?_
  have I1:Inv X pins σ H { s with heap:=h' }:=I.turned (t':=s.toks) (λb o hb e=>(sb.2 b hb).trans e) f0 f1 f3 f4 f5
  obtain⟨o,e,c,d⟩:=id st'
  exact⟨u,rfl,s_ (s:={ s with heap:=h' }) e c d (by decide) ⟨x,H,I1,ru,⟨rfl,λys hy=>by rw[I.C8 hy hq];exact hx⟩,st',λb hb=>(hf b hb).1⟩⟩
 done:=by
  intro X hP hw hK hc i pins s σ H E I hf st hg
  subst hP hw hK
  obtain⟨xs,hq,hx⟩:=hg
  obtain⟨its,rv,p,hz⟩:=I.list hq
  obtain⟨f0,f1,f2,f3,f4,f5⟩:=hf it (by simp)
  have hl:=rv.length
  exact wpAny_pyNext_list_end (I.ok.hd hc) st p.isList (by simp;omega) λh' eb=>⟨rfl,I.turned (t':=s.toks) (λb o hb e=>eb b o hb e) f0 f1 f3 f4 f5⟩
 self:=λ_ _ _ _ _ st h=>wpAny_pyIter_listiter st h
theorem yj{P:abJ}{w:abM}{K:PySem.W.Frag}{tg:Expr}(a it:abF):Turn P w K tg (XB K a) [it] it (λi h=>h.IsTupleIter it a i) where
 mem:=by simp
 obj:=λi h st b hb=>by
  have e:b=it:=by simpa using hb
  subst e
  obtain⟨o,e,c,d⟩:=st
  exact⟨o,e,λv z=>by rw[d] at z;cases z⟩
 keep:=λi h h' st k=>st.at λo e=>k it (by simp) o e
 item:=by
  intro X hP hw hK hc i pins s σ H E I hf st hg
  subst hP hw hK
  obtain⟨xs,x,hq,hx⟩:=hg
  obtain⟨its,rv,p,hz⟩:=I.tuple hq
  obtain⟨u,hu,ru⟩:=rv.get hx
  obtain⟨f0,f1,f2,f3,f4,f5⟩:=hf it (by simp)
  refine wpAny_pyNext_tuple_item st (show s.heap.IsTuple a its.toArray from p) (x:=u) (by simpa using hu) λh' st' sb=>?_
  have I1:Inv X pins σ H { s with heap:=h' }:=I.turned (t':=s.toks) (λb o hb e=>(sb.2 b hb).trans e) f0 f1 f3 f4 f5
  obtain⟨o,e,c,d⟩:=id st'
  exact⟨u,rfl,s_ (s:={ s with heap:=h' }) e c d (by decide) ⟨x,H,I1,ru,⟨rfl,λys hy=>by rw[I.Bt hy hq];exact hx⟩,st',λb hb=>(hf b hb).1⟩⟩
 done:=by
  intro X hP hw hK hc i pins s σ H E I hf st hg
  subst hP hw hK
  obtain⟨xs,hq,hx⟩:=hg
  obtain⟨its,rv,p,hz⟩:=I.tuple hq
  obtain⟨f0,f1,f2,f3,f4,f5⟩:=hf it (by simp)
  have hl:=rv.length
  exact wpAny_pyNext_tuple_end (I.ok.hd hc) st (show s.heap.IsTuple a its.toArray from p) (by simp;omega) λh' eb=>⟨rfl,I.turned (t':=s.toks) (λb o hb e=>eb b o hb e) f0 f1 f3 f4 f5⟩
 self:=λ_ _ _ _ _ st h=>wpAny_pyIter_tupleiter st h
theorem yk{P:abJ}{w:abM}{K:PySem.W.Frag}{tg:Expr}(it:abF)(lo:Int)(n:Nat):Turn P w K tg (Kc lo n) [it] it (λi h=>IsRangeIter h it (lo+(i:Nat) * 1) ((n:Int) - (i:Nat)) 1) where
 mem:=by simp
 obj:=λi h st b hb=>by
  have e:b=it:=by simpa using hb
  subst e
  exact⟨_,st,λv z=>by
   have z':Data.fields _=Data.cell v:=z
   cases z'⟩
 keep:=λi h h' st k=>k it (by simp) _ st
 item:=by
  intro X hP hw hK hc i pins s σ H E I hf st hg
  subst hP hw hK
  obtain⟨f0,f1,f2,f3,f4,f5⟩:=hf it (by simp)
  have W:=Walks.range (prog:=X.prog) (w:=X.w) (I.ok.hd hc) it lo 1 n
  refine W.item i s _ _ hg st λv h' tk hv st' kk=>?_
  obtain⟨t,rfl⟩:=hv
  have I1:Inv X pins σ H { s with heap:=h',toks:=tk }:=I.turned (λb o hb e=>kk b o (by simpa using hb) e) f0 f1 f3 f4 f5
  refine⟨_,rfl,s_ (s:={ s with heap:=h',toks:=tk }) (n:="range_iterator") st' rfl rfl (by decide) ⟨.int (lo+i),H,I1,⟨t,?_⟩,⟨rfl,rfl⟩,st',λb hb=>(hf b hb).1⟩⟩
  rw[Int.mul_one]
 done:=by
  intro X hP hw hK hc i pins s σ H E I hf st hg
  subst hP hw hK
  obtain⟨f0,f1,f2,f3,f4,f5⟩:=hf it (by simp)
  exact wpAny_pyNext_range_end (I.ok.hd hc) st (by have:n<=i:=hg;omega) λh' eb=>⟨rfl,I.turned (t':=s.toks) (λb o hb e=>eb b o hb e) f0 f1 f3 f4 f5⟩
 self:=λ_ _ _ _ _ st h=>wpAny_pyIter_rangeiter st h
section
variable {X:Cx} {tg:Expr}
theorem wj{pins:List (abF×Obj)}{σ:St}{H:Hp}{s:abK}{R:It->Hp->Prop}{E:abL->abK->Prop}{lo hi:Int}{t u v:Tok}{tk:Nat}(I:Inv X pins σ H s)(h1:-(2 ^ 62)<=lo)(h2:lo < 2 ^ 62)(h3:-(2 ^ 62)<=hi)(h4:hi < 2 ^ 62)
  (q:R (Kc lo (hi - lo).toNat) H):abY (model X.prog X.w) X.A (pyIter (.ref s.heap.objs.size)) (Xz X pins σ tg R) E { s with heap:=s.heap.push { cls:=.type "range",data:=.fields #[.int lo t,.int hi u,.int 1 v] },toks:=tk }:=by
 refine wpAny_pyIter_range (IsRange.new ..) (small_one h1 h2 h3 h4) ?_
 have I1:Inv X pins σ H { s with heap:=s.heap.push { cls:=.type "range",data:=.fields #[.int lo t,.int hi u,.int 1 v] },toks:=tk }:=I.kept λb o e=>bA _ e
 refine⟨(s.heap.push { cls:=.type "range",data:=.fields #[.int lo t,.int hi u,.int 1 v] }).objs.size,[(s.heap.push { cls:=.type "range",data:=.fields #[.int lo t,.int hi u,.int 1 v] }).objs.size],_,_,H,rfl,
  I1.kept (t':=tk) λb o e=>bA _ e,yk _ lo (hi - lo).toNat,?_,λb hb=>?_,q⟩
 ·have e1:lo+((0:Nat):Int) * 1=lo:=by simp
  have e2:(((hi - lo).toNat:Nat):Int) - ((0:Nat):Int)=uz lo hi 1:=by rw[rangeSize_one];split<;>omega
  show IsRangeIter _ _ (lo+((0:Nat):Int) * 1) ((((hi - lo).toNat:Nat):Int) - ((0:Nat):Int)) 1
  rw[e1,e2]
  exact cJ _ rfl
 ·have e:b=(s.heap.push { cls:=.type "range",data:=.fields #[.int lo t,.int hi u,.int 1 v] }).objs.size:=by simpa using hb
  subst e
  exact I1.Dg (aC _) (I1.hok.fresh (aC _))
def Qc(ta:TA):TI:=λσ H R=>ta σ H λvs H1=>∃j:Int,vs=[.int j]/\-(2 ^ 62)<=j/\j < 2 ^ 62/\R (Kc 0 j.toNat) H1
def Qd(ta:TA):TI:=λσ H R=>ta σ H λvs H1=>∃i j:Int,vs=[.int i,.int j]/\(-(2 ^ 62)<=i/\i < 2 ^ 62/\-(2 ^ 62)<=j/\j < 2 ^ 62)/\R (Kc i (j - i).toNat) H1
theorem tm{a:Expr}{ta:TA}{p pos:Pos}(hg:Gl X "range")(hm:X.mg "range"=none)(ha:PA X [a] ta)(hs:abX [a] X.env=[(false,eval a X.env)]:=by rfl):PI X tg (.Call (.Name "range" p) [a] [] pos) (Qc ta):=by
 intro pins s σ H R I h
 refine Call_ (nP I hg hm boot_range (uA (bD (ha pos pins s σ H _ I h) λus s1 ⟨vs,H1,I1,r1,q1⟩=>?_) hs rfl))
 obtain⟨j,e,q1,q2,q⟩:=q1
 subst e
 cases r1 with
 | cons r rr=>
  cases rr
  obtain⟨t,rfl⟩:=r
  exact call_range_1 (wj I1 (by omega) (by omega) q1 q2 (by simpa using q))
theorem tq{a b:Expr}{ta:TA}{p pos:Pos}(hg:Gl X "range")(hm:X.mg "range"=none)(ha:PA X [a,b] ta)(hs:abX [a,b] X.env=[(false,eval a X.env),(false,eval b X.env)]:=by rfl)(hs2:abX [b] X.env=[(false,eval b X.env)]:=by rfl) :
  PI X tg (.Call (.Name "range" p) [a,b] [] pos) (Qd ta):=by
 intro pins s σ H R I h
 refine Call_ (nP I hg hm boot_range (uA (bD (ha pos pins s σ H _ I h) λus s1 ⟨vs,H1,I1,r1,q1⟩=>?_) (by rw[hs,hs2]) (by rw[hs2];rfl)))
 obtain⟨i,j,e,⟨q1,q2,q3,q4⟩,q⟩:=q1
 subst e
 cases r1 with
 | cons r rr=>
  cases rr with
  | cons r' rr=>
   cases rr
   obtain⟨t,rfl⟩:=r
   obtain⟨t',rfl⟩:=r'
   exact call_range_2 (wj I1 q1 q2 q3 q4 q)
def UL(wi:TI)(g:TG)(tb:TS):TS:=λD σ H=>wi σ H λJ H1=>∃W:Nat->Nat->St->Hp->Prop,(∃m,W 0 m σ H1)/\∀i m σ H,W i m σ H->
 (J.stop i H/\D.nx σ H)\/(J.go i H/\∃N:St->Hp->Prop,(∀σ' H',N σ' H'->∃m',m' < m/\W (i+1) m' σ' H')/\∀x H',J.CU i H x H'->g x σ H' λσ2 H2=>tb { D with nx:=N,ct:=N,bk:=D.nx } σ2 H2)
def gS(fp:List abF)(h:Heap):List (abF×Obj):=fp.filterMap λb=>(h.get? b).map λo=>(b,o)
theorem i_{fp:List abF}{h:Heap}{b:abF}{o:Obj}(hb:b∈fp)(e:h.get? b=some o):(b,o)∈gS fp h:=List.mem_filterMap.mpr ⟨b,hb,by rw[e];rfl⟩
theorem Bw{fp:List abF}{h:Heap}{p:abF×Obj}(hp:p∈gS fp h):p.1∈fp/\h.get? p.1=some p.2:=by
 obtain⟨b,hb,e⟩:=List.mem_filterMap.mp hp
 cases q:h.get? b with
 | none=>rw[q] at e;cases e
 | some o=>
  rw[q] at e
  have e':(b,o)=p:=Option.some.inj e
  subst e'
  exact⟨hb,q⟩
theorem Inv.pinned{pins:List (abF×Obj)}{σ:St}{H:Hp}{s:abK}{fp:List abF}(I:Inv X pins σ H s)(hf:∀b∈fp,h_ X pins H b)(ho:∀b∈fp,∃o,s.heap.get? b=some o/\∀v,o.data≠.cell v):Inv X (pins++gS fp s.heap) σ H s :=
 I.zZ λp hp=>(List.mem_append.mp hp).elim (λz=>I.pin p (gA _ z)) λz=>by
  obtain⟨hb,e⟩:=Bw z
  obtain⟨f0,f1,f2,_⟩:=hf p.1 hb
  obtain⟨o,e',d⟩:=ho p.1 hb
  rw[e] at e';cases e'
  exact⟨e,f0,f1,f2,d⟩
theorem Inv.mO{pins pl:List (abF×Obj)}{σ:St}{H:Hp}{s:abK}(I:Inv X (pins++pl) σ H s):Inv X pins σ H s:=I.zZ λp hp=>I.pin p (gA _ (Hk _ hp))
theorem uB{iter:Expr}{body:List Stmt}{wi:TI}{g:TG}{tb:TS}{pos:Pos}(hp:PassesOwn (model X.prog X.w) X.A X.env X.xe)(hc:X.calm=true)(hi:PI X tg iter wi)(hg:PG X tg g)(hb:C5 X body tb)
  (hs:∀x,abT iter X.env x=pure x:=by intro _;rfl):PS X (.For tg iter body [] pos) (UL wi g tb):=by
 intro pins s σ H D I h
 refine wpAny_For (bD (hi pins s σ H _ I h) λv s1 h1=>bD h1 λitv s2 h2=>?_) hs
 obtain⟨it,fp,tn,J,H2,e,I2,T,st2,f2,W,⟨m0,w0⟩,turn⟩:=h2
 subst e
 -- what stays true of the LL objects through the loop
 have LM:∀{H':Hp},(∀b∈fp,H' b=none)->∀b∈fp,h_ X pins H' b:=λhn b hb=>⟨hn b hb,(f2 b hb).2⟩
 refine codeAny_forLoop_any (λn s'=>∃i σ' H',Inv X pins σ' H' s'/\tn i s'.heap/\(∀b∈fp,H' b=none)/\W i n σ' H') ?_ m0 ⟨0,σ,H2,I2,st2,λb hb=>(f2 b hb).1,w0⟩
 rintro n s3 ⟨i,σ3,H3,I3,st3,XC,w3⟩
 rcases turn i n σ3 H3 w3 with ⟨stop,qn⟩ | ⟨go,N,hN,step⟩
 ·refine wpAny_passesOwn hp (bD (T.done X rfl rfl rfl hc i pins s3 σ3 H3 X.xe I3 (LM XC) st3 stop) λr s4 ⟨hr,I4⟩=>?_)
  subst hr
  exact wpAny_execs_nil ⟨σ3,H3,I4,qn⟩
 ·refine wpAny_passesOwn hp (bD (T.item X rfl rfl rfl hc i pins s3 σ3 H3 X.xe I3 (LM XC) st3 go) λr s4 ⟨u,hr,h4⟩=>?_)
  subst hr
  refine wpAny_passesOwn hp (bD h4 λ_ s5 ⟨x,H5,I5,r5,y5,Dh,Tg⟩=>?_)
  have Y3:=I5.pinned (LM Tg) (T.obj _ _ Dh)
  refine wpAny_passesOwn hp (bD (hg _ s5 σ3 H5 x u _ Y3 r5 (step x H5 y5)) λ_ s6 ⟨σ6,H6,I6,q6⟩=>?_)
  refine wpAny_passesOwn hp (bD (hb _ s6 σ6 H6 _ I6 q6) λf s7 q7=>?_)
  have again:∀{σ7:St}{H7:Hp},Inv X (pins++gS fp s5.heap) σ7 H7 s7->N σ7 H7->∃m,m < n/\∃i σ' H',Inv X pins σ' H' s7/\tn i s7.heap/\(∀b∈fp,H' b=none)/\W i m σ' H':=λ{σ7 H7} I7 n7=>by
   obtain⟨m',hm,w7⟩:=hN σ7 H7 n7
   refine⟨m',hm,i+1,σ7,H7,I7.mO,T.keep _ _ _ Dh λb hb o e=>(I7.pin (b,o) (gA _ (gA _ (i_ hb e)))).1,λb hb=>?_,w7⟩
   obtain⟨o,e,d⟩:=T.obj _ _ Dh b hb
   exact(I7.pin (b,o) (gA _ (gA _ (i_ hb e)))).2.1
  cases f with
  | next=>obtain⟨σ7,H7,I7,n7⟩:=q7;exact again I7 n7
  | cont=>obtain⟨σ7,H7,I7,n7⟩:=q7;exact again I7 n7
  | brk=>obtain⟨σ7,H7,I7,q7⟩:=q7;exact⟨σ7,H7,I7.mO,q7⟩
  | ret v=>obtain⟨x7,σ7,H7,I7,r7,q7⟩:=q7;exact⟨x7,σ7,H7,I7.mO,r7,q7⟩
end
abbrev R2:=V->V->Hp->VK->Prop
def fh(X:Cx)(f:abL->abL->Sem abL)(r:R2):Prop :=
 ∀(pins:List (abF×Obj))(s:abK)(σ:St)(H:Hp)(x y:V)(v u:abL)(Q:VK),Inv X pins σ H s->RelV x v->RelV y u->r x y H Q->
  abY (model X.prog X.w) X.A (f v u) (EP X pins σ Q) X.xe s
def UM(X:Cx)(f:abL->Sem abL)(r:V->Hp->VK->Prop):Prop :=
 ∀(pins:List (abF×Obj))(s:abK)(σ:St)(H:Hp)(x:V)(v:abL)(Q:VK),Inv X pins σ H s->RelV x v->r x H Q->
  abY (model X.prog X.w) X.A (f v) (EP X pins σ Q) X.xe s
def dq(X:Cx)(f:abL)(r:List V->Hp->VK->Prop):Prop :=
 ∀(pins:List (abF×Obj))(s:abK)(σ:St)(H:Hp)(xs:List V)(us:List abL)(Q:VK),Inv X pins σ H s->Vals xs us->r xs H Q->
  abY (model X.prog X.w) X.A (call f us) (EP X pins σ Q) X.xe s
def UN(X:Cx)(r:V->Hp->(Bool->Hp->Prop)->Prop):Prop :=
 ∀(pins:List (abF×Obj))(s:abK)(σ:St)(H:Hp)(x:V)(v:abL)(Q:Bool->Hp->Prop),Inv X pins σ H s->RelV x v->r x H Q->
  abY (model X.prog X.w) X.A (truthy v) (TP X pins σ Q) X.xe s
def Qe(r:R2)(ta tb:TE):TE:=λσ H Q=>ta σ H λx H1=>tb σ H1 λy H2=>r x y H2 Q
def Y4(r:V->Hp->VK->Prop)(ta:TE):TE:=λσ H Q=>ta σ H λx H1=>r x H1 Q
def rI(C:Int->Int->Prop)(g:Int->Int->V):R2:=λx y H Q=>∃i j,x= .int i/\y= .int j/\C i j/\Q (g i j) H
def LN(g:Int->Int->V):R2:=λx y H Q=>∃i j,x= .int i/\y= .int j/\Q (g i j) H
def rU(g:Int->V):V->Hp->VK->Prop:=λx H Q=>∃i,x= .int i/\Q (g i) H
section
variable {X:Cx} {a b c:Expr} {ta tb tc:TE} {pos:Pos}
theorem LO(ha:PE X a ta)(hb:PE X b tb){pins:List (abF×Obj)}{s:abK}{σ:St}{H:Hp}{R:V->V->Hp->Prop}(I:Inv X pins σ H s)
  (h:ta σ H λx H1=>tb σ H1 λy H2=>R x y H2){Q:abL->abK->Prop}{f:abL->abL->Sem abL}
  (hf:∀v u s2 x y H2,Inv X pins σ H2 s2->RelV x v->RelV y u->R x y H2->abY (model X.prog X.w) X.A (f v u) Q X.xe s2) :
  abY (model X.prog X.w) X.A (eval a X.env) (λv s₁=>abY (model X.prog X.w) X.A (eval b X.env) (λu s₂=>abY (model X.prog X.w) X.A (f v u) Q X.xe s₂) X.xe s₁) X.xe s:=by
 refine bD (ha pins s σ H _ I h) λv s1 ⟨x,H1,I1,r1,q1⟩=>?_
 refine bD (hb pins s1 σ H1 _ I1 q1) λu s2 ⟨y,H2,I2,r2,q2⟩=>?_
 exact hf v u s2 x y H2 I2 r1 r2 q2
theorem Qf{op:Operator}{r:R2}(ho:fh X (abO op) r)(ha:PE X a ta)(hb:PE X b tb):PE X (.BinOp a op b pos) (Qe r ta tb):=by
 intro pins s σ H Q I h
 exact wpAny_BinOp (LO ha hb I h λv u s2 x y H2 I2 rx ry q=>ho pins s2 σ H2 x y v u Q I2 rx ry q)
theorem Qg{op:UnaryOp}{r:V->Hp->VK->Prop}(ho:UM X (unaryOp op) r)(ha:PE X a ta):PE X (.UnaryOp op a pos) (Y4 r ta):=by
 intro pins s σ H Q I h
 exact UnaryOp_ (bD (ha pins s σ H _ I h) λv s1 ⟨x,H1,I1,r1,q1⟩=>ho pins s1 σ H1 x v Q I1 r1 q1)
theorem Th{f:abL->abL->Sem abL}{C:Int->Int->Prop}{g:Int->Int->Int}
  (rule:∀(i j:Int)(t u:Tok)(s:abK)(Q:abL->abK->Prop)(E:abL->abK->Prop),C i j->Q (.int (g i j) s.toks) { s with toks:=s.toks+1 }->abY (model X.prog X.w) X.A (f (.int i t) (.int j u)) Q E s) :
  fh X f (rI C λi j=> .int (g i j)):=by
 intro pins s σ H x y v u Q I rx ry h
 obtain⟨i,j,rfl,rfl,hc,q⟩:=h
 obtain⟨t,rfl⟩:=rx
 obtain⟨t',rfl⟩:=ry
 exact rule i j t t' s _ _ hc ⟨.int (g i j),H,I.tok _,⟨_,rfl⟩,q⟩
theorem Qh{f:abL->abL->Sem abL}{g:Int->Int->Int}
  (rule:∀(i j:Int)(t u:Tok)(s:abK)(Q:abL->abK->Prop)(E:abL->abK->Prop),Q (.int (g i j) s.toks) { s with toks:=s.toks+1 }->abY (model X.prog X.w) X.A (f (.int i t) (.int j u)) Q E s) :
  fh X f (LN λi j=> .int (g i j)):=by
 intro pins s σ H x y v u Q I rx ry h
 obtain⟨i,j,rfl,rfl,q⟩:=h
 obtain⟨t,rfl⟩:=rx
 obtain⟨t',rfl⟩:=ry
 exact rule i j t t' s _ _ ⟨.int (g i j),H,I.tok _,⟨_,rfl⟩,q⟩
theorem LP{f:abL->abL->Sem abL}{g:Int->Int->Bool}
  (rule:∀(i j:Int)(t u:Tok)(s:abK)(Q:abL->abK->Prop)(E:abL->abK->Prop),Q (.bool (g i j)) s->abY (model X.prog X.w) X.A (f (.int i t) (.int j u)) Q E s) :
  fh X f (LN λi j=> .bl (g i j)):=by
 intro pins s σ H x y v u Q I rx ry h
 obtain⟨i,j,rfl,rfl,q⟩:=h
 obtain⟨t,rfl⟩:=rx
 obtain⟨t',rfl⟩:=ry
 exact rule i j t t' s _ _ ⟨.bl (g i j),H,I,rfl,q⟩
def UO(i j:Int):Prop:=0<=j/\j<=1000000/\i.natAbs < 2 ^ 64
theorem LQ:fh X (abO .Add) (LN λi j=> .int (i+j)):=Qh λ_ _ _ _ _ _ _ q=>add_int q
theorem LR:fh X (abO .Sub) (LN λi j=> .int (i - j)):=Qh λ_ _ _ _ _ _ _ q=>sub_int q
theorem LS:fh X (abO .Pow) (rI UO λi j=> .int (i ^ j.toNat)):=Th λ_ _ _ _ _ _ _ hc q=>pow_int_small hc.1 hc.2.1 hc.2.2 q
theorem Y5{f:abL->Sem abL}{g:Int->Int}
  (rule:∀(i:Int)(t:Tok)(s:abK)(Q:abL->abK->Prop)(E:abL->abK->Prop),Q (.int (g i) s.toks) { s with toks:=s.toks+1 }->abY (model X.prog X.w) X.A (f (.int i t)) Q E s) :
  UM X f (rU λi=> .int (g i)):=by
 intro pins s σ H x v Q I rx h
 obtain⟨i,rfl,q⟩:=h
 obtain⟨t,rfl⟩:=rx
 exact rule i t s _ _ ⟨.int (g i),H,I.tok _,⟨_,rfl⟩,q⟩
theorem LU:UM X (unaryOp .USub) (rU λi=> .int (-i)):=Y5 λ_ _ _ _ _ q=>neg_int q
end
section
variable {X:Cx} {a b c:Expr} {ta tb tc:TE} {pos:Pos}
theorem uC{pins:List (abF×Obj)}{σ:St}{H:Hp}{s:abK}{Q:VK}{k k':Bool}(I:Inv X pins σ H s)(q:Q (.bl k) H)(e:k=k'):EP X pins σ Q (.bool k') s:=by
 subst e
 exact⟨.bl k,H,I,rfl,q⟩
theorem Qi:fh X (abS .Lt) (LN λi j=> .bl (decide (i < j))):=LP λ_ _ _ _ _ _ _ q=>lt_int q
theorem Qj:fh X (abS .LtE) (LN λi j=> .bl (decide (i<=j))):=LP λ_ _ _ _ _ _ _ q=>le_int q
theorem Qk:fh X (abS .Gt) (LN λi j=> .bl (decide (j < i))):=LP λ_ _ _ _ _ _ _ q=>gt_int q
theorem Bx:fh X (abS .Lt) (λx y H Q=>∃i j,x= .str i/\y= .str j/\Q (.bl (decide (i.cps.toList < j.cps.toList))) H):=by
 intro pins s σ H x y v u Q I rx ry h
 obtain⟨i,j,rfl,rfl,q⟩:=h
 obtain⟨t,rfl⟩:=rx
 obtain⟨t',rfl⟩:=ry
 exact lt_str (uC I q rfl)
theorem By:fh X (abS .In) (λx y H Q=>∃i j,x= .str i/\y= .str j/\Q (.bl (!(ym j i 0 j.length 1).isEmpty)) H):=by
 intro pins s σ H x y v u Q I rx ry h
 obtain⟨i,j,rfl,rfl,q⟩:=h
 obtain⟨t,rfl⟩:=rx
 obtain⟨t',rfl⟩:=ry
 exact in_str (uC I q rfl)
theorem LV:fh X (abS .Is) (λx y H Q=>y= .non/\Q (.bl (decide (x= .non))) H):=by
 intro pins s σ H x y v u Q I rx ry h
 obtain⟨rfl,q⟩:=h
 cases ry
 refine is_none_gen (uC I q ?_)
 cases x<;>first
  | (cases rx;rfl)
  | (obtain⟨t,rfl⟩:=rx;rfl)
theorem Hv:fh X (abS .IsNot) (λx y H Q=>y= .non/\Q (.bl (!decide (x= .non))) H):=by
 intro pins s σ H x y v u Q I rx ry h
 obtain⟨rfl,q⟩:=h
 cases ry
 refine isnot_none_gen (uC I q ?_)
 cases x<;>first
  | (cases rx;rfl)
  | (obtain⟨t,rfl⟩:=rx;rfl)
theorem Hw{op:CmpOp}{r:R2}(ho:fh X (abS op) r)(ha:PE X a ta)(hb:PE X b tb)(hm:abN op b=false):PE X (.Compare a [op] [b] pos) (Qe r ta tb):=by
 intro pins s σ H Q I h
 exact wpAny_Compare1 (LO ha hb I h λv u s2 x y H2 I2 rx ry q=>ho pins s2 σ H2 x y v u Q I2 rx ry q) hm
def Ke(t:TE):TT:=λσ H Q=>t σ H λx H'=>∃k,x= .bl k/\Q k H'
theorem Hx{op:CmpOp}{r:R2}(ho:fh X (abS op) r)(ha:PE X a ta)(hb:PE X b tb)(hm:abN op b=false):PT X (.Compare a [op] [b] pos) (Ke (Qe r ta tb)):=by
 intro pins s σ H Q I h
 refine wpAny_isTrue_Compare1 (bD (ha pins s σ H _ I h) λv s1 ⟨x,H1,I1,r1,q1⟩=>bD (hb pins s1 σ H1 _ I1 q1) λu s2 ⟨y,H2,I2,r2,q2⟩=>
  bD (ho pins s2 σ H2 x y v u _ I2 r1 r2 q2) λc s3 ⟨z,H3,I3,r3,k,e,q3⟩=>?_) hm
 subst e
 cases r3
 exact ab5 ⟨H3,I3,q3⟩
def yn(r r':R2)(ta tb tc:TE):TE:=λσ H Q=>ta σ H λx H1=>tb σ H1 λy H2=>r x y H2 λz H3=>∃k,z= .bl k/\
 (if k=true then tc σ H3 λw' H4=>r' y w' H4 Q else Q (.bl false) H3)
theorem Di{op op':CmpOp}{r r':R2}(ho:fh X (abS op) r)(ho':fh X (abS op') r')(ha:PE X a ta)(hb:PE X b tb)(hc:PE X c tc)
  (hm:lastMarks [op,op'] [b,c]=false:=by with_unfolding_all rfl):PE X (.Compare a [op,op'] [b,c] pos) (yn r r' ta tb tc):=by
 intro pins s σ H Q I h
 refine Compare_chain (bD (ha pins s σ H _ I h) λv s1 ⟨x,H1,I1,r1,q1⟩=>chain_link (bD (hb pins s1 σ H1 _ I1 q1) λu s2 ⟨y,H2,I2,r2,q2⟩=>
  bD (ho pins s2 σ H2 x y v u _ I2 r1 r2 q2) λd s3 ⟨z,H3,I3,r3,k,e,q3⟩=>?_)) hm
 subst e
 cases r3
 refine ab5 ?_
 cases k with
 | false=>exact ite_ff ⟨.bl false,H3,I3,rfl,q3⟩
 | true=>exact ite_tt (chain_last (bD (hc pins s3 σ H3 _ I3 q3) λw' s4 ⟨z',H4,I4,r4,q4⟩=>ho' pins s4 σ H4 y z' u w' Q I4 r2 r4 q4))
theorem Dj{op op':CmpOp}{r r':R2}(ho:fh X (abS op) r)(ho':fh X (abS op') r')(ha:PE X a ta)(hb:PE X b tb)(hc:PE X c tc)
  (hm:lastMarks [op,op'] [b,c]=false:=by with_unfolding_all rfl):PT X (.Compare a [op,op'] [b,c] pos) (Ke (yn r r' ta tb tc)):=by
 intro pins s σ H Q I h
 refine isTrue_chain (bD (ha pins s σ H _ I h) λv s1 ⟨x,H1,I1,r1,q1⟩=>test_link (bD (hb pins s1 σ H1 _ I1 q1) λu s2 ⟨y,H2,I2,r2,q2⟩=>
  bD (ho pins s2 σ H2 x y v u _ I2 r1 r2 q2) λd s3 ⟨z,H3,I3,r3,k,e,q3⟩=>?_)) hm
 subst e
 cases r3
 refine ab5 ?_
 cases k with
 | false=>
  obtain⟨k',e',q'⟩:=q3
  cases e'
  exact ite_ff ⟨H3,I3,q'⟩
 | true=>
  refine ite_tt (test_last (bD (hc pins s3 σ H3 _ I3 q3) λw' s4 ⟨z',H4,I4,r4,q4⟩=>bD (ho' pins s4 σ H4 y z' u w' _ I4 r2 r4 q4) λd' s5 ⟨z2,H5,I5,r5,k2,e2,q5⟩=>?_))
  subst e2
  cases r5
  exact ab5 ⟨H5,I5,q5⟩
def Ql(K:PySem.W.Frag)(x:V)(H:Hp)(k:Bool):Prop :=
 match x with
 | .non=>k=false
 | .bl b=>k=b
 | .int i=>k=(i != 0)
 | .str y=>y.length<=abW/\k=((y.length:Int) != 0)
 | .Lo y=>y.size<=abW/\k=((y.size:Int) != 0)
 | .ref p=>(∃xs,lX K H p xs/\k= !xs.isEmpty)\/(∃xs,fT K H p xs/\k= !xs.isEmpty)\/∃kvs,H p=some (.dK kvs)/\k= !kvs.isEmpty
 | _=>False
theorem yo{κ:Type}{kvs:List (κ×V)}{vs:List (κ×abL)}(r:KV kvs vs):(!vs.isEmpty)= !kvs.isEmpty:=by
 cases r<;>rfl
theorem qj{xs:List V}{its:List abL}(r:Vals xs its):(!its.toArray.isEmpty)= !xs.isEmpty:=by
 cases r<;>simp
theorem lY:(abW:Nat) < 2 ^ 63:=by rw[sizeLine_eq];decide
theorem LW:UN X (λx H Q=>∃k,Ql X.K x H k/\Q k H):=by
 intro pins s σ H x v Q I rx h
 obtain⟨k,e,q⟩:=h
 have hl:=lY
 have hs:abW=16777216:=sizeLine_eq
 cases x with
 | non=>
  cases rx
  have e':k=false:=e
  subst e'
  exact truthy_none ⟨H,I,q⟩
 | bl b=>
  cases rx
  have e':k=b:=e
  subst e'
  exact ab5 ⟨H,I,q⟩
 | int i=>
  obtain⟨t,rfl⟩:=rx
  have e':k=(i != 0):=e
  subst e'
  exact PySem.P.truthy_int ⟨H,I,q⟩
 | str y=>
  obtain⟨t,rfl⟩:=rx
  obtain⟨hy,e'⟩:y.length<=abW/\k=((y.length:Int) != 0):=e
  subst e'
  exact PySem.P.truthy_str (by omega) ⟨H,I.tok _,q⟩
 | Lo y=>
  obtain⟨t,rfl⟩:=rx
  obtain⟨hy,e'⟩:y.size<=abW/\k=((y.size:Int) != 0):=e
  subst e'
  exact PySem.W.truthy_bytes (by omega) ⟨H,I.tok _,q⟩
 | ref p=>
  cases rx
  have e':(∃xs,lX X.K H p xs/\k= !xs.isEmpty)\/(∃xs,fT X.K H p xs/\k= !xs.isEmpty)\/∃kvs,H p=some (.dK kvs)/\k= !kvs.isEmpty:=e
  rcases e' with ⟨xs,hx,e'⟩ | ⟨xs,hx,e'⟩ | ⟨kvs,hx,e'⟩
  ·subst e'
   obtain⟨its,r,pl,hz⟩:=I.list hx
   have hlen:=r.length
   exact wpAny_truthy_list pl.isList (by simp only[a7];omega) ⟨H,I.tok _,by rw[qj r];exact q⟩
  ·subst e'
   obtain⟨its,r,pl,hz⟩:=I.tuple hx
   have hlen:=r.length
   exact truthy_tuple pl (by simp only[a7];omega) ⟨H,I.tok _,by rw[qj r];exact q⟩
  ·subst e'
   obtain⟨hz,hS,vs,r,m⟩:kvs.length<=abW/\(p == sysModules)=false/\∃vs,KV kvs vs/\s.heap.DictOf (b4 X.prog X.w) p vs:=I.hok p _ hx
   have hlen:kvs.length=vs.length:=Paired.length r
   exact wpAny_truthy_dict hS m (by omega) ⟨H,I.tok _,by rw[yo r];exact q⟩
 | _=>exact(show False from e).elim
theorem Dk(ha:PE X a ta)(he:∀whole,isTrue a X.env whole=(do let v <-whole;standAt a.pos;holding [v] (truthy v))) :
  PT X a (λσ H Q=>ta σ H λx H'=>∃k,Ql X.K x H' k/\Q k H'):=by
 intro pins s σ H Q I h
 exact isTrue_plain (bD (ha pins s σ H _ I h) λv s1 ⟨x,H1,I1,r1,q1⟩=>LW pins s1 σ H1 x v Q I1 r1 q1) (he _)
theorem yp:fh X (abO .Add) (λx y H Q=>∃i j,x= .str i/\y= .str j/\i.length+j.length<=abW/\Q (.str (i++j)) H):=by
 intro pins s σ H x y v u Q I rx ry h
 obtain⟨i,j,rfl,rfl,hz,q⟩:=h
 obtain⟨t,rfl⟩:=rx
 obtain⟨t',rfl⟩:=ry
 exact add_str (λt' tk=>⟨.str (i++j),H,I.tok _,⟨_,rfl⟩,q⟩) hz
theorem vals1{x:V}{us:List abL}(r:Vals [x] us):∃u,us=[u]/\RelV x u:=by
 cases r with
 | cons r1 r2=>cases r2;exact⟨_,rfl,r1⟩
theorem vals2{x y:V}{us:List abL}(r:Vals [x,y] us):∃u w',us=[u,w']/\RelV x u/\RelV y w':=by
 cases r with
 | cons r1 r2=>
  cases r2 with
  | cons r3 r4=>cases r4;exact⟨_,_,rfl,r1,r3⟩
theorem Dl:dq X (.builtin "abs") (λxs H Q=>∃i,xs=[.int i]/\Q (.int (if i < 0 then -i else i)) H):=by
 intro pins s σ H xs us Q I r h
 obtain⟨i,rfl,q⟩:=h
 obtain⟨u,rfl,t,rfl⟩:=vals1 r
 exact call_abs_int λu tk=>⟨.int (if i < 0 then -i else i),H,I.tok _,⟨_,rfl⟩,q⟩
theorem Bz(hc:X.calm=true):dq X (.builtin "max") (λxs H Q=>∃i j,xs=[.int i,.int j]/\Q (.int (if j > i then j else i)) H):=by
 intro pins s σ H xs us Q I r h
 obtain⟨i,j,rfl,q⟩:=h
 obtain⟨u,w',rfl,⟨t,rfl⟩,⟨t',rfl⟩⟩:=vals2 r
 refine max_two_ints (I.ok.hd hc) λh' tk k=>⟨_,H,I.kept k,?_,q⟩
 by_cases hj:j > i
 ·rw[if_pos hj,if_pos hj];exact⟨_,rfl⟩
 ·rw[if_neg hj,if_neg hj];exact⟨_,rfl⟩
theorem BA(hc:X.calm=true):dq X (.builtin "min") (λxs H Q=>∃i j,xs=[.int i,.int j]/\Q (.int (if j < i then j else i)) H):=by
 intro pins s σ H xs us Q I r h
 obtain⟨i,j,rfl,q⟩:=h
 obtain⟨u,w',rfl,⟨t,rfl⟩,⟨t',rfl⟩⟩:=vals2 r
 refine min_two_ints (I.ok.hd hc) λh' tk k=>⟨_,H,I.kept k,?_,q⟩
 by_cases hj:j < i
 ·rw[if_pos hj,if_pos hj];exact⟨_,rfl⟩
 ·rw[if_neg hj,if_neg hj];exact⟨_,rfl⟩
theorem uD:dq X (.type "str") (λxs H Q=>∃i,xs=[.int i]/\i.natAbs.log2 < 1920/\Q (.str (toString i)) H):=by
 intro pins s σ H xs us Q I r h
 obtain⟨i,rfl,hz,q⟩:=h
 obtain⟨u,rfl,t,rfl⟩:=vals1 r
 exact PySem.P.str_of_int hz ⟨.str _,H,I.tok _,⟨_,rfl⟩,q⟩
end
structure yq(h:Heap)(x dx C:abF)(mA:Str->Option abL):Prop where
 obj:h.get? x=some (PySem.W.instObj C dx)
 ns:h.Ns1 dx mA
 ne:dx≠x
theorem BB{h:Heap}{dx:abF}{mA:Str->Option abL}(n:h.Ns1 dx mA):∃od,h.get? dx=some od/\∀name,PySem.W.lookIn name od=some (mA name):=by
 obtain⟨o,es,ep,ho,hd,hk,_,hm⟩:=n
 refine⟨o,ho,λname=>?_⟩
 have e:=hm name
 unfold nsFind findBy at e
 rw[<-Array.find?_toList] at e
 unfold PySem.W.lookIn
 rw[hd]
 dsimp only
 split
 ·rename_i y q
  rw[q] at e
  exact congrArg some e
 ·rename_i q
  rw[q] at e
  have a:es.toList.any (·.refKey)=false:=by
   rw[List.any_eq_false]
   intro y hy
   obtain⟨z,t,hkey⟩:=hk y (Array.mem_toList_iff.mp hy)
   simp[DictEntry.refKey,hkey]
  have a':¬es.toList.any (·.refKey)=true:=by rw[a];exact bE
  rw[if_neg a']
  exact congrArg some e
theorem yq.look{h:Heap}{x dx C:abF}{mA:Str->Option abL}(I:yq h x dx C mA):∃od,PySem.W.InstAt h x (PySem.W.instObj C dx) C (some od)/\∀name,PySem.W.lookIn name od=some (mA name) :=
 let ⟨od,ho,hl⟩:=BB I.ns
 ⟨od,⟨I.obj,rfl,rfl,ho⟩,hl⟩
section
variable {prog:abJ} {w:abM} {A:abG} {E:abL->abK->Prop} {s:abK} {K:PySem.W.Frag} {x dx C f:abF} {mA:Str->Option abL} {name:Str} {v:abL}
theorem get_map{expr:Bool}{Q:abL->abK->Prop}(X:K.In s.heap)(I:yq s.heap x dx C mA)(hg:PySem.W.plainGet K C name=true)(hh:PySem.W.hasDictIn K C=true)
  (ha:PySem.W.findIn K (.ref C) name=some none)(hv:mA name=some v)(hv':PySem.W.handedIn v=true)(h:Q v { s with toks:=s.toks+1 }) :
  abY (model prog w) A (getAttr (.ref x) name expr) Q E s:=by
 obtain⟨od,J,hl⟩:=I.look
 exact PySem.W.get_value X J (PySem.W.plainGet_of hg).1 (PySem.W.findObj_own hh ha rfl (by rw[hl,hv])) hv' h
theorem Dm{pl:Sem Bool}{Q:abL×List abL->abK->Prop}(X:K.In s.heap)(I:yq s.heap x dx C mA)(hg:PySem.W.plainGet K C name=true)
  (hf:PySem.W.findIn K (.ref C) name=some (some (.ref f)))(ht:PySem.W.isFn K (.ref f)=true)(hv:mA name=none)(h:Q (.ref f,[.ref x]) s) :
  abY (model prog w) A (getMethod (.ref x) name pl) Q E s:=by
 obtain⟨od,J,hl⟩:=I.look
 exact PySem.W.method_fn X J (PySem.W.plainGet_of hg).1 (PySem.W.plainGet_of hg).2 hf (beq_iff_eq.mp ht) (by show(PySem.W.lookIn name od).map (·.isSome)=some false;rw[hl,hv];rfl) h
theorem Hy{ns:List Str}{Q:Unit->abK->Prop}(X:K.In s.heap)(I:yq s.heap x dx C mA)
  (hs:PySem.W.findIn K (.ref C) "__setattr__"=some (some (.builtin "object.__setattr__")))(hp:PySem.W.plainOver K C=true)(ht:PySem.W.takerIn K C name=some none)(hh:PySem.W.hasDictIn K C=true)
  (hw:PySem.Within mA ns)(hsz:ns.length<=abW)
  (h:∀h',yq h' x dx C (λy=>if y=name then some v else mA y)->nN dx s.heap h'->Q () { s with heap:=h',toks:=s.toks+2 }) :
  abY (model prog w) A (setAttr (.ref x) name v) Q E s:=by
 obtain⟨od,J,hl⟩:=I.look
 refine PySem.W.set_plain X J hs (PySem.W.osa_open (s:={ s with toks:=s.toks+1 }) (r:=none) X J hp ht λb=>?_)
 obtain⟨cd,hc,hd'⟩:=PySem.W.any_some hh
 have hx:s.heap.get? x=some ⟨.ref C,some dx,.plain,#[]⟩:=I.obj
 refine abZ (ab4 (abZ (abZ (wpAny_loadPart hx (abZ (PySem.W.Looks.here (s:={ s with toks:=s.toks+1 }) (PySem.W.looks_clsIn X hc) ?_))))))
 rw[hd']
 refine ab4 (a:=some dx) (abZ (ab4 (abZ ?_)))
 refine wpAny_nsSet1 (s:={ s with toks:=s.toks+1 }) I.ns λh' hn2 hs2=>?_
 obtain⟨oD,esD,epD,Y6,Y7,Y8⟩:=hn2.count (PySem.Within.cons name v hw)
 refine abZ (wpAny_lookBehind Y6 (by rw[Y7];exact pastItsLine_dict (bf Y8 (by rw[ja];omega))) ?_)
 exact ab4 (h _ ⟨(hs2.2 _ (bo I.ne)).trans I.obj,hn2,I.ne⟩ hs2)
theorem Dn{R:Result->abK->Prop}{vs:List abL}{kw:List (Str×abL)}(X:K.In s.heap)(hm:PySem.W.makesIn K C=true)
  (hi:PySem.W.findIn K (.ref C) "__init__"=some (some (.ref f)))(hf:PySem.W.typeIn K (.ref f)=some (.type "function"))
  (h:abQ (model prog w) (A.under (.builtin "type.__call__" ⟨.ref C::vs,kw⟩)) (.call (.ref f) ⟨.ref (s.heap.objs.size+1)::vs,kw⟩) (PySem.W.InitBack (s.heap.objs.size+1) R)
   { s with heap:=(s.heap.push PySem.W.emptyDict).push (PySem.W.instObj C s.heap.objs.size) }) :
  abQ (model prog w) A (.call (.ref C) ⟨vs,kw⟩) R s:=by
 obtain⟨hh,g,d,t,os⟩:=s
 exact PySem.W.make_core (PySem.W.makes_of X hm) (PySem.W.looks_findIn X hi) (λself=>PySem.W.bind_fn X self hf) (.inl rfl) h
end
def jb(f:Str)(v:V):List (Str×V)->List (Str×V)
 | []=>[(f,v)]
 | (g,x)::r=>if g=f then(g,v)::r else(g,x)::jb f v r
theorem oO(f g:Str)(v:V):∀fs:List (Str×V),(jb f v fs).lookup g=if g=f then some v else fs.lookup g
 | []=>by
  show lZ g [(f,v)]=_
  by_cases h:g=f
  ·have hb:(g == f)=true:=beq_iff_eq.mpr h
   simp only[lZ,hb,if_pos h]
  ·have hb:(g == f)=false:=beq_eq_false_iff_ne.mpr h
   simp only[lZ,hb,if_neg h]
 | (k,x)::r=>by
  have ih:=oO f g v r
  rw[show jb f v ((k,x)::r)=(if k=f then(k,v)::r else(k,x)::jb f v r) from rfl]
  by_cases hk:k=f
  ·rw[if_pos hk]
   by_cases h:g=k
   ·have hb:(g == k)=true:=beq_iff_eq.mpr h
    simp only[lZ,hb,if_pos (h.trans hk)]
   ·have hb:(g == k)=false:=beq_eq_false_iff_ne.mpr h
    simp only[lZ,hb,if_neg (λe:g=f=>h (e.trans hk.symm))]
  ·rw[if_neg hk]
   by_cases h:g=k
   ·have hb:(g == k)=true:=beq_iff_eq.mpr h
    simp only[lZ,hb,if_neg (λe:g=f=>hk (h.symm.trans e))]
   ·have hb:(g == k)=false:=beq_eq_false_iff_ne.mpr h
    simp only[lZ,hb]
    exact ih
theorem nQ(f:Str)(v:V):∀fs:List (Str×V),f∈(jb f v fs).map (·.1)/\∀g,g∈fs.map (·.1)->g∈(jb f v fs).map (·.1)
 | []=>⟨by simp[jb],λg h=>by simp at h⟩
 | (k,x)::r=>by
  obtain⟨i1,i2⟩:=nQ f v r
  rw[show jb f v ((k,x)::r)=(if k=f then(k,v)::r else(k,x)::jb f v r) from rfl]
  by_cases hk:k=f
  ·rw[if_pos hk]
   subst hk
   exact⟨by simp,λg h=>by simpa using h⟩
  ·rw[if_neg hk]
   refine⟨?_,λg h=>?_⟩
   ·rw[bw]
    exact bq _ i1
   ·rw[bw] at h ⊢
    rcases List.mem_cons.mp h with e | e
    ·exact List.mem_cons.mpr (.inl e)
    ·exact bq _ (i2 g e)
theorem oP(f:Str)(v:V):∀fs:List (Str×V),(jb f v fs).length<=fs.length+1
 | []=>by simp[jb]
 | (k,x)::r=>by
  have ih:=oP f v r
  rw[show jb f v ((k,x)::r)=(if k=f then(k,v)::r else(k,x)::jb f v r) from rfl]
  by_cases hk:k=f
  ·rw[if_pos hk,ja,ja];omega
  ·rw[if_neg hk,ja,ja];omega
theorem jZ.some_of{v:V}{o:Option abL}(r:jZ (some v) o):∃u,o=some u/\RelV v u:=by
 cases o with
 | none=>exact(show False from r).elim
 | some u=>exact⟨u,rfl,r⟩
theorem jZ.none_of{o:Option abL}(r:jZ none o):o=none:=by
 cases o with
 | none=>rfl
 | some u=>exact(show False from r).elim
theorem BC{v:V}{u:abL}(r:RelV v u):PySem.W.handedIn u=true:=by
 cases v with
 | non=>cases (show u=cH from r);rfl
 | bl b=>cases (show u=Value.bool b from r);rfl
 | int i=>obtain⟨t,e⟩:=(show ∃t,u=ie i t from r);cases e;rfl
 | str x=>obtain⟨t,e⟩:=(show ∃t,u=mK x t from r);cases e;rfl
 | Lo b=>obtain⟨t,e⟩:=(show ∃t,u=Value.bytes b t from r);cases e;rfl
 | i8 b=>obtain⟨t,e⟩:=(show ∃t,u=Value.float b t from r);cases e;rfl
 | ref a=>cases (show u=aO a from r);rfl
 | ty n=>cases (show u=pG n from r);rfl
section
variable {P:abJ} {w:abM} {H H':Hp} {h h':Heap} {a C dx:abF} {fs fs':List (Str×V)}
theorem uE(hok:jX P w H h)(e:H a=some (.ins C dx fs)):∃mA,yq h a dx C mA/\(∀f,jZ (fs.lookup f) (mA f))/\PySem.Within mA (fs.map (·.1))/\fs.length<=1000/\H dx=some (.own a):=by
 obtain⟨d,z,ne,ob,mA,n,r,q⟩:=(show dn P w H h a (.ins C dx fs) from hok a _ e)
 exact⟨mA,⟨ob,n,ne⟩,r,q,z,d⟩
end
structure CV(K:PySem.W.Frag)(C:abF):Prop where
 pg:PySem.W.plainGet K C Str.empty=true
 hd:PySem.W.hasDictIn K C=true
 po:PySem.W.plainOver K C=true
 sa:PySem.W.findIn K (.ref C) "__setattr__"=some (some (.builtin "object.__setattr__"))
theorem CV.get{K:PySem.W.Frag}{C:abF}(c:CV K C)(f:Str):PySem.W.plainGet K C f=true:=c.pg
def l5(K:PySem.W.Frag)(C:abF)(f:Str):Prop:=PySem.W.findIn K (.ref C) f=some none
theorem l5.Qm{K:PySem.W.Frag}{C:abF}{f:Str}(n:l5 K C f):PySem.W.takerIn K C f=some none:=by
 unfold PySem.W.takerIn
 rw[show PySem.W.findIn K (.ref C) f=some none from n]
 rfl
structure Meth(K:PySem.W.Frag)(C:abF)(m:Str)(f:abF):Prop where
 at_:PySem.W.findIn K (.ref C) m=some (some (.ref f))
 fn:PySem.W.isFn K (.ref f)=true
 kp:PySem.W.keepIn K (.ref f)=true
section
variable {X:Cx} {pins:List (abF×Obj)} {σ:St} {H:Hp} {s:abK} {a C dx:abF} {fs:List (Str×V)} {f:Str} {v:V} {A:abG} {E:abL->abK->Prop}
theorem yt{b:Bool}{Q:abL->abK->Prop}(I:Inv X pins σ H s)(e:H a=some (.ins C dx fs))(c:CV X.K C)(n:l5 X.K C f)(l:fs.lookup f=some v)
  (h:∀u s',Inv X pins σ H s'->RelV v u->Q u s'):abY (model X.prog X.w) A (getAttr (.ref a) f b) Q E s:=by
 obtain⟨mA,O,r,_,_,_⟩:=uE I.hok e
 obtain⟨u,hu,ru⟩:=jZ.some_of (v:=v) (o:=mA f) (by rw[<-l];exact r f)
 exact get_map I.sY O (c.get f) c.hd n hu (BC ru) (h u _ (I.tok _) ru)
theorem yu{m:Str}{g:abF}{pl:Sem Bool}{Q:abL×List abL->abK->Prop}(I:Inv X pins σ H s)(e:H a=some (.ins C dx fs))(c:CV X.K C)(k:Meth X.K C m g)(l:fs.lookup m=none)
  (h:Q (.ref g,[.ref a]) s):abY (model X.prog X.w) A (getMethod (.ref a) m pl) Q E s:=by
 obtain⟨mA,O,r,_,_,_⟩:=uE I.hok e
 have hn:mA m=none:=jZ.none_of (by rw[<-l];exact r m)
 exact Dm I.sY O (c.get m) k.at_ k.fn hn h
theorem yv{y:V}{u:abL}{Q:Unit->abK->Prop}(I:Inv X pins σ H s)(e:H a=some (.ins C dx fs))(c:CV X.K C)(n:l5 X.K C f)(hl:fs.length < 1000)(ry:RelV y u)
  (h:∀s',Inv X pins σ (upd H a (.ins C dx (jb f y fs))) s'->Q () s'):abY (model X.prog X.w) A (setAttr (.ref a) f u) Q E s:=by
 obtain⟨mA,O,r,wi,_,ho⟩:=uE I.hok e
 have hz:(fs.map (·.1)).length<=abW:=by rw[bU,sizeLine_eq];omega
 refine Hy I.sY O c.sa c.po n.Qm c.hd wi hz λh' O' sb=>h _ ?_
 have hd:∃o,h'.get? dx=some o:=let ⟨o,_,_,e',_⟩:=O'.ns;⟨o,e'⟩
 refine I.write (x:=a) (e:=dx) (by rw[e];exact gB) (.inr ho) (λb q hb z=>(sb.2 b hb).trans z) hd ?_
 refine⟨by rw[a9 O.ne];exact ho,?_,O.ne,O'.obj,_,O'.ns,λg=>?_,λg hg=>?_⟩
 ·have:=oP f y fs;omega
 ·show jZ ((jb f y fs).lookup g) (if g=f then some u else mA g)
  rw[oO]
  by_cases q:g=f
  ·rw[if_pos q,if_pos q];exact ry
  ·rw[if_neg q,if_neg q];exact r g
 ·by_cases q:g=f
  ·rw[q];exact(nQ f y fs).1
  ·refine(nQ f y fs).2 g (wi g λz=>hg ?_)
   show(if g=f then some u else mA g)=none
   rw[if_neg q];exact z
theorem Inv.made(I:Inv X pins σ H s):Inv X pins σ (upd (upd H s.heap.objs.size (.own (s.heap.objs.size+1))) (s.heap.objs.size+1) (.ins C s.heap.objs.size []))
  { s with heap:=(s.heap.push PySem.W.emptyDict).push (PySem.W.instObj C s.heap.objs.size) }:=by
 have e1:(s.heap.push PySem.W.emptyDict).get? s.heap.objs.size=some PySem.W.emptyDict:=cJ s.heap rfl
 have e2:((s.heap.push PySem.W.emptyDict).push (PySem.W.instObj C s.heap.objs.size)).get? (s.heap.objs.size+1)=some (PySem.W.instObj C s.heap.objs.size):=by
  have:=cJ (s.heap.push PySem.W.emptyDict) (o:=PySem.W.instObj C s.heap.objs.size) rfl
  rwa [yw] at this
 have e3:(s.heap.push PySem.W.emptyDict).Ns s.heap.objs.size (λ_=>none):=⟨PySem.W.emptyDict,#[],_,e1,rfl,(λe he=>absurd he (by simp)),λ_=>rfl⟩
 have I1:=I.laid (a:=s.heap.objs.size) (o:=.own (s.heap.objs.size+1)) (h':=s.heap.push PySem.W.emptyDict) (t':=s.toks) (λb u q=>bA _ q) (aC _) ⟨_,e1⟩
 refine I1.laid (a:=s.heap.objs.size+1) (o:=.ins C s.heap.objs.size []) (t':=s.toks) (λb u q=>bA _ q) (mP (yw _ _)) ?_
 have ne:s.heap.objs.size≠s.heap.objs.size+1:=bN (Nat.lt_succ_self _)
 refine⟨by rw[a9 ne,bC],cL _,ne,e2,λ_=>none,(Heap.Ns1.of_empty e3).at λo q=>bA _ q,λ_=>gB,λy hy=>absurd rfl hy⟩
theorem Hz{prog:abJ}{w:abM}{env:Env}{e:Expr}{f:Str}{pos:Pos}{s:abK}{Q:abL->abK->Prop}(hb:attributeBase e f env (eval e env)=eval e env)
  (h:abY (model prog w) A (eval e env) (λo s₁=>abY (model prog w) A (getAttr o f true) Q E s₁) E s):abY (model prog w) A (eval (.Attribute e f pos) env) Q E s :=
 Attribute_any_ h (by rw[arm_eval_Attribute,hb])
end
def UP(K:PySem.W.Frag)(ta:TE)(f:Str):TE:=λσ H Q=>ta σ H λx H1=>∃a C dx fs v,x= .ref a/\H1 a=some (.ins C dx fs)/\CV K C/\l5 K C f/\fs.lookup f=some v/\Q v H1
def UQ(K:PySem.W.Frag)(ta tv:TE)(f:Str):TS:=λD σ H=>tv σ H λy H1=>ta σ H1 λx H2=>∃a C dx fs,x= .ref a/\H2 a=some (.ins C dx fs)/\CV K C/\l5 K C f/\fs.length < 1000/\
 D.nx σ (upd H2 a (.ins C dx (jb f y fs)))
section
variable {X:Cx} {o e value:Expr} {f:Str} {pos pos' tpos:Pos} {ta tv:TE}
theorem LX(he:PE X e ta)(hb:attributeBase e f X.env (eval e X.env)=eval e X.env):PE X (.Attribute e f pos) (UP X.K ta f):=by
 intro pins s σ H Q I h
 refine Hz hb (bD (he pins s σ H _ I h) λu s1 ⟨x,H1,I1,rx,a,C,dx,fs,v,ex,ea,c,n,l,q⟩=>?_)
 subst ex
 obtain rfl:u=aO a:=rx
 exact yt I1 ea c n l λu' s2 I2 ru=>⟨v,H1,I2,ru,q⟩
theorem LY(ha:PE X o ta)(hv:PE X value tv)(hs:swapsWith value (some (.Attribute o f pos')) pos.line X.env=pure false):PS X (.Assign [.Attribute o f pos'] value pos) (UQ X.K ta tv f):=by
 intro pins s σ H D I h
 refine plainObj_wpAny_Assign_Attribute (bD (hv pins s σ H _ I h) λu s1 ⟨y,H1,I1,ry,q⟩=>bD (ha pins s1 σ H1 _ I1 q) λov s2 ⟨x,H2,I2,rx,a,C,dx,fs,ex,ea,c,n,l,q2⟩=>?_) hs
 subst ex
 obtain rfl:ov=aO a:=rx
 exact yv I2 ea c n l ry λs3 I3=>⟨σ,_,I3,q2⟩
end
section
variable {X:Cx} {pins:List (abF×Obj)} {σ:St} {H:Hp} {s:abK} {A:abG} {E:abL->abK->Prop} {Q:abL->abK->Prop} {c:abL} {b:Bool}
end
structure gD(k:Nat)(A:abG):Prop where
 hd:A.handled=none
 dp:A.depth+3 * k+5 < recursionLimit
 un:A.units+16 * k+200 < cLine
theorem gD.mono{j k:Nat}{A:abG}(r:gD k A)(h:j<=k):gD j A:=⟨r.hd,by have:=r.dp;omega,by have:=r.un;omega⟩
theorem gD.deeper{k:Nat}{A:abG}(r:gD (k+1) A)(env:Env):gD k (A.deeper env) :=
 ⟨r.hd,by have:=r.dp;show A.depth+1+3 * k+5 < _;omega,by have:=r.un;show A.units+3+16 * k+200 < _;omega⟩
theorem yx{A:abG}{C:abF}{us:List abL}{kw:List (Str×abL)}:(A.under (.builtin "type.__call__" ⟨.ref C::us,kw⟩)).depth=A.depth+1:=by
 first | rfl | simp[Kf,Code.weight,Code.isCreation,Code.isGuard,Code.isCaller,Code.frames,Dp,guardIds]
theorem yy{A:abG}{C:abF}{us:List abL}{kw:List (Str×abL)}:(A.under (.builtin "type.__call__" ⟨.ref C::us,kw⟩)).units=A.units+1:=by
 first | rfl | simp[Kf,Code.cUnits,Code.frames,Dp]
theorem gD.make{k:Nat}{A:abG}(r:gD (k+1) A)(C:abF)(us:List abL)(kw:List (Str×abL)):gD k (A.under (.builtin "type.__call__" ⟨.ref C::us,kw⟩)) :=
 ⟨r.hd,by have:=r.dp;rw[yx];omega,by have:=r.un;rw[yy];omega⟩
theorem gD.depth{k:Nat}{A:abG}(r:gD k A):A.depth < recursionLimit:=by have:=r.dp;omega
def UR:TA:=λ_ H Q=>Q [] H
def Qn(ta:TE)(tr:TA):TA:=λσ H Q=>ta σ H λx H1=>tr σ H1 λxs H2=>Q (x::xs) H2
section
variable {X:Cx} {e:Expr} {es:List Expr} {te:TE} {t:TA} {pos:Pos}
theorem LZ:PA X [] UR:=λ_ _ _ _ H Q I h=>yz ⟨[],H,I,.nil,h⟩
theorem HA(ha:PE X e te)(hr:PA X es t)(hs:abX (e::es) X.env=(false,eval e X.env)::abX es X.env:=by rfl):PA X (e::es) (Qn te t):=by
 intro pos pins s σ H Q I h
 rw[hs]
 show abY _ _ (spliced ((false,eval e X.env)::backTo pos (abX es X.env))) _ _ s
 refine qk (bD (ha pins s σ H _ I h) λu s1 ⟨x,H1,I1,r1,q1⟩=>?_)
 exact bD (hr pos pins s1 σ H1 _ I1 q1) λus s2 ⟨xs,H2,I2,r2,q2⟩=>⟨x::xs,H2,I2,.cons r1 r2,q2⟩
def US(t:TA):TE:=λσ H Q=>t σ H λxs H1=>xs.length<=abW/\∀p,H1 p=none->Q (.ref p) (upd H1 p (.tup xs))
def UT(t:TA):TE:=λσ H Q=>t σ H λxs H1=>xs.length<=abW/\∀p,H1 p=none->Q (.ref p) (upd H1 p (.lst xs))
theorem L0{x1}(h:PA X es t):PE X (.Tuple es x1 pos) (US t):=by
 intro pins s σ H Q I hq
 refine wpAny_Tuple_spliced (bD (h pos pins s σ H _ I hq) λus s1 ⟨xs,H1,I1,r,z,q⟩=>⟨by rw[<-r.length];exact z,?_⟩)
 have hf:H1 s1.heap.objs.size=none:=I1.hok.fresh (aC _)
 refine⟨.ref s1.heap.objs.size,upd H1 s1.heap.objs.size (.tup xs),I1.laid (t':=s1.toks) (λb u e=>bA _ e) (aC _) ?_,rfl,q _ hf⟩
 exact⟨z,us,r,⟨_,cJ _ rfl,rfl,_,rfl⟩,uq.new _ _⟩
theorem L3(h:PA X es t):PE X (.List es pos) (UT t):=by
 intro pins s σ H Q I hq
 refine wpAny_List_spliced (bD (h pos pins s σ H _ I hq) λus s1 ⟨xs,H1,I1,r,z,q⟩=>⟨by rw[<-r.length];exact z,?_⟩)
 have hf:H1 s1.heap.objs.size=none:=I1.hok.fresh (aC _)
 refine⟨.ref s1.heap.objs.size,upd H1 s1.heap.objs.size (.lst xs),I1.laid (t':=s1.toks) (λb u e=>bA _ e) (aC _) ?_,rfl,q _ hf⟩
 exact⟨z,us,0,r,cJ _ rfl⟩
end
abbrev Sp:=List V->Hp->VK->XK->Prop
abbrev BD:=List Env->Hp->abK->XK->abL->abK->Prop
structure wk(P:abJ)(w:abM)(K:PySem.W.Frag)(mg:Str->Option abL)(base:Heap)(A:abG)(outer:List Env)(s:abK)(H:Hp):Prop where
 frames:A.frames=some outer
 mod:Mod K mg base
 bs:∀b o,base.get? b=some o->s.heap.get? b=some o/\H b=none
 Lr:base.objs.size<=s.heap.objs.size
 qg:s.heap.FunFrames base outer
 Pn:∀b∈frs outer,H b=none
 hok:jX P w H s.heap
 bare:AllBare s.gens
def CE(outer:List Env)(P:abJ)(w:abM)(H:Hp)(s:abK)(Q:VK)(u:abL)(s':abK):Prop :=
 ∃v H',s'.os=s.os/\AllBare s'.gens/\Un (frs outer) [] H H' s.heap s'.heap/\jX P w H' s'.heap/\RelV v u/\Q v H'
def CR(CX:BD)(outer:List Env)(P:abJ)(w:abM)(H:Hp)(s:abK)(Q:VK)(E:XK)(r:Result)(s':abK):Prop :=
 match r with
 | .ok (.ret u)=>CE outer P w H s Q u s'
 | .ok _=>False
 | .error e=>CX outer H s E e s'
structure FnOk(P:abJ)(w:abM)(K:PySem.W.Frag)(mg:Str->Option abL)(base:Heap)(CX:BD)(k:Nat)(f:abF)(fd:abH)(ps:List Str)(sp:Sp):Prop where
 len:∀vs H Q E,sp vs H Q E->vs.length=ps.length
 run:∀(A:abG)(outer:List Env)(s:abK)(H:Hp)(args:Args)(us:List abL)(vs:List V)(Q:VK)(E:XK),gD k A->wk P w K mg base A outer s H->BindsTo s fd args (ps.zip us)->Vals vs us->sp vs H Q E->
  abQ (model P w) A (.call (.ref f) args) (CR CX outer P w H s Q E) s
theorem FnOk.mono{P:abJ}{w:abM}{K:PySem.W.Frag}{mg:Str->Option abL}{base:Heap}{CX:BD}{j k:Nat}{f:abF}{fd:abH}{ps:List Str}{sp:Sp}(F:FnOk P w K mg base CX j f fd ps sp)(h:j<=k) :
  FnOk P w K mg base CX k f fd ps sp:=⟨F.len,λA outer s H args us vs Q E hr=>F.run A outer s H args us vs Q E (hr.mono h)⟩
theorem wk.make{P:abJ}{w:abM}{K:PySem.W.Frag}{mg:Str->Option abL}{base:Heap}{A:abG}{outer:List Env}{s:abK}{H:Hp}(e:wk P w K mg base A outer s H)(C:abF)(us:List abL)(kw:List (Str×abL)) :
  wk P w K mg base (A.under (.builtin "type.__call__" ⟨.ref C::us,kw⟩)) outer s H:=⟨by first | exact e.frames | (simpa [Kf,Code.envs,Dp,pushEnvs] using e.frames),e.mod,e.bs,e.Lr,e.qg,e.Pn,e.hok,e.bare⟩
section
variable {X:Cx} {pins:List (abF×Obj)} {σ:St} {H:Hp} {s s':abK}
theorem Inv.L4(I:Inv X pins σ H s):wk X.prog X.w X.K X.mg X.base X.A X.stack s H :=
 ⟨I.ok.frames,I.ok.mod,I.bs,bf I.ok.Lr I.sz,I.stack,I.ux,I.hok,I.bare⟩
theorem Inv.after{Q:VK}{u:abL}(I:Inv X pins σ H s)(h:CE X.stack X.prog X.w H s Q u s'):EP X pins σ Q u s':=by
 obtain⟨v,H',os,bare,un,hok,r,q⟩:=h
 obtain⟨hh,g,d,t,os'⟩:=s'
 obtain rfl:os'=s.os:=os
 exact⟨v,H',I.call (h':=hh) (g':=g) (d':=d) (t':=t) (ch:=[]) un hok bare (λb z=>absurd z (by simp)),r,q⟩
end
def Qo(C:abF)(sp:Sp)(L5:List V)(E:XK)(t:TA):TE:=λσ H Q=>t σ H λvs H1=>∀x dx,H1 x=none->H1 dx=none->dx≠x->
 sp (.ref x::(vs++L5)) (upd (upd H1 dx (.own x)) x (.ins C dx [])) (λv H2=>v= .non/\Q (.ref x) H2) E
def Binds(K:PySem.W.Frag)(fd:abH)(ps:List Str)(ds:List abL):Prop :=
 ∀(s:abK)(us:List abL),K.In s.heap->(us++ds).length=ps.length->BindsTo s fd ⟨us,[]⟩ (ps.zip (us++ds))
theorem Binds.all{K:PySem.W.Frag}{fd:abH}{ps:List Str}(h:∀us:List abL,us.length=ps.length->bindArgs fd ⟨us,[]⟩=pure (ps.zip us)):Binds K fd ps []:=λs us _ hl=>by
 rw[jc] at hl ⊢
 exact .of_eq (h us hl)
def Passes(CX:BD)(X:Cx)(E:XK):Prop:=∀(pins:List (abF×Obj))(σ:St)(H:Hp)(s:abK)(e:abL)(s':abK),Inv X pins σ H s->CX X.stack H s E e s'->X.xe e s'
section
variable {X:Cx} {CX:BD} {k:Nat} {f C:abF} {fd:abH} {ps:List Str} {sp:Sp} {L5:List V} {ds:List abL} {E:XK} {x m:Str} {p pos apos:Pos} {e o:Expr} {es:List Expr} {ta:TE} {t:TA}
structure Mk(K:PySem.W.Frag)(C f:abF):Prop where
 makes:PySem.W.makesIn K C=true
 init:PySem.W.findIn K (.ref C) "__init__"=some (some (.ref f))
 fn:PySem.W.isFn K (.ref f)=true
 kp:PySem.W.keepIn K (.ref C)=true
theorem Dq{pins:List (abF×Obj)}{σ:St}{H:Hp}{s:abK}{Q:VK}{us:List abL}{vs:List V}(M:Mk X.K C f)(F:FnOk X.prog X.w X.K X.mg X.base CX k f fd ps sp)(hr:gD (k+1) X.A)(hb:Binds X.K fd ps ds)(hd:Vals L5 ds)
  (hx:Passes CX X E)(I:Inv X pins σ H s)(r:Vals vs us)
  (h:∀x dx,H x=none->H dx=none->dx≠x->sp (.ref x::(vs++L5)) (upd (upd H dx (.own x)) x (.ins C dx [])) (λv H2=>v= .non/\Q (.ref x) H2) E) :
  abY (model X.prog X.w) X.A (call (.ref C) us) (EP X pins σ Q) X.xe s:=by
 have hq:=h (s.heap.objs.size+1) s.heap.objs.size (I.hok.fresh (pI _)) (I.hok.fresh (aC _)) (bN (Nat.lt_succ_self _))
 have I2:=Inv.made (C:=C) I
 have r2:Vals (V.ref (s.heap.objs.size+1)::(vs++L5)) (aO (s.heap.objs.size+1)::(us++ds)):=.cons rfl (r.append hd)
 have hl:(aO (s.heap.objs.size+1)::us++ds).length=ps.length:=by
  have e:=r2.length
  rw[F.len _ _ _ _ hq] at e
  exact e.symm
 refine wpAny_call (Dn (f:=f) I.sY M.makes M.init (beq_iff_eq.mp M.fn) (codeAny_mono (F.run _ X.stack _ _ ⟨aO (s.heap.objs.size+1)::us,[]⟩ (aO (s.heap.objs.size+1)::(us++ds)) _ _ E (hr.make C us [])
  (I2.L4.make C us []) (hb _ (aO (s.heap.objs.size+1)::us) I2.sY hl) r2 hq) λr s' hq'=>?_))
 cases r with
 | error e=>exact hx pins σ _ _ e s' I2 hq'
 | ok fl=>
  cases fl with
  | ret u=>
   obtain⟨v,H',I3,rv,ev,q3⟩:=I2.after hq'
   subst ev
   exact⟨rv,⟨V.ref (s.heap.objs.size+1),H',I3,rfl,q3⟩⟩
  | next=>exact ae hq'
  | brk=>exact ae hq'
  | cont=>exact ae hq'
theorem HB(M:Mk X.K C f)(F:FnOk X.prog X.w X.K X.mg X.base CX k f fd ps sp)(hr:gD (k+1) X.A)(hg:Gl X x)(hm:X.mg x=some (.ref C))(hb:Binds X.K fd ps ds)(hd:Vals L5 ds)(hx:Passes CX X E)
  (ha:PA X (e::es) t)(hdb:(x == ("__debug__":Str))=false:=by decide)(he:abX (e::es) X.env=(false,eval e X.env)::abX es X.env:=by rfl)(hpl:(backTo pos (abX es X.env)).any (·.1)=false:=by rfl) :
  PE X (.Call (.Name x p) (e::es) [] pos) (Qo C sp L5 E t):=by
 intro pins s σ H Q I h
 refine wpAny_Call_Name_kw (uy I hg hm ?_ hdb)
 refine PySem.W.callWith_K (h₀:=X.base) I.ok.mod.Pm M.kp (bD (ha pos pins s σ H _ I h) λus s1 ⟨vs,H1,I1,r,q⟩=>⟨I1.sY,?_⟩) he hpl
 exact Dq M F hr hb hd hx I1 r q
end
section
variable {X:Cx} {CX:BD} {k:Nat} {f C:abF} {fd:abH} {ps ks:List Str} {sp:Sp} {E:XK} {x m:Str} {p pos apos kpos:Pos} {e o:Expr} {es:List Expr} {kws:List Keyword} {te ta:TE} {t tk:TA} {nm:Option Str}
variable {g:List abL->List abL->List abL} {gV:List V->List V->List V}
end
structure FnScope(N P:List Str)(sc:Scope):Prop where
 kind:sc.kind= .function
 co:sc.isCoroutine=false
 gen:sc.isGenerator=false
 nd:N.Nodup
 pre:N.take P.length=P
 par:∀x∈P,sc.names.lookup x=some .local\/sc.names.lookup x=some .cell
 L6:∀y∈sc.names,y.2≠.free
theorem tu{kindOf:Str->Option abI}{x:Str}:∀{binds:List (Str×abL)}{m:Str->Option abL},(∀v,(x,v)∉binds)->bindL kindOf binds m x=m x
 | [],_,_=>rfl
 | (n,v)::r,m,h=>by
  unfold bindL
  rw[tu λw hw=>h w (bq _ hw)]
  split
  ·have:x≠n:=by rintro rfl;exact h v bS
   simp[this]
  ·rfl
theorem tw{kindOf:Str->Option abI}{x:Str}:∀{binds:List (Str×abL)}{m:Str->Option abL},(∀v,(x,v)∉binds)->bindC kindOf binds m x=m x
 | [],_,_=>rfl
 | (n,v)::r,m,h=>by
  unfold bindC
  rw[tw λw hw=>h w (bq _ hw)]
  split
  ·rfl
  ·have:x≠n:=by rintro rfl;exact h v bS
   simp[this]
theorem tB{kindOf:Str->Option abI}{x:Str}{v:abL}:∀{P:List Str}{vs:List abL}{i:Nat}{m:Str->Option abL},P.Nodup->P[i]? =some x->vs[i]? =some v->kindOf x=some .local->
  bindL kindOf (P.zip vs) m x=some v
 | [],_,_,_,_,h,_,_=>by simp at h
 | _::_,[],_,_,_,_,h,_=>by simp at h
 | p::P,w::vs,0,m,nd,h1,h2,hk=>by
  simp at h1 h2;subst h1;subst h2
  show bindL kindOf ((p,w)::P.zip vs) m p=_
  unfold bindL
  rw[tu λv hv=>(List.nodup_cons.mp nd).1 (Aa hv).1,if_pos hk]
  simp
 | p::P,w::vs,i+1,m,nd,h1,h2,hk=>by
  show bindL kindOf ((p,w)::P.zip vs) m x=_
  unfold bindL
  exact tB (i:=i) (List.nodup_cons.mp nd).2 (by simpa using h1) (by simpa using h2) hk
theorem tD{kindOf:Str->Option abI}{x:Str}{v:abL}:∀{P:List Str}{vs:List abL}{i:Nat}{m:Str->Option abL},P.Nodup->P[i]? =some x->vs[i]? =some v->kindOf x≠some .local->
  bindC kindOf (P.zip vs) m x=some v
 | [],_,_,_,_,h,_,_=>by simp at h
 | _::_,[],_,_,_,_,h,_=>by simp at h
 | p::P,w::vs,0,m,nd,h1,h2,hk=>by
  simp at h1 h2;subst h1;subst h2
  show bindC kindOf ((p,w)::P.zip vs) m p=_
  unfold bindC
  rw[tw λv hv=>(List.nodup_cons.mp nd).1 (Aa hv).1,if_neg hk]
  simp
 | p::P,w::vs,i+1,m,nd,h1,h2,hk=>by
  show bindC kindOf ((p,w)::P.zip vs) m x=_
  unfold bindC
  exact tD (i:=i) (List.nodup_cons.mp nd).2 (by simpa using h1) (by simpa using h2) hk
def start(N:List Str)(vs:List V):St:=vs.map some++aS (N.length - vs.length) none
def sr(CX:BD)(P:abJ)(w:abM)(K:PySem.W.Frag)(mg:Str->Option abL)(base:Heap)(N:List Str)(qual:Str)(scope:Scope)(f:abF)(cd:abL)(A:abG)(outer:List Env)(s:abK)(H:Hp)(E:XK):Cx where
 prog:=P
 w:=w
 K:=K
 mg:=mg
 base:=base
 A:=A.deeper (envOfC qual scope s.heap.objs.size f cd)
 N:=N
 s₀:=s
 H₀:=H
 env:=envOfC qual scope s.heap.objs.size f cd
 outer:=outer
 stack:=envOfC qual scope s.heap.objs.size f cd::outer
 ex:=[]
 calm:=true
 fn:=λ_=>true
 pn:=[]
 xe:=λe s'=>abY (model P w) (A.deeper (envOfC qual scope s.heap.objs.size f cd)) (leaving (envOfC qual scope s.heap.objs.size f cd) e) (λ_ s''=>CX outer H s E e s'') (λe' s''=>CX outer H s E e' s'') s'
theorem wq{sc:Scope}{n:Nat}{x:Str}(h:sc.names.lookup x=some .cell):∃c,(cellsFrom n sc.names []).lookup x=some c:=by
 have q:=PySem.W.cellsFrom_some sc.names n [] (.inl h)
 exact Option.isSome_iff_exists.mp q
theorem BE{CX:BD}{P:abJ}{w:abM}{K:PySem.W.Frag}{mg:Str->Option abL}{base:Heap}{N ps:List Str}{qual:Str}{scope:Scope}{f:abF}{cd:abL}{A:abG}{outer:List Env}{s s1:abK}{H:Hp}{E:XK}{us:List abL}{vs:List V}
  (S:FnScope N ps scope)(hd:A.handled=none)(e0:wk P w K mg base A outer s H)(hl:vs.length=ps.length)(r:Vals vs us)
  (x:InCallC s s.heap.objs.size (bindL (envOfC qual scope s.heap.objs.size f cd).kindOf (ps.zip us) λ_=>none) (cellsFrom (s.heap.objs.size+1) scope.names []) (bindC (envOfC qual scope s.heap.objs.size f cd).kindOf (ps.zip us) λ_=>none) s1) :
  Inv (sr CX P w K mg base N qual scope f cd A outer s H E) [] (start N vs) H s1:=by
 have hpl:ps.length<=N.length:=by have:=congrArg l8 S.pre;rw[ql] at this;omega
 obtain⟨h1,tk,rfl,hk⟩:=x.done
 have Qp:∀b:abF,b∉(sr CX P w K mg base N qual scope f cd A outer s H E).ex:=λb z=>absurd (show b∈([]:List abF) from z) (by simp)
 refine⟨⟨e0.mod,S.kind,rfl,rfl,aC _,λy z c h1 h2=>?_,λy hy=>?_,λy c _ h=>?_,λ_=>hd,Around.frames_deeper e0.frames,.inr ⟨rfl,rfl⟩,λb z=>absurd z (Qp b),e0.bs,e0.Lr,λb _ _=>Qp b,λb z=>absurd z (Qp b),e0.qg,e0.Pn⟩,
  rfl,e0.bare,Un.kept hk,⟨_,x.toInCall.ns,λi y v h1 h2 h3=>?_⟩,λy c h=>⟨_,x.cell y c h⟩,e0.hok.fresh (aC _),λy c h=>?_,λp hp=>absurd (show p∈([]:List (abF×Obj)) from hp) (by simp),e0.hok.kept hk,?_⟩
 ·exact name_of_addr x.apart (PySem.mem_of_lookup h1) (PySem.mem_of_lookup h2)
 ·have hy:scope.names.lookup y=some .cell\/scope.names.lookup y=some .free:=hy
  rcases hy with hy | hy
  ·exact wq hy
  ·exact absurd rfl (S.L6 _ (PySem.mem_of_lookup hy))
 ·exact zY (x.above y c (PySem.mem_of_lookup h))
 ·have hi:i < vs.length:=by
   unfold start at h2
   by_cases hi:i < vs.length
   ·exact hi
   ·rw[l9 (by simpa using hi)] at h2
    rw[L7] at h2
    split at h2<;>cases h2
  have ha:vs[i]? =some v:=by
   unfold start at h2
   rw[f9 (by simpa using hi),fk] at h2
   cases e:vs[i]? with
   | none=>rw[e] at h2;cases h2
   | some a=>rw[e] at h2;cases h2;rfl
  obtain⟨u,hu,rv⟩:=r.get ha
  have hp:ps[i]? =some y:=by
   rw[<-S.pre,List.getElem?_take_of_lt (by omega)];exact h1
  have XD:ps.Nodup:=by rw[<-S.pre];exact S.nd.sublist (List.take_sublist _ _)
  refine⟨u,rv,?_⟩
  rcases S.par y (HC hp) with k | k
  ·exact .inl ⟨k,tB XD hp hu k⟩
  ·obtain⟨c,e⟩:=wq (n:=s.heap.objs.size+1) k
   refine .inr ⟨.inl k,c,e,?_⟩
   have q:=x.cell y c e
   rw[tD XD hp hu (by show scope.names.lookup y≠_;rw[k];decide)] at q
   exact q
 ·exact e0.hok.fresh (zY (x.above y c (PySem.mem_of_lookup h)))
 ·unfold start
  show _=N.length
  rw[eV,bU,List.length_replicate]
  omega
theorem Qq{CX:BD}{P:abJ}{w:abM}{K:PySem.W.Frag}{mg:Str->Option abL}{base:Heap}{k:Nat}{f:abF}{name qual:Str}{params:Arguments}{body:List Stmt}{scope:Scope}{dV kV doc pm cdv ct oc:abL}{an od:Option abF}
  {osl:Array (Option abL)}{N ps:List Str}{sp:Sp}(lk:K.lookup f=some ⟨oc,od,.func (PySem.W.fnOf name qual params body scope dV kV doc pm an cdv ct),osl⟩)(hcd:PySem.W.codeIn K cdv qual=true)(S:FnScope N ps scope)
  (len:∀vs H Q E,sp vs H Q E->vs.length=ps.length)
  (hbody:∀(A:abG)(outer:List Env)(s:abK)(H:Hp)(vs:List V)(Q:VK)(E:XK),gD k (A.deeper (envOfC qual scope s.heap.objs.size f cdv))->sp vs H Q E->
   ∃t,C5 (sr CX P w K mg base N qual scope f cdv A outer s H E) body t/\t { nx:=λ_ H'=>Q .non H',rt:=Q } (start N vs) H) :
  FnOk P w K mg base CX (k+1) f (PySem.W.fnOf name qual params body scope dV kV doc pm an cdv ct) ps sp:=by
 refine⟨len,λA outer s H args us vs Q E hr e0 hb r Po=>?_⟩
 have hl:=len _ _ _ _ Po
 have KX:K.In s.heap:=e0.mod.Pm.keeps λb o e=>(e0.bs b o e).1
 have lim:s.heap.NoLimit:=e0.mod.nolimit.keeps λb o e=>(e0.bs b o e).1
 have hkind:∀y∈ps.zip us,scope.names.lookup y.1=some .local\/(scope.names.lookup y.1=some .cell/\((cellsFrom (s.heap.objs.size+1) scope.names []).lookup y.1).isSome=true):=λ⟨n,v⟩ hy=>by
  rcases S.par n (Aa hy).1 with q | q
  ·exact .inl q
  ·exact .inr ⟨q,PySem.W.cellsFrom_some _ _ _ (.inl q)⟩
 refine codeAny_call_function hr.depth (KX _ _ lk) rfl S.co S.gen rfl (PySem.W.codeRec_of KX hcd) (hb _ _ _ _ ?_)
 refine wpAny_newFunctionEnv_cells S.kind hkind λenv he s1 x=>?_
 subst he
 refine⟨lim.keeps x.toInCall.keep,codeAny_func ?_⟩
 obtain⟨t,ht,hq⟩:=hbody A outer s H vs Q E (hr.deeper _) Po
 have I:Inv (sr CX P w K mg base N qual scope f cdv A outer s H E) [] (start N vs) H s1:=BE S hr.hd e0 hl r x
 refine ab2 (ht [] s1 (start N vs) H _ I hq) (λfl s' hs=>?_) λe s' hs=>hs
 have fin:∀{σ':St}{H':Hp}{v:V}{u:abL},Inv (sr CX P w K mg base N qual scope f cdv A outer s H E) [] σ' H' s'->RelV v u->Q v H'->CE outer P w H s Q u s' :=
  λ{σ' H' v u} J rv q=>⟨v,H',J.os,J.bare,J.base,J.hok,rv,q⟩
 cases fl with
 | ret u=>
  obtain⟨v,σ',H',J,rv,q⟩:=hs
  exact fin J rv q
 | next=>
  obtain⟨σ',H',J,q⟩:=hs
  exact fin (v:=V.non) (u:=cH) J rfl q
 | brk=>
  obtain⟨_,_,_,q⟩:=hs
  exact ae q
 | cont=>
  obtain⟨_,_,_,q⟩:=hs
  exact ae q
section
variable {X:Cx} {x:Str} {p pos:Pos} {e:Expr} {es:List Expr} {t:TA} {id T:String} {r:List V->Hp->VK->Prop}
def XE(r:List V->Hp->VK->Prop)(t:TA):TE:=λσ H Q=>t σ H λvs H1=>r vs H1 Q
theorem Dr(hc:dq X (.builtin id) r)(hg:Gl X x)(hm:X.mg x=none)(hv:abP x=some (.builtin id))(ha:PA X (e::es) t)(hn:x≠"__name__":=by decide)(hdb:(x == ("__debug__":Str))=false:=by decide)
  (he:abX (e::es) X.env=(false,eval e X.env)::abX es X.env:=by rfl)(hpl:(backTo pos (abX es X.env)).any (·.1)=false:=by rfl):PE X (.Call (.Name x p) (e::es) [] pos) (XE r t):=by
 intro pins s σ H Q I h
 refine wpAny_Call_Name_kw (nP I hg hm hv ?_ hn hdb)
 exact PyProof.Rows.callWith_builtin1 (bD (ha pos pins s σ H _ I h) λus s1 ⟨vs,H1,I1,r1,q1⟩=>hc pins s1 σ H1 vs us Q I1 r1 q1) he hpl
theorem BF(hc:dq X (.type T) r)(hg:Gl X x)(hm:X.mg x=none)(hv:abP x=some (.type T))(ha:PA X (e::es) t)(hn:x≠"__name__":=by decide)(hdb:(x == ("__debug__":Str))=false:=by decide)
  (he:abX (e::es) X.env=(false,eval e X.env)::abX es X.env:=by rfl)(hpl:(backTo pos (abX es X.env)).any (·.1)=false:=by rfl):PE X (.Call (.Name x p) (e::es) [] pos) (XE r t):=by
 intro pins s σ H Q I h
 refine wpAny_Call_Name_kw (nP I hg hm hv ?_ hn hdb)
 exact uA (bD (ha pos pins s σ H _ I h) λus s1 ⟨vs,H1,I1,r1,q1⟩=>hc pins s1 σ H1 vs us Q I1 r1 q1) he hpl
end
end L2
namespace HT
open PySem PyProof.Rows
section
open PySem.SeqAt
open PySem.AutoSeq1 (wpAny_loadPart')
open PySem.MeetsSeq PySem.MeetsSeq2 PySem.MeetsSeq3
end
section
variable {prog:abJ} {w:abM} {A:abG} {E:abL->abK->Prop} {s:abK}
theorem HD{t b:abF}{vs ws:List abL}{Q:abL->abK->Prop}(ht:IsTup s.heap t vs.toArray)(hb:IsTup s.heap b ws.toArray)(hv:vs≠[])
  (h1:ws=[]->Q (.ref t) s)(h2:ws≠[]->Q (.ref s.heap.objs.size) { s with heap:=s.heap.push { cls:=.type "tuple",data:=.seq (vs++ws).toArray } })
  (hsz:vs.length+ws.length<=abW):abY (model prog w) A (abO .Add (.ref t) (.ref b)) Q E s:=by
 obtain⟨⟨cls,dd,data,sl⟩,ho,hc,n,hd⟩:=id ht
 obtain⟨⟨UU,dd2,data2,sl2⟩,ho2,hc2,n2,hd2⟩:=id hb
 simp only at hc hd hc2 hd2
 subst hc hd hc2 hd2
 have e:vs.toArray++ws.toArray=(vs++ws).toArray:=by simp
 by_cases hw:ws=[]
 ·exact concat_meets ⟨_,ho,rfl⟩ ⟨_,ho2,rfl⟩ noFill_tuple_add seq_tuple_add PySem.F.slot_tuple_add PySem.F.entry_tuple_add (PySem.F.args_tuple_add_2 _ _)
   (tuple_addW1 t b vs.toArray ws.toArray n n2 dd dd2 sl sl2 (by simpa using hv) (by simp[hw])) ⟨ho,ho2,h1 hw⟩
 ·refine concat_meets ⟨_,ho,rfl⟩ ⟨_,ho2,rfl⟩ noFill_tuple_add seq_tuple_add PySem.F.slot_tuple_add PySem.F.entry_tuple_add (PySem.F.args_tuple_add_2 _ _)
   (tuple_addW2 t b vs.toArray ws.toArray n n2 dd dd2 sl sl2 (by simpa using hv) (by simpa using hw) (by rw[a7,a7];exact hsz)) ⟨ho,ho2,?_⟩
  rw[e]
  exact h2 hw
def dD(n d:Nat):Option Int->Nat
 | none=>d
 | some v=>if v < 0 then(v+(n:Int)).toNat else min v.toNat n
theorem L8(n d:Nat)(hd:d<=n)(o:Option Int):dD n d o<=n:=by
 cases o with
 | none=>exact hd
 | some v=>
  show(if v < 0 then(v+(n:Int)).toNat else min v.toNat n)<=n
  by_cases hv:v < 0
  ·rw[if_pos hv];omega
  ·rw[if_neg hv];exact Ab _ _
theorem Ac(v:Int)(n d:Nat):(if v < 0 then max (v+(n:Int)) 0 else min v (n:Int))=((dD n d (some v):Nat):Int):=by
 show(if v < 0 then max (v+(n:Int)) 0 else min v (n:Int))=(((if v < 0 then(v+(n:Int)).toNat else min v.toNat n):Nat):Int)
 by_cases hv:v < 0
 ·simp only[if_pos hv];omega
 ·simp only[if_neg hv];omega
theorem yA(lo hi:Option Int)(n:Nat):Ds lo hi 1 (n:Int)=(((dD n 0 lo:Nat):Int),((dD n n hi:Nat):Int)):=by
 have h1:¬((1:Int) < 0):=by omega
 unfold Ds
 simp only[h1,if_false]
 refine pJ ?_ ?_
 ·cases lo with
  | none=>rfl
  | some v=>exact Ac v n 0
 ·cases hi with
  | none=>rfl
  | some v=>exact Ac v n n
theorem yB(i j:Nat):yC (i:Int) (j:Int) 1=j - i:=by
 unfold yC
 have h1:(1:Int) > 0:=by omega
 simp only[h1,if_true,Int.ediv_one]
 split<;>omega
theorem qm{v:abL}{o:Option Int}{Q:Option Int->abK->Prop}(p:IsPart v o)(h:Q o s):abY (model prog w) A (Builtin.Slice.slicePartIndex v) Q E s:=by
 cases p with
 | none=>exact slicePart_none h
 | int i t=>exact slicePart_int h
theorem iL{sl:abF}{vl vu:abL}{lo hi:Option Int}{n:Nat}{Q:Int×Int×Nat->abK->Prop}(hs:s.heap.IsSliceOf sl vl vu .none)(pl:IsPart vl lo)(pu:IsPart vu hi)
  (h:Q (((dD n 0 lo:Nat):Int),1,dD n n hi - dD n 0 lo) s):abY (model prog w) A (L9 (.ref sl) (pure (n:Int))) Q E s:=by
 obtain⟨os,hos,hcs,hds⟩:=id hs
 unfold L9 Builtin.Slice.sliceFields
 refine abZ (abZ (wpAny_field hos hds (x:=vl) rfl (abZ (wpAny_field hos hds (x:=vu) rfl (abZ (wpAny_field hos hds (x:=.none) rfl (ab4 ?_)))))))
 refine abZ (slicePart_none ?_)
 show abY _ _ (if((1:Int) == 0)=true then _ else _) _ _ s
 rw[if_neg (by decide)]
 refine abZ (qm pl (abZ (qm pu (abZ (ab4 ?_)))))
 show abY _ _ (match Ds lo hi 1 (n:Int) with | (lo,hi)=>pure (lo,(1:Int),yC lo hi 1)) _ _ s
 rw[yA lo hi n]
 show abY _ _ (pure (((dD n 0 lo:Nat):Int),(1:Int),yC ((dD n 0 lo:Nat):Int) ((dD n n hi:Nat):Int) 1)) _ _ s
 rw[yB]
 exact ab4 h
theorem Dt(xs:Array abL)(i k:Nat):((dh k).filterMap λ(m:Nat)=>xs[((i:Int)+(m:Int) * 1).toNat]?).toArray=((xs.toList.drop i).take k).toArray:=by
 have e:(λ(m:Nat)=>xs[((i:Int)+(m:Int) * 1).toNat]?)=λm=>xs[i+m]?:=by
  funext m
  have:((i:Int)+(m:Int) * 1).toNat=i+m:=by omega
  rw[this]
 rw[e]
 have:=pick_run xs i k
 rw[List.filterMap_map] at this
 have e2:((λx=>xs[x]?) ∘ λx=>i+x)=λm=>xs[i+m]?:=rfl
 rw[e2] at this
 rw[this]
theorem mQ{t sl:abF}{items:Array abL}{vl vu:abL}{lo hi:Option Int}{Q:abL->abK->Prop}(ht:IsTup s.heap t items)(hs:s.heap.IsSliceOf sl vl vu .none)(pl:IsPart vl lo)(pu:IsPart vu hi)
  (hw:¬(dD items.size 0 lo=0/\dD items.size items.size hi=items.size))
  (h:Q (.ref s.heap.objs.size) { s with heap:=s.heap.push { cls:=.type "tuple",data:=.seq ((items.toList.drop (dD items.size 0 lo)).take (dD items.size items.size hi - dD items.size 0 lo)).toArray } })
  (hsz:items.size<=abW):abY (model prog w) A (getItem (.ref t) (.ref sl)) Q E s:=by
 have Ad:sizeOk (.seq ((items.toList.drop (dD items.size 0 lo)).take (dD items.size items.size hi - dD items.size 0 lo)).toArray):=by
  show((items.toList.drop (dD items.size 0 lo)).take (dD items.size items.size hi - dD items.size 0 lo)).toArray.size<=abW
  rw[a7,ql,Du,C7]
  omega
 have hj:dD items.size items.size hi<=items.size:=L8 _ _ (aC _) hi
 obtain⟨os,hos,hcs,hds⟩:=id hs
 have Y9:s.TypeIs (.ref sl) "slice":=⟨os,hos,hcs⟩
 unfold getItem
 try with_reducible refine ab1 ?_
 first | refine abZ (ab4 ?_) | skip
 refine abZ (wpAny_sequenceKey ht.typeIs (by decide) ?_)
 refine abZ (wpAny_callSpecial?_slot (name:=pK "__getitem__") ht.typeIs uF
  (wpAny_call_entry uF ht.typeIs entry_tuple_getitem ?_ (args_tuple_getitem _ _)))
 show abY _ _ (yh (.ref t) >>= _) _ _ s
 refine abZ (tupleItemsOf_ ht ?_)
 refine abZ (wpAny_typeOf Y9 ?_)
 rw[if_pos (by decide)]
 refine abZ (iL hs pl pu ?_)
 have hno:¬((((dD items.size 0 lo:Nat):Int) == 0&&(1:Int) == 1&&(dD items.size items.size hi - dD items.size 0 lo) == items.size)=true):=by
  intro q
  rw[dm,dm] at q
  have q1:((dD items.size 0 lo:Nat):Int)=0:=eq_of_beq q.1.1
  have q2:dD items.size items.size hi - dD items.size 0 lo=items.size:=eq_of_beq q.2
  exact hw ⟨by omega,by omega⟩
 show abY _ _ (if(((dD items.size 0 lo:Nat):Int) == 0&&(1:Int) == 1&&(dD items.size items.size hi - dD items.size 0 lo) == items.size)=true then _ else _) _ _ s
 rw[if_neg hno,Dt]
 first
  | exact abZ (m:=qo _) (ab3 (ab4 ⟨_,rfl,ab4 h⟩) Ad)
  | exact abZ (m:=qo _) (ab3 (abZ (ab4 (ab4 ⟨_,rfl,ab4 h⟩))) Ad)
  | exact abZ (abZ (m:=qo _) (ab3 (ab4 (ab4 ⟨_,rfl,ab4 h⟩)) Ad))
  | exact abZ (abZ (m:=qo _) (ab3 (ab4 ⟨_,rfl,ab4 h⟩) Ad))
end
end HT
namespace L2
open PySem PySem.Spec PyProof.Rows
abbrev TO:=St->Hp->(Option Int->Hp->Prop)->Prop
def PO(X:Cx)(e:Option Expr)(t:TO):Prop :=
 ∀(pins:List (abF×Obj))(s:abK)(σ:St)(H:Hp)(Q:Option Int->Hp->Prop),Inv X pins σ H s->t σ H Q->
  abY (model X.prog X.w) X.A (evalPart e X.env) (λu s'=>∃o H',Inv X pins σ H' s'/\IsPart u o/\Q o H') X.xe s
def HE:TO:=λ_ H Q=>Q none H
def Qr(t:TE):TO:=λσ H Q=>t σ H λx H1=>∃i,x= .int i/\Q (some i) H1
section
variable {X:Cx} {e:Expr} {te:TE} {lo hi:Option Expr} {tl th:TO} {pos p2:Pos}
theorem HF:PO X none HE:=by
 intro pins s σ H Q I h
 rw[evalPart_none]
 exact ab4 ⟨none,H,I,.none,h⟩
theorem HG(h:PE X e te):PO X (some e) (Qr te):=by
 intro pins s σ H Q I hw
 rw[evalPart_some]
 refine bD (h pins s σ H _ I hw) λu s1 ⟨x,H1,I1,r1,q1⟩=>?_
 obtain⟨i,rfl,q⟩:=q1
 obtain⟨t,rfl⟩:=r1
 exact⟨some i,H1,I1,.int i t,q⟩
def GV(X:Cx)(r:V->Option Int->Option Int->Hp->VK->Prop):Prop :=
 ∀(pins:List (abF×Obj))(s:abK)(σ:St)(H:Hp)(x:V)(v vl vu:abL)(lo hi:Option Int)(sl:abF)(Q:VK),Inv X pins σ H s->RelV x v->s.heap.IsSliceOf sl vl vu .none->IsPart vl lo->IsPart vu hi->r x lo hi H Q->
  ∃T id,typeLookup (.type T) "__getitem__"=pure (some (.builtin id))/\s.TypeIs v T/\abY (model X.prog X.w) X.A (getItem v (.ref sl)) (EP X pins σ Q) X.xe s
theorem GV.or{r r':V->Option Int->Option Int->Hp->VK->Prop}(h:GV X r)(h':GV X r'):GV X (λx lo hi H Q=>r x lo hi H Q\/r' x lo hi H Q):=by
 intro pins s σ H x v vl vu lo hi sl Q I rx hs pl pu q
 rcases q with q | q
 ·exact h pins s σ H x v vl vu lo hi sl Q I rx hs pl pu q
 ·exact h' pins s σ H x v vl vu lo hi sl Q I rx hs pl pu q
def Y_(r:V->Option Int->Option Int->Hp->VK->Prop)(te:TE)(tl th:TO):TE:=λσ H Q=>te σ H λx H1=>tl σ H1 λl H2=>th σ H2 λu H3=>r x l u H3 Q
theorem qp{r:V->Option Int->Option Int->Hp->VK->Prop}(hr:GV X r)(he:PE X e te)(hl:PO X lo tl)(hu:PO X hi th):PE X (.Subscript e (.Slice lo hi none p2) pos) (Y_ r te tl th):=by
 intro pins s σ H Q I h
 refine Subscript_ (bD (he pins s σ H _ I h) λv s1 ⟨x,H1,I1,r1,q1⟩=>?_)
 refine wpAny_Slice (bD (hl pins s1 σ H1 _ I1 q1) λvl s2 ⟨l,H2,I2,pl,q2⟩=>bD (hu pins s2 σ H2 _ I2 q2) λvu s3 ⟨u,H3,I3,pu,q3⟩=>?_)
 rw[evalPart_none]
 refine ab4 ?_
 have I4:Inv X pins σ H3 { s3 with heap:=s3.heap.push { cls:=.type "slice",data:=.fields #[vl,vu,.none] } }:=I3.kept (t':=s3.toks) λb ob q=>bA _ q
 obtain⟨T,id,hT,ht,hg⟩:=hr pins { s3 with heap:=s3.heap.push { cls:=.type "slice",data:=.fields #[vl,vu,.none] } } σ H3 x v vl vu l u s3.heap.objs.size Q I4 r1 (Heap.IsSliceOf.new ..) pl pu q3
 show abY (model X.prog X.w) X.A (subscriptTail e (.Slice lo hi none p2) v (.ref s3.heap.objs.size)) (EP X pins σ Q) X.xe { s3 with heap:=s3.heap.push { cls:=.type "slice",data:=.fields #[vl,vu,.none] } }
 exact tail_any (ops:=[.ref s3.heap.objs.size,v]) ht hT hg (by with_unfolding_all rfl)
def su(xs:List V)(lo hi:Option Int):List V:=(xs.drop (HT.dD xs.length 0 lo)).take (HT.dD xs.length xs.length hi - HT.dD xs.length 0 lo)
theorem oQ(xs:List V)(lo hi:Option Int):(su xs lo hi).length<=xs.length:=by
 unfold su
 rw[ql,Du]
 omega
def UW(K:PySem.W.Frag):V->Option Int->Option Int->Hp->VK->Prop:=λx lo hi H Q=>∃a xs,x= .ref a/\fT K H a xs/\
 ¬(HT.dD xs.length 0 lo=0/\HT.dD xs.length xs.length hi=xs.length)/\∀p,H p=none->Q (.ref p) (upd H p (.tup (su xs lo hi)))
theorem Dv:GV X (UW X.K):=by
 intro pins s σ H x v vl vu lo hi sl Q I rx hs pl pu h
 obtain⟨a,xs,rfl,hx,hw,q⟩:=h
 cases rx
 obtain⟨its,r,ht,hz⟩:=I.tuple hx
 have hlen:its.toArray.size=xs.length:=by rw[a7];exact r.length.symm
 refine⟨"tuple",_,PyProof.Rows.slot_tuple_getitem.lookup,ht.typeIs,?_⟩
 refine HT.mQ ht hs pl pu (by rw[hlen];exact hw) ?_ (by rw[hlen];exact hz)
 rw[hlen]
 refine⟨.ref s.heap.objs.size,_,I.laid (t':=s.toks) (o:=.tup (su xs lo hi)) (λb ob q=>bA _ q) (aC _) ?_,rfl,q _ (I.hok.fresh (aC _))⟩
 exact⟨bf (oQ xs lo hi) hz,_,(r.drop (HT.dD xs.length 0 lo)).take (HT.dD xs.length xs.length hi - HT.dD xs.length 0 lo),uG _ _,uq.new _ _⟩
def Qs(K:PySem.W.Frag):R2:=λx y H Q=>∃a b xs ys,x= .ref a/\y= .ref b/\fT K H a xs/\fT K H b ys/\xs≠[]/\xs.length+ys.length<=abW/\
 (ys=[]->Q (.ref a) H)/\(ys≠[]->∀p,H p=none->Q (.ref p) (upd H p (.tup (xs++ys))))
theorem Vals.uH{xs:List V}{us:List abL}(r:Vals xs us):us=[]↔xs=[]:=by
 cases r with
 | nil=>simp
 | cons _ _=>simp
theorem HH:fh X (abO .Add) (Qs X.K):=by
 intro pins s σ H x y v u Q I rx ry h
 obtain⟨a,b,xs,ys,rfl,rfl,ha,hb,hx,hz,q1,q2⟩:=h
 cases rx
 cases ry
 obtain⟨its,r1,p1,_⟩:=I.tuple ha
 obtain⟨its2,r2,p2,_⟩:=I.tuple hb
 refine HT.HD p1 p2 (λz=>hx (r1.uH.mp z)) (λz=>⟨.ref a,H,I,rfl,q1 (r2.uH.mp z)⟩) (λz=>?_) (by rw[<-r1.length,<-r2.length];exact hz)
 refine⟨.ref s.heap.objs.size,_,I.laid (t':=s.toks) (o:=.tup (xs++ys)) (λb ob q=>bA _ q) (aC _) ?_,rfl,q2 (λw=>z (r2.uH.mpr w)) _ (I.hok.fresh (aC _))⟩
 exact⟨by rw[eV];exact hz,_,r1.append r2,uG _ _,uq.new _ _⟩
end
def BG(n:Nat)(i:Int):Option Nat:=if 0<=i then(if i < n then some i.toNat else none) else if -(n:Int)<=i then some (i+n).toNat else none
def nK{α:Type}(xs:List α)(i:Int):Option α:=(BG xs.length i).bind λj=>xs[j]?
theorem Ae{n:Nat}{i:Int}{j:Nat}(h:BG n i=some j):seqIndex? i n=some j/\j < n/\-(n:Int)<=i/\i < n:=by
 unfold BG at h
 by_cases h0:0<=i
 ·rw[if_pos h0] at h
  by_cases h1:i < n
  ·rw[if_pos h1] at h
   have e:i.toNat=j:=Option.some.inj h
   exact⟨by rw[seqIndex_of h0 h1,e],by omega,by omega,h1⟩
  ·rw[if_neg h1] at h;cases h
 ·rw[if_neg h0] at h
  by_cases h1:-(n:Int)<=i
  ·rw[if_pos h1] at h
   have e:(i+n).toNat=j:=Option.some.inj h
   exact⟨by rw[seqIndex_neg (by omega) h1,e],by omega,h1,by omega⟩
  ·rw[if_neg h1] at h;cases h
theorem pL{α:Type}{xs:List α}{i:Int}{v:α}(h:nK xs i=some v):∃j,seqIndex? i xs.length=some j/\xs[j]? =some v/\j < xs.length/\-(xs.length:Int)<=i/\i < xs.length:=by
 unfold nK at h
 cases e:BG xs.length i with
 | none=>rw[e] at h;cases h
 | some j=>
  rw[e] at h
  obtain⟨h1,h2,h3,h4⟩:=Ae e
  exact⟨j,h1,h,h2,h3,h4⟩
theorem mR{α:Type}{xs:List α}{j:Nat}{v:α}(h:xs[j]? =some v):nK xs (j:Int)=some v:=by
 have hj:j < xs.length:=(List.getElem?_eq_some_iff.mp h).1
 have e:BG xs.length (j:Int)=some j:=by
  unfold BG
  rw[if_pos (by omega),if_pos (by omega)];simp
 unfold nK;rw[e];exact h
def Af(b:Expr):Prop:=∀o i,subscripted b false o i=operate [o,i] (getItem o i)
def HI(X:Cx)(r:R2):Prop :=
 ∀(value slice:Expr)(pins:List (abF×Obj))(s:abK)(σ:St)(H:Hp)(x y:V)(v u:abL)(Q:VK),Inv X pins σ H s->RelV x v->RelV y u->r x y H Q->
  subscripted slice false v u=operate [v,u] (getItem v u)->abY (model X.prog X.w) X.A (subscriptTail value slice v u) (EP X pins σ Q) X.xe s
def UX(X:Cx)(id:String)(r:V->List V->Hp->VK->Prop):Prop :=
 ∀(pins:List (abF×Obj))(s:abK)(σ:St)(H:Hp)(x:V)(xs:List V)(v:abL)(us:List abL)(Q:VK),Inv X pins σ H s->RelV x v->Vals xs us->r x xs H Q->
  abY (model X.prog X.w) X.A (call (.builtin id) (v::us)) (EP X pins σ Q) X.xe s
section
variable {X:Cx} {a b:Expr} {ta tb:TE} {pos:Pos}
theorem HI.or{r r':R2}(h:HI X r)(h':HI X r'):HI X (λx y H Q=>r x y H Q\/r' x y H Q):=by
 intro value slice pins s σ H x y v u Q I rx ry q hs
 rcases q with q | q
 ·exact h value slice pins s σ H x y v u Q I rx ry q hs
 ·exact h' value slice pins s σ H x y v u Q I rx ry q hs
theorem Qt{r:R2}(hr:HI X r)(ha:PE X a ta)(hb:PE X b tb)(hs:Af b):PE X (.Subscript a b pos) (Qe r ta tb):=by
 intro pins s σ H Q I h
 exact Subscript_ (LO ha hb I h λv u s2 x y H2 I2 rx ry q=>hr a b pins s2 σ H2 x y v u Q I2 rx ry q (hs _ _))
def Qu(K:PySem.W.Frag):R2:=λx y H Q=>∃p xs i v,x= .ref p/\y= .int i/\lX K H p xs/\nK xs i=some v/\Q v H
def Qv(K:PySem.W.Frag):R2:=λx y H Q=>∃p xs i v,x= .ref p/\y= .int i/\fT K H p xs/\nK xs i=some v/\Q v H
def Qw:R2:=λx y H Q=>∃z i c,x= .str z/\y= .int i/\z.length<=abW/\nK z.cps.toList i=some c/\Q (.str ⟨#[c]⟩) H
theorem HJ:HI X (Qu X.K):=by
 intro value slice pins s σ H x y v u Q I rx ry h hs
 obtain⟨p,xs,i,z,rfl,rfl,hq,he,q⟩:=h
 cases rx
 obtain⟨t,rfl⟩:=ry
 obtain⟨its,r,pl,hz⟩:=I.list hq
 obtain⟨j,h1,h2,h3,h4,h5⟩:=pL he
 obtain⟨w,ew,rw'⟩:=r.get h2
 have hl:=r.length
 have hn:=lY
 have fin:EP X pins σ Q w s:=⟨z,H,I,rw',q⟩
 by_cases h0:0<=i
 ·have hj:i.toNat=j:=by
   rw[seqIndex_of h0 h5] at h1
   exact Option.some.inj h1
  exact item_listR pl.isList h0 (by omega) (by rw[hj];simpa using ew) fin hs
 ·have hj:(i+(its.toArray.size:Int)).toNat=j:=by
   rw[seqIndex_neg (by omega) h4] at h1
   rw[a7,<-hl]
   exact Option.some.inj h1
  exact subscriptTail_builtinR (x:=w) pl.isList.typeIs slot_list_getitem.lookup
   (wpAny_getItem_list_neg (Q:=λr s'=>r=w/\EP X pins σ Q r s') pl.isList (by omega) (by rw[a7]<;>omega) (by omega) (by rw[hj];simpa using ew) ⟨rfl,fin⟩) hs
theorem L_:HI X (Qv X.K):=by
 intro value slice pins s σ H x y v u Q I rx ry h hs
 obtain⟨p,xs,i,z,rfl,rfl,hq,he,q⟩:=h
 cases rx
 obtain⟨t,rfl⟩:=ry
 obtain⟨its,r,pl,hz⟩:=I.tuple hq
 obtain⟨j,h1,h2,h3,h4,h5⟩:=pL he
 obtain⟨w,ew,rw'⟩:=r.get h2
 have hl:=r.length
 have hn:=lY
 have fin:EP X pins σ Q w s:=⟨z,H,I,rw',q⟩
 exact subscriptTail_builtinR (x:=w) pl.typeIs slot_tuple_getitem.lookup
  (getItem_tuple (j:=j) (Q:=λr s'=>r=w/\EP X pins σ Q r s') pl (by omega) (by omega) (by rw[a7,<-hl];exact h1) (by simpa using ew) ⟨rfl,fin⟩) hs
theorem Ma:HI X Qw:=by
 intro value slice pins s σ H x y v u Q I rx ry h hs
 obtain⟨z,i,c,rfl,rfl,hz,he,q⟩:=h
 obtain⟨t,rfl⟩:=rx
 obtain⟨t',rfl⟩:=ry
 obtain⟨j,h1,h2,h3,h4,h5⟩:=pL he
 have hl:z.cps.toList.length=z.length:=by simp[Str.length]
 rw[hl] at h1 h4 h5
 have hn:=lY
 exact tail_any (typeIs_str s z t) slot_str_getitem.lookup (getItem_str (c:=c) (by
  have e1:decide (i < -(2 ^ 63:Int))=false:=decide_eq_false (by omega)
  have e2:decide (i >= 2 ^ 63)=false:=decide_eq_false (by omega)
  rw[e1,e2,Bool.or_false]) (by rw[h1];simpa using h2) ⟨.str ⟨#[c]⟩,H,I.tok _,⟨_,rfl⟩,q⟩) hs
def XF(K:PySem.W.Frag):R2:=λx y H Q=>Qu K x y H Q\/Qv K x y H Q\/Qw x y H Q
theorem Mb:HI X (XF X.K):=HJ.or (L_.or Ma)
theorem yD(its:List abL)(n j:Nat)(u:abL):mS (·.setIfInBounds j u) { cls:=.type "list",data:=.seq its.toArray n }={ cls:=.type "list",data:=.seq (its.set j u).toArray n }:=by
 simp[mS]
theorem Inv.lst{pins:List (abF×Obj)}{σ:St}{H:Hp}{s:abK}{p:abF}{xs:List V}(I:Inv X pins σ H s)(h:H p=some (.lst xs)) :
  ∃(its:List abL)(n:Nat),Vals xs its/\s.heap.get? p=some { cls:=.type "list",data:=.seq its.toArray n }/\xs.length<=abW:=by
 obtain⟨z,its,n,r,e⟩:=I.hok p _ h
 exact⟨its,n,r,e,z⟩
theorem Inv.Mc{pins:List (abF×Obj)}{σ:St}{H:Hp}{s:abK}{p:abF}{xs ys:List V}{its its':List abL}{n n':Nat}{f:Obj->Obj}(I:Inv X pins σ H s)(h:H p=some (.lst xs))
  (ho:s.heap.get? p=some { cls:=.type "list",data:=.seq its.toArray n })(hf:f { cls:=.type "list",data:=.seq its.toArray n }={ cls:=.type "list",data:=.seq its'.toArray n' })(r:Vals ys its')(hz:ys.length<=abW)(t:Nat) :
  Inv X pins σ (upd H p (.lst ys)) { s with heap:=s.heap.update p f,toks:=t }:=by
 have e:(s.heap.update p f).get? p=some { cls:=.type "list",data:=.seq its'.toArray n' }:=by
  rw[yE f ho (by rw[hf]<;>rfl),hf]
 refine I.write (x:=p) (e:=p) (by rw[h];trivial) (.inl rfl) (λb u hb q=>(qq _ _ (bo hb)).trans q) ⟨_,e⟩ ?_
 exact⟨hz,its',n',r,e⟩
def Qx:V->V->V->Hp->(Hp->Prop)->Prop:=λo i v H Q=>∃p xs k j,o= .ref p/\i= .int k/\H p=some (.lst xs)/\BG xs.length k=some j/\Q (upd H p (.lst (xs.set j v)))
theorem set_list:Qa X Qx:=by
 intro pins s σ H o i v ov iv u Q I ro ri rv h
 obtain⟨p,xs,k,j,rfl,rfl,hp,hj,q⟩:=h
 cases ro
 obtain⟨t,rfl⟩:=ri
 obtain⟨its,n,r,ho,hz⟩:=I.lst hp
 obtain⟨h1,h2,h3,h4⟩:=Ae hj
 have hl:=r.length
 have hn:=lY
 have I':Inv X pins σ (upd H p (.lst (xs.set j v))) { s with heap:=s.heap.update p (mS (·.setIfInBounds j u)) } :=
  I.Mc hp ho (yD its n j u) (r.set rv j) (by rw[qr];exact hz) s.toks
 by_cases h0:0<=k
 ·have hk:k.toNat=j:=by
   rw[seqIndex_of h0 h4] at h1
   exact Option.some.inj h1
  exact PySem.W.ki_setAt ho h0 (by omega) (by rw[a7,<-hl];exact h4) (by rw[hk];exact⟨_,I',q⟩)
 ·have hk:(k+(its.toArray.size:Int)).toNat=j:=by
   rw[seqIndex_neg (by omega) h3] at h1
   rw[a7,<-hl]
   exact Option.some.inj h1
  exact PySem.W.ki_setBack ho (by omega) (by rw[a7,<-hl];exact h3) (by omega) (by rw[hk];exact⟨_,I',q⟩)
theorem uI(lo hi:Option Int)(n:Nat):(sliceBounds lo hi none n).1=((HT.dD n 0 lo:Nat):Int)/\(sliceBounds lo hi none n).2.1=((HT.dD n n hi:Nat):Int)/\(sliceBounds lo hi none n).2.2=1:=by
 refine⟨?_,?_,rfl⟩
 ·cases lo with
  | none=>simp[sliceBounds,HT.dD]
  | some i=>
   simp only[sliceBounds,HT.dD,Option.getD_none,show(1:Int) > 0 by decide,if_true]
   by_cases h:i < 0
   ·simp only[h,if_true]<;>omega
   ·simp only[h,if_false]<;>omega
 ·cases hi with
  | none=>simp[sliceBounds,HT.dD]
  | some i=>
   simp only[sliceBounds,HT.dD,Option.getD_none,show(1:Int) > 0 by decide,if_true]
   by_cases h:i < 0
   ·simp only[h,if_true]<;>omega
   ·simp only[h,if_false]<;>omega
theorem sx(its:List abL)(lo hi:Option Int):slicePick its.toArray lo hi none=((its.drop (HT.dD its.length 0 lo)).take (HT.dD its.length its.length hi - HT.dD its.length 0 lo)).toArray:=by
 obtain⟨h1,h2,h3⟩:=uI lo hi its.toArray.size
 unfold slicePick
 rw[h1,h2,h3]
 simp only[sliceRange_one,pick_run,a7]<;>rfl
def UY(K:PySem.W.Frag):V->Option Int->Option Int->Hp->VK->Prop:=λx lo hi H Q=>∃a xs,x= .ref a/\lX K H a xs/\∀p,H p=none->Q (.ref p) (upd H p (.lst (su xs lo hi)))
theorem HK:GV X (UY X.K):=by
 intro pins s σ H x v vl vu lo hi sl Q I rx hs pl pu h
 obtain⟨a,xs,rfl,hx,q⟩:=h
 cases rx
 obtain⟨its,r,ht,hz⟩:=I.list hx
 have hlen:=r.length
 refine⟨"list",_,slot_list_getitem.lookup,ht.isList.typeIs,?_⟩
 refine wpAny_getItem_list_slice ht.isList hs pl pu .none (by simp) ?_ (by rw[a7]<;>omega)
 rw[sx,<-hlen]
 refine⟨.ref s.heap.objs.size,_,I.laid (t':=s.toks) (o:=.lst (su xs lo hi)) (λb ob q=>bA _ q) (aC _) ?_,rfl,q _ (I.hok.fresh (aC _))⟩
 exact⟨bf (oQ xs lo hi) hz,_,0,(r.drop (HT.dD xs.length 0 lo)).take (HT.dD xs.length xs.length hi - HT.dD xs.length 0 lo),cJ _ rfl⟩
def lQ:V->Bool
 | .non=>true
 | .bl _=>true
 | .int _=>true
 | .str _=>true
 | _=>false
def HL:V->V->Bool
 | .non,.non=>true
 | .bl a,.bl b=>a == b
 | .bl a,.int b=>(if a then 1 else 0) == b
 | .int a,.bl b=>a == (if b then 1 else 0)
 | .int a,.int b=>a == b
 | .str a,.str b=>a == b
 | _,_=>false
theorem Md{A:abG}{s:abK}{y x:V}{u v:abL}(ry:RelV y u)(rx:RelV x v)(fy:lQ y=true)(fx:lQ x=true):SeqAt.EqAt A s u v (HL y x):=by
 cases y with
 | non=>
  cases ry
  cases x with
  | non=>cases rx;exact Hg _
  | bl b=>cases rx;exact SeqAt.EqAt.none_bool b
  | int b=>obtain⟨t,rfl⟩:=rx;exact Hd b t
  | str b=>obtain⟨t,rfl⟩:=rx;exact Hf b t
  | _=>exact absurd (show false=true from fx) bE
 | bl a=>
  cases ry
  cases x with
  | non=>cases rx;exact SeqAt.EqAt.bool_none a
  | bl b=>cases rx;exact SeqAt.EqAt.bool_bool a b
  | int b=>obtain⟨t,rfl⟩:=rx;exact SeqAt.EqAt.bool_int a b t
  | str b=>obtain⟨t,rfl⟩:=rx;exact SeqAt.EqAt.bool_str a b t
  | _=>exact absurd (show false=true from fx) bE
 | int a=>
  obtain⟨t',rfl⟩:=ry
  cases x with
  | non=>cases rx;exact G9 a t'
  | bl b=>cases rx;exact SeqAt.EqAt.int_bool a t' b
  | int b=>obtain⟨t,rfl⟩:=rx;exact SeqAt.EqAt.int_int a t' b t
  | str b=>obtain⟨t,rfl⟩:=rx;exact G8 a t' b t
  | _=>exact absurd (show false=true from fx) bE
 | str a=>
  obtain⟨t',rfl⟩:=ry
  cases x with
  | non=>cases rx;exact Ha a t'
  | bl b=>cases rx;exact SeqAt.EqAt.str_bool a t' b
  | int b=>obtain⟨t,rfl⟩:=rx;exact G_ a t' b t
  | str b=>obtain⟨t,rfl⟩:=rx;exact SeqAt.EqAt.str_str a t' b t
  | _=>exact absurd (show false=true from fx) bE
 | _=>exact absurd (show false=true from fy) bE
def yF(x:V)(u:abL):Bool:=match u with
 | .none=>HL .non x
 | .bool b=>HL (.bl b) x
 | .int i _=>HL (.int i) x
 | .str z _=>HL (.str z) x
 | _=>false
theorem Dx{x y:V}{u:abL}(r:RelV y u)(f:lQ y=true):yF x u=HL y x:=by
 cases y with
 | non=>cases r;rfl
 | bl b=>cases r;rfl
 | int i=>obtain⟨t,rfl⟩:=r;rfl
 | str z=>obtain⟨t,rfl⟩:=r;rfl
 | _=>exact absurd (show false=true from f) bE
theorem mT{x:V}:∀{xs:List V}{us:List abL},Vals xs us->xs.all lQ=true->us.any (yF x)=xs.any λy=>HL y x
 | _,_,.nil,_=>rfl
 | y::xs,u::us,.cons r t,f=>by
  rw[dG,dm] at f
  rw[fm,fm,Dx r f.1,mT t f.2]
theorem j6{A:abG}{s:abK}{x:V}{v:abL}(rx:RelV x v)(fx:lQ x=true):∀{xs:List V}{us:List abL},Vals xs us->xs.all lQ=true->∀u∈us,SeqAt.EqAt A s u v (yF x u)
 | _,_,.nil,_=>λu hu=>by cases hu
 | y::xs,u::us,.cons r t,f=>λu' hu=>by
  rw[dG,dm] at f
  rcases List.mem_cons.mp hu with rfl | hu
  ·rw[Dx r f.1];exact Md r rx f.1 fx
  ·exact j6 rx fx t f.2 u' hu
def Ti(x:V)(xs:List V):Bool:=xs.any λy=>HL y x
def XG(K:PySem.W.Frag)(neg:Bool):R2:=λx y H Q=>∃p xs,y= .ref p/\(lX K H p xs\/fT K H p xs)/\lQ x=true/\xs.all lQ=true/\Q (.bl (if neg then !Ti x xs else Ti x xs)) H
theorem BH:fh X (abS .In) (XG X.K false):=by
 intro pins s σ H x y v u Q I rx ry h
 obtain⟨p,xs,rfl,hq,fx,fs,q⟩:=h
 cases ry
 rcases hq with hq | hq
 ·obtain⟨its,r,pl,hz⟩:=I.list hq
  refine SeqAt.in_listAt (yF x) pl.isList (λw hw=>j6 rx fx r fs w (by simpa using hw)) ⟨.bl _,H,I,rfl,?_⟩
  rw[show its.toArray.any (yF x)=its.any (yF x) by simp,mT r fs]
  exact q
 ·obtain⟨its,r,pl,hz⟩:=I.tuple hq
  refine SeqAt.in_tupleAt (yF x) pl (λw hw=>j6 rx fx r fs w (by simpa using hw)) ⟨.bl _,H,I,rfl,?_⟩
  rw[show its.toArray.any (yF x)=its.any (yF x) by simp,mT r fs]
  exact q
theorem uJ:fh X (abS .NotIn) (XG X.K true):=by
 intro pins s σ H x y v u Q I rx ry h
 obtain⟨p,xs,rfl,hq,fx,fs,q⟩:=h
 cases ry
 rcases hq with hq | hq
 ·obtain⟨its,r,pl,hz⟩:=I.list hq
  refine SeqAt.notIn_listAt (yF x) pl.isList (λw hw=>j6 rx fx r fs w (by simpa using hw)) ⟨.bl _,H,I,rfl,?_⟩
  rw[show its.toArray.any (yF x)=its.any (yF x) by simp,mT r fs]
  exact q
 ·obtain⟨its,r,pl,hz⟩:=I.tuple hq
  refine SeqAt.notIn_tupleAt (yF x) pl (λw hw=>j6 rx fx r fs w (by simpa using hw)) ⟨.bl _,H,I,rfl,?_⟩
  rw[show its.toArray.any (yF x)=its.any (yF x) by simp,mT r fs]
  exact q
theorem uK:fh X (abS .NotIn) (λx y H Q=>∃i j,x= .str i/\y= .str j/\Q (.bl (!(!(ym j i 0 j.length 1).isEmpty))) H):=by
 intro pins s σ H x y v u Q I rx ry h
 obtain⟨i,j,rfl,rfl,q⟩:=h
 obtain⟨t,rfl⟩:=rx
 obtain⟨t',rfl⟩:=ry
 exact notIn_str ⟨.bl _,H,I,rfl,q⟩
theorem uL:dq X (.builtin "len") (λxs H Q=>∃p ys,xs=[.ref p]/\(lX X.K H p ys\/fT X.K H p ys)/\Q (.int ys.length) H):=by
 intro pins s σ H xs us Q I r h
 obtain⟨p,ys,rfl,hq,q⟩:=h
 obtain⟨u,rfl,rx⟩:=vals1 r
 cases rx
 have hn:=lY
 rcases hq with hq | hq
 ·obtain⟨its,r',pl,hz⟩:=I.list hq
  have hlen:=r'.length
  exact Calls.call_len_list pl.isList (by simp only[a7]<;>omega) ⟨.int ys.length,H,I.tok _,⟨s.toks+1,by rw[a7,hlen]⟩,q⟩
 ·obtain⟨its,r',pl,hz⟩:=I.tuple hq
  have hlen:=r'.length
  exact len_tuple pl (by simp only[a7]<;>omega) ⟨.int ys.length,H,I.tok _,⟨s.toks+1,by rw[a7,hlen]⟩,q⟩
theorem uM:dq X (.builtin "len") (λxs H Q=>∃z,xs=[.str z]/\z.length<=abW/\Q (.int z.length) H):=by
 intro pins s σ H xs us Q I r h
 obtain⟨z,rfl,hz,q⟩:=h
 obtain⟨u,rfl,t,rfl⟩:=vals1 r
 have hn:=lY
 exact len_str (by omega) ⟨.int z.length,H,I.tok _,⟨_,rfl⟩,q⟩
theorem dq.or{f:abL}{r r':List V->Hp->VK->Prop}(h:dq X f r)(h':dq X f r'):dq X f (λxs H Q=>r xs H Q\/r' xs H Q):=by
 intro pins s σ H xs us Q I rs q
 rcases q with q | q
 ·exact h pins s σ H xs us Q I rs q
 ·exact h' pins s σ H xs us Q I rs q
theorem uN:dq X (.type "list") (λxs H Q=>∃p ys,xs=[.ref p]/\(lX X.K H p ys\/fT X.K H p ys)/\∀l,H l=none->Q (.ref l) (upd H l (.lst ys))):=by
 intro pins s σ H xs us Q I r h
 obtain⟨p,ys,rfl,hq,q⟩:=h
 obtain⟨u,rfl,rx⟩:=vals1 r
 cases rx
 have fin:∀(its:List abL),Vals ys its->ys.length<=abW->∀(h':Heap)(c':Nat),(∀b o',s.heap.get? b=some o'->h'.get? b=some o')->
   h'.get? s.heap.objs.size=some { cls:=.type "list",dict:=none,data:=.seq its.toArray c',slots:=#[] }->EP X pins σ Q (.ref s.heap.objs.size) { s with heap:=h' }:=λits r' hz h' c' kp e=>
  ⟨.ref s.heap.objs.size,_,I.laid (t':=s.toks) kp (aC _) (show dn X.prog X.w _ h' _ (.lst ys) from⟨hz,its,c',r',e⟩),rfl,q _ (I.hok.fresh (aC _))⟩
 rcases hq with hq | hq
 ·obtain⟨its,r',pl,hz⟩:=I.list hq
  have hlen:=r'.length
  obtain⟨o,ho,hc,n,hd⟩:=pl.isList
  exact call_list_seq p (.inl rfl) ho hc hd (λh' c' kp e=>fin its r' hz h' c' kp e) (by simp only[a7]<;>omega)
 ·obtain⟨its,r',pl,hz⟩:=I.tuple hq
  have hlen:=r'.length
  obtain⟨o,ho,hc,n,hd⟩:=pl
  exact call_list_seq p (.inr rfl) ho hc hd (λh' c' kp e=>fin its r' hz h' c' kp e) (by simp only[a7]<;>omega)
theorem sy:dq X (.type "tuple") (λxs H Q=>∃p ys,xs=[.ref p]/\((lX X.K H p ys/\∀l,H l=none->Q (.ref l) (upd H l (.tup ys)))\/(fT X.K H p ys/\Q (.ref p) H))):=by
 intro pins s σ H xs us Q I r h
 obtain⟨p,ys,rfl,h⟩:=h
 obtain⟨u,rfl,rx⟩:=vals1 r
 cases rx
 rcases h with ⟨hq,q⟩ | ⟨hq,q⟩
 ·obtain⟨its,r',pl,hz⟩:=I.list hq
  have hlen:=r'.length
  refine call_tuple_list pl.isList (λh' kp=>?_) (by simp only[a7]<;>omega)
  have I1:Inv X pins σ H { s with heap:=h' }:=I.kept (t':=s.toks) kp
  have I2:Inv X pins σ (upd H h'.objs.size (.tup ys)) { s with heap:=h'.push { cls:=.type "tuple",data:=.seq its.toArray } } :=
   I1.laid (t':=s.toks) (λb o e=>bA _ e) (aC _) (show dn X.prog X.w _ _ _ (.tup ys) from⟨hz,its,r',uG _ _,uq.new _ _⟩)
  exact⟨.ref h'.objs.size,_,I2,rfl,q _ (I1.hok.fresh (aC _))⟩
 ·obtain⟨its,r',pl,hz⟩:=I.tuple hq
  exact call_tuple_same pl ⟨.ref p,H,I,rfl,q⟩
def XH(K:PySem.W.Frag)(T:String)(x:V)(H:Hp):Prop:=match x with
 | .str _=>T="str"
 | .int _=>T="int"
 | .ref p=>(T="list"/\∃xs,lX K H p xs)\/(T="tuple"/\((∃o,K.lookup p=some o/\o.cls= .type "tuple"/\o.dict=none)\/∃xs,H p=some (.tup xs)))\/
   (T="dict"/\((∃kvs,H p=some (.dK kvs))\/∃kvs,H p=some (.dT kvs)))\/(T="set"/\∃S n,H p=some (.set S n))\/(T="dict"/\∃kvs,H p=some (.dN kvs))
 | _=>False
theorem Me{pins:List (abF×Obj)}{σ:St}{H:Hp}{s:abK}{T:String}{x:V}{v:abL}(I:Inv X pins σ H s)(r:RelV x v)(ty:XH X.K T x H) :
  s.TypeIs v T/\∀a,v= .ref a->∃ob,s.heap.get? a=some ob/\ob.dict=none:=by
 cases x with
 | str z=>
  obtain⟨t,rfl⟩:=r
  cases (show T="str" from ty)
  exact⟨typeIs_str s z t,λ_ e=>nomatch e⟩
 | int i=>
  obtain⟨t,rfl⟩:=r
  cases (show T="int" from ty)
  exact⟨typeIs_int s i t,λ_ e=>nomatch e⟩
 | ref p=>
  cases r
  rcases ty with ⟨rfl,xs,hq⟩ | ⟨rfl,⟨o,hk,hc,hd⟩ | ⟨xs,hk⟩⟩ | ⟨rfl,hk⟩ | ⟨rfl,S,n,hk⟩ | ⟨rfl,kvs,hk⟩
  ·obtain⟨its,_,pl,_⟩:=I.list hq
   refine⟨pl.isList.typeIs,λa e=>?_⟩
   cases e
   obtain⟨o,n,e,c,hd,_⟩:=pl
   exact⟨o,e,hd⟩
  ·refine⟨⟨o,I.sY p o hk,hc⟩,λa e=>?_⟩
   cases e
   exact⟨o,I.sY _ o hk,hd⟩
  ·obtain⟨_,_,_,⟨o,e1,e2,_⟩,nd⟩:=I.hok p _ hk
   refine⟨⟨o,e1,e2⟩,λa e=>?_⟩
   cases e
   exact⟨o,e1,nd o e1⟩
  ·have z:∃o,s.heap.get? p=some o/\o.ExactDict:=by
    rcases hk with ⟨kvs,hk⟩ | ⟨kvs,hk⟩
    ·obtain⟨_,_,_,_,o,_,_,e,ex,_⟩:=I.hok p _ hk
     exact⟨o,e,ex⟩
    ·obtain⟨_,_,_,_,o,_,_,e,ex,_⟩:=I.hok p _ hk
     exact⟨o,e,ex⟩
   obtain⟨o,e,ex⟩:=z
   refine⟨⟨o,e,ex.1⟩,λa e2=>?_⟩
   cases e2
   exact⟨o,e,ex.2.1⟩
  ·obtain⟨o,_,_,_,e,ex,_⟩:=I.hok p _ hk
   refine⟨⟨o,e,ex.1⟩,λa e2=>?_⟩
   cases e2
   exact⟨o,e,ex.2.1⟩
  ·obtain⟨_,_,_,_,o,_,_,e,ex,_⟩:=I.hok p _ hk
   refine⟨⟨o,e,ex.1⟩,λa e2=>?_⟩
   cases e2
   exact⟨o,e,ex.2.1⟩
 | _=>exact ae ty
def Y'(K:PySem.W.Frag)(T:String)(r:V->List V->Hp->VK->Prop)(to:TE)(t:TA):TE:=λσ H Q=>to σ H λx H1=>XH K T x H1/\t σ H1 λxs H2=>r x xs H2 Q
variable {o e:Expr} {es:List Expr} {to:TE} {t:TA} {name:Str} {apos cpos:Pos} {T id:String} {r:V->List V->Hp->VK->Prop}
theorem Qy(pa:PlainAttrs T)(slot:Slot T name id)(hty:typeOf (.builtin id)=pure (.type "method_descriptor"))(hm:UX X id r)(ho:PE X o to)(ha:PA X (e::es) t)
  (hbase:attributeBase o name X.env (eval o X.env)=eval o X.env:=by rfl)
  (hfew:((backTo cpos (abX (e::es) X.env)).all (λx=> !x.1)&&(backToKw cpos (keywordEach [] X.env)).all (λx=>x.1.isSome)
   &&decide ((e::es).length+([]:List Keyword).length+(if([]:List Keyword).isEmpty then 0 else 1) < 30))=true:=by rfl)
  (hline:(apos.endLine == cpos.line)=true:=by rfl)(hs:abX (e::es) X.env=(false,eval e X.env)::abX es X.env:=by rfl)(hplain:(backTo cpos (abX es X.env)).any (·.1)=false:=by rfl) :
  PE X (.Call (.Attribute o name apos) (e::es) [] cpos) (Y' X.K T r to t):=by
 intro pins s σ H Q I h
 refine wpAny_Call_method_late hbase hfew hline rfl (bD (ho pins s σ H _ I h) λv s1 ⟨x,H1,I1,r1,ty,q1⟩=>?_)
 obtain⟨h1,h2⟩:=Me I1 r1 ty
 refine⟨T,id,pa,slot,hty,h1,h2,?_⟩
 have hA:=ha cpos pins s1 σ H1 _ I1 q1
 rw[hs] at hA ⊢
 refine yG (by show(false||(backTo cpos (abX es X.env)).any (·.1))=false;rw[hplain]<;>rfl) (yH ?_)
 exact bD hA λus s2 ⟨vs,H2,I2,r2,q2⟩=>hm pins s2 σ H2 x vs v us Q I2 r1 r2 q2
/- xs.append(e),list.index on a Dy tuple .. are UX facts of 06m -/
end
def UZ(X:Cx)(id:String)(r:V->List V->Hp->VK->Prop):Prop :=
 ∀(pins:List (abF×Obj))(s:abK)(σ:St)(H:Hp)(x:V)(xs:List V)(v:abL)(us:List abL)(Q:VK),Inv X pins σ H s->RelV x v->Vals xs us->r x xs H Q->
  abY (model X.prog X.w) X.A (call (.builtin id) (v::us)) (EP X pins σ Q) X.xe s
theorem Vals.one:∀{x:V}{us:List abL},Vals [x] us->∃u,us=[u]/\RelV x u
 | _,_,.cons r .nil=>⟨_,rfl,r⟩
theorem Vals.rep{xs:List V}{us:List abL}(h:Vals xs us):∀k:Nat,Vals (aS k xs).flatten (aS k us).flatten
 | 0=> .nil
 | k+1=>by
  rw[ig,ig,qu,qu]
  exact Vals.append h (Vals.rep h k)
theorem foldl_rep(its:List abL):∀(k:Nat)(acc:List abL),
  qv (λx1 x2=>x1++x2) acc.toArray (aS k its.toArray)=(acc++(aS k its).flatten).toArray
 | 0,acc=>by simp
 | k+1,acc=>by
  have e:acc.toArray++its.toArray=(acc++its).toArray:=by simp
  have e2:(acc++its)++(aS k its).flatten=acc++(aS (k+1) its).flatten:=by
   rw[ig,qu,qw]
  rw[<-e2,<-foldl_rep its k (acc++its),<-e,ig,yI]
section
variable {X:Cx} {pins:List (abF×Obj)} {σ:St} {H:Hp} {s:abK} {l b:abF} {xs ys zs:List V}
theorem Inv.Mf{its its':List abL}{n:Nat}{f:Array abL->Array abL}{t':Nat}(I:Inv X pins σ H s)(hH:H l=some (.lst xs))
  (e:s.heap.get? l=some { cls:=.type "list",data:=.seq its.toArray n })(hf:f its.toArray=its'.toArray)(hv:Vals ys its')(hz:ys.length<=abW) :
  Inv X pins σ (upd H l (.lst ys)) { s with heap:=s.heap.update l (mS f),toks:=t' }:=by
 have q:=PySem.IsL.update e f
 rw[hf] at q
 refine I.write (x:=l) (e:=l) (by rw[hH];exact trivial) (.inl rfl) (λb' u hb hu=>(qq s.heap (mS f) (bo hb)).trans hu) ⟨_,q⟩ ?_
 exact⟨hz,its',_,hv,q⟩
theorem Inv.Mg{its:List abL}{t':Nat}(I:Inv X pins σ H s)(hv:Vals ys its)(hz:ys.length<=abW) :
  Inv X pins σ (upd H s.heap.objs.size (.lst ys)) { s with heap:=s.heap.push { cls:=.type "list",data:=.seq its.toArray },toks:=t' } :=
 I.laid (λ_ _ q=>bA _ q) (aC _) ⟨hz,its,0,hv,cJ _ rfl⟩
theorem Inv.fresh(I:Inv X pins σ H s):H s.heap.objs.size=none:=I.hok.fresh (aC _)
theorem Inv.Dz(I:Inv X pins σ H s)(hH:H l=some (.lst xs)):xs.length<=abW/\∃(its:List abL)(n:Nat),Vals xs its/\xs.length=its.length/\s.heap.get? l=some { cls:=.type "list",data:=.seq its.toArray n }:=by
 obtain⟨z,its,n,r,e⟩:=I.hok l _ hH
 exact⟨z,its,n,r,r.length,e⟩
theorem qx{n:Nat}(h:n<=abW):qy n=false:=by
 unfold qy
 exact decide_eq_false (by omega)
end
section
variable {X:Cx}
def HM:V->List V->Hp->VK->Prop:=λx vs H Q=>∃l xs y,x= .ref l/\vs=[y]/\H l=some (.lst xs)/\xs.length < abW/\Q .non (upd H l (.lst (xs++[y])))
theorem BI:UZ X "list.append" HM:=by
 intro pins s σ H x vs v us Q I rx rv h
 obtain⟨l,xs,y,rfl,rfl,hH,hz,q⟩:=h
 cases rx
 obtain⟨u,rfl,ru⟩:=rv.one
 obtain⟨z,its,n,r,hl,e⟩:=I.Dz hH
 refine call_meets F.slot_list_append ⟨_,e,rfl⟩ F.entry_list_append (F.args_list_append_2 _ _) (PySem.list_append l its.toArray n u (by rw[a7];omega)) ⟨e,?_⟩
 refine⟨.non,_,I.Mf (its':=its++[u]) hH e (by simp) (r.append (.cons ru .nil)) ?_,rfl,q⟩
 rw[eV,List.length_singleton]
 omega
def HN:V->List V->Hp->VK->Prop:=λx vs H Q=>∃l b xs zs,x= .ref l/\vs=[.ref b]/\H l=some (.lst xs)/\H b=some (.lst zs)/\xs.length+zs.length<=abW/\Q .non (upd H l (.lst (xs++zs)))
theorem BJ:UZ X "list.extend" HN:=by
 intro pins s σ H x vs v us Q I rx rv h
 obtain⟨l,b,xs,zs,rfl,rfl,hH,hB,hz,q⟩:=h
 cases rx
 obtain⟨u,rfl,ru⟩:=rv.one
 cases ru
 obtain⟨z,its,n,r,hl,e⟩:=I.Dz hH
 obtain⟨z2,its2,n2,r2,hl2,e2⟩:=I.Dz hB
 have hsz:its.toArray.size+its2.toArray.size<=abW:=by rw[a7,a7];omega
 have wu:¬(!its.toArray.isEmpty&&qy (its.toArray.size+its2.toArray.size))=true:=by
  rw[qx hsz,Bool.and_false]
  exact bE
 refine call_meets F.slot_list_extend ⟨_,e,rfl⟩ F.entry_list_extend (F.args_list_extend_2 _ _)
  (AutoSeq1.list_extend_list_list_0 l its.toArray n b its2.toArray n2 wu (by rw[a7];omega) (by omega)) ⟨e,e2,?_⟩
 refine⟨.non,_,I.Mf (its':=its++its2) hH e (by simp) (r.append r2) ?_,rfl,q⟩
 rw[eV]
 omega
def U0:R2:=λx y H Q=>∃l k xs,x= .ref l/\y= .int k/\H l=some (.lst xs)/\-(2 ^ 63)<=k/\k < 2 ^ 63/\xs.length * k.toNat<=abW/\
 ∀p,H p=none->Q (.ref p) (upd H p (.lst (aS k.toNat xs).flatten))
theorem len_rep{α:Type}(xs:List α)(k:Nat):(aS k xs).flatten.length=k * xs.length:=by
 induction k with
 | zero=>simp
 | succ k ih=>rw[ig,qu,eV,ih,Nat.succ_mul,Nat.add_comm]
theorem Mh:fh X (abO .Mult) U0:=by
 intro pins s σ H x y v u Q I rx ry h
 obtain⟨l,k,xs,rfl,rfl,hH,h1,h2,hz,q⟩:=h
 cases rx
 obtain⟨t,rfl⟩:=ry
 obtain⟨z,its,n,r,hl,e⟩:=I.Dz hH
 have hlen:its.toArray.size * k.toNat<=abW:=by rw[a7,<-hl];exact hz
 have hcap:¬its.toArray.size * k.toNat > (2 ^ 63 - 1) / 8:=by
  have:(abW:Nat)<=(2 ^ 63 - 1) / 8:=by decide
  omega
 have hfit:¬(!Builtin.List.listFitsIndex k)=true:=by
  rw[fitsIndex_both h1 h2]
  exact bE
 have wu:¬qy (its.toArray.size * k.toNat)=true:=by
  rw[qx hlen]
  exact bE
 have hnew:qv (λx1 x2=>x1++x2) #[] (aS (if its.toArray.isEmpty=true then 0 else k.toNat) its.toArray)=(aS k.toNat its).flatten.toArray:=by
  have f0:∀m:Nat,qv (λx1 x2=>x1++x2) #[] (aS m its.toArray)=(aS m its).flatten.toArray:=λm=>by
   have:=foldl_rep its m []
   rw[k9] at this
   exact this
  rw[f0]
  cases its with
  | nil=>simp
  | cons a r'=>rw[if_neg (by simp)]
 refine wpAny_binaryOp_repeat_ref (T:="list") (U:="int") (by decide) ⟨_,e,rfl⟩ (λs'=>typeIs_int s' k t) noFill_list_mul F.fills_int_mul yJ repeat_list F.slot_int_index.lookup
  (call_meets yJ (typeIs_int s k t) F.entry_int_rmul (F.args_int_rmul_2 _ _) (int___rmul___int_list k t l its.toArray n)
   ⟨e,rfl,⟨_,e,rfl⟩,call_meets F.slot_list_mul ⟨_,e,rfl⟩ F.entry_list_mul (F.args_list_mul_2 _ _) (AutoListH.list___mul___list_int_3 l its.toArray n k t hfit hcap wu) ⟨e,?_⟩⟩)
 rw[hnew]
 exact⟨.ref _,_,I.Mg (t':=s.toks) (r.rep k.toNat) (by rw[len_rep,Ag];exact hz),rfl,q _ I.fresh⟩
end
section
variable {prog:abJ} {w:abM} {A:abG} {E:abL->abK->Prop} {s:abK}
set_option maxRecDepth 100000 in
end
section
variable {X:Cx}
end
end L2
namespace Att
open PySem PySem.W PySem.Calls PyProof.Rows
theorem pe{P:Params}{h:Heap}:∀(ns:List Int)(vs:List abL),WellAll P h vs (ns.map WData.int)->IntsAre vs ns:=by
 intro ns
 induction ns with
 | nil=>
  intro vs w
  rw[k_] at w
  cases w
  exact .nil
 | cons n ns ih=>
  intro vs w
  rw[bw] at w
  cases w with
  | cons a b=>
   cases a
   exact .cons _ _ (ih _ b)
theorem BK{l:OpenLaw}{n:Nat}(hn:l.most=some n){P:Params}{h:Heap}{args:List WData}{vals:List abL}
  (hpre:l.row.toRowW.claim.pre args=true)(hwl:WellAll P h vals args) :
  ∃a vs ns,vals=[aO a]/\args=[WData.list (ns.map WData.int)]/\h.get? a=some { cls:=.type "list",data:=.seq vs.toArray }/\IntsAre vs ns/\ns.length<=n:=by
 have hsh:WShape.hasAll [] args [.list .int]=true:=(pre_splitW hpre).1
 have hc:l.pre.holds [] { args:=args }=true:=(pre_splitW hpre).2
 obtain⟨d,r,rfl,h1,h2⟩:=hasAllW_cons hsh
 obtain rfl:=hasAllW_nil h2
 obtain⟨xs,rfl,h3⟩:=hasW_list h1
 obtain⟨ns,rfl⟩:=items_int h3
 have hlen:ns.length<=n:=by
  unfold OpenLaw.pre at hc
  have h4:(WTm.not (.lt (.lit (.int (n:Int))) (.len (.arg 0)))).holds [] { args:=[.list (ns.map .int)] }=true:=by
   have h4:=(holds_andW hc).1
   rw[hn] at h4
   exact h4
  have h5:=condW_of h4 (w_not (w_lt w_lit (w_len_list (w_arg rfl))))
  rw[bU] at h5
  refine Nat.le_of_not_lt λq=>?_
  have q':(n:Int) < ((ns.length:Nat):Int):=by omega
  first
   | (rw[decide_eq_true q'] at h5;exact absurd h5 (by decide))
   | (simp at h5;omega)
 cases hwl with
 | cons w1 w2=>
  cases w2
  cases w1 with
  | list ho hall=>exact⟨_,_,ns,rfl,rfl,ho,pe ns _ hall,hlen⟩
theorem BL(l:OpenLaw)(args:List WData):l.row.toRowW.claim.post args (.bool true) args=true :=
 postW_of (r:=l.row.toRowW) (X:=(true == true))
  (show WShape.has [] (.bool true) .bool=true by first | rfl | decide | simp[WShape.has,WShape.arms,WShape.armsAll])
  (show(WTm.eq .res (.lit (.bool true))).value [] { args:=args,res:=some (.bool true),after:=args }=some (.bool (true == true)) from w_eq_bool (w_res rfl) w_lit) rfl
theorem wx{l:OpenLaw}{n:Nat}{q:abJ}{loose:List Str}{XP:(Str->Option abL)->Heap->Prop}{YP:abM->Heap->Prop}{d:DefRec}
  (hn:l.most=some n)(hdf:d.params.defaults=[])
  (call:∀(w:abM)(s₀ s₁:abK)(mg mb:Str->Option abL)(fa:abF)(o:Obj)(pm cd doc:abL)(a:abF)(vs:List abL)(ns:List Int),
   Ground q loose [] XP w s₀ mg mb s₁.heap->YP w s₁.heap->
   s₁.heap.get? fa=some o->o.data= .func (docDef d.name d.params d.body d.scope pm cd doc)->s₁.heap.CodeRec cd d.name->mg d.name=some (.ref fa)->
   s₁.heap.get? a=some { cls:=.type "list",data:=.seq vs.toArray }->IntsAre vs ns->ns.length<=n->s₁.gens=#[]->
   abQ (model l.prog w) callerA (.call (.ref fa) ⟨[.ref a],[]⟩) (λr s'=>r= .ok (.ret (.bool true))/\OldK s₁.heap s'.heap/\s'.os=s₁.os/\AllBare s'.gens) s₁) :
  WalkO q loose XP YP l.row.toRowW d [] (λf vs=>PySem.call f vs):=by
 intro w s₀ s₁ mg mb G Y fa o pm cd doc dV kV ho hd hcd hD hmg hg args vals as hpre hlay hrd hwl hlo
 obtain rfl:dV= .none:=Dflts.none hD hdf
 obtain rfl:kV= .none:=Dflts.noKw hD
 obtain⟨a,vs,ns,rfl,rfl,hobj,hints,hlen⟩:=BK hn hpre hwl
 refine enter_call (codeAny_mono (call w s₀ s₁ mg mb fa o pm cd doc a vs ns G Y ho (fd_plain hd) hcd hmg hobj hints hlen hg) λr s' hq=>?_)
 obtain⟨rfl,h2,h3,h4⟩:=hq
 exact⟨.inl ⟨.bool true,.bool true,[],rfl,λ_=>rfl,.bool true,BL l _,λ_=>⟨List.Pairwise.nil,λ_ hm=>(nomatch hm)⟩⟩,h2,h3,h4⟩
section
variable {prog:abJ} {w:abM} {A:abG} {E:abL->abK->Prop} {s:abK} {K:Frag}
def uO(h:Heap):Heap:={ h with objs:=#[] }
theorem l_(h:Heap)(b:abF):(uO h).get? b=none:=by
 cases e:(uO h).get? b with
 | none=>rfl
 | some o=>exact absurd (bc e) (Nat.not_lt_zero _)
theorem Mi{h:Heap}{L:abF}{m:Str->Option abL}(n:h.Ns L m):Fr (uO h) L h m :=
 ⟨n,λb o e=>(by rw[l_] at e;cases e),cL _⟩
end
end Att
namespace L2
open PySem PySem.Spec PyProof.Rows
theorem tE:∀{vs:List abL}{ns:List Int},IntsAre vs ns->Vals (ns.map V.int) vs
 | _,_,.nil=> .nil
 | _,_,.cons n t h=> .cons ⟨t,rfl⟩ (tE h)
def HP(H:Hp):Prop:=∀b,H b=none\/∃o xs,H b=some (.nO o (.lst xs))
theorem DA{P:abJ}{w:abM}{K:PySem.W.Frag}{mg mb:Str->Option abL}{CX:BD}{k:Nat}{fa a:abF}{fd:abH}{x:Str}{sp:Sp}{s₁:abK}{vs:List abL}{ns:List Int}
  (KX:K.In s₁.heap)(hns:s₁.heap.Ns abV mg)(hb:s₁.heap.Ns builtinsNs mb)(Za:∀x:Str,x≠"__name__"->mb x=abP x)(hlim:s₁.heap.NoLimit)(hg:s₁.gens=#[])
  (ha:s₁.heap.get? a=some { cls:=.type "list",data:=.seq vs.toArray })(hi:IntsAre vs ns)(hl:ns.length<=abW)(hr:gD k callerA)
  (F:∀base:Heap,K.In base->base.Ns abV mg->FnOk P w K mg base CX k fa fd [x] sp)(hbind:∀(s:abK)(u:abL),BindsTo s fd ⟨[u],[]⟩ [(x,u)])
  (Po:∀H:Hp,HP H->lX K H a (ns.map V.int)->sp [.ref a] H (λv _=>v= .bl true) λ_ _ _=>False)
  (U1:∀H e s',CX [] H s₁ (λ_ _ _=>False) e s'->False) :
  abQ (model P w) callerA (.call (.ref fa) ⟨[.ref a],[]⟩) (λr s'=>r= .ok (.ret (.bool true))/\OldK s₁.heap s'.heap/\s'.os=s₁.os/\AllBare s'.gens) s₁:=by
 have rv:=tE hi
 have U2:=hi.length
 -- from an abstract heap in which nothing but the script may be tracked
 have core:∀H:Hp,HP H->lX K H a (ns.map V.int)->jX P w H s₁.heap->(∀b,H b≠none->b=a)->(H a≠none->K.lookup a=none)->
   abQ (model P w) callerA (.call (.ref fa) ⟨[.ref a],[]⟩) (λr s'=>r= .ok (.ret (.bool true))/\OldK s₁.heap s'.heap/\s'.os=s₁.os/\AllBare s'.gens) s₁:=by
  intro H hO hS hok hA hK
  have Ah:∀{b:abF}{o:Obj},s₁.heap.get? b=some o->H b=none->(ur s₁.heap H).get? b=some o:=λe n=>C3 e n
  have Qp:∀{b:abF}{o:Obj}{es:Array DictEntry}{ep:Nat},s₁.heap.get? b=some o->o.data= .dict es ep->H b=none:=λ{b o es ep} e d=>by
   cases q:H b with
   | none=>rfl
   | some u=>
    have e':b=a:=hA b (by rw[q];simp)
    subst e'
    rw[ha] at e;cases e
    have d':Data.seq vs.toArray _=Data.dict es ep:=d
    cases d'
  have Tj:∀{b:abF}{m:Str->Option abL},s₁.heap.Ns b m->(ur s₁.heap H).Ns b m:=λ{b m} ⟨o,es,ep,e,d,r⟩=>⟨o,es,ep,Ah e (Qp e d),d,r⟩
  have XI:K.In (ur s₁.heap H):=λb o e=>Ah (KX b o e) (by
   cases q:H b with
   | none=>rfl
   | some u=>
    have e':b=a:=hA b (by rw[q];simp)
    subst e'
    rw[hK (by rw[q];simp)] at e;cases e)
  have hM:Mod K mg (ur s₁.heap H):=⟨XI,Tj hns,⟨mb,Tj hb,Za⟩,let ⟨mc,h1,h2⟩:=hlim;⟨mc,Tj h1,h2⟩⟩
  have e0:wk P w K mg (ur s₁.heap H) callerA [] s₁ H:=⟨rfl,hM,λb o e=>Hj e,mP (Bs _ _),trivial,λb hb=>absurd (show b∈([]:List abF) from hb) (by simp),hok,.of_eq hg⟩
  refine codeAny_mono ((F _ XI (Tj hns)).run callerA [] s₁ H ⟨[.ref a],[]⟩ [.ref a] [.ref a] _ _ hr e0 (hbind s₁ (.ref a)) (.cons rfl .nil) (Po H hO hS)) λr s' h=>?_
  cases r with
  | error e=>exact(U1 H e s' h).elim
  | ok fl=>
   cases fl with
   | next=>exact ae h
   | brk=>exact ae h
   | cont=>exact ae h
   | ret u=>
    obtain⟨v,H',os,bare,un,U3,r',q⟩:=h
    have q':v= .bl true:=q
    subst q'
    obtain rfl:u=Value.bool true:=r'
    refine⟨rfl,OldK.of_keep λb o e=>?_,os,bare⟩
    cases q:H b with
    | none=>exact un.keep b o e q (by intro z;exact absurd (show b∈([]:List abF) from z) (by simp)) (by simp)
    | some u=>
     rcases hO b with z | ⟨ob,xs,z⟩
     ·rw[q] at z;cases z
     ·have z2:=un.pd b ob _ z
      obtain⟨e1,_⟩:=hok b _ z
      obtain⟨e2,_⟩:=U3 b _ z2
      rw[e] at e1;cases e1
      exact e2
 cases hk:K.lookup a with
 | some o=>
  -- the script is one of the Dy own objects
  have e:=KX a o hk
  rw[ha] at e
  cases e
  refine core (λ_=>none) (λ_=> .inl rfl) (.inr ⟨_,vs.toArray,_,hk,rfl,rfl,rfl,by rw[a7,U2];exact hl,by simpa using rv⟩) (λb u z=>by have z':(none:Option HO)=some u:=z;cases z') (λb z=>absurd rfl z) λz=>absurd rfl z
 | none=>
  refine core (λb=>if b=a then some (.nO { cls:=.type "list",data:=.seq vs.toArray } (.lst (ns.map V.int))) else none) (λb=>?_) (.inl (.inr ⟨{ cls:=.type "list",data:=.seq vs.toArray },if_pos rfl⟩)) (λb u z=>?_) (λb z=>?_) λ_=>hk
  ·by_cases hb:b=a
   ·exact .inr ⟨_,_,if_pos hb⟩
   ·exact .inl (if_neg hb)
  ·by_cases hb:b=a
   ·have z':=(if_pos hb).symm.trans z
    cases z'
    subst hb
    exact⟨ha,by rw[bU];exact hl,vs,_,rv,ha⟩
   ·have z':=(if_neg hb).symm.trans z
    cases z'
  ·by_cases hb:b=a
   ·exact hb
   ·exact absurd (if_neg hb) z
abbrev KOf{K:PySem.W.Frag}{h:Heap}(_:K.In h):PySem.W.Frag:=K
theorem walk_of{l:PySem.W.OpenLaw}{n k:Nat}{q:abJ}{loose:List Str}{XP:(Str->Option abL)->Heap->Prop}{YP:abM->Heap->Prop}{d:DefRec}{K:Params->PySem.W.Frag}{CX:abM->BD}{sp:abM->Sp}{x:Str}
  (hn:l.most=some n)(hn2:n<=abW)(hdf:d.params.defaults=[])(hr:gD k callerA)
  (hY:∀(w:abM)(h:Heap),YP w h->(K w.params).In h)
  (F:∀(w:abM)(mg:Str->Option abL)(fa:abF)(h:Heap),(K w.params).In h->h.Ns abV mg->mg d.name=some (.ref fa)->
   ∃fd:abH,(∀(s:abK)(u:abL),BindsTo s fd ⟨[u],[]⟩ [(x,u)])/\
    ∀base:Heap,(K w.params).In base->base.Ns abV mg->FnOk l.prog w (K w.params) mg base (CX w) k fa fd [x] (sp w))
  (Po:∀(w:abM)(H:Hp)(a:abF)(ns:List Int),ns.length<=n->HP H->lX (K w.params) H a (ns.map V.int)->sp w [.ref a] H (λv _=>v= .bl true) λ_ _ _=>False)
  (U1:∀(w:abM)(H:Hp)(s:abK)(e:abL)(s':abK),CX w [] H s (λ_ _ _=>False) e s'->False) :
  PySem.W.WalkO q loose XP YP l.row.toRowW d [] (λf vs=>PySem.call f vs):=by
 refine Att.wx hn hdf λw s₀ s₁ mg mb fa o pm cd doc a vs ns G Y ho hd hcd hmg hobj hints hlen hg=>?_
 have KX:=hY w _ Y
 obtain⟨fd,hb,hF⟩:=F w mg fa _ KX G.T.g hmg
 exact DA KX G.T.g G.T.b G.T.builtins G.T.nolimit hg hobj hints (bf hlen hn2) hr hF hb (λH hO hS=>Po w H a ns hlen hO hS) λH e s'=>U1 w H s₁ e s'
end L2
/- THE Zb Tn (shape;LID,My.* are XJ):
   My.Adr: a structure of the addresses Zc your XM names (classes,Pp);My.Txt K t: a structure (Prop) of the equations over K;
   My.Mj:{K} {implicit addresses ..} (e1:nsIn K abV "law"=some (some (.ref f))) (e2:K.lookup f=some ⟨oc,od,.func (fnOf "law" "law" params body scope dV kV doc pm an cdv ct),sl⟩) (e3:codeIn K cdv "law"=true) ..:∃t,My.Txt K t
set_option maxRecDepth 100000 in
set_option maxHeartbeats 0 in
theorem PySem.Challenge.cw_LID_holds:PySem.Challenge.rw_LID.Holds:=by
 w_on;o_law;k_head;(case hw=>w_witness2)
 k_fill
 refine L2.walk_of (l:=PySem.Challenge.rw_LID) (n:=63) (k:=40) (x:="script") (CX:=fun w => ..) (sp:=fun _ => My.sp_law) rfl (by decide) rfl ⟨rfl,by decide,by decide⟩ (fun w h Y => PySem.W.kIn_of Y) ?F ?S ?C
 case F=>
  intro w mg fa h KX G hmg
  have T:∃t,My.Txt (L2.KOf KX) t:=by
   dsimp only[L2.KOf] -- K Zd stand as «<heap const> w.params» for k_is
   refine' My.Mj ?e1 ?e2 ?e3 ..
   (case e1=>PySem.W.k_is) -- in the order: a name -> its address -> its object -> its parts
   (case e2=>PySem.W.k_is)
   ..
  obtain⟨t,T⟩:=T
  have e0:=hmg.symm.trans (PySem.W.mg_of KX G T.law)
  cases e0 -- fa is the XN own address
  exact⟨_,λs u=> .of_eq rfl,λbase kb nb=>My.Ml T kb nb⟩ -- if «.of_eq rfl» comes too early: refine' ⟨_,?b,λbase kb nb=>My.Ml T kb nb⟩;exact λs u=> .of_eq rfl
 case S=>exact λw H a ns hl hO hS=> ..
 case C=>exact ..
(the tactic k_is has no namespace: write k_is) -/
namespace L2
open PySem PySem.Spec PyProof.Rows
def inClass(s:Stmt)(j:Nat):Stmt:=match s with
 | .ClassDef _ _ _ body _ _ _ _ _ _ _=>body.getD j (.Pass ⟨0,0,0,0⟩)
 | _=> .Pass ⟨0,0,0,0⟩
def defArgs(s:Stmt):Arguments:=match s with
 | .FunctionDef _ a _ _ _ _ _ _ _ _=>a
 | _=>{ posonlyargs:=[],args:=[],vararg:=none,kwonlyargs:=[],kw_defaults:=[],kwarg:=none,defaults:=[] }
def defBody(s:Stmt):List Stmt:=match s with
 | .FunctionDef _ _ b _ _ _ _ _ _ _=>b
 | _=>[]
def defScope(s:Stmt):Scope:=match s with
 | .FunctionDef _ _ _ _ _ _ sc _ _ _=>sc
 | _=>{ kind:=.function,names:=[],isGenerator:=false,isCoroutine:=false }
abbrev CX0:BD:=λ_ _ _ _ _ _=>False
structure HQ(K:PySem.W.Frag)(x qual:Str)(st:Stmt)(f:abF)(fd:abH):Prop where
 ex:∃(oc:abL)(od:Option abF)(kV doc pm:abL)(an:Option abF)(cdv ct:abL)(osl:Array (Option abL)),
  fd=PySem.W.fnOf x qual (defArgs st) (defBody st) (defScope st) .none kV doc pm an cdv ct/\K.lookup f=some ⟨oc,od,.func fd,osl⟩/\PySem.W.codeIn K cdv qual=true
 kp:PySem.W.keepIn K (.ref f)=true
section
variable {P:abJ} {w:abM} {K:PySem.W.Frag} {mg:Str->Option abL} {base:Heap}
theorem HQ.binds{x qual:Str}{st:Stmt}{f:abF}{fd:abH}{ps:List Str}(F:HQ K x qual st f fd)
  (h:∀(kV doc pm:abL)(an:Option abF)(cdv ct:abL)(us:List abL),us.length=ps.length->bindArgs (PySem.W.fnOf x qual (defArgs st) (defBody st) (defScope st) .none kV doc pm an cdv ct) ⟨us,[]⟩=pure (ps.zip us)):Binds K fd ps []:=by
 obtain⟨oc,od,kV,doc,pm,an,cdv,ct,osl,rfl,lk,hcd⟩:=F.ex
 exact .all (h kV doc pm an cdv ct)
theorem yK{x qual:Str}{st:Stmt}{f:abF}{oc:abL}{od an:Option abF}{osl:Array (Option abL)}{kV doc pm cdv ct:abL}(l:K.lookup f=some ⟨oc,od,.func (PySem.W.fnOf x qual (defArgs st) (defBody st) (defScope st) .none kV doc pm an cdv ct),osl⟩)
  (c:PySem.W.codeIn K cdv qual=true)(k:PySem.W.keepIn K (.ref f)=true):HQ K x qual st f (PySem.W.fnOf x qual (defArgs st) (defBody st) (defScope st) .none kV doc pm an cdv ct):=⟨⟨oc,od,kV,doc,pm,an,cdv,ct,osl,rfl,l,c⟩,k⟩
end
section
variable {X:Cx}
end
section
variable {κ : Type} [DecidableEq κ]
def mU(kvs : List (κ×V))(k : κ) : Option V := (kvs.find? λkv=>decide (kv.1=k)).map (·.2)
def putK(kvs : List (κ×V))(k : κ)(v : V) : List (κ×V) :=
 if(kvs.any λkv=>decide (kv.1=k))=true then kvs.map (λkv=>if kv.1=k then(kv.1, v) else kv) else kvs++[(k, v)]
theorem j7{p : κ×V}{r : List (κ×V)}{k : κ}(e : p.1=k) : mU (p::r) k=some p.2 := by simp[mU, j8, e]
theorem j9{p : κ×V}{r : List (κ×V)}{k : κ}(e : ¬p.1=k) : mU (p::r) k=mU r k := by simp[mU, j8, e]
theorem qz(k : κ) : ∀kvs : List (κ×V), (kvs.any λkv=>decide (kv.1=k))=(mU kvs k).isSome
 | []=>rfl
 | p::r=>by
  rw[fm]
  by_cases e : p.1=k
  ·simp only[j7 e, decide_eq_true e, Bool.true_or, HR]
  ·rw[j9 e, decide_eq_false e, Bool.false_or];exact qz k r
theorem j_(kvs : List (κ×V))(k : κ)(v : V) : (putK kvs k v).length<=kvs.length+1 := by
 unfold putK
 split
 ·rw[bU];omega
 ·rw[eV, ja, List.length_nil];omega
theorem jZ.tF{o : Option V}{u : Option abL}(r : jZ o u) : o.isSome=u.isSome := by
 cases o with
 | none=>cases u with
  | none=>rfl
  | some _=>exact(show False from r).elim
 | some _=>cases u with
  | none=>exact(show False from r).elim
  | some _=>rfl
theorem jZ.getD{o : Option V}{u : Option abL}{d : V}{d' : abL}(r : jZ o u)(rd : RelV d d') : RelV (o.getD d) (u.getD d') := by
 cases o with
 | none=>cases u with
  | none=>exact rd
  | some _=>exact(show False from r).elim
 | some _=>cases u with
  | none=>exact(show False from r).elim
  | some _=>exact r
theorem KV.val{kvs : List (κ×V)}{vs : List (κ×abL)}(r : KV kvs vs)(k : κ) : jZ (mU kvs k) (valueAt vs k) := by
 unfold KV at r
 induction r with
 | nil=>exact gB
 | @cons p q ps qs h t ih=>
  obtain⟨h1, h2⟩ := h
  by_cases e : p.1=k
  ·have e' : q.1=k := h1.symm.trans e
   have b : valueAt (q::qs) k=some q.2 := by simp[valueAt, j8, e']
   rw[j7 e, b];exact h2
  ·have e' : ¬q.1=k := λz=>e (h1.trans z)
   have b : valueAt (q::qs) k=valueAt qs k := by simp[valueAt, j8, e']
   rw[j9 e, b];exact ih
theorem KV.any{kvs : List (κ×V)}{vs : List (κ×abL)}(r : KV kvs vs)(k : κ) : (kvs.any λkv=>decide (kv.1=k))=vs.any λkv=>decide (kv.1=k) := by
 unfold KV at r
 induction r with
 | nil=>rfl
 | cons h t ih=>rw[fm, fm, ih, h.1]
theorem KV.repl{kvs : List (κ×V)}{vs : List (κ×abL)}(r : KV kvs vs)(k : κ){y : V}{u : abL}(ry : RelV y u) :
  KV (kvs.map λkv=>if kv.1=k then(kv.1, y) else kv) (vs.map λkv=>if kv.1=k then(kv.1, u) else kv) := by
 unfold KV at r ⊢
 induction r with
 | nil=>exact .nil
 | @cons p q ps qs h t ih=>
  rw[bw, bw]
  refine .cons ?_ ih
  obtain⟨h1, h2⟩ := h
  by_cases e : p.1=k
  ·rw[if_pos e, if_pos (h1.symm.trans e)];exact⟨h1, ry⟩
  ·rw[if_neg e, if_neg (λz=>e (h1.trans z))];exact⟨h1, h2⟩
theorem KV.put{kvs : List (κ×V)}{vs : List (κ×abL)}(r : KV kvs vs)(k : κ){y : V}{u : abL}(ry : RelV y u) : KV (putK kvs k y) (stored vs k u) := by
 unfold putK stored
 rw[r.any k]
 by_cases e : (vs.any λkv=>decide (kv.1=k))=true
 ·rw[if_pos e, if_pos e];exact r.repl k ry
 ·rw[if_neg e, if_neg e];exact Paired.snoc r ⟨rfl, ry⟩
theorem KV.length{kvs : List (κ×V)}{vs : List (κ×abL)}(r : KV kvs vs) : kvs.length=vs.length := Paired.length r
end
theorem Ai{P : abJ}{w : abM}{k : Key}{u : abL}(r : RelV (kV k) u) : (b4 P w).is k u=true := by
 cases k with
 | inl i=>obtain⟨t, e⟩ := (show ∃t, u=ie i t from r);subst e;exact wa P w i t
 | inr x=>obtain⟨t, e⟩ := (show ∃t, u=mK x t from r);subst e;exact wb P w x t
 | non=>rw[show u=cH from r];rfl
theorem tG{P : abJ}{w : abM} : ∀{ks : List Key}{us : List abL}, Vals (ks.map kV) us->ItemsAre (b4 P w) ks us
 | [], _, r=>by rw[k_] at r;cases r;exact .nil
 | k::ks, _, r=>by
  rw[bw] at r
  cases r with
  | cons h t=>exact .cons (Ai h) (tG t)
abbrev KT(H : Hp) : List (List Key×V)->List (List Key×abF×abL)->Prop := Paired λp q=>p.1=q.1/\H q.2.1=some (.tup (p.1.map kV))/\RelV p.2 q.2.2
theorem KT.val{H : Hp}{kvs : List (List Key×V)}{xs : List (List Key×abF×abL)}(r : KT H kvs xs)(k : List Key) : jZ (mU kvs k) ((atKey xs k).map (·.2)) := by
 induction r with
 | nil=>exact gB
 | @cons p q ps qs h t ih=>
  obtain⟨h1, _, h2⟩ := h
  by_cases e : p.1=k
  ·have e' : q.1=k := h1.symm.trans e
   have b : atKey (q::qs) k=some q.2 := by simp[atKey, j8, e']
   rw[j7 e, b];exact h2
  ·have e' : ¬q.1=k := λz=>e (h1.trans z)
   have b : atKey (q::qs) k=atKey qs k := by simp[atKey, j8, e']
   rw[j9 e, b];exact ih
theorem KT.repl{H : Hp}{kvs : List (List Key×V)}{xs : List (List Key×abF×abL)}(r : KT H kvs xs)(k : List Key){y : V}{u : abL}(ry : RelV y u) :
  KT H (kvs.map λkv=>if kv.1=k then(kv.1, y) else kv) (xs.map (putAt k u)) := by
 induction r with
 | nil=>exact .nil
 | @cons p q ps qs h t ih=>
  rw[bw, bw]
  refine .cons ?_ ih
  obtain⟨h1, h2, h3⟩ := h
  unfold putAt
  by_cases e : p.1=k
  ·rw[if_pos e, if_pos (h1.symm.trans e)];exact⟨h1, h2, ry⟩
  ·rw[if_neg e, if_neg (λz=>e (h1.trans z))];exact⟨h1, h2, h3⟩
theorem KT.put{H : Hp}{kvs : List (List Key×V)}{xs : List (List Key×abF×abL)}(r : KT H kvs xs)(k : List Key){b : abF}{y : V}{u : abL}(hb : H b=some (.tup (k.map kV)))(ry : RelV y u) :
  KT H (putK kvs k y) (storedH xs k b u) := by
 have e : (kvs.any λkv=>decide (kv.1=k))=(atKey xs k).isSome := by
  rw[qz, (r.val k).tF, Option.isSome_map]
 unfold putK storedH
 rw[e]
 by_cases q : (atKey xs k).isSome=true
 ·rw[if_pos q, if_pos q];exact r.repl k ry
 ·rw[if_neg q, if_neg q];exact Paired.snoc r ⟨rfl, hb, ry⟩
theorem KT.keeps{H H' : Hp}{kvs : List (List Key×V)}{xs : List (List Key×abF×abL)}(r : KT H kvs xs)(ht : ∀b ys, H b=some (.tup ys)->H' b=some (.tup ys)) : KT H' kvs xs :=
 Paired.Br r λ_ _ z=>⟨z.1, ht _ _ z.2.1, z.2.2⟩
section
variable {P : abJ} {w : abM} {H : Hp} {h : Heap} {a : abF}
theorem Kg{u : HO}(ok : jX P w H h)(e : Rd H a u) : dn P w H h a u := e.ok ok
theorem Aj{kvs : List (Key×V)}(ok : jX P w H h)(e : Rd H a (.dK kvs)) : kvs.length<=abW/\(a == sysModules)=false/\∃vs, KV kvs vs/\h.DictOf (b4 P w) a vs :=
 show dn P w H h a (.dK kvs) from Kg ok e
theorem Qz{kvs : List (Key×V)}(ok : jX P w H h)(e : H a=some (.dK kvs)) : kvs.length<=abW/\(a == sysModules)=false/\∃vs, KV kvs vs/\h.DictOf (b4 P w) a vs := Aj ok (.inl e)
theorem uP{ks : List Key}(ok : jX P w H h)(e : H a=some (.tup (ks.map kV))) : (tupleKind (b4 P w)).is h ks a := by
 obtain⟨_, its, r, ⟨o, h1, h2, n, h3⟩, _⟩ := (show dn P w H h a (.tup (ks.map kV)) from ok a _ e)
 exact⟨o, its.toArray, n, h1, h2, h3, by simpa using tG r⟩
theorem Ak{kvs : List (List Key×V)}(ok : jX P w H h)(e : Rd H a (.dT kvs)) : kvs.length<=abW/\(a == sysModules)=false/\
  ∃xs, KT H kvs xs/\h.DictOfH (tupleKind (b4 P w)) a xs := by
 obtain⟨z, y, xs, r, o, es, ep, h1, h2, h3, h4, h5⟩ := (show dn P w H h a (.dT kvs) from Kg ok e)
 refine⟨z, y, xs, r, o, es, ep, h1, h2, h3, h4, λx hx=>?_, h5⟩
 have all : ∀{l : List (List Key×V)}{m : List (List Key×abF×abL)}, KT H l m->∀x∈m, (tupleKind (b4 P w)).is h x.1 x.2.1 := by
  intro l m q
  induction q with
  | nil=>intro x hx;exact nomatch hx
  | @cons p q ps qs hq t ih=>
   intro x hx
   rcases List.mem_cons.mp hx with e | hx
   ·subst e
    exact uP ok (by rw[<-hq.1];exact hq.2.1)
   ·exact ih x hx
 exact all r x hx
theorem Kh{kvs : List (List Key×V)}(ok : jX P w H h)(e : H a=some (.dT kvs)) : kvs.length<=abW/\(a == sysModules)=false/\
  ∃xs, KT H kvs xs/\h.DictOfH (tupleKind (b4 P w)) a xs := Ak ok (.inl e)
end
def yL(H : Hp)(a : abF)(y : V)(r : Option V) : Prop :=
 (∃kvs k, Rd H a (.dK kvs)/\y=kV k/\r=mU kvs k)\/∃kvs k b, Rd H a (.dT kvs)/\y= .ref b/\H b=some (.tup (k.map kV))/\r=mU kvs k
def uQ(H : Hp)(a : abF)(y v : V)(H' : Hp) : Prop :=
 (∃kvs k, H a=some (.dK kvs)/\y=kV k/\kvs.length < abW/\H'=upd H a (.dK (putK kvs k v)))\/
 ∃kvs k b, H a=some (.dT kvs)/\y= .ref b/\H b=some (.tup (k.map kV))/\kvs.length < abW/\H'=upd H a (.dT (putK kvs k v))
theorem yL.k{H : Hp}{a : abF}{kvs : List (Key×V)}{k : Key}(e : H a=some (.dK kvs)) : yL H a (kV k) (mU kvs k) := .inl ⟨kvs, k, .inl e, rfl, rfl⟩
theorem uQ.k{H : Hp}{a : abF}{kvs : List (Key×V)}{k : Key}{v : V}(e : H a=some (.dK kvs))(hl : kvs.length < abW) : uQ H a (kV k) v (upd H a (.dK (putK kvs k v))) := .inl ⟨kvs, k, e, rfl, hl, rfl⟩
theorem uQ.t{H : Hp}{a b : abF}{kvs : List (List Key×V)}{k : List Key}{v : V}(e : H a=some (.dT kvs))(eb : H b=some (.tup (k.map kV)))(hl : kvs.length < abW) :
  uQ H a (.ref b) v (upd H a (.dT (putK kvs k v))) := .inr ⟨kvs, k, b, e, rfl, eb, hl, rfl⟩
section
variable {X : Cx} {pins : List (abF×Obj)} {σ : St} {H : Hp} {s : abK} {a : abF} {y v : V} {u r : abL} {o : Option V} {A : abG} {E : abL->abK->Prop}
theorem Inv.big(I : Inv X pins σ H s) : sysModules < s.heap.objs.size := by
 have h : abV < s.heap.objs.size := (I.mod.glob.keeps I.bk).lt
 exact uR (by decide) h
theorem uS{h' : Heap}{t' : Nat}{ob : HO}(I : Inv X pins σ H s)(mu : PU (H a))(hs : nN a s.heap h')(he : ∃q, h'.get? a=some q)(new : dn X.prog X.w (upd H a ob) h' a ob) :
  Inv X pins σ (upd H a ob) { s with heap := h', toks := t' } :=
 I.write (x := a) (e := a) mu (.inl rfl) (λb q hb z=>(hs.2 b hb).trans z) he new
theorem Mm{P : abJ}{w : abM}{H' : Hp}{h' : Heap}{kvs : List (Key×V)}{vs : List (Key×abL)}(z : kvs.length<=abW)(hd : (a == sysModules)=false)(rel : KV kvs vs)(dd : h'.DictOf (b4 P w) a vs) :
  dn P w H' h' a (.dK kvs) :=⟨z, hd, vs, rel, dd⟩
theorem BM{H' : Hp}{Q : Unit->abK->Prop}(hu : A.units+1 < cLine)(I : Inv X pins σ H s)(g : uQ H a y v H')(ry : RelV y u)(rv : RelV v r)(h : ∀s', Inv X pins σ H' s'->Q () s') :
  abY (model X.prog X.w) A (setItem (.ref a) u r) Q E s := by
 rcases g with ⟨kvs, k, e, ey, l, eH⟩ | ⟨kvs, k, b, e, ey, eb, l, eH⟩
 ·subst ey eH
  obtain⟨z, hd, vs, rel, dd⟩ := Qz I.hok e
  have hz : vs.length<=abW := by rw[<-rel.length];exact z
  have hl : (putK kvs k v).length<=abW := by have := j_ kvs k v;omega
  refine wpAny_setItem_pairs (hsz := hz) (Ai ry) dd λh' Mn hs=>h _ ?_
  have he : ∃q, h'.get? a=some q := let ⟨q, _, _, hq, _⟩ := Mn;⟨q, hq⟩
  exact uS I (by rw[e];exact gB) hs he (Mm hl hd (rel.put k rv) Mn)
 ·subst ey eH
  cases (show u=aO b from ry)
  obtain⟨z, hd, xs, rel, dd⟩ := Kh I.hok e
  have hz : xs.length<=abW := by rw[<-Paired.length rel];exact z
  have hl : (putK kvs k v).length<=abW := by have := j_ kvs k v;omega
  refine wpAny_setItem_heap (hsz := hz) (tupleKind_room_in1 hu) (uP I.hok eb) dd λh' Mn hs=>h _ ?_
  obtain⟨q, es, ep, hq, h2, h3, h4, _, h5⟩ := Mn
  refine uS I (by rw[e];exact gB) hs ⟨q, hq⟩ ⟨hl, hd, _, (rel.put k eb rv).keeps λc ys ec=>?_, q, es, ep, hq, h2, h3, h4, h5⟩
  rw[a9 (Ka ec e (λz=>nomatch z))]
  exact ec
end
section
variable {X : Cx} {pins : List (abF×Obj)} {σ : St} {H : Hp} {s : abK} {a : abF} {kvs : List (Key×V)} {k : Key} {u : abL} {A : abG} {E : abL->abK->Prop}
end
def Mo(i : Expr) : Prop := ∀ov iv, subscripted i false ov iv=operate [ov, iv] (getItem ov iv)
theorem HS{prog : abJ}{w : abM}{A : abG}{E : abL->abK->Prop}{s : abK}{env : Env}{value slice : Expr}{pos : Pos}{T id : String}{Q : abL->abK->Prop}
  (hl : typeLookup (.type T) "__getitem__"=pure (some (.builtin id)))(hs : Mo slice)
  (h : abY (model prog w) A (eval value env) (λo s₁=>abY (model prog w) A (eval slice env) (λi s₂=>s₂.TypeIs o T/\abY (model prog w) A (getItem o i) Q E s₂) E s₁) E s) :
  abY (model prog w) A (eval (.Subscript value slice pos) env) Q E s := by
 refine Subscript_ (ab2 h (λo s₁ h₁=>ab2 h₁ (λi s₂ h₂=>?_) λ_ _ x=>x) λ_ _ x=>x)
 obtain⟨hT, h₂⟩ := h₂
 unfold subscriptTail
 refine abZ ?_
 rw[getitemInPython_of_ne hT.not_modules]
 refine abZ (wpAny_specialOf hT hl ?_)
 have fin : abY (model prog w) A (subscripted slice false o i) (λr s₃=>abY (model prog w) A (letTemporaryGo value o r >>= λ_=>pure r) Q E s₃) E s₂ := by
  rw[hs o i]
  exact wpAny_operating (ab2 h₂ (λr s₃ h₃=>abZ (wpAny_letTemporaryGo (ab4 h₃))) λ_ _ x=>x)
 first
  | exact ab4 (abZ fin)
  | exact abZ (ab4 (abZ fin))
  | exact abZ fin
def QA(td ty tv : TE) : TS := λD σ H=>tv σ H λv H1=>td σ H1 λx H2=>ty σ H2 λy H3=>∃a H4, x= .ref a/\uQ H3 a y v H4/\D.nx σ H4
section
variable {X : Cx} {o i e value : Expr} {pos pos' tpos : Pos} {td ty tv : TE}
theorem HU(hu : X.A.units+1 < cLine)(ho : PE X o td)(hi : PE X i ty)(hv : PE X value tv)(hs : swapsWith value (some (.Subscript o i pos')) pos.line X.env=pure false) :
  PS X (.Assign [.Subscript o i pos'] value pos) (QA td ty tv) := by
 intro pins s σ H D I h
 refine wpAny_Assign_Subscript (bD (hv pins s σ H _ I h) λr s1 ⟨v, H1, I1, rv, q1⟩=>bD (ho pins s1 σ H1 _ I1 q1) λu s2 ⟨x, H2, I2, rx, q2⟩=>bD (hi pins s2 σ H2 _ I2 q2) λiv s3 ⟨y, H3, I3, ry, a, H4, ex, g, q3⟩=>?_) hs
 subst ex
 obtain rfl : u=aO a := rx
 exact BM hu I3 g ry rv λs4 I4=>⟨σ, H4, I4, q3⟩
end
theorem DB{P : abJ}{w : abM}{H : Hp}(h : Heap)(hb : sysModules < h.objs.size) : dn P w H (h.push { cls := .type "dict", data := .dict #[] }) h.objs.size (.dT []) :=
 ⟨cL _, beq_eq_false_iff_ne.mpr (bo (bN hb)), [], .nil, _, #[], 0, cJ _ rfl, ⟨rfl, rfl, rfl⟩, rfl, rfl, List.nodup_nil⟩
def Mq : TE := λ_ H Q=>∀p, H p=none->Q (.ref p) (upd H p (.dT []))
section
variable {X : Cx} {pos : Pos}
theorem DC : PE X (.Dict [] [] pos) Mq := λpins s σ H Q I h=>
 wpAny_Dict_empty ⟨.ref s.heap.objs.size, _, I.laid (a := s.heap.objs.size) (o := .dT []) (t' := s.toks) (λ_ _ q=>bA _ q) (aC _) (DB s.heap I.big), rfl, h _ (I.hok.fresh (aC _))⟩
end
structure M1(X : Cx)(o : Expr)(m : Str)(apos : Pos)(e : Expr)(cpos : Pos) : Prop where
 base : attributeBase o m X.env (eval o X.env)=eval o X.env
 few : ((backTo cpos (abX [e] X.env)).all (λx=> !x.1)&&(backToKw cpos (keywordEach [] X.env)).all (λx=>x.1.isSome)
  &&decide (([e] : List Expr).length+([] : List Keyword).length+(if([] : List Keyword).isEmpty then 0 else 1) < 30))=true
 line : (apos.endLine == cpos.line)=true
 trees : backTo cpos (abX [e] X.env)=[(false, eval e X.env)]
structure M2(X : Cx)(o : Expr)(m : Str)(apos : Pos)(e f : Expr)(cpos : Pos) : Prop where
 base : attributeBase o m X.env (eval o X.env)=eval o X.env
 few : ((backTo cpos (abX [e, f] X.env)).all (λx=> !x.1)&&(backToKw cpos (keywordEach [] X.env)).all (λx=>x.1.isSome)
  &&decide (([e, f] : List Expr).length+([] : List Keyword).length+(if([] : List Keyword).isEmpty then 0 else 1) < 30))=true
 line : (apos.endLine == cpos.line)=true
 trees : backTo cpos (abX [e, f] X.env)=[(false, eval e X.env), (false, eval f X.env)]
def To(H : Hp)(a : abF) : Prop := (∃kvs, Rd H a (.dK kvs))\/∃kvs, Rd H a (.dT kvs)
theorem DD{X : Cx}{pins : List (abF×Obj)}{σ : St}{H : Hp}{s : abK}{a : abF}(I : Inv X pins σ H s)(d : To H a) :
  s.TypeIs (.ref a) "dict"/\(∀b, aO a= .ref b->∃ob, s.heap.get? b=some ob/\ob.dict=none)/\(a == sysModules)=false := by
 rcases d with ⟨kvs, e⟩ | ⟨kvs, e⟩
 ·obtain⟨_, hd, vs, _, dd⟩ := Aj I.hok e
  refine⟨dd.typeIs, λb q=>?_, hd⟩
  cases q
  obtain⟨ob, _, _, h1, h2, _⟩ := dd
  exact⟨ob, h1, h2.2.1⟩
 ·obtain⟨_, hd, xs, _, dd⟩ := Ak I.hok e
  refine⟨dd.typeIs, λb q=>?_, hd⟩
  cases q
  obtain⟨ob, _, _, h1, h2, _⟩ := dd
  exact⟨ob, h1, h2.2.1⟩
section
variable {X : Cx} {pins : List (abF×Obj)} {σ : St} {H : Hp} {s : abK} {a : abF} {y d : V} {u r : abL} {o : Option V} {A : abG} {E : abL->abK->Prop}
theorem Mr{Q : abL->abK->Prop}(hu : A.units+1 < cLine)(I : Inv X pins σ H s)(g : yL H a y o)(ry : RelV y u)(h : ∀w' s', Inv X pins σ H s'->RelV (o.getD .non) w'->Q w' s') :
  abY (model X.prog X.w) A (call (.builtin "dict.get") [.ref a, u]) Q E s := by
 rcases g with ⟨kvs, k, e, ey, l⟩ | ⟨kvs, k, b, e, ey, eb, l⟩
 ·subst ey
  obtain⟨z, hd, vs, rel, dd⟩ := Aj I.hok e
  refine call_meetsIn PySem.F.slot_dict_get dd.typeIs PySem.F.entry_dict_get (PySem.F.args_dict_get_2 _ _) (meets_dict_get (b4 X.prog X.w) a (Ai ry) hd) ⟨_, dd.mapOf, h _ _ (I.tok _) ?_⟩
  rw[l]
  exact(rel.val k).getD rfl
 ·subst ey
  cases (show u=aO b from ry)
  obtain⟨z, hd, xs, rel, dd⟩ := Ak I.hok e
  refine call_meetsIn PySem.F.slot_dict_get dd.typeIs PySem.F.entry_dict_get (PySem.F.args_dict_get_2 _ _) (meetsH_dict_get (tupleKind (b4 X.prog X.w)) a b hd) ⟨tupleKind_room_in1 hu, k, xs, uP I.hok eb, dd, h _ _ (I.tok _) ?_⟩
  rw[l]
  exact(rel.val k).getD rfl
theorem Ms{Q : abL->abK->Prop}(hu : A.units+1 < cLine)(I : Inv X pins σ H s)(g : yL H a y o)(ry : RelV y u)(rd : RelV d r)(h : ∀w' s', Inv X pins σ H s'->RelV (o.getD d) w'->Q w' s') :
  abY (model X.prog X.w) A (call (.builtin "dict.get") [.ref a, u, r]) Q E s := by
 rcases g with ⟨kvs, k, e, ey, l⟩ | ⟨kvs, k, b, e, ey, eb, l⟩
 ·subst ey
  obtain⟨z, hd, vs, rel, dd⟩ := Aj I.hok e
  refine call_meetsIn PySem.F.slot_dict_get dd.typeIs PySem.F.entry_dict_get (PySem.F.args_dict_get_3 _ _ _) (meets_dict_get_default (b4 X.prog X.w) a (Ai ry) hd r) ⟨_, dd.mapOf, h _ _ (I.tok _) ?_⟩
  rw[l]
  exact(rel.val k).getD rd
 ·subst ey
  cases (show u=aO b from ry)
  obtain⟨z, hd, xs, rel, dd⟩ := Ak I.hok e
  refine call_meetsIn PySem.F.slot_dict_get dd.typeIs PySem.F.entry_dict_get (PySem.F.args_dict_get_3 _ _ _) (meetsH_dict_get_default (tupleKind (b4 X.prog X.w)) a b hd r) ⟨tupleKind_room_in1 hu, k, xs, uP I.hok eb, dd, h _ _ (I.tok _) ?_⟩
  rw[l]
  exact(rel.val k).getD rd
end
def Mt(td ty : TE) : TE := λσ H Q=>td σ H λx H1=>∃a, x= .ref a/\To H1 a/\ty σ H1 λy H2=>∃o, yL H2 a y o/\Q (o.getD .non) H2
def Mu(td ty tx : TE) : TE := λσ H Q=>td σ H λx H1=>∃a, x= .ref a/\To H1 a/\ty σ H1 λy H2=>tx σ H2 λz H3=>∃o, yL H3 a y o/\Q (o.getD z) H3
section
variable {X : Cx} {o e f : Expr} {apos cpos : Pos} {td ty tx : TE}
theorem DE(hu : X.A.units+1 < cLine)(ho : PE X o td)(he : PE X e ty)(m : M1 X o "get" apos e cpos) : PE X (.Call (.Attribute o "get" apos) [e] [] cpos) (Mt td ty) := by
 intro pins s σ H Q I h
 refine wpAny_Call_method m.base m.few m.line PySem.F.plainAttrs_dict PySem.F.slot_dict_get PySem.F.type_dict_get (bD (ho pins s σ H _ I h) λu s1 ⟨x, H1, I1, rx, a, ex, d, q1⟩=>?_)
 subst ex
 obtain rfl : u=aO a := rx
 obtain⟨t1, t2, _⟩ := DD I1 d
 refine⟨t1, t2, ?_⟩
 rw[m.trees]
 refine yG rfl (yH (qk (bD (he pins s1 σ H1 _ I1 q1) λiv s2 ⟨y, H2, I2, ry, ov, g, q2⟩=>yz ?_)))
 exact Mr hu I2 g ry λw' s3 I3 rw'=>⟨_, H2, I3, rw', q2⟩
theorem wy(hu : X.A.units+1 < cLine)(ho : PE X o td)(he : PE X e ty)(hf : PE X f tx)(m : M2 X o "get" apos e f cpos) : PE X (.Call (.Attribute o "get" apos) [e, f] [] cpos) (Mu td ty tx) := by
 intro pins s σ H Q I h
 refine wpAny_Call_method m.base m.few m.line PySem.F.plainAttrs_dict PySem.F.slot_dict_get PySem.F.type_dict_get (bD (ho pins s σ H _ I h) λu s1 ⟨x, H1, I1, rx, a, ex, d, q1⟩=>?_)
 subst ex
 obtain rfl : u=aO a := rx
 obtain⟨t1, t2, _⟩ := DD I1 d
 refine⟨t1, t2, ?_⟩
 rw[m.trees]
 refine yG rfl (yH (qk (bD (he pins s1 σ H1 _ I1 q1) λiv s2 ⟨y, H2, I2, ry, q2⟩=>
  qk (bD (hf pins s2 σ H2 _ I2 q2) λfv s3 ⟨z, H3, I3, rz, ov, g, q3⟩=>yz ?_))))
 exact Ms hu I3 g ry rz λw' s4 I4 rw'=>⟨_, H3, I4, rw', q3⟩
end
section
variable {X : Cx} {pins : List (abF×Obj)} {σ : St} {H : Hp} {s : abK} {a : abF} {kvs : List (Key×V)} {A : abG} {E : abL->abK->Prop}
end
section
variable {X : Cx} {pins : List (abF×Obj)} {σ : St} {H : Hp} {s : abK} {a : abF} {y : V} {u : abL} {A : abG} {E : abL->abK->Prop}
end
end L2
namespace Att
open PySem PySem.W PySem.Calls PyProof.Rows
end Att
namespace L2
open PySem PySem.Spec PyProof.Rows
section
variable {X : Cx}
end
section
variable {κ : Type} [DecidableEq κ]
end
end L2
set_option maxHeartbeats 4000000
namespace J
open PySem PySem.Spec PyProof.Rows L2
def Tp(h base:Heap)(e:abF)(cls a0 fl:abL):Prop :=
 ∃ox us T ot ws,h.get? e=some ox/\(ox.cls=cls/\us[2]? =some cH)/\ox.data= .fields us/\us[1]? =some (.ref T)/\base.get? T=none/\T≠e/\h.get? T=some ot/\ot.data= .fields ws/\ws[3]? =some fl
abbrev HV(base:Heap)(l:List Env)(e:abF)(cls a0 fl:abL)(h:Heap):Prop:=base.StaysIn h/\base.get? e=none/\h.FunFrames base l/\Tp h base e cls a0 fl
def DF(base:Heap)(l:List Env)(e:abF)(cls a0:abL)(L:abF)(h:Heap):Prop:=HV base l e cls a0 (rawInt L) h
def Mv(base:Heap)(l:List Env)(e:abF)(cls a0:abL)(h:Heap):Prop:=HV base l e cls a0 .none h
section
variable {M:Model} {A:abG} {E:abL->abK->Prop} {s:abK} {base:Heap} {env:Env} {outer l:List Env} {L e:abF} {cls a0 nt:abL} {Q:Unit->abK->Prop}
theorem yM{h h1:Heap}{S:List abF}{ox ob:Obj}{us ws:Array abL}(so:Heap.SlotsOnly S h h1)(hS:S=l.filterMap (·.frame))(fs:h.FunFrames base l)(g1:h.get? e=some ox)(g3:ox.data= .fields us)(st:base.StaysIn h)(ne:base.get? e=none)(sz:1 < us.size)(g2:us[2]? =some cH)
  (d:ob.data= .fields ws)(w3:ws[3]? =some nt)(nf:ob.isFreed=false) :
  HV base l e ox.cls a0 nt ((h1.push ob).update e (jd (·.setIfInBounds 1 (.ref h1.objs.size))))/\h.UpToSlots ((h1.push ob).update e (jd (·.setIfInBounds 1 (.ref h1.objs.size)))):=by
 have nS:e∉S:=λz=>by
  rw[hS] at z
  obtain⟨_,o2,q2,d2⟩:=fs.mem z
  rw[g1] at q2
  cases q2
  exact d2 us g3
 have q1:h1.get? e=some ox:=(so.2.1 e nS).trans g1
 have lt:e≠h1.objs.size:=bN (bc q1)
 have XO:∀b o,b≠e->h1.get? b=some o->((h1.push ob).update e (jd (·.setIfInBounds 1 (.ref h1.objs.size)))).get? b=some o:=λb o n q=>(qq _ _ (bo n)).trans (bA _ q)
 have up:h.UpToSlots ((h1.push ob).update e (jd (·.setIfInBounds 1 (.ref h1.objs.size)))):=λb o q n=>by
  obtain⟨sl,q2⟩:=so.2.2 b o q
  exact⟨sl,XO b _ (λz=>by rw[z,g1] at q;cases q;exact n us g3) q2⟩
 have stay:base.StaysIn h1:=λb o q=>(so.2.1 b λz=>by
  rw[hS] at z
  rw[(fs.mem z).1] at q
  cases q).trans (st b o q)
 have fresh:base.get? h1.objs.size=none:=by
  cases z:base.get? h1.objs.size with
  | none=>rfl
  | some o=>exact absurd (bc (stay _ _ z)) (gz _)
 have d1:=pM g3 (·.setIfInBounds 1 (aO h1.objs.size))
 refine⟨⟨λb o q=>XO b o (λz=>by rw[z,ne] at q;cases q) (stay b o q),ne,fs.of_keeps λb o q n=>?_,_,_,h1.objs.size,ob,ws,yE _ (bA _ q1) (Al d1),⟨Obj.cls_mapFields _ _,?_⟩,d1,by simp[sz],fresh,bo lt,?_,d,w3⟩,up⟩
 ·obtain⟨sl,q2⟩:=up b o q n
  exact⟨_,q2,rfl⟩
 ·rw[Array.getElem?_setIfInBounds_ne (by decide)];exact g2
 ·exact(qq _ _ lt).trans (cJ _ nf)
theorem DG{ox:Obj}{us:Array abL}{head:abL}{had:Bool}(hfr:A.frames=some (env::outer))(fs:s.heap.FunFrames base (env::outer))(hf:env.frame=some L)(g1:s.heap.get? e=some ox)(st:base.StaysIn s.heap)(ne:base.get? e=none)(g3:ox.data= .fields us)(sz:1 < us.size)(g2:us[2]? =some cH)
  (k:∀h',DF base (env::outer) e ox.cls a0 L h'->s.heap.UpToSlots h'->Q () { s with heap:=h' }) :
  abY M A (do let a <-frameOf env;let pl <-entryPlaceOf L had;let b <-Mw head a .none (rawInt L) .none pl;setField (.ref e) 1 b) Q E s:=by
 refine abZ (wpAny_frameOf_fun hfr fs hf λh1 so=>abZ (wpAny_entryPlaceOf λpl pp=>?_))
 have nS:e∉(env::outer).filterMap (·.frame):=λz=>by
  obtain⟨_,o2,q2,d2⟩:=fs.mem z
  rw[g1] at q2
  cases q2
  exact d2 us g3
 have q1:h1.get? e=some ox:=(so.2.1 e nS).trans g1
 simp only[Mw,newFields]
 refine abZ (ab3 (wpAny_setField (bA _ q1) g3 sz ?_) (pp.sizeOk5 _ _ _ _ _))
 obtain⟨m,up⟩:=yM (a0:=a0) (nt:=rawInt L) so rfl fs g1 g3 st ne sz g2 (ob:={ cls:=.type "traceback",dict:=none,data:=.fields ([head,.ref L,.none,rawInt L,.none]++(if pl.isEmpty then aS 6 cH else pl)).toArray }) rfl (by first | (simp;done) | (rcases pp with rfl | ⟨_,_,_,_,_,_,_,rfl⟩<;>simp)) rfl
 exact k _ m up
theorem Mx(hf:env.frame=some L)(x:Tp s.heap base e cls a0 (rawInt L))(k:Q () s):abY M A (noteFrame (.ref e) env) Q E s:=by
 obtain⟨ox,us,T,ot,ws,g1,g2,g3,g4,g5,g6,g7,g8,g9⟩:=x
 unfold noteFrame
 simp only[hf]
 refine abZ (wpAny_field g1 g3 g4 ?_)
 rw[if_pos (by simp)]
 refine abZ (wpAny_field g7 g8 g9 ?_)
 rw[if_pos (by simp)]
 exact ab4 k
theorem Ki(x:HV base l e cls a0 nt s.heap)(k:∀h',Mv base l e cls a0 h'->s.heap.UpToSlots h'->Q () { s with heap:=h' }):abY M A (setFlight (.ref e) none) Q E s:=by
 obtain⟨x1,x2,x3,ox,us,T,ot,ws,g1,g2,g3,g4,g5,g6,g7,g8,g9⟩:=x
 have sz:3 < ws.size:=(Array.getElem?_eq_some_iff.mp g9).1
 unfold setFlight
 refine abZ (wpAny_field g1 g3 g4 ?_)
 rw[if_pos (by simp)]
 refine wpAny_setField g7 g8 sz ?_
 generalize hu:s.heap.update T _=h'
 have ap:∀b,b≠T->h'.get? b=s.heap.get? b:=λb n=>by rw[<-hu];exact qq _ _ (bo n)
 have pl:∀b o,s.heap.get? b=some o->(∀vs,o.data≠.fields vs)->h'.get? b=some o:=λb o q n=>(ap b λz=>by rw[z,g7] at q;cases q;exact n ws g8).trans q
 refine k h' ⟨λb o q=>(ap b λz=>by rw[z,g5] at q;cases q).trans (x1 b o q),x2,x3.of_keeps λb o q n=>⟨o,pl b o q n,rfl⟩,ox,us,T,jd (·.setIfInBounds 3 .none) ot,ws.setIfInBounds 3 .none,(ap e (bo g6)).trans g1,g2,g3,g4,g5,g6,?_,pM g8 _,?_⟩ λb o q n=>⟨o.slots,pl b o q n⟩
 ·rw[<-hu];exact yE _ g7 (Al (pM g8 _))
 ·simp[sz]
end
structure Lm where
 a:abF
 c:abF
 q:PySem.Str
 xs:List V
inductive Wv where
 | non
 | bl (b:Bool)
 | int (i:Int)
 | str (x:PySem.Str)
 | tup (ws:List Wv)
 | qA (ws:List Wv)
 | ref (l:Nat)
 | ty (n:String)
 | cls (c:PySem.Str)
 | wz (c:PySem.Str)
 | fn (p:Lm) (ws:List Wv)
inductive Ob where
 | lst (ws:List Wv)
 | sh (ns:List Int)
 | dct (kvs:List (L2.Key×Wv))
 | nL (kvs:List (List L2.Key×Wv))
 | Am (kvs:List (List L2.Key×Wv))
 | CW (kvs:List (L2.Key×Wv))
 | nM (kvs:List (NK.KD×Wv))
 | ins (c:PySem.Str) (fs:List (PySem.Str×Wv))
abbrev Hs:=List Ob
abbrev St:=L2.St
abbrev bY:=List (Option Wv)
abbrev Mp:=List abF
def DH(a C:abF):Heap->Prop:=λh=>∃o,h.get? a=some o/\o.cls= .ref C/\∃vs,o.data= .fields vs
def Tq(a C:abF)(u:Option HO):Prop:=∃o vs,u=some (.nO o (.ext (DH a C)))/\o.data= .fields vs/\vs[2]? =some cH
theorem Kj{P:abJ}{w:abM}{H:Hp}{h:Heap}{a C:abF}(ok:jX P w H h)(x:Tq a C (H a)):DH a C h:=let ⟨_,_,e,_⟩:=x;(ok a _ e).2.1
def ClsAt(K:PySem.W.Frag)(c:PySem.Str)(C:abF):Prop:=PySem.W.nsIn K abV c=some (some (.ref C))
def DI(c:abF)(q:PySem.Str):Heap->Prop:=λh=>h.CodeRec (.ref c) q
def cI:List PySem.Str:=["form_of","formula_by","turned","readied_content","ordered"]
def je(K:PySem.W.Frag)(q:PySem.Str):Option abF:=match PySem.W.tabIn K q with
 | some (_,P)=>if(K.lookup P).isNone=true then some P else none
 | none=>none
def U4(q:PySem.Str):PySem.Str:=(q++".<locals>.")++"<lambda>"
def uT(K:PySem.W.Frag)(H:Hp):Prop:=∀q P,q∈cI->je K q=some P->∃ps,H P=some (.eT ps)/\TriplesOk ps.toList/\∀pos cv,codeAmong pos ps.toList=some cv->∃c,cv= .ref c/\H c=some (.ext (DI c (U4 q)))
theorem uT.keep{K:PySem.W.Frag}{H H':Hp}(t:uT K H)(h1:∀a ps,H a=some (.eT ps)->H' a=some (.eT ps))(h2:∀a φ,H a=some (.ext φ)->H' a=some (.ext φ)):uT K H':=λq P hq hP=>by
 obtain⟨ps,e1,e2,e3⟩:=t q P hq hP
 refine⟨ps,h1 _ _ e1,e2,λpos cv e=>?_⟩
 obtain⟨c,f1,f2⟩:=e3 pos cv e
 exact⟨c,f1,h2 _ _ f2⟩
def U5(K:PySem.W.Frag)(a:abF)(xs:List V):Prop:=∃(o:Obj)(its:Array abL)(n:Nat),K.lookup a=some o/\o.cls= .type "tuple"/\o.data= .seq its n/\its.size<=abW/\Vals xs its.toList
mutual
def ao(K:PySem.W.Frag)(m:Mp)(H:Hp):Wv->V->Prop
 | .non,v=>v= .non
 | .bl b,v=>v= .bl b
 | .int i,v=>v= .int i
 | .str x,v=>v= .str x/\aY x=true
 | .tup ws,v=>∃a xs,v= .ref a/\H a=some (.tup xs)/\aq K m H ws xs
 | .qA ws,v=>∃a xs,v= .ref a/\U5 K a xs/\aq K m H ws xs
 | .ref l,v=>∃a,v= .ref a/\m[l]? =some a
 | .ty n,v=>v= .ty n
 | .cls c,v=>∃C,v= .ref C/\ClsAt K c C
 | .wz c,v=>∃a C,v= .ref a/\ClsAt K c C/\Tq a C (H a)
 | .fn p ws,v=>v= .ref p.a/\H p.c=some (.ext (DI p.c p.q))/\aq K m H ws p.xs
def aq(K:PySem.W.Frag)(m:Mp)(H:Hp):List Wv->List V->Prop
 | [],xs=>xs=[]
 | w::ws,xs=>∃x r,xs=x::r/\ao K m H w x/\aq K m H ws r
end
structure Ext(K:PySem.W.Frag)(m:Mp)(H:Hp)(m':Mp)(H':Hp):Prop where
 pre:∀(l:Nat)(a:abF),m[l]? =some a->m'[l]? =some a
 tup:∀(a:abF)(xs:List V),H a=some (.tup xs)->H' a=some (.tup xs)
 ext:∀(a:abF)(φ:Heap->Prop),H a=some (.ext φ)->H' a=some (.ext φ)
 nO:∀(a:abF)(o:Obj)(u:HO),H a=some (.nO o u)->H' a=some (.nO o u)
section
variable {K:PySem.W.Frag} {m m1 m2:Mp} {H H1 H2:Hp}
theorem Ext.refl:Ext K m H m H:=⟨λ_ _ h=>h,λ_ _ h=>h,λ_ _ h=>h,λ_ _ _ h=>h⟩
theorem Ext.trans(a:Ext K m H m1 H1)(b:Ext K m1 H1 m2 H2):Ext K m H m2 H2 :=
 ⟨λl x h=>b.pre l x (a.pre l x h),λx xs h=>b.tup x xs (a.tup x xs h),λx φ h=>b.ext x φ (a.ext x φ h),λx o u h=>b.nO x o u (a.nO x o u h)⟩
structure Mz(K:PySem.W.Frag)(m:Mp)(H:Hp)(m':Mp)(H':Hp):Prop where
 pre:∀(l:Nat)(a:abF),m[l]? =some a->m'[l]? =some a
 tup:∀(a:abF)(xs:List V),H a=some (.tup xs)->H' a=some (.tup xs)
 ext:∀(a:abF)(φ:Heap->Prop),H a=some (.ext φ)->H' a=some (.ext φ)
 fx:∀(a:abF)(o:Obj)(φ:Heap->Prop),H a=some (.nO o (.ext φ))->H' a=some (.nO o (.ext φ))
theorem Ext.z(e:Ext K m H m1 H1):Mz K m H m1 H1:=⟨e.pre,e.tup,e.ext,λa o φ h=>e.nO a o _ h⟩
mutual
theorem ao.oR(e:Mz K m H m1 H1):∀(w:Wv)(v:V),ao K m H w v->ao K m1 H1 w v
 | .non,v,h=>by unfold ao at h ⊢;exact h
 | .bl b,v,h=>by unfold ao at h ⊢;exact h
 | .int i,v,h=>by unfold ao at h ⊢;exact h
 | .str x,v,h=>by unfold ao at h ⊢;exact h
 | .ty n,v,h=>by unfold ao at h ⊢;exact h
 | .cls c,v,h=>by unfold ao at h ⊢;exact h
 | .wz c,v,h=>by
  unfold ao at h ⊢
  obtain⟨a,C,e1,e2,o,vs,e3,e4⟩:=h
  exact⟨a,C,e1,e2,o,vs,e.fx _ _ _ e3,e4⟩
 | .ref l,v,h=>by
  unfold ao at h ⊢
  obtain⟨a,e1,e2⟩:=h
  exact⟨a,e1,e.pre _ _ e2⟩
 | .tup ws,v,h=>by
  unfold ao at h ⊢
  obtain⟨a,xs,e1,e2,e3⟩:=h
  exact⟨a,xs,e1,e.tup _ _ e2,aq.oR e ws xs e3⟩
 | .qA ws,v,h=>by
  unfold ao at h ⊢
  obtain⟨a,xs,e1,e2,e3⟩:=h
  exact⟨a,xs,e1,e2,aq.oR e ws xs e3⟩
 | .fn p ws,v,h=>by
  unfold ao at h ⊢
  obtain⟨e1,e2,e3⟩:=h
  exact⟨e1,e.ext _ _ e2,aq.oR e ws p.xs e3⟩
theorem aq.oR(e:Mz K m H m1 H1):∀(ws:List Wv)(xs:List V),aq K m H ws xs->aq K m1 H1 ws xs
 | [],xs,h=>by unfold aq at h ⊢;exact h
 | w::ws,xs,h=>by
  unfold aq at h ⊢
  obtain⟨x,r,e1,e2,e3⟩:=h
  exact⟨x,r,e1,ao.oR e w x e2,aq.oR e ws r e3⟩
end
theorem ao.mono(e:Ext K m H m1 H1)(w:Wv)(v:V)(h:ao K m H w v):ao K m1 H1 w v:=ao.oR e.z w v h
theorem aq.mono(e:Ext K m H m1 H1)(ws:List Wv)(xs:List V)(h:aq K m H ws xs):aq K m1 H1 ws xs:=aq.oR e.z ws xs h
theorem aq.nil:aq K m H [] []:=by unfold aq;rfl
theorem aq.cons{w:Wv}{x:V}{ws:List Wv}{xs:List V}(h:ao K m H w x)(t:aq K m H ws xs):aq K m H (w::ws) (x::xs):=by unfold aq;exact⟨x,xs,rfl,h,t⟩
theorem aq.length:∀{ws:List Wv}{xs:List V},aq K m H ws xs->ws.length=xs.length
 | [],xs,h=>by unfold aq at h;subst h;rfl
 | w::ws,xs,h=>by
  unfold aq at h
  obtain⟨x,r,e1,_,e3⟩:=h
  subst e1
  simp[aq.length e3]
theorem aq.get:∀{ws:List Wv}{xs:List V}{i:Nat}{w:Wv},aq K m H ws xs->ws[i]? =some w->∃x,xs[i]? =some x/\ao K m H w x
 | [],_,i,w,_,e=>by simp at e
 | a::ws,xs,0,w,h,e=>by
  unfold aq at h
  obtain⟨x,r,e1,e2,_⟩:=h
  subst e1
  simp at e
  subst e
  exact⟨x,rfl,e2⟩
 | a::ws,xs,i+1,w,h,e=>by
  unfold aq at h
  obtain⟨x,r,e1,_,e3⟩:=h
  subst e1
  obtain⟨y,f1,f2⟩:=aq.get (i:=i) (w:=w) e3 (by simpa using e)
  exact⟨y,by simpa using f1,f2⟩
theorem aq.append:∀{ws zs:List Wv}{xs ys:List V},aq K m H ws xs->aq K m H zs ys->aq K m H (ws++zs) (xs++ys)
 | [],_,xs,_,h,g=>by unfold aq at h;subst h;exact g
 | w::ws,zs,xs,ys,h,g=>by
  unfold aq at h
  obtain⟨x,r,e1,e2,e3⟩:=h
  subst e1
  exact aq.cons e2 (aq.append e3 g)
theorem aq.set:∀{ws:List Wv}{xs:List V}(i:Nat){w:Wv}{x:V},aq K m H ws xs->ao K m H w x->aq K m H (ws.set i w) (xs.set i x)
 | [],xs,i,w,x,h,_=>by unfold aq at h;subst h;exact aq.nil
 | a::ws,xs,0,w,x,h,g=>by
  unfold aq at h
  obtain⟨y,r,e1,e2,e3⟩:=h
  subst e1
  exact aq.cons g e3
 | a::ws,xs,i+1,w,x,h,g=>by
  unfold aq at h
  obtain⟨y,r,e1,e2,e3⟩:=h
  subst e1
  exact aq.cons e2 (aq.set i e3 g)
theorem aq.drop:∀{ws:List Wv}{xs:List V}(i:Nat),aq K m H ws xs->aq K m H (ws.drop i) (xs.drop i)
 | ws,xs,0,h=>by simpa using h
 | [],xs,i+1,h=>by unfold aq at h;subst h;simpa using aq.nil
 | a::ws,xs,i+1,h=>by
  unfold aq at h
  obtain⟨y,r,e1,e2,e3⟩:=h
  subst e1
  simpa using aq.drop i e3
theorem aq.take:∀{ws:List Wv}{xs:List V}(i:Nat),aq K m H ws xs->aq K m H (ws.take i) (xs.take i)
 | ws,xs,0,h=>by simpa using aq.nil
 | [],xs,i+1,h=>by unfold aq at h;subst h;simpa using aq.nil
 | a::ws,xs,i+1,h=>by
  unfold aq at h
  obtain⟨y,r,e1,e2,e3⟩:=h
  subst e1
  simpa using aq.cons e2 (aq.take i e3)
theorem aq.ints:∀(ns:List Int),aq K m H (ns.map Wv.int) (ns.map V.int)
 | []=>aq.nil
 | n::ns=>aq.cons (by unfold ao;rfl) (aq.ints ns)
end
def wA(K:PySem.W.Frag)(H:Hp)(a:abF)(ns:List Int):Prop :=
 (∃o,H a=some (.nO o (.lst (ns.map V.int))))\/
  ∃(o:Obj)(its:Array abL)(n:Nat),K.lookup a=some o/\o.cls= .type "list"/\o.dict=none/\o.data= .seq its n/\its.size<=abW/\Vals (ns.map V.int) its.toList
def RelK{κ:Type}(K:PySem.W.Frag)(m:Mp)(H:Hp)(kvs:List (κ×Wv))(xs:List (κ×V)):Prop:=kvs.map (·.1)=xs.map (·.1)/\aq K m H (kvs.map (·.2)) (xs.map (·.2))
def sA(K:PySem.W.Frag)(m:Mp)(H:Hp)(a:abF):Ob->Prop
 | .lst ws=>∃xs,H a=some (.lst xs)/\aq K m H ws xs
 | .sh ns=>wA K H a ns
 | .dct kvs=>∃xs,H a=some (.dK xs)/\RelK K m H kvs xs
 | .nL kvs=>∃xs,H a=some (.dT xs)/\RelK K m H kvs xs
 | .Am kvs=>∃o xs,H a=some (.nO o (.dT xs))/\RelK K m H kvs xs
 | .CW kvs=>∃o xs,H a=some (.nO o (.dK xs))/\RelK K m H kvs xs
 | .nM kvs=>∃xs,H a=some (.dN xs)/\RelK K m H kvs xs
 | .ins c fs=>∃C dx xs,H a=some (.ins C dx xs)/\ClsAt K c C/\RelK K m H fs xs
def Ob.mu:Ob->Bool
 | .sh _=>false
 | _=>true
def Ob.wm:Ob->Bool
 | .sh _=>false
 | .Am _=>false
 | .CW _=>false
 | _=>true
theorem Ob.QB{o:Ob}(h:o.wm=true):o.mu=true:=by cases o<;>first | rfl | cases h
structure bZ(K:PySem.W.Frag)(m:Mp)(st:Hs)(H:Hp):Prop where
 len:m.length=st.length
 obj:∀(l:Nat)(a:abF)(o:Ob),m[l]? =some a->st[l]? =some o->sA K m H a o
 inj:∀(l l':Nat)(a:abF)(o o':Ob),m[l]? =some a->m[l']? =some a->st[l]? =some o->st[l']? =some o'->o.mu=true->o'.mu=true->l=l'
 tab:uT K H
def aB(st:Hs)(l:Nat):Option (List Wv):=match st[l]? with
 | some (.lst ws)=>some ws
 | some (.sh ns)=>some (ns.map Wv.int)
 | _=>none
section
variable {K:PySem.W.Frag} {m:Mp} {H:Hp} {st:Hs}
def Wr(u:Option HO):Prop:=u=none\/(∃ys,u=some (.lst ys))\/(∃ys,u=some (.dK ys))\/(∃ys,u=some (.dT ys))\/(∃ys,u=some (.dN ys))\/∃C dx fs,u=some (.ins C dx fs)
theorem Wr.ne{p a:abF}{u:HO}(hp:Wr (H p))(e:H a=some u)(n1:∀ys,u≠.lst ys)(n2:∀ys,u≠.dK ys)(n3:∀ys,u≠.dT ys)(n4:∀ys,u≠.dN ys)(n5:∀C dx fs,u≠.ins C dx fs:=by nofun):a≠p:=λz=>by
 subst z
 rcases hp with q | ⟨ys,q⟩ | ⟨ys,q⟩ | ⟨ys,q⟩ | ⟨ys,q⟩ | ⟨C,dx,fs,q⟩
 ·rw[q] at e;cases e
 ·rw[q] at e;cases e;exact n1 ys rfl
 ·rw[q] at e;cases e;exact n2 ys rfl
 ·rw[q] at e;cases e;exact n3 ys rfl
 ·rw[q] at e;cases e;exact n4 ys rfl
 ·rw[q] at e;cases e;exact n5 C dx fs rfl
theorem DJ{p a:abF}{o:HO}{xs:List V}(hp:Wr (H p))(h:H a=some (.tup xs)):upd H p o a=some (.tup xs):=by
 rw[a9 (hp.ne h nofun nofun nofun nofun)];exact h
theorem DK{p a:abF}{o:HO}{ns:List Int}(hp:Wr (H p))(h:wA K H a ns):wA K (upd H p o) a ns:=by
 rcases h with ⟨o',h⟩ | h
 ·exact .inl ⟨o',by rw[a9 (hp.ne h nofun nofun nofun nofun)];exact h⟩
 ·exact .inr h
theorem Wr.of{u:Option HO}(h:u=none\/∃ys,u=some (.lst ys)):Wr u:=by
 rcases h with q | q
 ·exact .inl q
 ·exact .inr (.inl q)
theorem Ext.iD{p:abF}{o:HO}(hp:Wr (H p)):Ext K m H m (upd H p o):=⟨λ_ _ h=>h,λ_ _ h=>DJ hp h,λa φ h=>by
 rw[a9 (hp.ne h nofun nofun nofun nofun)]
 exact h,λa o u h=>by
 rw[a9 (hp.ne h nofun nofun nofun nofun)]
 exact h⟩
theorem Ext.upd{p:abF}{o:HO}(hp:H p=none\/∃ys,H p=some (.lst ys)):Ext K m H m (upd H p o):=Ext.iD (Wr.of hp)
theorem RelK.mono{κ:Type}{m1:Mp}{H1:Hp}{kvs:List (κ×Wv)}{xs:List (κ×V)}(e:Ext K m H m1 H1)(h:RelK K m H kvs xs):RelK K m1 H1 kvs xs:=⟨h.1,aq.mono e _ _ h.2⟩
theorem sA.keep{m1:Mp}{b p:abF}{u:HO}{o:Ob}(ex:Ext K m H m1 (L2.upd H p u))(hp:Wr (H p))(hb:o.mu=true->b≠p)(h:sA K m H b o):sA K m1 (L2.upd H p u) b o:=by
 cases o with
 | lst ws=>
  obtain⟨xs,e1,e2⟩:=h
  exact⟨xs,by rw[a9 (hb rfl)];exact e1,aq.mono ex _ _ e2⟩
 | dct kvs=>
  obtain⟨xs,e1,e2⟩:=h
  exact⟨xs,by rw[a9 (hb rfl)];exact e1,e2.mono ex⟩
 | nL kvs=>
  obtain⟨xs,e1,e2⟩:=h
  exact⟨xs,by rw[a9 (hb rfl)];exact e1,e2.mono ex⟩
 | Am kvs=>
  obtain⟨o,xs,e1,e2⟩:=h
  exact⟨o,xs,by rw[a9 (hb rfl)];exact e1,e2.mono ex⟩
 | CW kvs=>
  obtain⟨o,xs,e1,e2⟩:=h
  exact⟨o,xs,by rw[a9 (hb rfl)];exact e1,e2.mono ex⟩
 | nM kvs=>
  obtain⟨xs,e1,e2⟩:=h
  exact⟨xs,by rw[a9 (hb rfl)];exact e1,e2.mono ex⟩
 | ins c fs=>
  obtain⟨C,dx,xs,e1,e2,e3⟩:=h
  exact⟨C,dx,xs,by rw[a9 (hb rfl)];exact e1,e2,e3.mono ex⟩
 | sh ns=>exact DK hp h
theorem sA.at{b:abF}{o:Ob}(h:sA K m H b o)(hm:o.mu=true):∃u,H b=some u:=by
 cases o with
 | lst ws=>obtain⟨xs,e1,e2⟩:=h;exact⟨_,e1⟩
 | dct kvs=>obtain⟨xs,e1,e2⟩:=h;exact⟨_,e1⟩
 | nL kvs=>obtain⟨xs,e1,e2⟩:=h;exact⟨_,e1⟩
 | Am kvs=>obtain⟨o,xs,e1,e2⟩:=h;exact⟨_,e1⟩
 | CW kvs=>obtain⟨o,xs,e1,e2⟩:=h;exact⟨_,e1⟩
 | nM kvs=>obtain⟨xs,e1,e2⟩:=h;exact⟨_,e1⟩
 | ins c fs=>obtain⟨C,dx,xs,e1,e2⟩:=h;exact⟨_,e1⟩
 | sh ns=>simp[Ob.mu] at hm
theorem sA.wr{b:abF}{o:Ob}(h:sA K m H b o)(hm:o.wm=true):Wr (H b):=by
 cases o with
 | lst ws=>obtain⟨xs,e1,e2⟩:=h;exact .inr (.inl ⟨_,e1⟩)
 | dct kvs=>obtain⟨xs,e1,e2⟩:=h;exact .inr (.inr (.inl ⟨_,e1⟩))
 | nL kvs=>obtain⟨xs,e1,e2⟩:=h;exact .inr (.inr (.inr (.inl ⟨_,e1⟩)))
 | nM kvs=>obtain⟨xs,e1,e2⟩:=h;exact .inr (.inr (.inr (.inr (.inl ⟨_,e1⟩))))
 | ins c fs=>obtain⟨C,dx,xs,e1,e2⟩:=h;exact .inr (.inr (.inr (.inr (.inr ⟨_,_,_,e1⟩))))
 | Am kvs=>cases hm
 | CW kvs=>cases hm
 | sh ns=>cases hm
theorem uT.iD{p:abF}{o:HO}(t:uT K H)(hp:Wr (H p)):uT K (L2.upd H p o):=t.keep
 (λa ps h=>by rw[a9 (hp.ne h nofun nofun nofun nofun)];exact h)
 λa φ h=>by rw[a9 (hp.ne h nofun nofun nofun nofun)];exact h
theorem Ext.more{p:abF}:Ext K m H (m++[p]) H:=⟨λl a h=>by
 rw[f9]
 ·exact h
 ·exact(List.getElem?_eq_some_iff.mp h).1,λ_ _ h=>h,λ_ _ h=>h,λ_ _ _ h=>h⟩
theorem bZ.fresh{p:abF}{o:HO}(S:bZ K m st H)(hp:H p=none):bZ K m st (upd H p o) :=
 ⟨S.len,λl a ob h1 h2=>by
  have q:=S.obj l a ob h1 h2
  refine q.keep (Ext.iD (.inl hp)) (.inl hp) λhm=>?_
  obtain⟨u,e⟩:=q.at hm
  exact dg e hp,S.inj,S.tab.iD (.inl hp)⟩
theorem bZ.qB{l:Nat}{a:abF}{ws:List Wv}(S:bZ K m st H)(h1:m[l]? =some a)(h2:st[l]? =some (.lst ws)):∃xs,H a=some (.lst xs)/\aq K m H ws xs:=S.obj l a _ h1 h2
theorem bZ.read{l:Nat}{a:abF}{ws:List Wv}(S:bZ K m st H)(h1:m[l]? =some a)(h2:aB st l=some ws):∃xs,lX K H a xs/\aq K m H ws xs:=by
 unfold aB at h2
 cases e:st[l]? with
 | none=>rw[e] at h2;cases h2
 | some o=>
  rw[e] at h2
  cases o with
  | lst zs=>
   cases h2
   obtain⟨xs,e1,e2⟩:=S.qB h1 e
   exact⟨xs,lX.of e1,e2⟩
  | dct kvs=>cases h2
  | nL kvs=>cases h2
  | Am kvs=>cases h2
  | CW kvs=>cases h2
  | nM kvs=>cases h2
  | ins c fs=>cases h2
  | sh ns=>
   cases h2
   have q:wA K H a ns:=S.obj l a _ h1 e
   refine⟨ns.map V.int,?_,aq.ints ns⟩
   rcases q with ⟨o,q⟩ | q
   ·exact .inl (.inr ⟨o,q⟩)
   ·exact .inr q
theorem bZ.uU{p:abF}{ob:Ob}{u:HO}(S:bZ K m st H)(hp:H p=none)(r:sA K (m++[p]) (L2.upd H p u) p ob):bZ K (m++[p]) (st++[ob]) (L2.upd H p u):=by
 have ex:Ext K m H (m++[p]) (L2.upd H p u):=Ext.more.trans (Ext.iD (.inl hp))
 have DL:∀(l:Nat)(o:Ob),m[l]? =some p->st[l]? =some o->o.mu=true->False:=λl o h1 h2 hm=>by
  obtain⟨v,e⟩:=(S.obj l p o h1 h2).at hm
  rw[hp] at e;cases e
 have old:∀(l:Nat)(a:abF),(m++[p])[l]? =some a->(l < m.length/\m[l]? =some a)\/(l=m.length/\a=p):=λl a h=>by
  by_cases hl:l < m.length
  ·exact .inl ⟨hl,by rw[f9 hl] at h;exact h⟩
  ·have h':=h
   rw[l9 (by omega)] at h'
   have z:=List.getElem?_eq_some_iff.mp h'
   have z1:l - m.length < 1:=by simpa using z.1
   refine .inr ⟨by omega,?_⟩
   have e0:l - m.length=0:=by omega
   rw[e0] at h'
   simpa using h'.symm
 have olds:∀(l:Nat)(o:Ob),l < m.length->(st++[ob])[l]? =some o->st[l]? =some o:=λl o hl h=>by
  rw[f9 (by rw[<-S.len];exact hl)] at h
  exact h
 refine⟨by simp[S.len],λl a o h1 h2=>?_,λl l' a zs zs' h1 Kk h2 h2' k k'=>?_,S.tab.iD (.inl hp)⟩
 ·rcases old l a h1 with ⟨hl,h1⟩ | ⟨hl,rfl⟩
  ·have q:=S.obj l a o h1 (olds l o hl h2)
   refine q.keep ex (.inl hp) λhm=>?_
   obtain⟨v,e⟩:=q.at hm
   exact dg e hp
  ·have e:o=ob:=by
    rw[hl,S.len,l9 (aC _),pN] at h2
    simpa using h2.symm
   subst e
   exact r
 ·rcases old l a h1 with ⟨hl,g1⟩ | ⟨hl,ea⟩
  ·rcases old l' a Kk with ⟨hl',Pq⟩ | ⟨hl',ea'⟩
   ·exact S.inj l l' a zs zs' g1 Pq (olds l _ hl h2) (olds l' _ hl' h2') k k'
   ·rw[ea'] at g1
    exact(DL l zs g1 (olds l _ hl h2) k).elim
  ·rcases old l' a Kk with ⟨hl',Pq⟩ | ⟨hl',_⟩
   ·rw[ea] at Pq
    exact(DL l' zs' Pq (olds l' _ hl' h2') k').elim
   ·omega
theorem bZ.alloc{p:abF}{ws:List Wv}{xs:List V}(S:bZ K m st H)(hp:H p=none)(r:aq K m H ws xs):bZ K (m++[p]) (st++[.lst ws]) (upd H p (.lst xs)) :=
 S.uU hp ⟨xs,bC,aq.mono (Ext.more.trans (Ext.iD (.inl hp))) _ _ r⟩
theorem bZ.qC{l:Nat}{a:abF}{o0 ob:Ob}{u:HO}(S:bZ K m st H)(h1:m[l]? =some a)(h2:st[l]? =some o0)(hw:o0.wm=true)(r:sA K m (L2.upd H a u) a ob):bZ K m (st.set l ob) (L2.upd H a u):=by
 have wr:Wr (H a):=(S.obj l a o0 h1 h2).wr hw
 have hm:=Ob.QB hw
 have ex:Ext K m H m (L2.upd H a u):=Ext.iD wr
 have hl:l < st.length:=(List.getElem?_eq_some_iff.mp h2).1
 have at':∀(k:Nat)(o:Ob),(st.set l ob)[k]? =some o->(k=l/\o=ob)\/(k≠l/\st[k]? =some o):=λk o h=>by
  by_cases e:l=k
  ·subst e
   rw[qh hl] at h
   exact .inl ⟨rfl,(Option.some.inj h).symm⟩
  ·rw[cK e] at h
   exact .inr ⟨λz=>e z.symm,h⟩
 refine⟨by simp[S.len],λk b o g1 g2=>?_,λk k' b us us' g1 Pq g2 Ze q q'=>?_,S.tab.iD wr⟩
 ·rcases at' k o g2 with ⟨rfl,rfl⟩ | ⟨hk,g2⟩
  ·rw[h1] at g1;cases g1
   exact r
  ·have q:=S.obj k b o g1 g2
   refine q.keep ex wr λho z=>?_
   subst z
   exact hk (S.inj k l b o o0 g1 h1 g2 h2 ho hm)
 ·have back:∀(k:Nat)(o:Ob),(st.set l ob)[k]? =some o->o.mu=true->∃o',st[k]? =some o'/\o'.mu=true:=λk o h ho=>by
   rcases at' k _ h with ⟨rfl,_⟩ | ⟨_,h⟩
   ·exact⟨o0,h2,hm⟩
   ·exact⟨o,h,ho⟩
  obtain⟨u1,e1,f1⟩:=back k us g2 q
  obtain⟨u2,e2,f2⟩:=back k' us' Ze q'
  exact S.inj k k' b u1 u2 g1 Pq e1 e2 f1 f2
theorem bZ.write{l:Nat}{a:abF}{ws zs:List Wv}{xs:List V}(S:bZ K m st H)(h1:m[l]? =some a)(h2:st[l]? =some (.lst ws))(r:aq K m H zs xs):bZ K m (st.set l (.lst zs)) (upd H a (.lst xs)) :=
 S.qC h1 h2 rfl ⟨xs,bC,aq.mono (Ext.iD ((S.obj l a _ h1 h2).wr rfl)) _ _ r⟩
end
structure aT(K:PySem.W.Frag)(m:Mp)(H:Hp)(ρ:bY)(σ:St):Prop where
 len:ρ.length=σ.length
 get:∀(i:Nat)(w:Wv),ρ[i]? =some (some w)->∃v,σ[i]? =some (some v)/\ao K m H w v
section
variable {K:PySem.W.Frag} {m m1:Mp} {H H1:Hp} {ρ:bY} {σ:St}
theorem aT.mono(R:aT K m H ρ σ)(e:Ext K m H m1 H1):aT K m1 H1 ρ σ:=⟨R.len,λi w h=>let ⟨v,h1,h2⟩:=R.get i w h;⟨v,h1,ao.mono e _ _ h2⟩⟩
theorem aT.set(R:aT K m H ρ σ)(i:Nat){w:Wv}{v:V}(h:ao K m H w v):aT K m H (ρ.set i (some w)) (σ.set i (some v)):=by
 refine⟨by simp[R.len],λj u e=>?_⟩
 by_cases hj:i=j
 ·subst hj
  have hi:i < ρ.length:=by
   have:=(List.getElem?_eq_some_iff.mp e).1
   simpa using this
  rw[qh hi] at e
  have e':w=u:=Option.some.inj (Option.some.inj e)
  subst e'
  exact⟨v,by rw[qh (by rw[<-R.len];exact hi)],h⟩
 ·rw[cK hj] at e
  obtain⟨x,h1,h2⟩:=R.get j u e
  exact⟨x,by rw[cK hj];exact h1,h2⟩
end
inductive Re(α:Type) where
 | ok (a:α) (st:Hs)
 | err (c:PySem.Str) (st:Hs)
 | bad
def Re.bind{α β:Type}(r:Re α)(f:α->Hs->Re β):Re β:=match r with
 | .ok a st=>f a st
 | .err c st=> .err c st
 | .bad=> .bad
inductive Rs where
 | nx (ρ:bY) (st:Hs)
 | rt (w:Wv) (st:Hs)
 | bk (ρ:bY) (st:Hs)
 | ct (ρ:bY) (st:Hs)
 | err (c:PySem.Str) (ρ:bY) (st:Hs)
 | bad
def Re.bD{α:Type}(ρ:bY)(r:Re α)(f:α->Hs->Rs):Rs:=match r with
 | .ok a st=>f a st
 | .err c st=> .err c ρ st
 | .bad=> .bad
def Re.pO{α:Type}(r:Re α):Re α:=match r with
 | .ok a st=> .ok a st
 | _=> .bad
abbrev GE:=bY->Hs->Re Wv
abbrev GT:=bY->Hs->Re Bool
abbrev GA:=bY->Hs->Re (List Wv)
abbrev GS:=bY->Hs->Rs
def wB(P:abJ)(w:abM)(outer:List Env)(H:Hp)(s:abK)(H':Hp)(cls:abL)(e:abL)(s':abK):Prop :=
 ∃(a:abF)(a0:abL)(B:Heap),e= .ref a/\s'.os=s.os/\AllBare s'.gens/\Un (frs outer) [] H H' s.heap s'.heap/\jX P w H' B/\Mv B outer a cls a0 s'.heap/\
  (∀b o,s.heap.get? b=some o->b∉frs outer->∃o',B.get? b=some o'/\(H b=none->o'=o))
def yN(X:Cx)(pins:List (abF×Obj))(H:Hp)(s:abK)(H':Hp)(cls:abL)(e:abL)(s':abK):Prop :=
 ∃(a:abF)(a0 nt:abL)(B:Heap)(ch:List abF),e= .ref a/\s'.os=s.os/\AllBare s'.gens/\(∀b∈ch,h_ X pins H b)/\Un (frs X.stack) ch H H' s.heap s'.heap/\jX X.prog X.w H' B/\
  (B.StaysIn s'.heap/\B.get? a=none/\s'.heap.FunFrames B X.stack/\Tp s'.heap B a cls a0 nt)/\
  (∀b o,s.heap.get? b=some o->b∉frs X.stack->b∉ch->∃o',B.get? b=some o'/\(H b=none->o'=o))
theorem wB.any{X:Cx}{pins:List (abF×Obj)}{H H':Hp}{s s':abK}{cls e:abL}(f:wB X.prog X.w X.stack H s H' cls e s'):yN X pins H s H' cls e s' :=
 let ⟨a,a0,B,e1,e2,e3,un,hok,fl,QC⟩:=f
 ⟨a,a0,.none,B,[],e1,e2,e3,(λb z=>by cases z),un,hok,fl,λb o q hb _=>QC b o q hb⟩
def yO(X:Cx)(σ:St)(H':Hp)(c:PySem.Str)(e:abL)(s':abK):Prop :=
 ∃(C:abF)(pins:List (abF×Obj))(Hc:Hp)(sc:abK),ClsAt X.K c C/\Inv X pins σ Hc sc/\
  (yN X pins Hc sc H' (.ref C) e s'\/(H'=Hc/\∃a args,e= .ref a/\s'.os=sc.os/\s'.gens=sc.gens/\DM sc.heap s'.heap a (.ref C) args))
def Pr(X:Cx)(σ:St)(m:Mp)(H:Hp)(c:PySem.Str)(st:Hs):Prop :=
 ∀(m':Mp)(H':Hp)(e:abL)(s':abK),Ext X.K m H m' H'->bZ X.K m' st H'->yO X σ H' c e s'->X.xe e s'
theorem Pr.mono{X:Cx}{σ:St}{m m1:Mp}{H H1:Hp}{c:PySem.Str}{st:Hs}(h:Pr X σ m H c st)(e:Ext X.K m H m1 H1):Pr X σ m1 H1 c st :=
 λm' H' x s' e' S r=>h m' H' x s' (e.trans e') S r
def aK{α:Type}(X:Cx)(σ:St)(m:Mp)(H:Hp)(r:Re α)(ok:α->Hs->Prop):Prop:=match r with
 | .ok a st=>ok a st
 | .err c st=>Pr X σ m H c st
 | .bad=>False
def qD{α:Type}(r:Re α)(ok:α->Hs->Prop):Prop:=match r with
 | .ok a st=>ok a st
 | _=>False
theorem aK.pO{α:Type}{X:Cx}{σ:St}{m:Mp}{H:Hp}{r:Re α}{ok:α->Hs->Prop}(h:aK X σ m H r.pO ok):qD r ok:=by
 cases r with
 | ok a st=>exact h
 | err c st=>exact h
 | bad=>exact h
theorem aK.bind{α β:Type}{X:Cx}{σ:St}{m:Mp}{H:Hp}{r:Re α}{f:α->Hs->Re β}{ok:β->Hs->Prop}(h:aK X σ m H (r.bind f) ok):aK X σ m H r (λa st=>aK X σ m H (f a st) ok):=by
 cases r with
 | ok a st=>exact h
 | err c st=>exact h
 | bad=>exact h
theorem aK.imp{α:Type}{X:Cx}{σ:St}{m m1:Mp}{H H1:Hp}{r:Re α}{ok ok':α->Hs->Prop}(h:aK X σ m H r ok)(e:Ext X.K m H m1 H1)(k:∀a st,ok a st->ok' a st):aK X σ m1 H1 r ok':=by
 cases r with
 | ok a st=>exact k a st h
 | err c st=>exact Pr.mono (c:=c) (st:=st) h e
 | bad=>exact h
theorem qD.imp{α:Type}{r:Re α}{ok ok':α->Hs->Prop}(h:qD r ok)(k:∀a st,ok a st->ok' a st):qD r ok':=by
 cases r with
 | ok a st=>exact k a st h
 | err c st=>exact h
 | bad=>exact h
def Pu(K:PySem.W.Frag)(m:Mp)(H:Hp)(Q:VK)(w:Wv)(st:Hs):Prop:=∀(v:V)(m':Mp)(H':Hp),Ext K m H m' H'->bZ K m' st H'->ao K m' H' w v->Q v H'
def Zf(K:PySem.W.Frag)(m:Mp)(H:Hp)(Q:Bool->Hp->Prop)(b:Bool)(st:Hs):Prop:=∀(m':Mp)(H':Hp),Ext K m H m' H'->bZ K m' st H'->Q b H'
def Zg(K:PySem.W.Frag)(m:Mp)(H:Hp)(Q:List V->Hp->Prop)(ws:List Wv)(st:Hs):Prop:=∀(vs:List V)(m':Mp)(H':Hp),Ext K m H m' H'->bZ K m' st H'->aq K m' H' ws vs->Q vs H'
abbrev eO(X:Cx)(σ:St)(m:Mp)(H:Hp)(r:Re Wv)(Q:VK):Prop:=aK X σ m H r (Pu X.K m H Q)
abbrev iM(X:Cx)(σ:St)(m:Mp)(H:Hp)(r:Re Bool)(Q:Bool->Hp->Prop):Prop:=aK X σ m H r (Zf X.K m H Q)
abbrev Kl(X:Cx)(σ:St)(m:Mp)(H:Hp)(r:Re (List Wv))(Q:List V->Hp->Prop):Prop:=aK X σ m H r (Zg X.K m H Q)
theorem eO.shift{X:Cx}{σ:St}{m m1:Mp}{H H1:Hp}{r:Re Wv}{Q:VK}(h:eO X σ m H r Q)(e:Ext X.K m H m1 H1):eO X σ m1 H1 r Q:=h.imp e λ_ _ k v m' H' e'=>k v m' H' (e.trans e')
theorem iM.shift{X:Cx}{σ:St}{m m1:Mp}{H H1:Hp}{r:Re Bool}{Q:Bool->Hp->Prop}(h:iM X σ m H r Q)(e:Ext X.K m H m1 H1):iM X σ m1 H1 r Q:=h.imp e λ_ _ k m' H' e'=>k m' H' (e.trans e')
abbrev dH(K:PySem.W.Frag)(m:Mp)(H:Hp)(r:Re Wv)(Q:VK):Prop:=qD r (Pu K m H Q)
theorem dH.shift{K:PySem.W.Frag}{m m1:Mp}{H H1:Hp}{r:Re Wv}{Q:VK}(h:dH K m H r Q)(e:Ext K m H m1 H1):dH K m1 H1 r Q:=qD.imp h λ_ _ k v m' H' e'=>k v m' H' (e.trans e')
def ba(X:Cx)(m:Mp)(H:Hp)(r:Rs)(D:Ends):Prop:=match r with
 | .nx ρ st=>∀(σ:St)(m':Mp)(H':Hp),Ext X.K m H m' H'->bZ X.K m' st H'->aT X.K m' H' ρ σ->D.nx σ H'
 | .rt w st=>∀(v:V)(m':Mp)(H':Hp),Ext X.K m H m' H'->bZ X.K m' st H'->ao X.K m' H' w v->D.rt v H'
 | .bk ρ st=>∀(σ:St)(m':Mp)(H':Hp),Ext X.K m H m' H'->bZ X.K m' st H'->aT X.K m' H' ρ σ->D.bk σ H'
 | .ct ρ st=>∀(σ:St)(m':Mp)(H':Hp),Ext X.K m H m' H'->bZ X.K m' st H'->aT X.K m' H' ρ σ->D.ct σ H'
 | .err c ρ st=>∀(σ:St)(m':Mp)(H':Hp)(e:abL)(s':abK),Ext X.K m H m' H'->bZ X.K m' st H'->aT X.K m' H' ρ σ->yO X σ H' c e s'->X.xe e s'
 | .bad=>False
theorem ba.shift{X:Cx}{m m1:Mp}{H H1:Hp}{r:Rs}{D:Ends}(h:ba X m H r D)(e:Ext X.K m H m1 H1):ba X m1 H1 r D:=by
 cases r with
 | nx ρ st=>exact λσ m' H' e'=>h σ m' H' (e.trans e')
 | rt w st=>exact λv m' H' e'=>h v m' H' (e.trans e')
 | bk ρ st=>exact λσ m' H' e'=>h σ m' H' (e.trans e')
 | ct ρ st=>exact λσ m' H' e'=>h σ m' H' (e.trans e')
 | err c ρ st=>exact λσ m' H' x s' e'=>h σ m' H' x s' (e.trans e')
 | bad=>exact h
theorem ba.cS{α:Type}{X:Cx}{m:Mp}{H:Hp}{ρ:bY}{σ:St}{r:Re α}{f:α->Hs->Rs}{D:Ends}(R:aT X.K m H ρ σ)(h:ba X m H (r.bD ρ f) D):aK X σ m H r (λa st=>ba X m H (f a st) D):=by
 cases r with
 | ok a st=>exact h
 | err c st=>exact λm' H' x s' e' S r=>h σ m' H' x s' e' S (R.mono e') r
 | bad=>exact h
def SE(X:Cx)(e:Expr):TE:=λσ H Q=>∀(pins:List (abF×Obj))(s:abK),Inv X pins σ H s->abY (model X.prog X.w) X.A (eval e X.env) (EP X pins σ Q) X.xe s
def ST(X:Cx)(e:Expr):TT:=λσ H Q=>∀(pins:List (abF×Obj))(s:abK),Inv X pins σ H s->abY (model X.prog X.w) X.A (isTrue e X.env (eval e X.env)) (TP X pins σ Q) X.xe s
def SA(X:Cx)(es:List Expr):TA:=λσ H Q=>∀(pos:Pos)(pins:List (abF×Obj))(s:abK),Inv X pins σ H s->abY (model X.prog X.w) X.A (spliced (backTo pos (abX es X.env))) (AP X pins σ Q) X.xe s
def SS(X:Cx)(st:Stmt):TS:=λD σ H=>∀(pins:List (abF×Obj))(s:abK),Inv X pins σ H s->abY (model X.prog X.w) X.A (exec st X.env) (SP X pins D) X.xe s
def Tr(X:Cx)(st:List Stmt):TS:=λD σ H=>∀(pins:List (abF×Obj))(s:abK),Inv X pins σ H s->abY (model X.prog X.w) X.A (execs st X.env) (SP X pins D) X.xe s
section
variable {X:Cx}
theorem a6{e:Expr}:PE X e (SE X e):=λpins s _ _ _ I h=>h pins s I
theorem qE{e:Expr}:PT X e (ST X e):=λpins s _ _ _ I h=>h pins s I
theorem jS{es:List Expr}:PA X es (SA X es):=λpos pins s _ _ _ I h=>h pos pins s I
theorem Km{st:Stmt}:PS X st (SS X st):=λpins s _ _ _ I h=>h pins s I
theorem ij{st:List Stmt}:C5 X st (Tr X st):=λpins s _ _ _ I h=>h pins s I
end
def JE(X:Cx)(e:Expr)(g:GE):Prop:=∀(ρ:bY)(st:Hs)(σ:St)(H:Hp)(m:Mp)(Q:VK),bZ X.K m st H->aT X.K m H ρ σ->eO X σ m H (g ρ st) Q->SE X e σ H Q
def JT(X:Cx)(e:Expr)(g:GT):Prop:=∀(ρ:bY)(st:Hs)(σ:St)(H:Hp)(m:Mp)(Q:Bool->Hp->Prop),bZ X.K m st H->aT X.K m H ρ σ->iM X σ m H (g ρ st) Q->ST X e σ H Q
def JA(X:Cx)(es:List Expr)(g:GA):Prop:=∀(ρ:bY)(st:Hs)(σ:St)(H:Hp)(m:Mp)(Q:List V->Hp->Prop),bZ X.K m st H->aT X.K m H ρ σ->Kl X σ m H (g ρ st) Q->SA X es σ H Q
def JS(X:Cx)(s:Stmt)(g:GS):Prop:=∀(ρ:bY)(st:Hs)(σ:St)(H:Hp)(m:Mp)(D:Ends),bZ X.K m st H->aT X.K m H ρ σ->ba X m H (g ρ st) D->SS X s D σ H
def pP(X:Cx)(s:List Stmt)(g:GS):Prop:=∀(ρ:bY)(st:Hs)(σ:St)(H:Hp)(m:Mp)(D:Ends),bZ X.K m st H->aT X.K m H ρ σ->ba X m H (g ρ st) D->Tr X s D σ H
section
variable {X:Cx}
theorem JE.of{e:Expr}{g:GE}{t:TE}(h:PE X e t)(k:∀(ρ:bY)(st:Hs)(σ:St)(H:Hp)(m:Mp)(Q:VK),bZ X.K m st H->aT X.K m H ρ σ->eO X σ m H (g ρ st) Q->t σ H Q):JE X e g :=
 λρ st σ H m Q S R p pins s I=>h pins s σ H Q I (k ρ st σ H m Q S R p)
theorem JT.of{e:Expr}{g:GT}{t:TT}(h:PT X e t)(k:∀(ρ:bY)(st:Hs)(σ:St)(H:Hp)(m:Mp)(Q:Bool->Hp->Prop),bZ X.K m st H->aT X.K m H ρ σ->iM X σ m H (g ρ st) Q->t σ H Q):JT X e g :=
 λρ st σ H m Q S R p pins s I=>h pins s σ H Q I (k ρ st σ H m Q S R p)
theorem JA.of{es:List Expr}{g:GA}{t:TA}(h:PA X es t)(k:∀(ρ:bY)(st:Hs)(σ:St)(H:Hp)(m:Mp)(Q:List V->Hp->Prop),bZ X.K m st H->aT X.K m H ρ σ->Kl X σ m H (g ρ st) Q->t σ H Q):JA X es g :=
 λρ st σ H m Q S R p pos pins s I=>h pos pins s σ H Q I (k ρ st σ H m Q S R p)
theorem JS.of{e:Stmt}{g:GS}{t:TS}(h:PS X e t)(k:∀(ρ:bY)(st:Hs)(σ:St)(H:Hp)(m:Mp)(D:Ends),bZ X.K m st H->aT X.K m H ρ σ->ba X m H (g ρ st) D->t D σ H):JS X e g :=
 λρ st σ H m D S R p pins s I=>h pins s σ H D I (k ρ st σ H m D S R p)
theorem pP.of{e:List Stmt}{g:GS}{t:TS}(h:C5 X e t)(k:∀(ρ:bY)(st:Hs)(σ:St)(H:Hp)(m:Mp)(D:Ends),bZ X.K m st H->aT X.K m H ρ σ->ba X m H (g ρ st) D->t D σ H):pP X e g :=
 λρ st σ H m D S R p pins s I=>h pins s σ H D I (k ρ st σ H m D S R p)
theorem JE.go{e:Expr}{g:GE}{ρ:bY}{st:Hs}{σ:St}{H:Hp}{m:Mp}{T:VK}{ok:Wv->Hs->Prop}(h:JE X e g)(S:bZ X.K m st H)(R:aT X.K m H ρ σ)(p:aK X σ m H (g ρ st) ok)
  (k:∀(w:Wv)(st1:Hs)(v:V)(m1:Mp)(H1:Hp),ok w st1->Ext X.K m H m1 H1->bZ X.K m1 st1 H1->ao X.K m1 H1 w v->T v H1):SE X e σ H T :=
 h ρ st σ H m T S R (p.imp Ext.refl λw st1 q v m1 H1 e1 s1 r1=>k w st1 v m1 H1 q e1 s1 r1)
theorem JT.go{e:Expr}{g:GT}{ρ:bY}{st:Hs}{σ:St}{H:Hp}{m:Mp}{T:Bool->Hp->Prop}{ok:Bool->Hs->Prop}(h:JT X e g)(S:bZ X.K m st H)(R:aT X.K m H ρ σ)(p:aK X σ m H (g ρ st) ok)
  (k:∀(b:Bool)(st1:Hs)(m1:Mp)(H1:Hp),ok b st1->Ext X.K m H m1 H1->bZ X.K m1 st1 H1->T b H1):ST X e σ H T :=
 h ρ st σ H m T S R (p.imp Ext.refl λb st1 q m1 H1 e1 s1=>k b st1 m1 H1 q e1 s1)
theorem JA.go{es:List Expr}{g:GA}{ρ:bY}{st:Hs}{σ:St}{H:Hp}{m:Mp}{T:List V->Hp->Prop}{ok:List Wv->Hs->Prop}(h:JA X es g)(S:bZ X.K m st H)(R:aT X.K m H ρ σ)(p:aK X σ m H (g ρ st) ok)
  (k:∀(ws:List Wv)(st1:Hs)(vs:List V)(m1:Mp)(H1:Hp),ok ws st1->Ext X.K m H m1 H1->bZ X.K m1 st1 H1->aq X.K m1 H1 ws vs->T vs H1):SA X es σ H T :=
 h ρ st σ H m T S R (p.imp Ext.refl λw st1 q v m1 H1 e1 s1 r1=>k w st1 v m1 H1 q e1 s1 r1)
end
end J
namespace J
open PySem PySem.Spec PyProof.Rows L2
def lim:Nat:=1000000
theorem eL{n:Nat}(h:n<=lim):n<=abW:=bf h (by unfold lim;rw[sizeLine_eq];decide)
theorem uV{n:Nat}(h:n < lim):n < abW:=br h (by unfold lim;rw[sizeLine_eq];decide)
def af(i:Nat):GE:=λρ st=>match ρ[i]? with
 | some (some w)=> .ok w st
 | _=> .bad
def gC(w:Wv):GE:=λ_ st=> .ok w st
section
variable {X:Cx}
theorem yP(i:Nat){x:Str}{pos:Pos}(hN:X.N[i]? =some x:=by rfl)(hv:Ux X.env.scope x:=by first | exact Or.inl rfl | exact lh (Or.inl rfl) | exact lh (lh rfl))(hd:(x == ("__debug__":Str))=false:=by decide)
  (hcd:(x == ("__classdict__":Str))=false:=by decide):JE X (.Name x pos) (af i):=JE.of (Lv hN hv hd hcd) λρ st σ H m Q S R p=>by
 unfold af at p
 cases e:ρ[i]? with
 | none=>rw[e] at p;exact ae p
 | some o=>
  cases o with
  | none=>rw[e] at p;exact ae p
  | some w=>
   rw[e] at p
   obtain⟨v,h1,h2⟩:=R.get i w e
   exact⟨v,h1,p v m H Ext.refl S h2⟩
theorem MA{i:Int}{j pos}:JE X (.Constant (.int i) j pos) (gC (.int i)):=JE.of Lw λρ st σ H m Q S R p=>p (.int i) m H Ext.refl S (by unfold ao;rfl)
theorem QD{b:Bool}{j pos}:JE X (.Constant (.bool b) j pos) (gC (.bl b)):=JE.of P2 λρ st σ H m Q S R p=>p (.bl b) m H Ext.refl S (by unfold ao;rfl)
theorem MB{j pos}:JE X (.Constant .none j pos) (gC .non):=JE.of Lx λρ st σ H m Q S R p=>p .non m H Ext.refl S (by unfold ao;rfl)
theorem MC{x:PySem.Str}{j pos}(hx:aY x=true:=by decide+kernel):JE X (.Constant (.str x) j pos) (gC (.str x)):=JE.of Ly λρ st σ H m Q S R p=>p (.str x) m H Ext.refl S (by unfold ao;exact⟨rfl,hx⟩)
theorem DN{x:Str}{i:Int}{t:Tok}{pos:Pos}(hg:Gl X x)(hm:X.mg x=some (.int i t))(hd:(x == ("__debug__":Str))=false:=by decide):JE X (.Name x pos) (gC (.int i)) :=
 JE.of (i9 (v:=.int i) hg hm ⟨t,rfl⟩ hd) λρ st σ H m Q S R p=>p (.int i) m H Ext.refl S (by unfold ao;rfl)
theorem DO{x y:Str}{t:Tok}{pos:Pos}(hg:Gl X x)(hm:X.mg x=some (.str y t))(hy:aY y=true:=by decide+kernel)(hd:(x == ("__debug__":Str))=false:=by decide):JE X (.Name x pos) (gC (.str y)) :=
 JE.of (i9 (v:=.str y) hg hm ⟨t,rfl⟩ hd) λρ st σ H m Q S R p=>p (.str y) m H Ext.refl S (by unfold ao;exact⟨rfl,hy⟩)
theorem QE{x:Str}{T:String}{pos:Pos}(hg:Gl X x)(hm:X.mg x=none)(hv:abP x=some (.type T))(hn:x≠"__name__":=by decide)(hd:(x == ("__debug__":Str))=false:=by decide):JE X (.Name x pos) (gC (.ty T)) :=
 JE.of (Hl (v:=.ty T) hg hm hv rfl hn hd) λρ st σ H m Q S R p=>p (.ty T) m H Ext.refl S (by unfold ao;rfl)
abbrev gT:=Wv->Wv->Hs->Re Wv
def ag(op:gT)(ga gb:GE):GE:=λρ st=>(ga ρ st).bind λx st1=>(gb ρ st1).bind λy st2=>(op x y st2).pO
def An(X:Cx)(op:gT)(r:R2):Prop:=∀(x y:Wv)(a b:V)(st:Hs)(H:Hp)(m:Mp)(Q:VK),bZ X.K m st H->ao X.K m H x a->ao X.K m H y b->dH X.K m H (op x y st) Q->r a b H Q
def jY(X:Cx)(f:abL->abL->Sem abL)(op:gT):Prop:=∃r,fh X f r/\An X op r
theorem Ao{a b:Expr}{ga gb:GE}{op:gT}{r:R2}(h2:An X op r)(ha:JE X a ga)(hb:JE X b gb){ρ:bY}{st:Hs}{σ:St}{H:Hp}{m:Mp}{Q:VK}(S:bZ X.K m st H)(R:aT X.K m H ρ σ)(p:eO X σ m H (ag op ga gb ρ st) Q) :
  Qe r (SE X a) (SE X b) σ H Q:=by
 refine ha.go S R (aK.bind p) λx st1 v m1 H1 p1 e1 S1 rx=>?_
 refine hb.go S1 (R.mono e1) ((aK.bind p1).imp e1 λ_ _ q=>q) λy st2 u m2 H2 p2 e2 S2 ry=>?_
 exact h2 x y v u st2 H2 m2 Q S2 (ao.mono e2 _ _ rx) ry (dH.shift (aK.pO p2) (e1.trans e2))
theorem MD{a b:Expr}{ga gb:GE}{o:Operator}{op:gT}{pos:Pos}(ho:jY X (abO o) op)(ha:JE X a ga)(hb:JE X b gb):JE X (.BinOp a o b pos) (ag op ga gb):=by
 obtain⟨r,h1,h2⟩:=ho
 exact JE.of (Qf h1 a6 a6) λρ st σ H m Q S R p=>Ao h2 ha hb S R p
theorem yQ{a b:Expr}{ga gb:GE}{o:CmpOp}{op:gT}{pos:Pos}(ho:jY X (abS o) op)(ha:JE X a ga)(hb:JE X b gb)(hm:abN o b=false):JE X (.Compare a [o] [b] pos) (ag op ga gb):=by
 obtain⟨r,h1,h2⟩:=ho
 exact JE.of (Hw h1 a6 a6 hm) λρ st σ H m Q S R p=>Ao h2 ha hb S R p
def Pw(w:Wv)(st:Hs):Re Bool:=match w with
 | .bl b=> .ok b st
 | _=> .bad
def a_(g:GE):GT:=λρ st=>(g ρ st).bind Pw
theorem wC{σ:St}{m:Mp}{H:Hp}{r:Re Wv}{Q:Bool->Hp->Prop}(p:iM X σ m H (r.bind Pw) Q):eO X σ m H r (λx H'=>∃k,x= .bl k/\Q k H'):=by
 cases r with
 | ok w st=>
  cases w with
  | bl b=>
   intro v m' H' e S rw'
   unfold ao at rw'
   exact⟨b,rw',p m' H' e S⟩
  | _=>exact ae p
 | err c st=>exact p
 | bad=>exact p
theorem uW{a b:Expr}{ga gb:GE}{o:CmpOp}{op:gT}{pos:Pos}(ho:jY X (abS o) op)(ha:JE X a ga)(hb:JE X b gb)(hm:abN o b=false):JT X (.Compare a [o] [b] pos) (a_ (ag op ga gb)):=by
 obtain⟨r,h1,h2⟩:=ho
 exact JT.of (Hx h1 a6 a6 hm) λρ st σ H m Q S R p=>Ao h2 ha hb S R (wC p)
def qF(op op':gT)(ga gb gc:GE):GE:=λρ st=>(ga ρ st).bind λx st1=>(gb ρ st1).bind λy st2=>(op x y st2).pO.bind λz st3=>match z with
 | .bl true=>(gc ρ st3).bind λu yd=>(op' y u yd).pO
 | .bl false=> .ok (.bl false) st3
 | _=> .bad
theorem Ko{a b c:Expr}{ga gb gc:GE}{op op':gT}{r r':R2}(h2:An X op r)(h2':An X op' r')(ha:JE X a ga)(hb:JE X b gb)(hc:JE X c gc){ρ:bY}{st:Hs}{σ:St}{H:Hp}{m:Mp}{Q:VK}
  (S:bZ X.K m st H)(R:aT X.K m H ρ σ)(p:eO X σ m H (qF op op' ga gb gc ρ st) Q):yn r r' (SE X a) (SE X b) (SE X c) σ H Q:=by
 refine ha.go S R (aK.bind p) λx st1 v m1 H1 p1 e1 S1 rx=>?_
 refine hb.go S1 (R.mono e1) ((aK.bind p1).imp e1 λ_ _ q=>q) λy st2 u m2 H2 p2 e2 S2 ry=>?_
 refine h2 x y v u st2 H2 m2 _ S2 (ao.mono e2 _ _ rx) ry (qD.imp (aK.pO (aK.bind p2)) λz st3 p3=>?_)
 intro z' m3 H3 e3 S3 rz
 cases z with
 | bl k=>
  unfold ao at rz
  refine⟨k,rz,?_⟩
  cases k with
  | true=>
   rw[if_pos rfl]
   refine hc.go S3 (R.mono (e1.trans (e2.trans e3))) ((aK.bind p3).imp (e1.trans (e2.trans e3)) λ_ _ q=>q) λq yd u' m4 H4 p4 e4 S4 rq=>?_
   exact h2' y q u u' yd H4 m4 Q S4 (ao.mono (e3.trans e4) _ _ ry) rq (dH.shift (aK.pO p4) (e1.trans (e2.trans (e3.trans e4))))
  | false=>
   rw[if_neg bE]
   exact p3 (.bl false) m3 H3 (e1.trans (e2.trans e3)) S3 (by unfold ao;rfl)
 | _=>exact ae p3
theorem DP{a b c:Expr}{ga gb gc:GE}{o o':CmpOp}{op op':gT}{pos:Pos}(ho:jY X (abS o) op)(ho':jY X (abS o') op')(ha:JE X a ga)(hb:JE X b gb)(hc:JE X c gc)
  (hm:lastMarks [o,o'] [b,c]=false:=by with_unfolding_all rfl):JE X (.Compare a [o,o'] [b,c] pos) (qF op op' ga gb gc):=by
 obtain⟨r,h1,h2⟩:=ho
 obtain⟨r',Kk,h2'⟩:=ho'
 exact JE.of (Di h1 Kk a6 a6 a6 hm) λρ st σ H m Q S R p=>Ko h2 h2' ha hb hc S R p
theorem DQ{a b c:Expr}{ga gb gc:GE}{o o':CmpOp}{op op':gT}{pos:Pos}(ho:jY X (abS o) op)(ho':jY X (abS o') op')(ha:JE X a ga)(hb:JE X b gb)(hc:JE X c gc)
  (hm:lastMarks [o,o'] [b,c]=false:=by with_unfolding_all rfl):JT X (.Compare a [o,o'] [b,c] pos) (a_ (qF op op' ga gb gc)):=by
 obtain⟨r,h1,h2⟩:=ho
 obtain⟨r',Kk,h2'⟩:=ho'
 exact JT.of (Dj h1 Kk a6 a6 a6 hm) λρ st σ H m Q S R p=>Ko h2 h2' ha hb hc S R (wC p)
def ye(op:Wv->Hs->Re Wv)(ga:GE):GE:=λρ st=>(ga ρ st).bind op
def gq:Wv->Hs->Re Wv
 | .int i,st=> .ok (.int (-i)) st
 | _,_=> .bad
theorem ME{a:Expr}{ga:GE}{pos:Pos}(ha:JE X a ga):JE X (.UnaryOp .USub a pos) (ye gq ga):=by
 refine JE.of (Qg LU a6) λρ st σ H m Q S R p=>?_
 refine ha.go S R (aK.bind p) λx st1 v m1 H1 p1 e1 S1 rx=>?_
 cases x with
 | int i=>
  unfold ao at rx
  exact⟨i,rx,p1 _ m1 H1 e1 S1 (by unfold ao;rfl)⟩
 | _=>exact ae p1
def SW(X:Cx)(e:Expr):TT:=λσ H Q=>∀(wh:Sem abL)(pins:List (abF×Obj))(s:abK),Inv X pins σ H s->abY (model X.prog X.w) X.A (isTrue e X.env wh) (TP X pins σ Q) X.xe s
theorem Kp{e:Expr}:PW X e (SW X e):=λwh pins s _ _ _ I h=>h wh pins s I
def JW(X:Cx)(e:Expr)(g:GT):Prop:=∀(ρ:bY)(st:Hs)(σ:St)(H:Hp)(m:Mp)(Q:Bool->Hp->Prop),bZ X.K m st H->aT X.K m H ρ σ->iM X σ m H (g ρ st) Q->SW X e σ H Q
theorem JW.of{e:Expr}{g:GT}{t:TT}(h:PW X e t)(k:∀(ρ:bY)(st:Hs)(σ:St)(H:Hp)(m:Mp)(Q:Bool->Hp->Prop),bZ X.K m st H->aT X.K m H ρ σ->iM X σ m H (g ρ st) Q->t σ H Q):JW X e g :=
 λρ st σ H m Q S R p wh pins s I=>h wh pins s σ H Q I (k ρ st σ H m Q S R p)
theorem JW.jt{e:Expr}{g:GT}(h:JW X e g):JT X e g:=λρ st σ H m Q S R p pins s I=>h ρ st σ H m Q S R p _ pins s I
def BN(ga gb:GT):GT:=λρ st=>(ga ρ st).bind λb st1=>if b=true then gb ρ st1 else .ok false st1
def uX(ga gb:GT):GT:=λρ st=>(ga ρ st).bind λb st1=>if b=true then .ok true st1 else gb ρ st1
def sC(ga:GT):GT:=λρ st=>(ga ρ st).bind λb st1=> .ok (!b) st1
theorem HW{a:Expr}{ga:GT}{pos:Pos}(ha:JT X a ga):JW X (.BoolOp .And [a] pos) ga:=JW.of (Hm qE) λρ st σ H m Q S R p=>ha ρ st σ H m Q S R p
theorem MF{a:Expr}{ga:GT}{pos:Pos}(ha:JT X a ga):JW X (.BoolOp .Or [a] pos) ga:=JW.of (LA qE) λρ st σ H m Q S R p=>ha ρ st σ H m Q S R p
theorem MG{a b:Expr}{rest:List Expr}{ga gb:GT}{pos:Pos}(ha:JT X a ga)(hb:JW X (.BoolOp .And (b::rest) pos) gb):JW X (.BoolOp .And (a::b::rest) pos) (BN ga gb):=by
 refine JW.of (LB qE Kp) λρ st σ H m Q S R p=>?_
 refine ha.go S R (aK.bind p) λc st1 m1 H1 p1 e1 S1=>?_
 cases c with
 | true=>rw[if_pos rfl] at p1 ⊢;exact hb ρ st1 σ H1 m1 Q S1 (R.mono e1) (iM.shift p1 e1)
 | false=>rw[if_neg bE] at p1 ⊢;exact p1 m1 H1 e1 S1
theorem QF{a b:Expr}{rest:List Expr}{ga gb:GT}{pos:Pos}(ha:JT X a ga)(hb:JW X (.BoolOp .Or (b::rest) pos) gb):JW X (.BoolOp .Or (a::b::rest) pos) (uX ga gb):=by
 refine JW.of (P4 qE Kp) λρ st σ H m Q S R p=>?_
 refine ha.go S R (aK.bind p) λc st1 m1 H1 p1 e1 S1=>?_
 cases c with
 | true=>rw[if_pos rfl] at p1 ⊢;exact p1 m1 H1 e1 S1
 | false=>rw[if_neg bE] at p1 ⊢;exact hb ρ st1 σ H1 m1 Q S1 (R.mono e1) (iM.shift p1 e1)
theorem MH{a:Expr}{ga:GT}{pos:Pos}(ha:JT X a ga):JT X (.UnaryOp .Not a pos) (sC ga):=by
 refine JT.of (LC qE) λρ st σ H m Q S R p=>?_
 exact ha.go S R (aK.bind p) λc st1 m1 H1 p1 e1 S1=>p1 m1 H1 e1 S1
def oS(ga gb:GE):GE:=λρ st=>(ga ρ st).bind λw st1=>match w with
 | .bl true=>gb ρ st1
 | .bl false=> .ok (.bl false) st1
 | _=> .bad
theorem MI{op}{a:Expr}{ga:GE}{pos:Pos}(ha:JE X a ga):JE X (.BoolOp op [a] pos) ga:=JE.of (LD a6) λρ st σ H m Q S R p=>ha ρ st σ H m Q S R p
theorem MJ{a b:Expr}{rest:List Expr}{ga gb:GE}{pos:Pos}(ha:JE X a ga)(hb:JE X (.BoolOp .And (b::rest) pos) gb):JE X (.BoolOp .And (a::b::rest) pos) (oS ga gb):=by
 refine JE.of (LG a6 a6) λρ st σ H m Q S R p=>?_
 refine ha.go S R (aK.bind p) λx st1 v m1 H1 p1 e1 S1 rx=>?_
 cases x with
 | bl c=>
  unfold ao at rx
  refine⟨c,rx,?_⟩
  cases c with
  | true=>rw[if_pos rfl];exact hb ρ st1 σ H1 m1 Q S1 (R.mono e1) (eO.shift p1 e1)
  | false=>rw[if_neg bE];exact p1 _ m1 H1 e1 S1 (by unfold ao;rfl)
 | _=>exact ae p1
def lK(gt:GT)(ga gb:GE):GE:=λρ st=>(gt ρ st).bind λb st1=>if b=true then ga ρ st1 else gb ρ st1
theorem QG{c a b:Expr}{gt:GT}{ga gb:GE}{pos:Pos}(hc:JT X c gt)(ha:JE X a ga)(hb:JE X b gb):JE X (.IfExp c a b pos) (lK gt ga gb):=by
 refine JE.of (C6 qE a6 a6) λρ st σ H m Q S R p=>?_
 refine hc.go S R (aK.bind p) λk st1 m1 H1 p1 e1 S1=>?_
 cases k with
 | true=>rw[if_pos rfl] at p1 ⊢;exact ha ρ st1 σ H1 m1 Q S1 (R.mono e1) (eO.shift p1 e1)
 | false=>rw[if_neg bE] at p1 ⊢;exact hb ρ st1 σ H1 m1 Q S1 (R.mono e1) (eO.shift p1 e1)
def aj:GA:=λ_ st=> .ok [] st
def aa(ga:GE)(gr:GA):GA:=λρ st=>(ga ρ st).bind λx st1=>(gr ρ st1).bind λxs st2=> .ok (x::xs) st2
theorem DR:JA X [] aj:=JA.of LZ λρ st σ H m Q S R p=>p [] m H Ext.refl S aq.nil
theorem Ap{e:Expr}{es:List Expr}{ga:GE}{gr:GA}(ha:JE X e ga)(hr:JA X es gr)(hs:abX (e::es) X.env=(false,eval e X.env)::abX es X.env:=by rfl):JA X (e::es) (aa ga gr):=by
 refine JA.of (HA a6 jS hs) λρ st σ H m Q S R p=>?_
 refine ha.go S R (aK.bind p) λx st1 v m1 H1 p1 e1 S1 rx=>?_
 refine hr.go S1 (R.mono e1) ((aK.bind p1).imp e1 λ_ _ q=>q) λxs st2 vs m2 H2 p2 e2 S2 rs=>?_
 exact p2 (v::vs) m2 H2 (e1.trans e2) S2 (aq.cons (ao.mono e2 _ _ rx) rs)
def bI(g:GA):GE:=λρ st=>(g ρ st).bind λws st1=>if ws.length<=lim then .ok (.tup ws) st1 else .bad
def fq(g:GA):GE:=λρ st=>(g ρ st).bind λws st1=>if ws.length<=lim then .ok (.ref st1.length) (st1++[.lst ws]) else .bad
theorem MK{es:List Expr}{g:GA}{x1 pos}(h:JA X es g):JE X (.Tuple es x1 pos) (bI g):=by
 refine JE.of (L0 jS) λρ st σ H m Q S R p=>?_
 refine h.go S R (aK.bind p) λws st1 vs m1 H1 p1 e1 S1 rs=>?_
 by_cases hl:ws.length<=lim
 ·rw[if_pos hl] at p1
  refine⟨by rw[<-rs.length];exact eL hl,λq hq=>?_⟩
  have e2:Ext X.K m1 H1 m1 (upd H1 q (.tup vs)):=Ext.upd (.inl hq)
  exact p1 (.ref q) m1 _ (e1.trans e2) (S1.fresh hq) (by unfold ao;exact⟨q,vs,rfl,bC,aq.mono e2 _ _ rs⟩)
 ·rw[if_neg hl] at p1;exact ae p1
theorem bZ.newest{K:PySem.W.Frag}{m:Mp}{st:Hs}{H:Hp}(S:bZ K m st H)(q:abF)(H':Hp):ao K (m++[q]) H' (.ref st.length) (.ref q):=by
 unfold ao
 refine⟨q,rfl,?_⟩
 rw[<-S.len,l9 (aC _),pN]
 rfl
theorem iN{m m1:Mp}{H H1:Hp}{st1:Hs}{ws:List Wv}{vs:List V}{Q:VK}(p1:Pu X.K m H Q (.ref st1.length) (st1++[.lst ws]))(e1:Ext X.K m H m1 H1)(S1:bZ X.K m1 st1 H1)(rs:aq X.K m1 H1 ws vs)(q:abF)(hq:H1 q=none) :
  Q (.ref q) (upd H1 q (.lst vs)) :=
 p1 (.ref q) (m1++[q]) _ (e1.trans (Ext.more.trans (Ext.upd (.inl hq)))) (S1.alloc hq rs) (S1.newest q _)
theorem ML{es:List Expr}{g:GA}{pos}(h:JA X es g):JE X (.List es pos) (fq g):=by
 refine JE.of (L3 jS) λρ st σ H m Q S R p=>?_
 refine h.go S R (aK.bind p) λws st1 vs m1 H1 p1 e1 S1 rs=>?_
 by_cases hl:ws.length<=lim
 ·rw[if_pos hl] at p1
  exact⟨by rw[<-rs.length];exact eL hl,λq hq=>iN p1 e1 S1 rs q hq⟩
 ·rw[if_neg hl] at p1;exact ae p1
end
section
variable {X:Cx}
theorem fh.or{f:abL->abL->Sem abL}{r r':R2}(h:fh X f r)(h':fh X f r'):fh X f (λx y H Q=>r x y H Q\/r' x y H Q):=by
 intro pins s σ H x y v u Q I rx ry q
 rcases q with q | q
 ·exact h pins s σ H x y v u Q I rx ry q
 ·exact h' pins s σ H x y v u Q I rx ry q
theorem DS:fh X (abO .FloorDiv) (rI (λ_ j=>j≠0/\j.natAbs.log2 < 9000) λi j=> .int (i.fdiv j)):=Th λi j _ _ _ _ _ hc q=>floordiv_int hc.1 q (.inl (PyProof.noPylong_of_log2 hc.2))
theorem HX:fh X (abO .Mod) (rI (λ_ j=>j≠0) λi j=> .int (i.fmod j)):=Th λi j _ _ _ _ _ hc q=>mod_int' hc q
theorem HY:fh X (abO .Mult) (rI (λi j=>IntMulOk i j) λi j=> .int (i * j)):=Th λ_ _ _ _ _ _ _ hc q=>mul_int q hc
instance U6{a b:Int}:Decidable (IntMulOk a b):=by unfold IntMulOk;infer_instance
def ke:gT
 | .int i,.int j,st=> .ok (.int (i - j)) st
 | _,_,_=> .bad
def fi:gT
 | .int i,.int j,st=>if j≠0/\j.natAbs.log2 < 9000 then .ok (.int (i.fdiv j)) st else .bad
 | _,_,_=> .bad
def oMod:gT
 | .int i,.int j,st=>if j≠0 then .ok (.int (i.fmod j)) st else .bad
 | _,_,_=> .bad
def jf:gT
 | .int i,.int j,st=>if 0<=j/\j<=1000000/\i.natAbs < 2 ^ 64 then .ok (.int (i ^ j.toNat)) st else .bad
 | _,_,_=> .bad
def QH:gT
 | .int i,.int j,st=> .ok (.bl (decide (i < j))) st
 | .str i,.str j,st=> .ok (.bl (decide (i.cps.toList < j.cps.toList))) st
 | _,_,_=> .bad
def QI:gT
 | .int i,.int j,st=> .ok (.bl (decide (i<=j))) st
 | _,_,_=> .bad
def QJ:gT
 | .int i,.int j,st=> .ok (.bl (decide (j < i))) st
 | _,_,_=> .bad
def Zh:gT
 | .int i,.int j,st=> .ok (.bl (decide (j<=i))) st
 | _,_,_=> .bad
theorem aZ{m:Mp}{H:Hp}{i:Int}{a:V}(h:ao X.K m H (.int i) a):a= .int i:=by unfold ao at h;exact h
theorem eM{m:Mp}{H:Hp}{x:PySem.Str}{a:V}(h:ao X.K m H (.str x) a):a= .str x/\aY x=true:=by unfold ao at h;exact h
theorem mkInt{m:Mp}{H:Hp}{i:Int}:ao X.K m H (.int i) (.int i):=by unfold ao;rfl
theorem jg{m:Mp}{H:Hp}{i:Bool}:ao X.K m H (.bl i) (.bl i):=by unfold ao;rfl
theorem Aq{m:Mp}{H:Hp}:ao X.K m H .non .non:=by unfold ao;rfl
theorem mkStr{m:Mp}{H:Hp}{x:PySem.Str}(h:aY x=true):ao X.K m H (.str x) (.str x):=by unfold ao;exact⟨rfl,h⟩
theorem MM:jY X (abO .Sub) ke:=⟨_,LR,λx y a b st H m Q S rx ry p=>by
 cases x with
 | int i=>
  cases y with
  | int j=>exact⟨i,j,aZ rx,aZ ry,p _ m H Ext.refl S mkInt⟩
  | _=>exact ae p
 | _=>cases y<;>exact ae p⟩
theorem HZ:jY X (abO .FloorDiv) fi:=⟨_,DS,λx y a b st H m Q S rx ry p=>by
 cases x with
 | int i=>
  cases y with
  | int j=>
   dsimp only[fi] at p
   by_cases c:j≠0/\j.natAbs.log2 < 9000
   ·rw[if_pos c] at p;exact⟨i,j,aZ rx,aZ ry,c,p _ m H Ext.refl S mkInt⟩
   ·rw[if_neg c] at p;exact ae p
  | _=>exact ae p
 | _=>cases y<;>exact ae p⟩
theorem MN:jY X (abO .Mod) oMod:=⟨_,HX,λx y a b st H m Q S rx ry p=>by
 cases x with
 | int i=>
  cases y with
  | int j=>
   dsimp only[oMod] at p
   by_cases c:j≠0
   ·rw[if_pos c] at p;exact⟨i,j,aZ rx,aZ ry,c,p _ m H Ext.refl S mkInt⟩
   ·rw[if_neg c] at p;exact ae p
  | _=>exact ae p
 | _=>cases y<;>exact ae p⟩
theorem MO:jY X (abO .Pow) jf:=⟨_,LS,λx y a b st H m Q S rx ry p=>by
 cases x with
 | int i=>
  cases y with
  | int j=>
   dsimp only[jf] at p
   by_cases c:0<=j/\j<=1000000/\i.natAbs < 2 ^ 64
   ·rw[if_pos c] at p;exact⟨i,j,aZ rx,aZ ry,c,p _ m H Ext.refl S mkInt⟩
   ·rw[if_neg c] at p;exact ae p
  | _=>exact ae p
 | _=>cases y<;>exact ae p⟩
theorem QK:jY X (abS .Lt) QH:=⟨_,fh.or Qi Bx,λx y a b st H m Q S rx ry p=>by
 cases x with
 | int i=>
  cases y with
  | int j=>exact .inl ⟨i,j,aZ rx,aZ ry,p _ m H Ext.refl S jg⟩
  | _=>exact ae p
 | str i=>
  cases y with
  | str j=>exact .inr ⟨i,j,(eM rx).1,(eM ry).1,p _ m H Ext.refl S jg⟩
  | _=>exact ae p
 | _=>cases y<;>exact ae p⟩
theorem QL:jY X (abS .LtE) QI:=⟨_,Qj,λx y a b st H m Q S rx ry p=>by
 cases x with
 | int i=>
  cases y with
  | int j=>exact⟨i,j,aZ rx,aZ ry,p _ m H Ext.refl S jg⟩
  | _=>exact ae p
 | _=>cases y<;>exact ae p⟩
theorem QM:jY X (abS .Gt) QJ:=⟨_,Qk,λx y a b st H m Q S rx ry p=>by
 cases x with
 | int i=>
  cases y with
  | int j=>exact⟨i,j,aZ rx,aZ ry,p _ m H Ext.refl S jg⟩
  | _=>exact ae p
 | _=>cases y<;>exact ae p⟩
def GX:gT
 | x,.non,st=> .ok (.bl (match x with | .non=>true | _=>false)) st
 | _,_,_=> .bad
def qG:gT
 | x,.non,st=> .ok (.bl (match x with | .non=>false | _=>true)) st
 | _,_,_=> .bad
theorem Kq{m:Mp}{H:Hp}{x:Wv}{a:V}(h:ao X.K m H x a):decide (a=V.non)=(match x with | .non=>true | _=>false):=by
 cases x with
 | non=>unfold ao at h;subst h;rfl
 | bl b=>unfold ao at h;subst h;rfl
 | int b=>unfold ao at h;subst h;rfl
 | str b=>unfold ao at h;obtain⟨h,_⟩:=h;subst h;rfl
 | tup b=>unfold ao at h;obtain⟨q,xs,h,_⟩:=h;subst h;rfl
 | qA b=>unfold ao at h;obtain⟨q,xs,h,_⟩:=h;subst h;rfl
 | ref b=>unfold ao at h;obtain⟨q,h,_⟩:=h;subst h;rfl
 | ty b=>unfold ao at h;subst h;rfl
 | cls b=>unfold ao at h;obtain⟨q,h,_⟩:=h;subst h;rfl
 | wz b=>unfold ao at h;obtain⟨q,C,h,_⟩:=h;subst h;rfl
 | fn fp b=>unfold ao at h;obtain⟨h,_⟩:=h;subst h;rfl
theorem QN:jY X (abS .Is) GX:=⟨_,LV,λx y a b st H m Q S rx ry p=>by
 cases y with
 | non=>
  refine⟨by unfold ao at ry;exact ry,?_⟩
  rw[Kq rx]
  cases x<;>exact p _ m H Ext.refl S jg
 | _=>cases x<;>exact ae p⟩
theorem DT:jY X (abS .IsNot) qG:=⟨_,Hv,λx y a b st H m Q S rx ry p=>by
 cases y with
 | non=>
  refine⟨by unfold ao at ry;exact ry,?_⟩
  rw[Kq rx]
  cases x<;>exact p _ m H Ext.refl S jg
 | _=>cases x<;>exact ae p⟩
theorem uY{a b:PySem.Str}(ha:aY a=true)(hb:aY b=true):aY (a++b)=true:=by
 unfold aY at *
 show((a.cps++b.cps).all _)=true
 rw[Array.all_append,ha,hb]
 rfl
def QO(K:PySem.W.Frag):R2:=λx y H Q=>∃l b xs zs,x= .ref l/\y= .ref b/\lX K H l xs/\lX K H b zs/\xs.length+zs.length<=abW/\∀p,H p=none->Q (.ref p) (upd H p (.lst (xs++zs)))
theorem H_:fh X (abO .Add) (QO X.K):=by
 intro pins s σ H x y v u Q I rx ry h
 obtain⟨l,b,xs,zs,rfl,rfl,hH,hB,hz,q⟩:=h
 cases rx
 cases ry
 obtain⟨its,r,pl,hs⟩:=I.list hH
 obtain⟨its2,r2,Zi,hs2⟩:=I.list hB
 have hl:=r.length
 have hl2:=r2.length
 obtain⟨⟨cls,dd,data,sl⟩,ho,hc,n,hd⟩:=id pl.isList
 obtain⟨⟨UU,dd2,data2,sl2⟩,ho2,hc2,n2,hd2⟩:=id Zi.isList
 simp only at hc hd hc2 hd2
 subst hc hd hc2 hd2
 have e:its.toArray++its2.toArray=(its++its2).toArray:=by simp
 refine PySem.concat_meets ⟨_,ho,rfl⟩ ⟨_,ho2,rfl⟩ PySem.noFill_list_add PySem.seq_list_add PySem.F.slot_list_add PySem.F.entry_list_add (PySem.F.args_list_add_2 _ _) (list_addW l b its.toArray its2.toArray n n2 dd dd2 sl sl2 (by simp;omega)) ⟨ho,ho2,?_⟩
 rw[e]
 exact⟨.ref _,_,I.Mg (t':=s.toks) (r.append r2) (by rw[eV];omega),rfl,q _ I.fresh⟩
def QP(K:PySem.W.Frag):R2:=λx y H Q=>∃a b ys,x= .ref a/\y= .ref b/\fT K H a []/\fT K H b ys/\Q (.ref b) H
theorem Ia:fh X (abO .Add) (QP X.K):=by
 intro pins s σ H x y v u Q I rx ry h
 obtain⟨a,b,ys,rfl,rfl,ha,hb,q⟩:=h
 cases rx
 cases ry
 obtain⟨its,r1,p1,_⟩:=I.tuple ha
 obtain⟨its2,r2,p2,_⟩:=I.tuple hb
 cases r1
 obtain⟨⟨c1,d1,t1,l1⟩,g1,k1,n1,j1⟩:=id p1
 obtain⟨⟨c2,d2,t2,l2⟩,g2,k2,n2,j2⟩:=id p2
 simp only at k1 j1 k2 j2
 subst k1 j1 k2 j2
 exact PySem.concat_meets ⟨_,g1,rfl⟩ ⟨_,g2,rfl⟩ PySem.noFill_tuple_add PySem.seq_tuple_add PySem.F.slot_tuple_add PySem.F.entry_tuple_add (PySem.F.args_tuple_add_2 _ _) (tuple_addW0 a b #[] its2.toArray n1 n2 d1 d2 l1 l2 (by simp)) ⟨g1,g2,⟨.ref b,H,I,rfl,q⟩⟩
def c_:gT
 | .int i,.int j,st=> .ok (.int (i+j)) st
 | .str i,.str j,st=>if i.length+j.length<=lim then .ok (.str (i++j)) st else .bad
 | .tup i,.tup j,st=>if i.length+j.length<=lim then .ok (.tup (i++j)) st else .bad
 | .ref l,.ref k,st=>match aB st l,aB st k with
  | some i,some j=>if i.length+j.length<=lim then .ok (.ref st.length) (st++[.lst (i++j)]) else .bad
  | _,_=> .bad
 | _,_,_=> .bad
instance {α:Type}{xs:List α}:Decidable (xs≠[]):=match xs with
 | []=>isFalse (λh=>h rfl)
 | _::_=>isTrue (λh=>by cases h)
theorem MP:jY X (abO .Add) c_:=⟨_,fh.or LQ (fh.or yp (fh.or HH (fh.or H_ Ia))),λx y a b st H m Q S rx ry p=>by
 cases x with
 | int i=>
  cases y with
  | int j=>exact .inl ⟨i,j,aZ rx,aZ ry,p _ m H Ext.refl S mkInt⟩
  | _=>exact ae p
 | str i=>
  cases y with
  | str j=>
   dsimp only[c_] at p
   by_cases c:i.length+j.length<=lim
   ·rw[if_pos c] at p
    exact .inr (.inl ⟨i,j,(eM rx).1,(eM ry).1,eL c,p _ m H Ext.refl S (mkStr (uY (eM rx).2 (eM ry).2))⟩)
   ·rw[if_neg c] at p;exact ae p
  | _=>exact ae p
 | tup i=>
  cases y with
  | tup j=>
   dsimp only[c_] at p
   by_cases c:i.length+j.length<=lim
   ·rw[if_pos c] at p
    by_cases c0:i=[]
    ·subst c0
     unfold ao at rx ry
     obtain⟨a1,xs,rfl,h1,h2⟩:=rx
     obtain⟨a2,ys,rfl,h3,h4⟩:=ry
     have l1:xs=[]:=yR h2.length.symm
     subst l1
     exact .inr (.inr (.inr (.inr ⟨a1,a2,ys,rfl,rfl,fT.of h1,fT.of h3,p (.ref a2) m H Ext.refl S (by rw[k9];unfold ao;exact⟨a2,ys,rfl,h3,h4⟩)⟩)))
    unfold ao at rx ry
    obtain⟨a1,xs,rfl,h1,h2⟩:=rx
    obtain⟨a2,ys,rfl,h3,h4⟩:=ry
    have l1:=h2.length
    have l2:=h4.length
    have n1:xs≠[]:=λz=>by rw[z] at l1;exact c0 (yR l1)
    refine .inr (.inr (.inl ⟨a1,a2,xs,ys,rfl,rfl,fT.of h1,fT.of h3,n1,by rw[<-l1,<-l2];exact eL c,λz=>?_,λ_ q hq=>?_⟩))
    ·rw[z] at l2
     rw[yR l2,jc] at p
     exact p (.ref a1) m H Ext.refl S (by unfold ao;exact⟨a1,xs,rfl,h1,h2⟩)
    have e2:Ext X.K m H m (upd H q (.tup (xs++ys))):=Ext.upd (.inl hq)
    exact p (.ref q) m _ e2 (S.fresh hq) (by unfold ao;exact⟨q,xs++ys,rfl,bC,aq.mono e2 _ _ (h2.append h4)⟩)
   ·rw[if_neg c] at p;exact ae p
  | _=>exact ae p
 | ref l=>
  cases y with
  | ref k=>
   dsimp only[c_] at p
   unfold ao at rx ry
   obtain⟨a1,rfl,h1⟩:=rx
   obtain⟨a2,rfl,h2⟩:=ry
   cases e1:aB st l with
   | none=>rw[e1] at p;exact ae p
   | some i=>
    cases e2:aB st k with
    | none=>rw[e1,e2] at p;exact ae p
    | some j=>
     rw[e1,e2] at p
     by_cases c:i.length+j.length<=lim
     ·simp only[if_pos c] at p
      obtain⟨xs,q1,q2⟩:=S.read h1 e1
      obtain⟨ys,q3,q4⟩:=S.read h2 e2
      exact .inr (.inr (.inr (.inl ⟨a1,a2,xs,ys,rfl,rfl,q1,q3,by rw[<-q2.length,<-q4.length];exact eL c,λq hq=>iN p Ext.refl S (q2.append q4) q hq⟩)))
     ·simp only[if_neg c] at p;exact ae p
  | _=>exact ae p
 | _=>cases y<;>exact ae p⟩
def sD(n:Nat)(x:PySem.Str):PySem.Str:=⟨(aS n x.cps).foldl (· ++·) #[]⟩
end
open PySem PySem.Spec PySem.SeqAt PyProof.Rows L2
def eW{α β:Type}(f:α->Option β):List α->Option (List β)
 | []=>some []
 | w::ws=>match f w,eW f ws with
  | some d,some ds=>some (d::ds)
  | _,_=>none
def bj(st:Hs):Nat->Wv->Option PyData
 | 0,w=>match w with
  | .non=>some .none
  | .bl b=>some (.bool b)
  | .int i=>some (.int i)
  | .str x=>some (.str x)
  | _=>none
 | n+1,w=>match w with
  | .non=>some .none
  | .bl b=>some (.bool b)
  | .int i=>some (.int i)
  | .str x=>some (.str x)
  | .tup ws=>(eW (bj st n) ws).map .tuple
  | .qA ws=>(eW (bj st n) ws).map .tuple
  | .ref l=>match aB st l with
   | some ws=>(eW (bj st n) ws).map .list
   | none=>none
  | .ty _=>none
  | .cls _=>none
  | .wz _=>none
  | .fn _ _=>none
section
variable {X:Cx} {pins:List (abF×Obj)} {σ:St} {H:Hp} {s:abK} {m:Mp} {st:Hs}
def Kr(h:Heap)(n:Nat)(u:abL)(d:PyData):Prop:=∃as,Reads h u d as/\d.canLay0=true/\d.depth<=n
theorem lp{n:Nat}(ih:∀(w:Wv)(a:V)(u:abL)(d:PyData),ao X.K m H w a->RelV a u->bj st n w=some d->Kr s.heap n u d) :
  ∀(ws:List Wv)(xs:List V)(us:List abL)(ds:List PyData),aq X.K m H ws xs->Vals xs us->eW (bj st n) ws=some ds->∃as,ReadsAll s.heap us ds as/\pF ds=true/\i7 ds<=n
 | [],xs,us,ds,h,r,e=>by
  unfold aq at h
  subst h
  cases r
  cases e
  exact⟨[],.nil,rfl,cL _⟩
 | w::ws,xs,us,ds,h,r,e=>by
  unfold aq at h
  obtain⟨x,xr,rfl,h1,h2⟩:=h
  cases r with
  | cons r1 r2=>
   unfold eW at e
   cases e1:bj st n w with
   | none=>rw[e1] at e;cases e
   | some d=>
    cases e2:eW (bj st n) ws with
    | none=>rw[e1,e2] at e;cases e
    | some dr=>
     rw[e1,e2] at e
     cases e
     obtain⟨as,q1,q2,q3⟩:=ih w x _ d h1 r1 e1
     obtain⟨bs,p1,p2,p3⟩:=lp ih ws xr _ dr h2 r2 e2
     refine⟨as++bs,.cons q1 p1,?_,?_⟩
     ·show(PyData.canLay0 d&&pF dr)=true
      rw[q2,p2];rfl
     ·show max d.depth (i7 dr)<=n
      omega
theorem fU(I:Inv X pins σ H s)(S:bZ X.K m st H):∀(n:Nat)(w:Wv)(a:V)(u:abL)(d:PyData),ao X.K m H w a->RelV a u->bj st n w=some d->Kr s.heap n u d:=by
 intro n
 induction n with
 | zero=>
  intro w a u d h r e
  cases w with
  | non=>unfold ao at h;subst h;cases r;cases e;exact⟨[],.none,rfl,aC _⟩
  | bl b=>unfold ao at h;subst h;cases r;cases e;exact⟨[],.bool b,rfl,aC _⟩
  | int i=>unfold ao at h;subst h;obtain⟨t,rfl⟩:=r;cases e;exact⟨[],.int i t,rfl,aC _⟩
  | str x=>unfold ao at h;obtain⟨rfl,hx⟩:=h;obtain⟨t,rfl⟩:=r;cases e;exact⟨[],.str x t,hx,aC _⟩
  | tup ws=>cases e
  | qA ws=>cases e
  | ref l=>cases e
  | ty t=>cases e
  | cls t=>cases e
  | wz t=>cases e
  | fn fp t=>cases e
 | succ n ih=>
  intro w a u d h r e
  cases w with
  | non=>unfold ao at h;subst h;cases r;cases e;exact⟨[],.none,rfl,cL _⟩
  | bl b=>unfold ao at h;subst h;cases r;cases e;exact⟨[],.bool b,rfl,cL _⟩
  | int i=>unfold ao at h;subst h;obtain⟨t,rfl⟩:=r;cases e;exact⟨[],.int i t,rfl,cL _⟩
  | str x=>unfold ao at h;obtain⟨rfl,hx⟩:=h;obtain⟨t,rfl⟩:=r;cases e;exact⟨[],.str x t,hx,cL _⟩
  | ty t=>cases e
  | cls t=>cases e
  | wz t=>cases e
  | fn fp t=>cases e
  | tup ws=>
   unfold ao at h
   obtain⟨p,xs,rfl,h1,h2⟩:=h
   cases r
   have e':(eW (bj st n) ws).map lq=some d:=e
   cases e2:eW (bj st n) ws with
   | none=>rw[e2] at e';cases e'
   | some ds=>
    rw[e2] at e'
    cases e'
    obtain⟨its,rv,ht,hz⟩:=I.tuple (fT.of h1)
    obtain⟨as,q1,q2,q3⟩:=lp ih ws xs its ds h2 rv e2
    obtain⟨o,ho,hc,k,hd⟩:=ht
    exact⟨as,.tuple ho hc hd (by simpa using q1),q2,um q3⟩
  | qA ws=>
   unfold ao at h
   obtain⟨p,xs,rfl,h1,h2⟩:=h
   cases r
   have e':(eW (bj st n) ws).map lq=some d:=e
   cases e2:eW (bj st n) ws with
   | none=>rw[e2] at e';cases e'
   | some ds=>
    rw[e2] at e'
    cases e'
    obtain⟨its,rv,ht,hz⟩:=I.tuple (.inr h1)
    obtain⟨as,q1,q2,q3⟩:=lp ih ws xs its ds h2 rv e2
    obtain⟨o,ho,hc,k,hd⟩:=ht
    exact⟨as,.tuple ho hc hd (by simpa using q1),q2,um q3⟩
  | ref l=>
   unfold ao at h
   obtain⟨p,rfl,h1⟩:=h
   cases r
   have e':(match aB st l with | some ws=>(eW (bj st n) ws).map Ar | none=>none)=some d:=e
   cases e1:aB st l with
   | none=>rw[e1] at e';cases e'
   | some ws=>
    rw[e1] at e'
    have e'':(eW (bj st n) ws).map Ar=some d:=e'
    cases e2:eW (bj st n) ws with
    | none=>rw[e2] at e'';cases e''
    | some ds=>
     rw[e2] at e''
     cases e''
     obtain⟨xs,hq,h2⟩:=S.read h1 e1
     obtain⟨its,rv,ht,hz⟩:=I.list hq
     obtain⟨as,q1,q2,q3⟩:=lp ih ws xs its ds h2 rv e2
     obtain⟨o,ho,hc,k,hd⟩:=ht.isList
     exact⟨_,.list ho hc hd (by simpa using q1),q2,um q3⟩
end
def oEq:gT:=λx y st=>match bj st 20 x,bj st 20 y with
 | some a,some b=> .ok (.bl (a4 a b)) st
 | _,_=> .bad
def uZ:gT:=λx y st=>match bj st 20 x,bj st 20 y with
 | some a,some b=> .ok (.bl (!PyData.eqv a b)) st
 | _,_=> .bad
section
variable {X:Cx}
def QQ(K:PySem.W.Frag)(neg:Bool):R2:=λa b H Q=>∃m st x y da db,bZ K m st H/\ao K m H x a/\ao K m H y b/\bj st 20 x=some da/\bj st 20 y=some db/\Q (.bl (if neg then !PyData.eqv da db else a4 da db)) H
theorem lr{n:Nat}{d:PyData}(hn:n<=64)(h:d.canLay0=true)(k:d.depth<=n):shaped d=true:=by
 unfold shaped
 rw[h,decide_eq_true (bf k hn)]
 rfl
theorem MQ(hu:X.A.units+64 < cLine):fh X (abS .Eq) (QQ X.K false):=by
 intro pins s σ H a b v u Q I rx ry h
 obtain⟨m,st,x,y,da,db,S,h1,h2,e1,e2,q⟩:=h
 obtain⟨as,q1,q2,q3⟩:=fU I S 20 x a v da h1 rx e1
 obtain⟨bs,p1,p2,p3⟩:=fU I S 20 y b u db h2 ry e2
 exact eq_dataH q1 p1 (lr (by decide) q2 q3) (lr (by decide) p2 p3) hu ⟨.bl _,H,I,rfl,q⟩
theorem MR(hu:X.A.units+64 < cLine):fh X (abS .NotEq) (QQ X.K true):=by
 intro pins s σ H a b v u Q I rx ry h
 obtain⟨m,st,x,y,da,db,S,h1,h2,e1,e2,q⟩:=h
 obtain⟨as,q1,q2,q3⟩:=fU I S 20 x a v da h1 rx e1
 obtain⟨bs,p1,p2,p3⟩:=fU I S 20 y b u db h2 ry e2
 exact ne_dataH q1 p1 (lr (by decide) q2 q3) (lr (by decide) p2 p3) hu ⟨.bl _,H,I,rfl,q⟩
theorem QR(hu:X.A.units+64 < cLine):jY X (abS .Eq) oEq:=⟨_,MQ hu,λx y a b st H m Q S rx ry p=>by
 unfold oEq at p
 cases e1:bj st 20 x with
 | none=>rw[e1] at p;exact ae p
 | some da=>
  cases e2:bj st 20 y with
  | none=>rw[e1,e2] at p;exact ae p
  | some db=>
   rw[e1,e2] at p
   exact⟨m,st,x,y,da,db,S,rx,ry,e1,e2,p _ m H Ext.refl S jg⟩⟩
theorem QS(hu:X.A.units+64 < cLine):jY X (abS .NotEq) uZ:=⟨_,MR hu,λx y a b st H m Q S rx ry p=>by
 unfold uZ at p
 cases e1:bj st 20 x with
 | none=>rw[e1] at p;exact ae p
 | some da=>
  cases e2:bj st 20 y with
  | none=>rw[e1,e2] at p;exact ae p
  | some db=>
   rw[e1,e2] at p
   exact⟨m,st,x,y,da,db,S,rx,ry,e1,e2,p _ m H Ext.refl S jg⟩⟩
def fj:Wv->Bool
 | .non=>true
 | .bl _=>true
 | .int _=>true
 | .str _=>true
 | _=>false
def MS:Wv->Wv->Bool
 | .non,.non=>true
 | .bl a,.bl b=>a == b
 | .bl a,.int b=>(if a then 1 else 0) == b
 | .int a,.bl b=>a == (if b then 1 else 0)
 | .int a,.int b=>a == b
 | .str a,.str b=>a == b
 | _,_=>false
def kf(st:Hs):Wv->Option (List Wv)
 | .tup ws=>some ws
 | .qA ws=>some ws
 | .ref l=>aB st l
 | _=>none
def U7:gT:=λx y st=>match kf st y with
 | some ws=>if fj x=true/\ws.all fj=true then .ok (.bl (ws.any λz=>MS z x)) st else .bad
 | none=> .bad
def yS:gT:=λx y st=>match kf st y with
 | some ws=>if fj x=true/\ws.all fj=true then .ok (.bl (!(ws.any λz=>MS z x))) st else .bad
 | none=> .bad
theorem qH{m:Mp}{H:Hp}{x:Wv}{a:V}(h:ao X.K m H x a)(f:fj x=true):lQ a=true:=by
 cases x with
 | non=>unfold ao at h;subst h;rfl
 | bl b=>unfold ao at h;subst h;rfl
 | int b=>unfold ao at h;subst h;rfl
 | str b=>unfold ao at h;obtain⟨h,_⟩:=h;subst h;rfl
 | _=>cases f
theorem Ib{m:Mp}{H:Hp}{x y:Wv}{a b:V}(h:ao X.K m H x a)(k:ao X.K m H y b)(f:fj x=true)(g:fj y=true):HL a b=MS x y:=by
 cases x with
 | non=>
  unfold ao at h;subst h
  cases y with
  | str j=>unfold ao at k;obtain⟨k,_⟩:=k;subst k;rfl
  | tup j=>cases g
  | qA j=>cases g
  | ref j=>cases g
  | ty j=>cases g
  | cls j=>cases g
  | wz j=>cases g
  | fn fp j=>cases g
  | _=>unfold ao at k;subst k;rfl
 | bl i=>
  unfold ao at h;subst h
  cases y with
  | str j=>unfold ao at k;obtain⟨k,_⟩:=k;subst k;rfl
  | tup j=>cases g
  | qA j=>cases g
  | ref j=>cases g
  | ty j=>cases g
  | cls j=>cases g
  | wz j=>cases g
  | fn fp j=>cases g
  | _=>unfold ao at k;subst k;rfl
 | int i=>
  unfold ao at h;subst h
  cases y with
  | str j=>unfold ao at k;obtain⟨k,_⟩:=k;subst k;rfl
  | tup j=>cases g
  | qA j=>cases g
  | ref j=>cases g
  | ty j=>cases g
  | cls j=>cases g
  | wz j=>cases g
  | fn fp j=>cases g
  | _=>unfold ao at k;subst k;rfl
 | str i=>
  unfold ao at h;obtain⟨h,_⟩:=h;subst h
  cases y with
  | str j=>unfold ao at k;obtain⟨k,_⟩:=k;subst k;rfl
  | tup j=>cases g
  | qA j=>cases g
  | ref j=>cases g
  | ty j=>cases g
  | cls j=>cases g
  | wz j=>cases g
  | fn fp j=>cases g
  | _=>unfold ao at k;subst k;rfl
 | _=>cases f
theorem nR{m:Mp}{H:Hp}{x:Wv}{a:V}(h:ao X.K m H x a)(f:fj x=true):∀{ws:List Wv}{xs:List V},aq X.K m H ws xs->ws.all fj=true->xs.all lQ=true/\Ti a xs=ws.any λz=>MS z x
 | [],xs,r,_=>by unfold aq at r;subst r;exact⟨rfl,rfl⟩
 | w::ws,xs,r,g=>by
  unfold aq at r
  obtain⟨y,yr,rfl,r1,r2⟩:=r
  rw[dG,dm] at g
  obtain⟨q1,q2⟩:=nR h f r2 g.2
  constructor
  ·rw[dG,qH r1 g.1,q1];rfl
  ·unfold Ti at q2 ⊢
   rw[fm,fm,Ib r1 h g.1 f,q2]
theorem pQ{m:Mp}{H:Hp}{st:Hs}{y:Wv}{b:V}{ws:List Wv}(S:bZ X.K m st H)(h:ao X.K m H y b)(e:kf st y=some ws):∃p xs,b= .ref p/\(lX X.K H p xs\/fT X.K H p xs)/\aq X.K m H ws xs:=by
 cases y with
 | tup zs=>
  cases e
  unfold ao at h
  obtain⟨p,xs,e1,e2,e3⟩:=h
  exact⟨p,xs,e1,.inr (fT.of e2),e3⟩
 | qA zs=>
  cases e
  unfold ao at h
  obtain⟨p,xs,e1,e2,e3⟩:=h
  exact⟨p,xs,e1,.inr (.inr e2),e3⟩
 | ref l=>
  unfold ao at h
  obtain⟨p,e1,e2⟩:=h
  obtain⟨xs,q1,q2⟩:=S.read e2 e
  exact⟨p,xs,e1,.inl q1,q2⟩
 | _=>cases e
theorem QT:jY X (abS .In) U7:=⟨_,BH,λx y a b st H m Q S rx ry p=>by
 unfold U7 at p
 cases e:kf st y with
 | none=>rw[e] at p;exact ae p
 | some ws=>
  rw[e] at p
  by_cases c:fj x=true/\ws.all fj=true
  ·simp only[if_pos c] at p
   obtain⟨q,xs,e1,e2,e3⟩:=pQ S ry e
   obtain⟨f1,f2⟩:=nR rx c.1 e3 c.2
   refine⟨q,xs,e1,e2,qH rx c.1,f1,?_⟩
   rw[f2]
   exact p _ m H Ext.refl S jg
  ·simp only[if_neg c] at p;exact ae p⟩
theorem DU:jY X (abS .NotIn) yS:=⟨_,uJ,λx y a b st H m Q S rx ry p=>by
 unfold yS at p
 cases e:kf st y with
 | none=>rw[e] at p;exact ae p
 | some ws=>
  rw[e] at p
  by_cases c:fj x=true/\ws.all fj=true
  ·simp only[if_pos c] at p
   obtain⟨q,xs,e1,e2,e3⟩:=pQ S ry e
   obtain⟨f1,f2⟩:=nR rx c.1 e3 c.2
   refine⟨q,xs,e1,e2,qH rx c.1,f1,?_⟩
   rw[f2]
   exact p _ m H Ext.refl S jg
  ·simp only[if_neg c] at p;exact ae p⟩
def aP:gT
 | .str z,.int i,st=>if z.length<=lim then(match nK z.cps.toList i with | some c=> .ok (.str ⟨#[c]⟩) st | none=> .bad) else .bad
 | x,.int i,st=>match kf st x with
  | some ws=>(match nK ws i with | some w=> .ok w st | none=> .bad)
  | none=> .bad
 | _,_,_=> .bad
theorem Ie{m:Mp}{H:Hp}{ws:List Wv}{xs:List V}{i:Int}{w:Wv}(r:aq X.K m H ws xs)(h:nK ws i=some w):∃x,nK xs i=some x/\ao X.K m H w x:=by
 unfold nK at h ⊢
 rw[<-r.length]
 cases e:BG ws.length i with
 | none=>rw[e] at h;cases h
 | some j=>rw[e] at h;exact r.get h
theorem Ig{α:Type}{xs:List α}{i:Int}{v:α}(h:nK xs i=some v):v∈xs:=by
 obtain⟨j,_,h2,_⟩:=pL h
 exact HC h2
theorem BO{z:PySem.Str}{c:Nat}(h:aY z=true)(hc:c∈z.cps.toList):aY ⟨#[c]⟩=true:=by
 unfold aY at h ⊢
 rw[Ks] at h
 have q:=h c (by simpa using hc)
 simpa using q
theorem QU{a b:Expr}{ga gb:GE}{pos:Pos}(ha:JE X a ga)(hb:JE X b gb)(hs:Af b:=by exact λ_ _=>rfl):JE X (.Subscript a b pos) (ag aP ga gb) :=
 JE.of (Qt Mb a6 a6 hs) λρ st σ H m Q S R p=>Ao (op:=aP) (λx y a b st H m Q S rx ry p=>by
  have seqs:∀(i:Int),y= .int i->(match kf st x with | some ws=>(match nK ws i with | some w=>Re.ok w st | none=> .bad) | none=> .bad)=aP x y st->XF X.K a b H Q:=λi hy hp=>by
   subst hy
   rw[<-hp] at p
   cases e:kf st x with
   | none=>rw[e] at p;exact ae p
   | some ws=>
    rw[e] at p
    dsimp only at p
    cases e1:nK ws i with
    | none=>rw[e1] at p;exact ae p
    | some w=>
     rw[e1] at p
     obtain⟨q,xs,e2,e3,e4⟩:=pQ S rx e
     obtain⟨v,f1,f2⟩:=Ie e4 e1
     rcases e3 with e3 | e3
     ·exact .inl ⟨q,xs,i,v,e2,aZ ry,e3,f1,p v m H Ext.refl S f2⟩
     ·exact .inr (.inl ⟨q,xs,i,v,e2,aZ ry,e3,f1,p v m H Ext.refl S f2⟩)
  cases y with
  | int i=>
   cases x with
   | str z=>
    dsimp only[aP] at p
    by_cases c:z.length<=lim
    ·simp only[if_pos c] at p
     cases e1:nK z.cps.toList i with
     | none=>rw[e1] at p;exact ae p
     | some ch=>
      rw[e1] at p
      exact .inr (.inr ⟨z,i,ch,(eM rx).1,aZ ry,eL c,e1,p _ m H Ext.refl S (mkStr (BO (eM rx).2 (Ig e1)))⟩)
    ·simp only[if_neg c] at p;exact ae p
   | _=>exact seqs i rfl rfl
  | _=>cases x<;>exact ae p) ha hb S R p
abbrev GO:=bY->Hs->Re (Option Int)
def SO(X:Cx)(e:Option Expr):TO:=λσ H Q=>∀(pins:List (abF×Obj))(s:abK),Inv X pins σ H s->abY (model X.prog X.w) X.A (evalPart e X.env) (λu s'=>∃o H',Inv X pins σ H' s'/\IsPart u o/\Q o H') X.xe s
theorem tH{e:Option Expr}:PO X e (SO X e):=λpins s _ _ _ I h=>h pins s I
def Zj(K:PySem.W.Frag)(m:Mp)(H:Hp)(Q:Option Int->Hp->Prop)(o:Option Int)(st:Hs):Prop:=∀(m':Mp)(H':Hp),Ext K m H m' H'->bZ K m' st H'->Q o H'
def JO(X:Cx)(e:Option Expr)(g:GO):Prop:=∀(ρ:bY)(st:Hs)(σ:St)(H:Hp)(m:Mp)(Q:Option Int->Hp->Prop),bZ X.K m st H->aT X.K m H ρ σ->aK X σ m H (g ρ st) (Zj X.K m H Q)->SO X e σ H Q
def jh:GO:=λ_ st=> .ok none st
def mV(g:GE):GO:=λρ st=>(g ρ st).bind λw st1=>match w with
 | .int i=> .ok (some i) st1
 | _=> .bad
theorem Ih:JO X none jh:=λρ st σ H m Q S R p pins s I=>HF pins s σ H Q I (p m H Ext.refl S)
theorem Ii{e:Expr}{g:GE}(h:JE X e g):JO X (some e) (mV g):=λρ st σ H m Q S R p pins s I=>
 HG a6 pins s σ H Q I (h.go S R (aK.bind p) λw st1 v m1 H1 p1 e1 S1 r1=>by
  cases w with
  | int i=>exact⟨i,aZ r1,p1 m1 H1 e1 S1⟩
  | _=>exact ae p1)
theorem JO.go{e:Option Expr}{g:GO}{ρ:bY}{st:Hs}{σ:St}{H:Hp}{m:Mp}{T:Option Int->Hp->Prop}{ok:Option Int->Hs->Prop}(h:JO X e g)(S:bZ X.K m st H)(R:aT X.K m H ρ σ)(p:aK X σ m H (g ρ st) ok)
  (k:∀(b:Option Int)(st1:Hs)(m1:Mp)(H1:Hp),ok b st1->Ext X.K m H m1 H1->bZ X.K m1 st1 H1->T b H1):SO X e σ H T :=
 h ρ st σ H m T S R (p.imp Ext.refl λb st1 q m1 H1 e1 s1=>k b st1 m1 H1 q e1 s1)
def ph(xs:List Wv)(lo hi:Option Int):List Wv:=(xs.drop (HT.dD xs.length 0 lo)).take (HT.dD xs.length xs.length hi - HT.dD xs.length 0 lo)
def Px(x:Wv)(lo hi:Option Int)(st:Hs):Re Wv:=match x with
 | .tup ws=>if HT.dD ws.length 0 lo=0/\HT.dD ws.length ws.length hi=ws.length then .bad else .ok (.tup (ph ws lo hi)) st
 | .ref l=>match aB st l with
  | some ws=> .ok (.ref st.length) (st++[.lst (ph ws lo hi)])
  | none=> .bad
 | _=> .bad
theorem u5{m:Mp}{H:Hp}{ws:List Wv}{xs:List V}{lo hi:Option Int}(r:aq X.K m H ws xs):aq X.K m H (ph ws lo hi) (su xs lo hi):=by
 unfold ph su
 rw[<-r.length]
 exact(r.drop _).take _
def yT(ga:GE)(gl gh:GO):GE:=λρ st=>(ga ρ st).bind λx st1=>(gl ρ st1).bind λlo st2=>(gh ρ st2).bind λhi st3=>Px x lo hi st3
theorem wF{a:Expr}{lo hi:Option Expr}{ga:GE}{gl gh:GO}{pos p2:Pos}(ha:JE X a ga)(hl:JO X lo gl)(hh:JO X hi gh):JE X (.Subscript a (.Slice lo hi none p2) pos) (yT ga gl gh):=by
 refine JE.of (qp (Dv.or HK) a6 tH tH) λρ st σ H m Q S R p=>?_
 refine ha.go S R (aK.bind p) λx st1 v m1 H1 p1 e1 S1 rx=>?_
 refine hl.go S1 (R.mono e1) ((aK.bind p1).imp e1 λ_ _ q=>q) λl st2 m2 H2 p2 e2 S2=>?_
 refine hh.go S2 (R.mono (e1.trans e2)) ((aK.bind p2).imp (e1.trans e2) λ_ _ q=>q) λh st3 m3 H3 p3 e3 S3=>?_
 have yf:=e1.trans (e2.trans e3)
 have Ts:=ao.mono (e2.trans e3) _ _ rx
 cases x with
 | tup ws=>
  have ma:eO X σ m H (if HT.dD ws.length 0 l=0/\HT.dD ws.length ws.length h=ws.length then .bad else .ok (.tup (ph ws l h)) st3) Q:=p3
  by_cases c:HT.dD ws.length 0 l=0/\HT.dD ws.length ws.length h=ws.length
  ·rw[if_pos c] at ma;exact ae ma
  ·rw[if_neg c] at ma
   unfold ao at Ts
   obtain⟨q,xs,rfl,f1,f2⟩:=Ts
   refine .inl ⟨q,xs,rfl,fT.of f1,by rw[<-f2.length];exact c,λr hr=>?_⟩
   have e4:Ext X.K m3 H3 m3 (upd H3 r (.tup (su xs l h))):=Ext.upd (.inl hr)
   exact ma (.ref r) m3 _ (yf.trans e4) (S3.fresh hr) (by unfold ao;exact⟨r,_,rfl,bC,aq.mono e4 _ _ (u5 f2)⟩)
 | ref k=>
  have ma:eO X σ m H (match aB st3 k with | some ws=> .ok (.ref st3.length) (st3++[.lst (ph ws l h)]) | none=> .bad) Q:=p3
  unfold ao at Ts
  obtain⟨q,rfl,f1⟩:=Ts
  cases e:aB st3 k with
  | none=>rw[e] at ma;exact ae ma
  | some ws=>
   rw[e] at ma
   obtain⟨xs,g1,g2⟩:=S3.read f1 e
   exact .inr ⟨q,xs,rfl,g1,λr hr=>iN ma yf S3 (u5 g2) r hr⟩
 | _=>exact ae p3
end
section
variable {X:Cx}
def dc(X:Cx)(f:abL)(op:List Wv->Hs->Re Wv):Prop:=∃r,dq X f r/\∀(ws:List Wv)(vs:List V)(st:Hs)(H:Hp)(m:Mp)(Q:VK),bZ X.K m st H->aq X.K m H ws vs->dH X.K m H (op ws st) Q->r vs H Q
def aR(op:List Wv->Hs->Re Wv)(g:GA):GE:=λρ st=>(g ρ st).bind λws st1=>(op ws st1).pO
theorem DV{x:Str}{id:String}{p pos:Pos}{e:Expr}{es:List Expr}{g:GA}{op:List Wv->Hs->Re Wv}(hc:dc X (.builtin id) op)(hg:Gl X x)(hm:X.mg x=none)(hv:abP x=some (.builtin id))(ha:JA X (e::es) g)
  (hn:x≠"__name__":=by decide)(hdb:(x == ("__debug__":Str))=false:=by decide)(he:abX (e::es) X.env=(false,eval e X.env)::abX es X.env:=by rfl)(hpl:(backTo pos (abX es X.env)).any (·.1)=false:=by rfl) :
  JE X (.Call (.Name x p) (e::es) [] pos) (aR op g):=by
 obtain⟨r,h1,h2⟩:=hc
 refine JE.of (Dr h1 hg hm hv jS hn hdb he hpl) λρ st σ H m Q S R p=>?_
 exact ha.go S R (aK.bind p) λws st1 vs m1 H1 p1 e1 S1 rs=>h2 ws vs st1 H1 m1 Q S1 rs (dH.shift (aK.pO p1) e1)
theorem tJ{x:Str}{T:String}{p pos:Pos}{e:Expr}{es:List Expr}{g:GA}{op:List Wv->Hs->Re Wv}(hc:dc X (.type T) op)(hg:Gl X x)(hm:X.mg x=none)(hv:abP x=some (.type T))(ha:JA X (e::es) g)
  (hn:x≠"__name__":=by decide)(hdb:(x == ("__debug__":Str))=false:=by decide)(he:abX (e::es) X.env=(false,eval e X.env)::abX es X.env:=by rfl)(hpl:(backTo pos (abX es X.env)).any (·.1)=false:=by rfl) :
  JE X (.Call (.Name x p) (e::es) [] pos) (aR op g):=by
 obtain⟨r,h1,h2⟩:=hc
 refine JE.of (BF h1 hg hm hv jS hn hdb he hpl) λρ st σ H m Q S R p=>?_
 exact ha.go S R (aK.bind p) λws st1 vs m1 H1 p1 e1 S1 rs=>h2 ws vs st1 H1 m1 Q S1 rs (dH.shift (aK.pO p1) e1)
theorem me{m:Mp}{H:Hp}{w:Wv}{vs:List V}(r:aq X.K m H [w] vs):∃v,vs=[v]/\ao X.K m H w v:=by
 unfold aq at r
 obtain⟨v,t,rfl,h1,h2⟩:=r
 unfold aq at h2
 subst h2
 exact⟨v,rfl,h1⟩
theorem wG{m:Mp}{H:Hp}{w w':Wv}{vs:List V}(r:aq X.K m H [w,w'] vs):∃v v',vs=[v,v']/\ao X.K m H w v/\ao X.K m H w' v':=by
 unfold aq at r
 obtain⟨v,t,rfl,h1,h2⟩:=r
 obtain⟨v',rfl,h3⟩:=me h2
 exact⟨v,v',rfl,h1,h3⟩
def lL:List Wv->Hs->Re Wv
 | [.str z],st=>if z.length<=lim then .ok (.int z.length) st else .bad
 | [x],st=>match kf st x with
  | some ws=> .ok (.int ws.length) st
  | none=> .bad
 | _,_=> .bad
theorem MT:dc X (.builtin "len") lL:=⟨_,uL.or uM,λws vs st H m Q S r p=>by
 match ws,r,p with
 | [],r,p=>exact ae p
 | x::y::t,r,p=>cases x<;>exact ae p
 | [x],r,p=>
  obtain⟨v,rfl,rx⟩:=me r
  have seqs:(match kf st x with | some ws=>Re.ok (Wv.int ws.length) st | none=> .bad)=lL [x] st->(∃p ys,[v]=[V.ref p]/\(lX X.K H p ys\/fT X.K H p ys)/\Q (.int ys.length) H):=λhp=>by
   rw[<-hp] at p
   cases e:kf st x with
   | none=>rw[e] at p;exact ae p
   | some ws=>
    rw[e] at p
    obtain⟨q,xs,rfl,e2,e3⟩:=pQ S rx e
    refine⟨q,xs,rfl,e2,?_⟩
    rw[<-e3.length]
    exact p _ m H Ext.refl S mkInt
  cases x with
  | str z=>
   have p':dH X.K m H (if z.length<=lim then .ok (.int z.length) st else .bad) Q:=p
   by_cases c:z.length<=lim
   ·rw[if_pos c] at p'
    obtain⟨rfl,_⟩:=eM rx
    exact .inr ⟨z,rfl,eL c,p' _ m H Ext.refl S mkInt⟩
   ·rw[if_neg c] at p';exact ae p'
  | _=>exact .inl (seqs rfl)⟩
def Ij:List Wv->Hs->Re Wv
 | [.int i],st=> .ok (.int (if i < 0 then -i else i)) st
 | _,_=> .bad
theorem MU:dc X (.builtin "abs") Ij:=⟨_,Dl,λws vs st H m Q S r p=>by
 match ws,r,p with
 | [],r,p=>exact ae p
 | x::y::t,r,p=>cases x<;>exact ae p
 | [x],r,p=>
  obtain⟨v,rfl,rx⟩:=me r
  cases x with
  | int i=>cases aZ rx;exact⟨i,rfl,p _ m H Ext.refl S mkInt⟩
  | _=>exact ae p⟩
def Tt(st:Hs)(T:String):Wv->Option Bool
 | .non=>some false
 | .bl _=>some (T == "bool"||T == "int")
 | .int _=>some (T == "int")
 | .str _=>some (T == "str")
 | .tup _=>some (T == "tuple")
 | .qA _=>none
 | .ref l=>(aB st l).map λ_=>T == "list"
 | .ty _=>none
 | .cls _=>none
 | .wz _=>none
 | .fn _ _=>none
def DW(T:String):Bool:=T == "int"||T == "str"||T == "bool"||T == "tuple"||T == "list"
def QV:List Wv->Hs->Re Wv
 | [x,.ty T],st=>if DW T=true then(match Tt st T x with | some b=> .ok (.bl b) st | none=> .bad) else .bad
 | _,_=> .bad
def U8(K:PySem.W.Frag):List V->Hp->VK->Prop:=λvs H Q=>∃m st x T v b,vs=[v,.ty T]/\bZ K m st H/\ao K m H x v/\DW T=true/\Tt st T x=some b/\Q (.bl b) H
theorem DX:dq X (.builtin "isinstance") (U8 X.K):=by
 intro pins s σ H xs us Q I r h
 obtain⟨m,st,x,T,v,b,rfl,S,rx,hT,hb,q⟩:=h
 obtain⟨u,u',rfl,r1,r2⟩:=vals2 r
 cases r2
 have fin:∀tk,EP X pins σ Q (.bool b) { s with toks:=tk }:=λtk=>⟨.bl b,H,I.tok tk,rfl,q⟩
 have DY:EP X pins σ Q (.bool b) s:=⟨.bl b,H,I,rfl,q⟩
 unfold DW at hT
 simp only[DZ,beq_iff_eq] at hT
 cases x with
 | non=>
  unfold ao at rx;subst rx;cases r1
  cases hb
  rcases hT with (((rfl | rfl) | rfl) | rfl) | rfl<;>
   exact call_isinstance (isinstance_false_none (by decide) (by kernel_rfl) (by rw[abU];kernel_rfl)) (fin _)
 | bl c=>
  unfold ao at rx;subst rx;cases r1
  rcases hT with (((rfl | rfl) | rfl) | rfl) | rfl<;>cases hb<;>first
   | exact call_isinstance_yes (Tx:="bool") rfl (by kernel_rfl) (by rw[abU];kernel_rfl) DY
   | exact call_isinstance (isinstance_false_bool (by decide) (by kernel_rfl) (by rw[abU];kernel_rfl)) (fin _)
 | int c=>
  unfold ao at rx;subst rx;obtain⟨t,rfl⟩:=r1
  rcases hT with (((rfl | rfl) | rfl) | rfl) | rfl<;>cases hb<;>first
   | exact call_isinstance_yes (Tx:="int") (typeIs_int s c t) (by kernel_rfl) (by rw[abU];kernel_rfl) DY
   | exact call_isinstance (isinstance_false_int (by decide) (by kernel_rfl) (by rw[abU];kernel_rfl)) (fin _)
 | str c=>
  obtain⟨rfl,_⟩:=eM rx;obtain⟨t,rfl⟩:=r1
  rcases hT with (((rfl | rfl) | rfl) | rfl) | rfl<;>cases hb<;>first
   | exact call_isinstance_yes (Tx:="str") (typeIs_str s c t) (by kernel_rfl) (by rw[abU];kernel_rfl) DY
   | exact call_isinstance (isinstance_false_str (by decide) (by kernel_rfl) (by rw[abU];kernel_rfl)) (fin _)
 | qA ws=>cases hb
 | tup ws=>
  unfold ao at rx;obtain⟨a,xs,rfl,h1,h2⟩:=rx;cases r1
  obtain⟨its,rv,ht,hz⟩:=I.tuple (fT.of h1)
  have hty:=ht.typeIs
  obtain⟨o,ho,hc,k,hd⟩:=ht
  rcases hT with (((rfl | rfl) | rfl) | rfl) | rfl<;>cases hb<;>first
   | exact call_isinstance_yes (Tx:="tuple") hty (by kernel_rfl) (by rw[abU];kernel_rfl) DY
   | exact call_isinstance (isinstance_false_tuple (by decide) (by kernel_rfl) (by rw[abU];kernel_rfl)) ⟨⟨o,ho,hc⟩,fin _⟩
 | ref l=>
  unfold ao at rx;obtain⟨a,rfl,h1⟩:=rx;cases r1
  have hb':(aB st l).map (λ_=>T == "list")=some b:=hb
  cases e:aB st l with
  | none=>rw[e] at hb';cases hb'
  | some ws=>
   rw[e] at hb'
   obtain⟨xs,hq,h2⟩:=S.read h1 e
   obtain⟨its,rv,ht,hz⟩:=I.list hq
   have hty:=ht.isList.typeIs
   obtain⟨o,ho,hc,k,hd⟩:=ht.isList
   rcases hT with (((rfl | rfl) | rfl) | rfl) | rfl<;>cases hb'<;>first
    | exact call_isinstance_yes (Tx:="list") hty (by kernel_rfl) (by rw[abU];kernel_rfl) DY
    | exact call_isinstance (isinstance_false_list (by decide) (by kernel_rfl) (by rw[abU];kernel_rfl)) ⟨⟨o,ho,hc⟩,fin _⟩
 | ty t=>cases hb
 | cls t=>cases hb
 | wz t=>cases hb
 | fn fp t=>cases hb
theorem MV:dc X (.builtin "isinstance") QV:=⟨_,DX,λws vs st H m Q S r p=>by
 match ws,r,p with
 | [],r,p=>exact ae p
 | [x],r,p=>cases x<;>exact ae p
 | x::y::z::t,r,p=>cases y<;>exact ae p
 | [x,y],r,p=>
  obtain⟨v,v',rfl,rx,ry⟩:=wG r
  cases y with
  | ty T=>
   unfold ao at ry
   subst ry
   have p':dH X.K m H (if DW T=true then(match Tt st T x with | some b=> .ok (.bl b) st | none=> .bad) else .bad) Q:=p
   by_cases c:DW T=true
   ·rw[if_pos c] at p'
    cases e:Tt st T x with
    | none=>rw[e] at p';exact ae p'
    | some b=>rw[e] at p';exact⟨m,st,x,T,v,b,rfl,S,rx,c,e,p' _ m H Ext.refl S jg⟩
   ·rw[if_neg c] at p';exact ae p'
  | _=>exact ae p⟩
def aL:GS:=λρ st=> .nx ρ st
def aI(g h:GS):GS:=λρ st=>match g ρ st with
 | .nx ρ' st'=>h ρ' st'
 | r=>r
theorem Il:pP X [] aL:=pP.of Hn λρ st σ H m D S R p=>p σ m H Ext.refl S R
theorem D0{s:Stmt}{rest:List Stmt}{g h:GS}(h1:JS X s g)(h2:pP X rest h):pP X (s::rest) (aI g h) :=
 pP.of (C9 Km ij) λρ st σ H m D S R p=>h1 ρ st σ H m _ S R (by
  unfold aI at p
  cases e:g ρ st with
  | nx ρ' st'=>rw[e] at p;exact λσ' m' H' e' S' R'=>h2 ρ' st' σ' H' m' D S' R' (ba.shift p e')
  | rt w st'=>rw[e] at p;exact p
  | bk ρ' st'=>rw[e] at p;exact p
  | ct ρ' st'=>rw[e] at p;exact p
  | err c ρ' st'=>rw[e] at p;exact p
  | bad=>rw[e] at p;exact p)
theorem Im{s:Stmt}{g:GS}(h1:JS X s g):pP X [s] g:=pP.of (Ho Km) λρ st σ H m D S R p=>h1 ρ st σ H m D S R p
def aJ(g:GE):GS:=λρ st=>(g ρ st).bD ρ λw st'=> .rt w st'
theorem MW{e:Expr}{g:GE}{pos:Pos}(h:JE X e g):JS X (.Return (some e) pos) (aJ g) :=
 JS.of (LH a6) λρ st σ H m D S R p=>h.go S R (ba.cS R p) λw st1 v m1 H1 q e1 S1 r1=>q v m1 H1 e1 S1 r1
def mW(g:GE):GS:=λρ st=>(g ρ st).bD ρ λ_ st'=> .nx ρ st'
theorem Io{e:Expr}{g:GE}{pos:Pos}(h:JE X e g)(hs:swapsWith e none pos.line X.env=pure false:=by rfl):JS X (.Expr e pos) (mW g) :=
 JS.of (Hq a6 hs) λρ st σ H m D S R p=>h.go S R (ba.cS R p) λw st1 v m1 H1 q e1 S1 r1=>q σ m1 H1 e1 S1 (R.mono e1)
def c9(gt:GT)(ga gb:GS):GS:=λρ st=>(gt ρ st).bD ρ λb st'=>if b=true then ga ρ st' else gb ρ st'
theorem QW{c:Expr}{a b:List Stmt}{gt:GT}{ga gb:GS}{pos:Pos}(hc:JT X c gt)(ha:pP X a ga)(hb:pP X b gb):JS X (.If c a b pos) (c9 gt ga gb) :=
 JS.of (P9 qE ij ij) λρ st σ H m D S R p=>hc.go S R (ba.cS R p) λk st1 m1 H1 q e1 S1=>by
  cases k with
  | true=>rw[if_pos rfl] at q ⊢;exact ha ρ st1 σ H1 m1 D S1 (R.mono e1) (ba.shift q e1)
  | false=>rw[if_neg bE] at q ⊢;exact hb ρ st1 σ H1 m1 D S1 (R.mono e1) (ba.shift q e1)
def bB(i:Nat)(g:GE):GS:=λρ st=>(g ρ st).bD ρ λw st'=> .nx (ρ.set i (some w)) st'
theorem yU(i:Nat){x:Str}{e:Expr}{g:GE}{pos pos':Pos}(hN:X.N.Nodup)(h:JE X e g)(hi:X.N[i]? =some x:=by rfl)(hx:Loc X.env.scope x:=by first | exact Or.inl rfl | exact lh rfl)(hs:swapsWith e (some (.Name x pos')) pos.line X.env=pure false:=by rfl)
  (hf:X.fn x=true\/X.env.scope.names.lookup x=some .local:=by first | exact .inl rfl | exact .inr rfl | assumption):JS X (.Assign [.Name x pos'] e pos) (bB i g) :=
 JS.of (LK hN hi hx a6 hs hf) λρ st σ H m D S R p=>h.go S R (ba.cS R p) λw st1 v m1 H1 q e1 S1 r1=>q _ m1 H1 e1 S1 ((R.mono e1).set i r1)
def dI:GS:=λ_ _=> .bad
theorem cM{s:Stmt}:JS X s dI:=JS.of Dd λρ st σ H m D S R p=>p
theorem BP{s:List Stmt}:pP X s dI:=pP.of Bu λρ st σ H m D S R p=>p
def QX(o i v:Wv)(ρ:bY)(st:Hs):Rs:=match o,i with
 | .ref l,.int k=>match st[l]? with
  | some (.lst ws)=>(match BG ws.length k with | some j=> .nx ρ (st.set l (.lst (ws.set j v))) | none=> .bad)
  | _=> .bad
 | _,_=> .bad
def As(ge go gi:GE):GS:=λρ st=>(ge ρ st).bD ρ λv st1=>(go ρ st1).bD ρ λo st2=>(gi ρ st2).bD ρ λi st3=>QX o i v ρ st3
theorem Ip{o i e:Expr}{go gi ge:GE}{pos pos':Pos}(he:JE X e ge)(ho:JE X o go)(hi:JE X i gi)(hs:swapsWithSole [.Subscript o i pos'] e pos.line X.env=pure false:=by rfl)(hw:swappedStores [.Subscript o i pos'] e X.env=pure none:=by rfl)
  (h1:(assignEach [.Subscript o i pos'] X.env).map (·.2)=[assign (.Subscript o i pos') X.env]:=by rfl)
  (ha:∀v,assign (.Subscript o i pos') X.env v=(do
   let ov <-holding [v] (eval o X.env)
   let iv <-holding [v,ov] (eval i X.env)
   standAt pos'
   holding [v,ov,iv] (setItem ov iv v)
   release [v,ov,iv] []):=by intro _;rfl):JS X (.Assign [.Subscript o i pos'] e pos) (As ge go gi):=by
 refine JS.of (Df a6 (LJ a6 a6 set_list ha) hs hw h1) λρ st σ H m D S R p=>?_
 refine he.go S R (ba.cS R p) λv st1 vv m1 H1 p1 e1 S1 rv=>?_
 refine ho.go S1 (R.mono e1) ((ba.cS (m:=m) (H:=H) R p1).imp e1 λ_ _ q=>q) λo' st2 ov m2 H2 p2 e2 S2 ro=>?_
 refine hi.go S2 (R.mono (e1.trans e2)) ((ba.cS (m:=m) (H:=H) R p2).imp (e1.trans e2) λ_ _ q=>q) λi' st3 iv m3 H3 p3 e3 S3 ri=>?_
 have yf:=e1.trans (e2.trans e3)
 cases o' with
 | ref l=>
  cases i' with
  | int k=>
   have ma:ba X m H (match st3[l]? with | some (.lst ws)=>(match BG ws.length k with | some j=> .nx ρ (st3.set l (.lst (ws.set j v))) | none=> .bad) | _=> .bad) D:=p3
   have Py:=ao.mono e3 _ _ ro
   unfold ao at Py
   obtain⟨a,rfl,f1⟩:=Py
   cases e:st3[l]? with
   | none=>rw[e] at ma;exact ae ma
   | some ob=>
    cases ob with
    | dct kvs=>rw[e] at ma;exact ae ma
    | nL kvs=>rw[e] at ma;exact ae ma
    | Am kvs=>rw[e] at ma;exact ae ma
    | CW kvs=>rw[e] at ma;exact ae ma
    | nM kvs=>rw[e] at ma;exact ae ma
    | ins _ _=>rw[e] at ma;exact ae ma
    | sh ns=>rw[e] at ma;exact ae ma
    | lst ws=>
     rw[e] at ma
     cases ej:BG ws.length k with
     | none=>simp only[ej] at ma;exact ae ma
     | some j=>
      simp only[ej] at ma
      obtain⟨xs,g1,g2⟩:=S3.qB f1 e
      refine⟨a,xs,k,j,rfl,aZ ri,g1,by rw[<-g2.length];exact ej,?_⟩
      have U9:=ao.mono (e2.trans e3) _ _ rv
      have e4:Ext X.K m3 H3 m3 (upd H3 a (.lst (xs.set j vv))):=Ext.upd (.inr ⟨xs,g1⟩)
      exact ma σ m3 _ (yf.trans e4) (S3.write f1 e (g2.set j U9)) (R.mono (yf.trans e4))
  | _=>exact ae p3
 | _=>cases i'<;>exact ae p3
open Classical in
def forL(i:Nat)(gb:GS)(l:Nat)(all:List Wv):List Wv->bY->Hs->Rs
 | [],ρ,st=> .nx ρ st
 | w::r,ρ,st=>match gb (ρ.set i (some w)) st with
  | .nx ρ' st'=>if aB st' l=some all then forL i gb l all r ρ' st' else .bad
  | .ct ρ' st'=>if aB st' l=some all then forL i gb l all r ρ' st' else .bad
  | .bk ρ' st'=> .nx ρ' st'
  | .rt w st'=> .rt w st'
  | .err c ρ' st'=> .err c ρ' st'
  | .bad=> .bad
end
def CXJ(P:abJ)(w:abM):BD:=λouter H s E e s'=>∃H' C,wB P w outer H s H' (.ref C) e s'/\E (.ref C) none H'
section
variable {X:Cx} {pins:List (abF×Obj)} {σ:St} {Hc H':Hp} {sc s':abK} {cls e:abL} {E:abL->abK->Prop} {Q:Unit->abK->Prop}
theorem old_ne(I:Inv X pins σ Hc sc){b:abF}{o:Obj}(q:X.s₀.heap.get? b=some o):b≠X.env.locals:=λz=>by
 have h1:=bc q
 have h2:=I.ok.above
 rw[z] at h1
 exact absurd (br h1 h2) (gz _)
theorem Iq(I:Inv X pins σ Hc sc)(hst:X.stack=X.env::X.outer)(hf:X.env.frame=some X.env.locals){b:abF}{o:Obj}(q:X.s₀.heap.get? b=some o)(hb:b∉frs X.outer):b∉frs X.stack:=λz=>by
 rw[hst] at z
 unfold frs at z
 rw[uv,hf] at z
 rcases List.mem_cons.mp z with z | z
 ·exact old_ne I q z
 ·exact hb z
theorem D1(hst:X.stack=X.env::X.outer)(hf:X.env.frame=some X.env.locals){b:abF}(hb:b∈frs X.outer):b∈frs X.stack:=by
 rw[hst]
 unfold frs
 rw[uv,hf]
 exact bq _ hb
theorem D2{M:Model}{A:abG}{E:abL->abK->Prop}{s:abK}{base:Heap}{env:Env}{outer:List Env}{L e:abF}{cls a0 nt:abL}{Q:Unit->abK->Prop}(hfr:A.frames=some (env::outer))(hf:env.frame=some L)
  (x:base.StaysIn s.heap/\base.get? e=none/\s.heap.FunFrames base (env::outer)/\Tp s.heap base e cls a0 nt)(k:∀h',DF base (env::outer) e cls a0 L h'->s.heap.UpToSlots h'->Q () { s with heap:=h' }) :
  abY M A (noteFrame (.ref e) env) Q E s:=by
 obtain⟨x1,x2,x3,x4⟩:=x
 by_cases z:nt=rawInt L
 ·subst z
  exact Mx hf x4 (k s.heap ⟨x1,x2,x3,x4⟩ (Heap.UpToSlots.refl _))
 ·obtain⟨ox,us,T,ot,ws,g1,⟨g2,g3⟩,g4,g5,g6,g7,g8,g9,XQ⟩:=x4
  subst g2
  have apart:∀b,b≠T->(s.heap.update T (jd (·.setIfInBounds 3 cH))).get? b=s.heap.get? b:=λb hb=>qq _ _ (bo hb)
  have plain:∀b o,s.heap.get? b=some o->(∀vs,o.data≠.fields vs)->b≠T:=λb o hb hd q=>by
   subst q
   rw[g8] at hb
   cases hb
   exact hd ws g9
  unfold noteFrame
  simp only[hf]
  refine abZ (wpAny_field g1 g4 g5 ?_)
  rw[if_pos (show(aO T != cH)=true from by simp)]
  refine abZ (wpAny_field g8 g9 XQ ?_)
  rw[if_neg (show ¬((nt == rawInt L)=true) from by simpa using z)]
  refine abZ (wpAny_setField g8 g9 (Array.getElem?_eq_some_iff.mp XQ).1 ?_)
  refine DG (a0:=a0) hfr (x3.of_keeps λb o hb hd=>⟨o,(apart b (plain b o hb hd)).trans hb,rfl⟩) hf ((apart e (bo g7)).trans g1) (λb o hb=>(apart b λq=>by rw[q,g6] at hb;cases hb).trans (x1 b o hb)) x2 g4 (Array.getElem?_eq_some_iff.mp g5).1 g3 λh' y y4=>?_
  exact k h' y λb o hb hd=>y4 b o ((apart b (plain b o hb hd)).trans hb) hd
theorem BQ{M:Model}{A:abG}{E:abL->abK->Prop}{s:abK}{base h:Heap}{env:Env}{outer:List Env}{L a:abF}{cls:abL}{args:List abL}{Q:Unit->abK->Prop}(hfr:A.frames=some (env::outer))(hf:env.frame=some L)
  (st:base.StaysIn h)(fs:h.FunFrames base (env::outer))(mk:DM h s.heap a cls args)(k:∀h' a0,DF base (env::outer) a cls a0 L h'->s.heap.UpToSlots h'->Q () { s with heap:=h' }) :
  abY M A (noteFrame (.ref a) env) Q E s:=by
 obtain⟨t,e1,e2,e3⟩:=mk.there
 have fresh:∀b,h.get? b=none->base.get? b=none:=λb hb=>by
  cases q:base.get? b with
  | none=>rfl
  | some o'=>have z:=st b o' q;rw[hb] at z;cases z
 have fs':=fs.of_keeps (h':=s.heap) λb o hb _=>⟨o,mk.keeps b o hb,rfl⟩
 unfold noteFrame
 simp only[hf]
 refine abZ (wpAny_field e1 rfl (x:=.none) rfl ?_)
 rw[if_neg (by decide)]
 exact DG hfr fs' hf e1 (λb o hb=>mk.keeps b o (st b o hb)) (fresh a mk.new) rfl (by simp) (a0:=.ref t) rfl λh' l1 l4=>k h' (.ref t) l1 l4
theorem D3{ch:List abF}(hx:X.ex=[])(hst:X.stack=X.env::X.outer)(hf:X.env.frame=some X.env.locals)(I:Inv X pins σ Hc sc){B h2:Heap}(hch:∀b∈ch,h_ X pins Hc b)(un:Un (frs X.stack) ch Hc H' sc.heap s'.heap)(up:s'.heap.UpToSlots h2)(stay:B.StaysIn h2)
  (QC:∀b o,sc.heap.get? b=some o->b∉frs X.stack->b∉ch->∃o',B.get? b=some o'/\(Hc b=none->o'=o)) :
  Un (frs X.outer) [] X.H₀ H' X.s₀.heap h2/\(∀b o,X.s₀.heap.get? b=some o->b∉frs X.outer->∃o',B.get? b=some o'/\(X.H₀ b=none->o'=o)):=by
 have nx:∀b:abF,b∉X.ex:=λb=>by rw[hx];simp
 have nc:∀b o,X.s₀.heap.get? b=some o->b∉ch:=λb o q z=>by
  rcases(hch b z).2.2.2.1 with y | y
  ·exact nx b y
  ·exact absurd (br (bc q) y) (gz _)
 have MX:∀b o,X.s₀.heap.get? b=some o->b∉frs X.outer->∃o',B.get? b=some o'/\(X.H₀ b=none->o'=o):=λb o q hb=>by
  obtain⟨o1,q1⟩:=I.base.there b o q (nx b)
  obtain⟨o2,q2,q3⟩:=QC b o1 q1 (Iq I hst hf q hb) (nc b o q)
  refine⟨o2,q2,λn=>?_⟩
  have q4:=I.base.keep b o q n hb (nx b)
  rw[q4] at q1
  cases q1
  exact q3 (I.base.free b o q n (nx b))
 have sl:∀b o,X.s₀.heap.get? b=some o->X.H₀ b=none->b∈frs X.outer->∃sl,h2.get? b=some { o with slots:=sl }:=λb o q n hb=>by
  obtain⟨s1,q1⟩:=I.base.slot b o q n hb (nx b)
  obtain⟨s2,q2⟩:=un.slot b _ q1 (I.base.free b o q n (nx b)) (D1 hst hf hb) (nc b o q)
  obtain⟨_,o3,q3,q4⟩:=I.ok.qg.mem hb
  rw[q] at q3
  cases q3
  obtain⟨s3,q5⟩:=up b _ q2 q4
  exact⟨s3,q5⟩
 refine⟨⟨λb o q n hb _=>?_,λb o q n hb _=>sl b o q n hb,λb o q n _=>?_,λb o q _=>?_,λb xs h=>un.tups b xs (I.base.tups b xs h),λb o u h=>un.pd b o u (I.base.pd b o u h),λb ps h=>?_⟩,MX⟩
 ·obtain⟨o2,q2,q3⟩:=MX b o q hb
  rw[q3 n] at q2
  exact stay b o q2
 ·obtain⟨o1,q1⟩:=I.base.there b o q (nx b)
  exact un.free b o1 q1 (I.base.free b o q n (nx b)) (nc b o q)
 ·by_cases hb:b∈frs X.outer
  ·obtain⟨s3,q3⟩:=sl b o q (I.ok.Pn b hb) hb
   exact⟨_,q3⟩
  ·obtain⟨o2,q2,_⟩:=MX b o q hb
   exact⟨o2,stay b o2 q2⟩
 ·obtain⟨m1,t1⟩:=I.base.sj b ps h
  obtain⟨m2,t2⟩:=un.sj b _ t1
  exact⟨m1++m2,by rw[<-Array.append_assoc];exact t2⟩
theorem wH(hx:X.ex=[])(hst:X.stack=X.env::X.outer)(hf:X.env.frame=some X.env.locals)(I:Inv X pins σ Hc sc)(F:yN X pins Hc sc H' cls e s')
  (k:∀s2,wB X.prog X.w X.outer X.H₀ X.s₀ H' cls e s2->Q () s2):abY (model X.prog X.w) X.A (leaving X.env e) Q E s':=by
 obtain⟨a,a0,nt,B,ch,rfl,os,bare,hch,un,hok,fl,QC⟩:=F
 have hfr:X.A.frames=some (X.env::X.outer):=by rw[I.ok.frames,hst]
 rw[hst] at fl
 unfold leaving
 refine abZ (D2 hfr hf fl λh1 hd1 up1=>?_)
 refine Ki hd1 λh2 GY U_=>k _ ?_
 obtain⟨k1,k2,⟨_,_,k3⟩,k4⟩:=GY
 obtain⟨u2,c2⟩:=D3 hx hst hf I hch un (up1.trans U_) k1 QC
 exact⟨a,a0,B,rfl,os.trans I.os,bare,u2,hok,⟨k1,k2,k3,k4⟩,c2⟩
theorem D4{P:abJ}{w:abM}{H:Hp}{h:Heap}{l:List abF}(ok:jX P w H h)(fr:∀b∈l,H b=none):jX P w H (PySem.W.hideAll h l):=λa o q=>
 (ok a o q).stay (λb u hb r=>PySem.W.hideAll_get _ r λz=>by
  have n:=fr b z
  rcases hb with hb | hb
  ·rw[hb,q] at n;cases n
  ·rw[hb] at n;cases n) (λ_ r=>r) λ_ _ r=>r
theorem yV{a C:abF}{args:List abL}(hx:X.ex=[])(hst:X.stack=X.env::X.outer)(hf:X.env.frame=some X.env.locals)(I:Inv X pins σ Hc sc)(ho:s'.os=sc.os)(Zk:s'.gens=sc.gens)
  (M:DM sc.heap s'.heap a (.ref C) args)(k:∀s2,wB X.prog X.w X.outer X.H₀ X.s₀ Hc (.ref C) (.ref a) s2->Q () s2):abY (model X.prog X.w) X.A (leaving X.env (.ref a)) Q E s':=by
 have hfr:X.A.frames=some (X.env::X.outer):=by rw[I.ok.frames,hst]
 have fs:sc.heap.FunFrames (PySem.W.hideAll sc.heap (frs X.stack)) (X.env::X.outer):=by
  rw[<-hst]
  exact PySem.W.funFrames_hide I.stack λenv he b hb=>List.mem_filterMap.mpr ⟨env,he,hb⟩
 unfold leaving
 refine abZ (BQ (base:=PySem.W.hideAll sc.heap (frs X.stack)) hfr hf (λb o q=>PySem.W.of_hideAll _ q) fs M λh1 t hd1 up1=>?_)
 refine Ki hd1 λh2 GY U_=>k _ ?_
 have up:=up1.trans U_
 replace GY:Mv (PySem.W.hideAll sc.heap (frs X.stack)) X.outer a (.ref C) t h2:=let ⟨k1,k2,⟨_,_,k3⟩,k4⟩:=GY;⟨k1,k2,k3,k4⟩
 obtain⟨u2,c2⟩:=D3 (H':=Hc) (s':=s') (ch:=[]) hx hst hf I (λb z=>by cases z) (Un.kept M.keeps) up GY.1 λb o q hb _=>⟨o,PySem.W.hideAll_get _ q hb,λ_=>rfl⟩
 exact⟨a,t,_,rfl,ho.trans I.os,by rw[show({ s' with heap:=h2 }:abK).gens=sc.gens from Zk];exact I.bare,u2,D4 I.hok I.ux,GY,c2⟩
end
def Kt(K:PySem.W.Frag)(m:Mp)(H:Hp)(r:Re Wv)(Q:VK)(E:XK):Prop:=match r with
 | .ok w st=>Pu K m H Q w st
 | .err c st=>∀(m':Mp)(H':Hp)(C:abF),Ext K m H m' H'->bZ K m' st H'->ClsAt K c C->E (.ref C) none H'
 | .bad=>False
def spW(K:PySem.W.Frag)(n:Nat)(F:List Wv->Hs->Re Wv):Sp:=λvs H Q E=>∃m st ws,bZ K m st H/\aq K m H ws vs/\ws.length=n/\Kt K m H (F ws st) Q E
def az(n:Nat)(F:List Wv->Hs->Re Wv)(g:GA):GE:=λρ st=>(g ρ st).bind λws st1=>if ws.length=n then F ws st1 else .bad
section
variable {X:Cx}
theorem Ir{k n:Nat}{f:abF}{fd:abH}{ps:List Str}{F:List Wv->Hs->Re Wv}{x:Str}{p pos:Pos}{e:Expr}{es:List Expr}{g:GA}
  (G:FnOk X.prog X.w X.K X.mg X.base (CXJ X.prog X.w) k f fd ps (spW X.K n F))(hr:gD k X.A)(hm:X.mg x=some (.ref f))(hk:PySem.W.keepIn X.K (.ref f)=true)(hb:Binds X.K fd ps [])(ha:JA X (e::es) g)(hg:Gl X x:=by rfl)
  (hdb:(x == ("__debug__":Str))=false:=by decide)(he:abX (e::es) X.env=(false,eval e X.env)::abX es X.env:=by rfl)(hpl:(backTo pos (abX es X.env)).any (·.1)=false:=by rfl) :
  JE X (.Call (.Name x p) (e::es) [] pos) (az n F g):=by
 intro ρ st σ H m Q S R p pins s I
 have args:=ha.go (T:=λvs H1=>∃ws st1 m1,eO X σ m H (if ws.length=n then F ws st1 else .bad) Q/\Ext X.K m H m1 H1/\bZ X.K m1 st1 H1/\aq X.K m1 H1 ws vs) S R (aK.bind p)
  λws st1 vs m1 H1 p1 e1 S1 rs=>⟨ws,st1,m1,p1,e1,S1,rs⟩
 refine wpAny_Call_Name_kw (uy I hg hm ?_ hdb)
 refine PySem.W.callWith_K (h₀:=X.base) I.ok.mod.Pm hk (bD (args pos pins s I) λus s1 ⟨vs,H1,I1,r,ws,st1,m1,p1,e1,S1,rs⟩=>⟨I1.sY,?_⟩) he hpl
 by_cases c:ws.length=n
 ·rw[if_pos c] at p1
  let E:XK:=λcl _ H2=>∃c' st2 m2 C,cl= .ref C/\ClsAt X.K c' C/\F ws st1= .err c' st2/\Ext X.K m1 H1 m2 H2/\bZ X.K m2 st2 H2
  have sp:spW X.K n F vs H1 Q E:=by
   refine⟨m1,st1,ws,S1,rs,c,?_⟩
   cases er:F ws st1 with
   | ok w st2=>rw[er] at p1;exact eO.shift (r:=.ok w st2) p1 e1
   | err c' st2=>exact λm2 H2 C e2 S2 hC=>⟨c',st2,m2,C,rfl,hC,er,e2,S2⟩
   | bad=>rw[er] at p1;exact ae p1
  have hl:us.length=ps.length:=by rw[<-r.length];exact G.len _ _ _ _ sp
  have bd:=hb s1 us I1.sY (by rw[jc];exact hl)
  rw[jc] at bd
  refine wpAny_call (codeAny_mono (G.run X.A X.stack s1 H1 ⟨us,[]⟩ us vs Q E hr I1.L4 bd r sp) λrr s2 hq=>?_)
  cases rr with
  | error x=>
   obtain⟨H2,C,fl,c',st2,m2,C',ec,hC,er,e2,S2⟩:=hq
   cases ec
   rw[er] at p1
   exact p1 m2 H2 x s2 (e1.trans e2) S2 ⟨C,pins,H1,s1,hC,I1,.inl fl.any⟩
  | ok fw=>
   cases fw with
   | ret u=>exact I1.after hq
   | next=>exact ae hq
   | brk=>exact ae hq
   | cont=>exact ae hq
 ·rw[if_neg c] at p1;exact ae p1
end
def bh(n:Nat)(g:GS):List Wv->Hs->Re Wv:=λws st=>match g (ws.map some++aS (n - ws.length) none) st with
 | .nx _ st'=> .ok .non st'
 | .rt w st'=> .ok w st'
 | .err c _ st'=> .err c st'
 | _=> .bad
theorem D5{K:PySem.W.Frag}{m:Mp}{H:Hp}{N:List Str}{ws:List Wv}{vs:List V}(r:aq K m H ws vs)(h:ws.length<=N.length):aT K m H (ws.map some++aS (N.length - ws.length) none) (L2.start N vs):=by
 have hl:=r.length
 refine⟨by unfold L2.start;simp[hl],λi w e=>?_⟩
 by_cases hi:i < ws.length
 ·rw[f9 (by simpa using hi),fk] at e
  cases q:ws[i]? with
  | none=>rw[q] at e;cases e
  | some w'=>
   rw[q] at e
   cases e
   obtain⟨x,h1,h2⟩:=r.get q
   refine⟨x,?_,h2⟩
   unfold L2.start
   rw[f9 (by simp;omega),fk,h1]
   rfl
 ·rw[l9 (by simpa using hi),L7] at e
  split at e<;>cases e
section
variable {P:abJ} {w:abM} {K:PySem.W.Frag} {mg:Str->Option abL} {base:Heap}
theorem yW{N:List Str}{qual:Str}{scope:Scope}{f:abF}{cdv:abL}{A:abG}{outer:List Env}{s s':abK}{H H':Hp}{E:XK}{σ:St}{c:PySem.Str}{e:abL}
  (r:yO (sr (CXJ P w) P w K mg base N qual scope f cdv A outer s H E) σ H' c e s')(h:∀C,ClsAt K c C->E (.ref C) none H'):(sr (CXJ P w) P w K mg base N qual scope f cdv A outer s H E).xe e s':=by
 obtain⟨C,pins,Hc,sc,hC,I,r⟩:=r
 rcases r with fl | ⟨rfl,a,args,rfl,ho,hg,M⟩
 ·exact wH (X:=sr (CXJ P w) P w K mg base N qual scope f cdv A outer s H E) rfl rfl rfl I fl λs2 GY=>⟨H',C,GY,h C hC⟩
 ·exact yV (X:=sr (CXJ P w) P w K mg base N qual scope f cdv A outer s H E) rfl rfl rfl I ho hg M λs2 GY=>⟨H',C,GY,h C hC⟩
def D6(K:PySem.W.Frag)(f:abF)(cdv:abL):Prop:=∃o,K.lookup f=some o/\∃fd,o.data= .func fd/\fd.code=cdv
theorem Au{x qual:Str}{st:Stmt}{f:abF}{fd:abH}{N ps:List Str}{k:Nat}{g:GS}(F:HQ K x qual st f fd)(S:FnScope N ps (defScope st))
  (body:∀(cdv:abL),D6 K f cdv->∀(A:abG)(outer:List Env)(s:abK)(H:Hp)(E:XK),gD k (A.deeper (envOfC qual (defScope st) s.heap.objs.size f cdv))->pP (sr (CXJ P w) P w K mg base N qual (defScope st) f cdv A outer s H E) (defBody st) g) :
  FnOk P w K mg base (CXJ P w) (k+1) f fd ps (spW K ps.length (bh N.length g)):=by
 have hpl:ps.length<=N.length:=by have:=congrArg l8 S.pre;rw[ql] at this;omega
 obtain⟨oc,od,kV,doc,pm,an,cdv,ct,osl,rfl,lk,hcd⟩:=F.ex
 refine Qq lk hcd S (λvs H Q E h=>?_) λA outer s H vs Q E hr h=>?_
 ·obtain⟨m,st',ws,_,r,hl,_⟩:=h
  rw[<-r.length];exact hl
 ·obtain⟨m,st',ws,S',r,hl,p⟩:=h
  refine⟨_,ij,?_⟩
  refine body cdv ⟨_,lk,_,rfl,rfl⟩ A outer s H E hr _ st' _ H m _ S' (D5 r (by omega)) ?_
  unfold bh at p
  cases e:g (ws.map some++aS (N.length - ws.length) none) st' with
  | nx ρ st2=>rw[e] at p;exact λσ m' H' e' S2 R2=>p _ m' H' e' S2 (by unfold ao;rfl)
  | rt w' st2=>rw[e] at p;exact p
  | bk ρ st2=>rw[e] at p;exact ae p
  | ct ρ st2=>rw[e] at p;exact ae p
  | err c ρ st2=>rw[e] at p;exact λσ m' H' x s' e' S2 R2 rz=>yW rz λC hC=>p m' H' C e' S2 hC
  | bad=>rw[e] at p;exact ae p
end
def OnlyT(H:Hp):Prop:=∀b,H b=none\/(∃o xs,H b=some (.nO o (.lst xs)))\/H b=some (.eT #[])
theorem OnlyT.of{H:Hp}(h:HP H):OnlyT H:=λb=>by
 rcases h b with q | q
 ·exact .inl q
 ·exact .inr (.inl q)
theorem law_sp{K:PySem.W.Frag}{F:List Wv->Hs->Re Wv}(h:∀ns:List Int,ns.length<=63->∃st,F [.ref 0] [.sh ns]= .ok (.bl true) st)(H:Hp)(a:abF)(ns:List Int)(hl:ns.length<=63)(hO:OnlyT H)(hS:lX K H a (ns.map V.int))(hT:uT K H) :
  spW K 1 F [.ref a] H (λv _=>v= .bl true) λ_ _ _=>False:=by
 obtain⟨st,e⟩:=h ns hl
 refine⟨[a],[.sh ns],[.ref 0],⟨rfl,λl b o h1 h2=>?_,λl l' b ws ws' _ _ h2 _ k _=>?_,hT⟩,aq.cons (by unfold ao;exact⟨a,rfl,rfl⟩) aq.nil,rfl,?_⟩
 ·cases l with
  | zero=>
   simp at h1 h2
   subst h1 h2
   show wA K H a ns
   rcases hS with (q | ⟨o',q⟩) | q
   ·rcases hO a with z | ⟨o',xs,z⟩ | z
    ·rw[z] at q;cases q
    ·rw[z] at q;cases q
    ·rw[z] at q;cases q
   ·exact .inl ⟨o',q⟩
   ·exact .inr q
  | succ l=>simp at h1
 ·cases l with
  | zero=>simp at h2;subst h2;simp[Ob.mu] at k
  | succ l=>simp at h2
 ·rw[e]
  intro v m' H' _ _ r
  unfold ao at r
  exact r
def pj(w:Wv)(st:Hs):Re Bool:=match w with
 | .non=> .ok false st
 | .bl b=> .ok b st
 | .int i=> .ok (i != 0) st
 | .str y=>if y.length<=lim then .ok ((y.length:Int) != 0) st else .bad
 | .tup ws=> .ok (!ws.isEmpty) st
 | .qA _=> .bad
 | .ref l=>match aB st l with
  | some ws=> .ok (!ws.isEmpty) st
  | none=> .bad
 | .ty _=> .bad
 | .cls _=> .bad
 | .wz _=> .bad
 | .fn _ _=> .bad
def cb(g:GE):GT:=λρ st=>(g ρ st).bind pj
section
variable {X:Cx}
theorem XR{m:Mp}{H:Hp}{ws:List Wv}{xs:List V}(r:aq X.K m H ws xs):(!ws.isEmpty)= !xs.isEmpty:=by
 have h:=r.length
 cases ws<;>cases xs<;>simp_all
theorem qI{e:Expr}{g:GE}(h:JE X e g)(he:∀whole,isTrue e X.env whole=(do let v <-whole;standAt e.pos;holding [v] (truthy v))):JT X e (cb g) :=
 JT.of (Dk a6 he) λρ st σ H m Q S R p=>h.go S R (aK.bind p) λw st1 v m1 H1 p1 e1 S1 r1=>by
  cases w with
  | non=>unfold ao at r1;subst r1;exact⟨false,rfl,p1 m1 H1 e1 S1⟩
  | bl b=>unfold ao at r1;subst r1;exact⟨b,rfl,p1 m1 H1 e1 S1⟩
  | int i=>unfold ao at r1;subst r1;exact⟨_,rfl,p1 m1 H1 e1 S1⟩
  | str y=>
   obtain⟨rfl,_⟩:=eM r1
   have p2:iM X σ m H (if y.length<=lim then .ok ((y.length:Int) != 0) st1 else .bad) Q:=p1
   by_cases c:y.length<=lim
   ·rw[if_pos c] at p2;exact⟨_,⟨eL c,rfl⟩,p2 m1 H1 e1 S1⟩
   ·rw[if_neg c] at p2;exact ae p2
  | qA ws=>exact ae p1
  | tup ws=>
   unfold ao at r1
   obtain⟨a,xs,rfl,h1,h2⟩:=r1
   refine⟨!xs.isEmpty,.inr (.inl ⟨xs,fT.of h1,rfl⟩),?_⟩
   rw[<-XR h2]
   exact p1 m1 H1 e1 S1
  | ref l=>
   unfold ao at r1
   obtain⟨a,rfl,h1⟩:=r1
   have p2:iM X σ m H (match aB st1 l with | some ws=> .ok (!ws.isEmpty) st1 | none=> .bad) Q:=p1
   cases el:aB st1 l with
   | none=>rw[el] at p2;exact ae p2
   | some ws=>
    rw[el] at p2
    obtain⟨xs,hq,h2⟩:=S1.read h1 el
    refine⟨!xs.isEmpty,.inl ⟨xs,hq,rfl⟩,?_⟩
    rw[<-XR h2]
    exact p2 m1 H1 e1 S1
  | ty T=>exact ae p1
  | cls T=>exact ae p1
  | wz T=>exact ae p1
  | fn fp T=>exact ae p1
theorem wI{p:Nat->Bool}{x:Array Nat}(hx:x.all p=true):∀(n:Nat)(a:Array Nat),a.all p=true->((aS n x).foldl (· ++·) a).all p=true
 | 0,a,h=>h
 | n+1,a,h=>by
  rw[ig,yI]
  refine wI hx n _ ?_
  rw[Array.all_append,h,hx]
  rfl
theorem BR{x:PySem.Str}{n:Nat}(h:aY x=true):aY (sD n x)=true:=by
 unfold aY at h ⊢
 unfold sD
 exact wI h n #[] (by simp)
theorem tK{x:Array Nat}:∀(n:Nat)(a:Array Nat),((aS n x).foldl (· ++·) a).size=a.size+x.size * n
 | 0,a=>by simp
 | n+1,a=>by
  rw[ig,yI,tK n,Ku,Nat.mul_succ]
  omega
theorem D7{x:PySem.Str}{n:Nat}:(sD n x).length=x.length * n:=by
 show((aS n x.cps).foldl (· ++·) #[]).size=x.cps.size * n
 rw[tK]
 simp
def oT(x:PySem.Str)(n:Int):Prop:=1 < n/\n<=100000/\x.length≠0/\x.length * n.toNat<=lim
instance {x n}:Decidable (oT x n):=by unfold oT;infer_instance
theorem Iu:fh X (abO .Mult) (λx y H Q=>∃z n,x= .str z/\y= .int n/\oT z n/\Q (.str (sD n.toNat z)) H):=by
 intro pins s σ H x y v u Q I rx ry h
 obtain⟨z,n,rfl,rfl,⟨h1,h2,h3,h4⟩,q⟩:=h
 obtain⟨t,rfl⟩:=rx
 obtain⟨t',rfl⟩:=ry
 have n1:¬n < 1:=by omega
 have hlen:z.length<=lim:=by
  refine bf ?_ h4
  exact Nat.le_mul_of_pos_right _ (by omega)
 have hne:(n == 1||z.length == 0)=false:=by
  have e1:(n == 1)=false:=by rw[beq_eq_false_iff_ne];omega
  have e2:(z.length == 0)=false:=by rw[beq_eq_false_iff_ne];exact h3
  rw[e1,e2];rfl
 have hl:PySem.Builtin.Str.tooLong (z.length * n.toNat)=false:=by
  unfold PySem.Builtin.Str.tooLong
  have q:=eL h4
  first
   | exact decide_eq_false (by omega)
   | simp only[decide_eq_false_iff_not];omega
 refine PySem.P.mul_str (by
   have e1:¬n < -(2 ^ 63:Int):=by omega
   have e2:¬n >= 2 ^ 63:=by omega
   rw[decide_eq_false e1,decide_eq_false e2];rfl) (λ_ _=>?_) (λ_ _=>hl) ?_
 ·have e:((2:Int) ^ 63 - 1) / 100000<=(2 ^ 63 - 1) / n:=by
   refine Int.le_ediv_of_mul_le (by omega) ?_
   have:((2:Int) ^ 63 - 1) / 100000 * n<=((2:Int) ^ 63 - 1) / 100000 * 100000:=Int.mul_le_mul_of_nonneg_left h2 (by decide)
   exact Int.le_trans this (by decide)
  have e':(1000000:Int)<=(2 ^ 63 - 1) / 100000:=by decide
  unfold lim at hlen
  omega
 ·rw[if_neg n1,if_neg (by rw[hne];exact bE)]
  exact⟨by show(sD n.toNat z).length<=_;rw[D7];exact eL h4,.str (sD n.toNat z),H,I.tok _,⟨_,rfl⟩,q⟩
def D8:gT
 | .int i,.int j,st=>if IntMulOk i j then .ok (.int (i * j)) st else .bad
 | .str z,.int n,st=>if oT z n then .ok (.str (sD n.toNat z)) st else .bad
 | _,_,_=> .bad
theorem Iv:jY X (abO .Mult) D8:=⟨_,fh.or HY Iu,λx y a b st H m Q S rx ry p=>by
 cases x with
 | int i=>
  cases y with
  | int j=>
   cases aZ rx;cases aZ ry
   have p':dH X.K m H (if IntMulOk i j then .ok (.int (i * j)) st else .bad) Q:=p
   by_cases c:IntMulOk i j
   ·rw[if_pos c] at p';exact .inl ⟨i,j,rfl,rfl,c,p' _ m H Ext.refl S mkInt⟩
   ·rw[if_neg c] at p';exact ae p'
  | _=>exact ae p
 | str z=>
  cases y with
  | int n=>
   obtain⟨rfl,hz⟩:=eM rx
   cases aZ ry
   have p':dH X.K m H (if oT z n then .ok (.str (sD n.toNat z)) st else .bad) Q:=p
   by_cases c:oT z n
   ·rw[if_pos c] at p';exact .inr ⟨z,n,rfl,rfl,c,p' _ m H Ext.refl S (mkStr (BR hz))⟩
   ·rw[if_neg c] at p';exact ae p'
  | _=>exact ae p
 | _=>exact ae p⟩
def cN:GE:=λ_ _=> .bad
def kg:GT:=λ_ _=> .bad
theorem aW{e:Expr}:JE X e cN:=λρ st σ H m Q S R p=>ae p
theorem kj{e:Expr}:JT X e kg:=λρ st σ H m Q S R p=>ae p
end
def dE(P:abJ)(w:abM)(K:PySem.W.Frag)(mg:Str->Option abL)(base:Heap)(k:Nat)(x:Str)(n:Nat)(F:List Wv->Hs->Re Wv):Prop :=
 ∃f fd ps,FnOk P w K mg base (CXJ P w) k f fd ps (spW K n F)/\mg x=some (.ref f)/\PySem.W.keepIn K (.ref f)=true/\Binds K fd ps []
theorem dE.mono{P:abJ}{w:abM}{K:PySem.W.Frag}{mg:Str->Option abL}{base:Heap}{j k:Nat}{x:Str}{n:Nat}{F:List Wv->Hs->Re Wv}(h:dE P w K mg base j x n F)(l:j<=k):dE P w K mg base k x n F:=by
 obtain⟨f,fd,ps,G,r⟩:=h
 exact⟨f,fd,ps,G.mono l,r⟩
def bb(K:PySem.W.Frag)(x:Str)(st:Stmt):Prop:=∃f fd,PySem.W.nsIn K abV x=some (some (.ref f))/\HQ K x x st f fd
theorem qJ{K:PySem.W.Frag}{x:Str}{st:Stmt}{f:abF}{oc:abL}{od an:Option abF}{osl:Array (Option abL)}{kV doc pm cdv ct:abL}(a:PySem.W.nsIn K abV x=some (some (.ref f)))
  (l:K.lookup f=some ⟨oc,od,.func (PySem.W.fnOf x x (defArgs st) (defBody st) (defScope st) .none kV doc pm an cdv ct),osl⟩)(c:PySem.W.codeIn K cdv x=true)(k:PySem.W.keepIn K (.ref f)=true):bb K x st:=⟨f,_,a,yK l c k⟩
theorem D9:abP "isinstance"=some (.builtin "isinstance"):=by decide+kernel
theorem BS:abP "abs"=some (.builtin "abs"):=by decide+kernel
theorem BU:abP "len"=some (.builtin "len"):=by decide+kernel
theorem D_:abP "int"=some (.type "int"):=by decide+kernel
theorem wJ:abP "str"=some (.type "str"):=by decide+kernel
theorem Ea:abP "bool"=some (.type "bool"):=by decide+kernel
theorem qK:abP "tuple"=some (.type "tuple"):=by decide+kernel
theorem wK:abP "list"=some (.type "list"):=by decide+kernel
def dt(i:Nat)(gb:GS):List Wv->bY->Hs->Rs
 | [],ρ,st=> .nx ρ st
 | w::r,ρ,st=>match gb (ρ.set i (some w)) st with
  | .nx ρ' st'=>dt i gb r ρ' st'
  | .ct ρ' st'=>dt i gb r ρ' st'
  | .bk ρ' st'=> .nx ρ' st'
  | .rt w st'=> .rt w st'
  | .err c ρ' st'=> .err c ρ' st'
  | .bad=> .bad
section
variable {X:Cx}
theorem mX(i:Nat){body:List Stmt}{gb:GS}(hb:pP X body gb){J':It}{ws:List Wv}{m1:Mp}{H1:Hp}{st1:Hs}{ρ:bY}{σ:St}{D:Ends}(S1:bZ X.K m1 st1 H1)(R:aT X.K m1 H1 ρ σ)(p1:ba X m1 H1 (dt i gb ws ρ st1) D)
  (hgo:∀(k:Nat)(H:Hp)(m':Mp),Ext X.K m1 H1 m' H->k < ws.length->J'.go k H)(hstop:∀(k:Nat)(H:Hp)(m':Mp),Ext X.K m1 H1 m' H->k=ws.length->J'.stop k H)
  (hy:∀(k:Nat)(hk:k < ws.length)(H:Hp)(x:V)(H':Hp)(m':Mp),Ext X.K m1 H1 m' H->J'.CU k H x H'->H'=H/\ao X.K m' H ws[k] x) :
  ∃W:Nat->Nat->St->Hp->Prop,(∃m,W 0 m σ H1)/\∀k n σ H,W k n σ H->
   (J'.stop k H/\D.nx σ H)\/(J'.go k H/\∃N:St->Hp->Prop,(∀σ' H',N σ' H'->∃m',m' < n/\W (k+1) m' σ' H')/\∀x H',J'.CU k H x H'->wg i x σ H' λσ2 H2=>Tr X body { D with nx:=N,ct:=N,bk:=D.nx } σ2 H2):=by
 let Pv:Nat->St->Hp->Prop:=λk σ H=>∃ρ st m',Ext X.K m1 H1 m' H/\bZ X.K m' st H/\aT X.K m' H ρ σ/\ba X m' H (dt i gb (ws.drop k) ρ st) D
 refine⟨λk n σ H=>n=ws.length - k/\k<=ws.length/\Pv k σ H,⟨ws.length,by simp,cL _,ρ,st1,m1,Ext.refl,S1,R,p1⟩,?_⟩
 rintro k n σ2 H2 ⟨rfl,hk,ρ2,st2,m2,e2,S2,R2,p2⟩
 by_cases hlt:k < ws.length
 ·refine .inr ⟨hgo k H2 m2 e2 hlt,Pv (k+1),λσ' H' p'=>⟨ws.length - (k+1),by omega,rfl,hlt,p'⟩,λx H' y=>?_⟩
  obtain⟨ee,u6⟩:=hy k hlt H2 x H' m2 e2 y
  subst ee
  have ed:ws.drop k=ws[k]::ws.drop (k+1):=Eb hlt
  rw[ed] at p2
  refine hb _ st2 _ _ m2 _ S2 (R2.set i u6) ?_
  unfold dt at p2
  cases eg:gb (ρ2.set i (some ws[k])) st2 with
  | nx ρ3 st3=>rw[eg] at p2;exact λσ3 m3 H3 e3 S3 R3=>⟨ρ3,st3,m3,e2.trans e3,S3,R3,ba.shift p2 e3⟩
  | ct ρ3 st3=>rw[eg] at p2;exact λσ3 m3 H3 e3 S3 R3=>⟨ρ3,st3,m3,e2.trans e3,S3,R3,ba.shift p2 e3⟩
  | bk ρ3 st3=>rw[eg] at p2;exact p2
  | rt w3 st3=>rw[eg] at p2;exact p2
  | err c3 ρ3 st3=>rw[eg] at p2;exact p2
  | bad=>rw[eg] at p2;exact p2
 ·have e:k=ws.length:=by omega
  subst e
  rw[Ec] at p2
  exact .inl ⟨hstop _ H2 m2 e2 rfl,p2 σ2 m2 H2 Ext.refl S2 R2⟩
def U'(K:PySem.W.Frag)(tl:TE):TI:=λσ H R=>tl σ H λx H1=>∃a,x= .ref a/\(((∃xs,lX K H1 a xs)/\R (XA K a) H1)\/((∃xs,fT K H1 a xs)/\R (XB K a) H1))
theorem Ed{tg l:Expr}{tl:TE}(hl:PE X l tl):PI X tg l (U' X.K tl):=by
 intro pins s σ H R I h
 refine bD (hl pins s σ H _ I h) λv s1 ⟨x,H1,I1,r1,q1⟩=>?_
 obtain⟨a,e,q1⟩:=q1
 subst e
 cases r1
 have frs:∀b∈[s1.heap.objs.size],h_ X pins H1 b:=λb hb=>by
  have e:b=s1.heap.objs.size:=by simpa using hb
  subst e
  exact I1.Dg (aC _) (I1.hok.fresh (aC _))
 rcases q1 with ⟨⟨xs,hq⟩,q⟩ | ⟨⟨xs,hq⟩,q⟩
 ·obtain⟨its,rv,p,hz⟩:=I1.list hq
  refine wpAny_pyIter_list p.isList ?_
  exact⟨s1.heap.objs.size,[s1.heap.objs.size],_,_,H1,rfl,I1.kept (t':=s1.toks) λb o e=>bA _ e,Bv a _,⟨_,cJ _ rfl,rfl,rfl⟩,frs,q⟩
 ·obtain⟨its,rv,p,hz⟩:=I1.tuple hq
  refine wpAny_pyIter_tuple (show s1.heap.IsTuple a its.toArray from p) ?_
  exact⟨s1.heap.objs.size,[s1.heap.objs.size],_,_,H1,rfl,I1.kept (t':=s1.toks) λb o e=>bA _ e,yj a _,⟨_,cJ _ rfl,rfl,rfl⟩,frs,q⟩
def qL(i:Nat)(gi:GE)(gb:GS):GS:=λρ st=>(gi ρ st).bD ρ λw st1=>match w with
 | .ref l=>(match aB st1 l with | some ws=>forL i gb l ws ws ρ st1 | none=> .bad)
 | .tup ws=>dt i gb ws ρ st1
 | .qA ws=>dt i gb ws ρ st1
 | _=> .bad
theorem u7(i:Nat){x:Str}{iter:Expr}{body:List Stmt}{gi:GE}{gb:GS}{pos pos':Pos}(hN:X.N.Nodup)(hp:PassesOwn (model X.prog X.w) X.A X.env X.xe)(hc:X.calm=true)(hi:JE X iter gi)(hb:pP X body gb)
  (hx:X.N[i]? =some x)(hlo:Loc X.env.scope x)(MY:X.fn x=true\/X.env.scope.names.lookup x=some .local)
  (hs:∀x,abT iter X.env x=pure x):JS X (.For (.Name x pos') iter body [] pos) (qL i gi gb):=by
 refine JS.of (uB hp hc (Ed a6) (mM hN hx hlo MY) ij hs) λρ st σ H m D S R p=>?_
 refine hi.go S R (ba.cS R p) λw st1 v m1 H1 p1 e1 S1 rw'=>?_
 cases w with
 | ref l=>
  have p1':ba X m H (match aB st1 l with | some ws=>forL i gb l ws ws ρ st1 | none=> .bad) D:=p1
  unfold ao at rw'
  obtain⟨a,rfl,hla⟩:=rw'
  cases el:aB st1 l with
  | none=>rw[el] at p1';exact ae p1'
  | some ws=>
   rw[el] at p1'
   obtain⟨Va,q0,_⟩:=S1.read hla el
   refine⟨a,rfl,.inl ⟨⟨Va,q0⟩,?_⟩⟩
   let Pv:Nat->St->Hp->Prop:=λk σ H=>∃ρ st m',Ext X.K m1 H1 m' H/\bZ X.K m' st H/\aT X.K m' H ρ σ/\aB st l=some ws/\ba X m' H (forL i gb l ws (ws.drop k) ρ st) D
   refine⟨λk n σ H=>n=ws.length - k/\k<=ws.length/\Pv k σ H,⟨ws.length,by simp,cL _,ρ,st1,m1,Ext.refl,S1,R.mono e1,el,ba.shift p1' e1⟩,?_⟩
   rintro k n σ2 H2 ⟨rfl,hk,ρ2,st2,m2,e2,S2,R2,l2,p2⟩
   obtain⟨xs,hq,rws⟩:=S2.read (e2.pre _ _ hla) l2
   have hlen:=rws.length
   by_cases hlt:k < ws.length
   ·have hx':k < xs.length:=by omega
    refine .inr ⟨⟨xs,xs[k],hq,by simp[hx']⟩,Pv (k+1),λσ' H' p'=>⟨ws.length - (k+1),by omega,rfl,hlt,p'⟩,λx H' y=>?_⟩
    obtain⟨ee,y⟩:=y
    subst ee
    have ey:=y xs hq
    have ed:ws.drop k=ws[k]::ws.drop (k+1):=Eb hlt
    obtain⟨x',ex',u6⟩:=rws.get (i:=k) (w:=ws[k]) (dJ hlt)
    rw[ey] at ex'
    cases ex'
    rw[ed] at p2
    refine hb _ st2 _ _ m2 _ S2 (R2.set i u6) ?_
    unfold forL at p2
    cases eg:gb (ρ2.set i (some ws[k])) st2 with
    | nx ρ3 st3=>
     rw[eg] at p2
     by_cases c:aB st3 l=some ws
     ·simp only[if_pos c] at p2
      exact λσ3 m3 H3 e3 S3 R3=>⟨ρ3,st3,m3,e2.trans e3,S3,R3,c,ba.shift p2 e3⟩
     ·simp only[if_neg c] at p2;exact ae p2
    | ct ρ3 st3=>
     rw[eg] at p2
     by_cases c:aB st3 l=some ws
     ·simp only[if_pos c] at p2
      exact λσ3 m3 H3 e3 S3 R3=>⟨ρ3,st3,m3,e2.trans e3,S3,R3,c,ba.shift p2 e3⟩
     ·simp only[if_neg c] at p2;exact ae p2
    | bk ρ3 st3=>rw[eg] at p2;exact p2
    | rt w3 st3=>rw[eg] at p2;exact p2
    | err c3 ρ3 st3=>rw[eg] at p2;exact p2
    | bad=>rw[eg] at p2;exact p2
   ·have e:k=ws.length:=by omega
    subst e
    rw[Ec] at p2
    exact .inl ⟨⟨xs,hq,by omega⟩,p2 σ2 m2 H2 Ext.refl S2 R2⟩
 | tup ws=>
  unfold ao at rw'
  obtain⟨a,xs,rfl,hq,rws⟩:=rw'
  have hlen:=rws.length
  refine⟨a,rfl,.inr ⟨⟨xs,fT.of hq⟩,?_⟩⟩
  refine mX i hb (ws:=ws) S1 (R.mono e1) (ba.shift p1 e1) (λk H m' e hk=>?_) (λk H m' e hk=>?_) λk hk H x H' m' e y=>?_
  ·have hx':k < xs.length:=by omega
   exact⟨xs,xs[k],fT.of (e.tup _ _ hq),by simp[hx']⟩
  ·exact⟨xs,fT.of (e.tup _ _ hq),by omega⟩
  ·obtain⟨ee,y⟩:=y
   refine⟨ee,?_⟩
   obtain⟨x',ex',u6⟩:=(aq.mono e _ _ rws).get (i:=k) (w:=ws[k]) (dJ hk)
   rw[y xs (fT.of (e.tup _ _ hq))] at ex'
   cases ex'
   exact u6
 | qA ws=>
  unfold ao at rw'
  obtain⟨a,xs,rfl,hq,rws⟩:=rw'
  have hlen:=rws.length
  refine⟨a,rfl,.inr ⟨⟨xs,.inr hq⟩,?_⟩⟩
  refine mX i hb (ws:=ws) S1 (R.mono e1) (ba.shift p1 e1) (λk H m' e hk=>?_) (λk H m' e hk=>?_) λk hk H x H' m' e y=>?_
  ·have hx':k < xs.length:=by omega
   exact⟨xs,xs[k],.inr hq,by simp[hx']⟩
  ·exact⟨xs,.inr hq,by omega⟩
  ·obtain⟨ee,y⟩:=y
   refine⟨ee,?_⟩
   obtain⟨x',ex',u6⟩:=(aq.mono e _ _ rws).get (i:=k) (w:=ws[k]) (dJ hk)
   rw[y xs (.inr hq)] at ex'
   cases ex'
   exact u6
 | _=>exact ae p1
def cO(lo:Int)(n:Nat):List Wv:=(dh n).map λk:Nat=>Wv.int (lo+k)
theorem nT{lo:Int}{n k:Nat}(h:k < n):(cO lo n)[k]? =some (.int (lo+k)):=by
 unfold cO
 rw[fk,List.getElem?_range h]
 rfl
theorem wL{lo:Int}{n k:Nat}(h:k < (cO lo n).length):(cO lo n)[k]= .int (lo+k):=by
 have q:=nT (lo:=lo) (n:=n) (k:=k) (by unfold cO at h;simpa using h)
 rw[dJ h] at q
 exact Option.some.inj q
theorem du{lo:Int}{n:Nat}:(cO lo n).length=n:=by unfold cO;simp
def dA(i:Int):Prop:=-(2 ^ 62)<=i/\i < 2 ^ 62
instance {i}:Decidable (dA i):=Ee _
def nU(i:Nat)(ga:GA)(gb:GS):GS:=λρ st=>(ga ρ st).bD ρ λws st1=>match ws with
 | [.int j]=>if dA j then dt i gb (cO 0 j.toNat) ρ st1 else .bad
 | _=> .bad
def u9(i:Nat)(ga:GA)(gb:GS):GS:=λρ st=>(ga ρ st).bD ρ λws st1=>match ws with
 | [.int a,.int j]=>if dA a/\dA j then dt i gb (cO a (j - a).toNat) ρ st1 else .bad
 | _=> .bad
theorem Av(i:Nat){body:List Stmt}{gb:GS}(hb:pP X body gb){lo:Int}{n:Nat}{m1:Mp}{H1:Hp}{st1:Hs}{ρ:bY}{σ:St}{D:Ends}(S1:bZ X.K m1 st1 H1)(R:aT X.K m1 H1 ρ σ)(p1:ba X m1 H1 (dt i gb (cO lo n) ρ st1) D) :
  ∃W:Nat->Nat->St->Hp->Prop,(∃m,W 0 m σ H1)/\∀k n' σ H,W k n' σ H->
   ((Kc lo n).stop k H/\D.nx σ H)\/((Kc lo n).go k H/\∃N:St->Hp->Prop,(∀σ' H',N σ' H'->∃m',m' < n'/\W (k+1) m' σ' H')/\∀x H',(Kc lo n).CU k H x H'->wg i x σ H' λσ2 H2=>Tr X body { D with nx:=N,ct:=N,bk:=D.nx } σ2 H2) :=
 mX i hb S1 R p1 (λk H m' e hk=>by rw[du] at hk;exact hk) (λk H m' e hk=>by rw[du] at hk;exact mP hk.symm) λk hk H x H' m' e y=>by
  obtain⟨y1,y2⟩:=y
  refine⟨y1,?_⟩
  rw[wL,y2]
  exact mkInt
theorem Ef(i:Nat){x:Str}{a:Expr}{body:List Stmt}{ga:GA}{gb:GS}{pos pos' p q:Pos}(hN:X.N.Nodup)(hp:PassesOwn (model X.prog X.w) X.A X.env X.xe)(hc:X.calm=true)(hg:Gl X "range")(hm:X.mg "range"=none)(ha:JA X [a] ga)(hb:pP X body gb)
  (hx:X.N[i]? =some x)(hlo:Loc X.env.scope x)(MY:X.fn x=true\/X.env.scope.names.lookup x=some .local)(hst:abX [a] X.env=[(false,eval a X.env)]):JS X (.For (.Name x pos') (.Call (.Name "range" p) [a] [] q) body [] pos) (nU i ga gb):=by
 refine JS.of (uB hp hc (tm hg hm jS hst) (mM hN hx hlo MY) ij (λ_=>rfl)) λρ st σ H m D S R p=>?_
 refine ha.go S R (ba.cS R p) λws st1 vs m1 H1 p1 e1 S1 rs=>?_
 match ws,rs,p1 with
 | [],rs,p1=>exact ae p1
 | x::y::t,rs,p1=>cases x<;>exact ae p1
 | [x],rs,p1=>
  obtain⟨v,rfl,r1⟩:=me rs
  cases x with
  | int j=>
   cases aZ r1
   have p2:ba X m H (if dA j then dt i gb (cO 0 j.toNat) ρ st1 else .bad) D:=p1
   by_cases c:dA j
   ·rw[if_pos c] at p2
    exact⟨j,rfl,c.1,c.2,Av i hb S1 (R.mono e1) (ba.shift p2 e1)⟩
   ·rw[if_neg c] at p2;exact ae p2
  | _=>exact ae p1
theorem Eg(i:Nat){x:Str}{a b:Expr}{body:List Stmt}{ga:GA}{gb:GS}{pos pos' p q:Pos}(hN:X.N.Nodup)(hp:PassesOwn (model X.prog X.w) X.A X.env X.xe)(hc:X.calm=true)(hg:Gl X "range")(hm:X.mg "range"=none)(ha:JA X [a,b] ga)(hb:pP X body gb)
  (hx:X.N[i]? =some x)(hlo:Loc X.env.scope x)(MY:X.fn x=true\/X.env.scope.names.lookup x=some .local)(hst:abX [a,b] X.env=[(false,eval a X.env),(false,eval b X.env)])(MZ:abX [b] X.env=[(false,eval b X.env)]):JS X (.For (.Name x pos') (.Call (.Name "range" p) [a,b] [] q) body [] pos) (u9 i ga gb):=by
 refine JS.of (uB hp hc (tq hg hm jS hst MZ) (mM hN hx hlo MY) ij (λ_=>rfl)) λρ st σ H m D S R p=>?_
 refine ha.go S R (ba.cS R p) λws st1 vs m1 H1 p1 e1 S1 rs=>?_
 match ws,rs,p1 with
 | [],rs,p1=>exact ae p1
 | [x],rs,p1=>cases x<;>exact ae p1
 | x::y::z::t,rs,p1=>cases x<;>cases y<;>exact ae p1
 | [x,y],rs,p1=>
  obtain⟨v,v',rfl,r1,r2⟩:=wG rs
  cases x with
  | int a=>
   cases y with
   | int j=>
    cases aZ r1;cases aZ r2
    have p2:ba X m H (if dA a/\dA j then dt i gb (cO a (j - a).toNat) ρ st1 else .bad) D:=p1
    by_cases c:dA a/\dA j
    ·rw[if_pos c] at p2
     exact⟨a,j,rfl,⟨c.1.1,c.1.2,c.2.1,c.2.2⟩,Av i hb S1 (R.mono e1) (ba.shift p2 e1)⟩
    ·rw[if_neg c] at p2;exact ae p2
   | _=>exact ae p1
  | _=>cases y<;>exact ae p1
theorem Iw{pos:Pos}:JS X (.Return none pos) (aJ (gC .non)):=JS.of Hr λρ st σ H m D S R p=>p .non m H Ext.refl S Aq
end
abbrev Kv:List abL:=[.type "ValueError",.type "Exception",.type "BaseException",.type "object"]
abbrev Iy:String:="ValueError.__new__"
structure Iz(K:PySem.W.Frag)(c:PySem.Str)(C:abF):Prop where
 cls:ClsAt K c C
 exc:PySem.W.excIn K C Kv Iy=true
theorem pR{K:PySem.W.Frag}{h:Heap}{C:abF}(KX:K.In h)(q:PySem.W.excIn K C Kv Iy=true) :
  ∃(bm:List abL)(N:abF)(nm qn:Str)(bs:List abL)(hd:Bool)(sn:List Str)(sub:List abL)(ab:Bool)(col:Option Bool)(dd:Option abF)(k0 k1 k2 k3 k5:Option abL)(mN:Str->Option abL),
   h.get? C=some (excClassObj nm qn C N bs bm hd sn sub ab col dd k0 k1 k2 k3 k5 Iy)/\h.Ns N mN/\mN "__init__"=none/\OwnTail h Kv bm/\(∀v r,PySem.W.mroIn K C v=some r->(aO C::bm).contains v=r):=by
 unfold PySem.W.excIn at q
 split at q
 ·rename_i dd cd sl lk
  split at q
  ·rename_i C1 bm k0 k1 k2 k3 n1 k5 em es
   simp only[dm,beq_iff_eq,Bool.not_eq_true'] at q
   obtain⟨⟨⟨⟨⟨q1,q2⟩,q3⟩,q4⟩,q5⟩,q6⟩:=q
   subst q1 q2
   obtain⟨nm,bs,mro,N,qn,hd,sn,sub,ab,col,del⟩:=cd
   dsimp only at em q3 q5 q6
   subst em q3
   have Zl:sl=#[k0,k1,k2,k3,some (.builtin Iy),k5]:=by
    cases sl with
    | mk l=>exact congrArg Array.mk es
   subst Zl
   refine⟨bm,N,nm,qn,bs,hd,sn,sub,ab,col,dd,k0,k1,k2,k3,k5,_,KX _ _ lk,.of_isNs (PySem.W.isNs_of_in KX q5),PySem.W.nsMap_none_of_in KX q5 q6,PySem.W.tail_of_in KX q4,λv r e=>?_⟩
   unfold PySem.W.mroIn PySem.W.clsIn at e
   rw[lk] at e
   first
    | exact Option.some.inj e
    | (simp at e;exact e)
  ·cases q
 ·cases q
section
variable {X:Cx}
end
structure nV(K:PySem.W.Frag)(C:abF):Prop where
 exc:PySem.W.excIn K C Kv Iy=true
 ga:PySem.W.findIn K (.ref C) "__getattribute__"=some (some (.builtin "BaseException.__getattribute__"))
 gx:PySem.W.findIn K (.ref C) "__getattr__"=some none
 cl:PySem.W.findIn K (.ref C) "__class__"=some (some (.builtin "object.__class__"))
section
variable {prog:abJ} {w:abM} {A:abG} {E:abL->abK->Prop} {h:Heap} {g:Array GenState} {d:Drawn} {t:Nat} {os:OsState} {a C:abF} {o:Obj} {K:PySem.W.Frag}
theorem M0{R:Result->abK->Prop}(Y:K.In h)(Z:nV K C)(ha:h.get? a=some o)(hc:o.cls= .ref C)(k:R (.ok (.ret (.ref C))) ⟨h,g,d,t,os⟩) :
  abQ (model prog w) A (.call (.builtin "getset_descriptor.__get__") ⟨[.builtin "object.__class__",.ref a,.ref C],[]⟩) R ⟨h,g,d,t,os⟩:=by
 obtain⟨bm,N,nm,qn,bs,Vb,sn,sub,ab,col,dd,k0,k1,k2,k3,k5,mN,hC,hN,hni,T,_⟩:=pR Y Z.exc
 have ty:(⟨h,g,d,t,os⟩:abK).TypeIs (.builtin "object.__class__") "getset_descriptor":=Eh
 have own:(aO C::bm).contains (.type (".".intercalate ("object.__class__".cutAt '.').dropLast))=true:=by
  rw[F.owner_object_class,Ei,T.hasType (X:="object") (b:=true) (by decide)];rfl
 refine codeAny_call_builtin F.slot_gs_get.plain F.entry_gs_get (F.slot_gs_get.check _ _ _ _ _ _ _ _ ty (F.args_gs_get _ _ _) ?_)
 repeat (any_goals (first | assumption | (with_reducible refine wpAny_loadPart_at ha ?_;rw[hc]) | (with_reducible refine wpAny_isSubtype_exc hC ?_;rw[own]) | wp_step))
 refine⟨Code.quiet_builtin _ (by decide+kernel),codeAny_builtin F.entry_object_class ?_⟩
 repeat (any_goals (first | assumption | (with_reducible refine wpAny_loadPart_at ha ?_;rw[hc]) | wp_step))
theorem Ej{tk:Tok}{Q:Fin->abK->Prop}(Y:K.In h)(Z:nV K C)(ha:h.get? a=some o)(hc:o.cls= .ref C)(k:Q (.done (.ret (.ref C))) ⟨h,g,d,t,os⟩) :
  abY (model prog w) A (Builtin.«object.__getattribute__» ⟨[.ref a,.str "__class__" tk],[]⟩) Q E ⟨h,g,d,t,os⟩:=by
 have ty:(⟨h,g,d,t,os⟩:abK).TypeIs (.builtin "object.__class__") "getset_descriptor":=Eh
 have t1:=Eh
 have t2:=F.slot_gs_get.lookup
 have t3:=F.slot_gs_set.lookup
 have L:=PySem.W.looks_findIn (M:=model prog w) Y Z.cl
 repeat (any_goals (first | assumption | (with_reducible refine wpAny_loadPart_at ha ?_;rw[hc]) | with_reducible refine L.at ?_ | wp_step))
 refine M0 Y Z ha hc ?_
 repeat (any_goals (first | assumption | wp_step))
theorem Ek{M:Model}{nv:abL}{Q:Unit->abK->Prop}(Y:K.In h)(Z:nV K C)(ha:h.get? a=some o)(hc:o.cls= .ref C)(k:Q () ⟨h,g,d,t,os⟩) :
  abY M A (checkBuiltinCall "BaseException.__getattribute__" ⟨[.ref a,nv],[]⟩) Q E ⟨h,g,d,t,os⟩:=by
 obtain⟨bm,N,nm,qn,bs,Vb,sn,sub,ab,col,dd,k0,k1,k2,k3,k5,mN,hC,hN,hni,T,_⟩:=pR Y Z.exc
 have u1:builtinKind "BaseException.__getattribute__"=some .slot:=by decide+kernel
 have u2:splitId "BaseException.__getattribute__"=some ("BaseException","__getattribute__"):=by decide+kernel
 have u3:(aO C::bm).contains (.type "BaseException")=true:=by rw[Ei,T.hasType (X:="BaseException") (b:=true) (by decide)];rfl
 have u4:=F.args_bexc_ga (.ref a) nv
 simp only[checkBuiltinCall,u1,u2]
 refine abZ ?_
 unfold isInstance
 repeat (first | (with_reducible refine wpAny_loadPart_at ha ?_;rw[hc]) | (with_reducible refine wpAny_isSubtype_exc hC ?_;rw[u3]) | wp_step)
 exact k
theorem QY{tk:Tok}{Q:abL->abK->Prop}(Y:K.In h)(Z:nV K C)(ha:h.get? a=some o)(hc:o.cls= .ref C)(k:Q (.ref C) ⟨h,g,d,t,os⟩) :
  abY (model prog w) A (getAttrBy (.ref a) (.str "__class__" tk) false) Q E ⟨h,g,d,t,os⟩:=by
 have v1:=F.excAttr_ValueError.ga.bind (.ref a)
 have v2:(pS "BaseException.__getattribute__" == pS "object.__getattribute__")=false:=by decide+kernel
 have v3:(onTheHeap (aO C)&&pS "BaseException.__getattribute__" == pS "object.__getattribute__")=false:=by rw[v2];rfl
 have v4:(false&&onTheHeap (pS "BaseException.__getattribute__"))=false:=rfl
 have L1:=PySem.W.looks_findIn (M:=model prog w) Y Z.ga
 have L2:=PySem.W.looks_findIn (M:=model prog w) Y Z.gx
 repeat (any_goals (first | assumption | (with_reducible refine wpAny_loadPart_at ha ?_;rw[hc]) | with_reducible refine L1.at ?_ | with_reducible refine L2.at ?_ | wp_step))
 refine codeAny_call_builtin F.excAttr_ValueError.ga.plain F.entry_bexc_ga (Ek Y Z ha hc (Ej Y Z ha hc ?_))
 repeat (any_goals (first | assumption | wp_step))
theorem IA{Q:Option abL->abK->Prop}(Y:K.In h)(Z:nV K C)(ha:h.get? a=some o)(hc:o.cls= .ref C)(k:Q (some (.ref C)) ⟨h,g,d,t+1,os⟩) :
  abY (model prog w) A (getAttr? (.ref a) "__class__") Q E ⟨h,g,d,t,os⟩:=by
 unfold getAttr? getAttrBy?
 repeat (any_goals (first | assumption | with_reducible apply QY Y Z ha hc | wp_step))
end
structure Zm(X:Cx):Prop where
 st:X.stack=X.env::X.outer
 fr:X.env.frame=some X.env.locals
 ex:X.ex=[]
theorem BV{P:abJ}{w:abM}{H:Hp}{h:Heap}{a:abF}{o:HO}(x:dn P w H h a o):∃u,h.get? a=some u:=by
 cases o with
 | lst xs=>obtain⟨_,_,_,_,e⟩:=x;exact⟨_,e⟩
 | tup xs=>obtain⟨_,_,_,⟨ob,e,_⟩,_⟩:=x;exact⟨_,e⟩
 | dK kvs=>obtain⟨_,_,_,_,ob,_,_,e,_⟩:=x;exact⟨_,e⟩
 | dT kvs=>obtain⟨_,_,_,_,ob,_,_,e,_⟩:=x;exact⟨_,e⟩
 | dN kvs=>obtain⟨_,_,_,_,ob,_,_,e,_⟩:=x;exact⟨_,e⟩
 | set S n=>obtain⟨ob,_,_,_,e,_⟩:=x;exact⟨_,e⟩
 | ins C dx fs=>obtain⟨_,_,_,e,_⟩:=x;exact⟨_,e⟩
 | own y=>exact x
 | xd fs=>obtain⟨_,⟨_,_,_,e,_⟩,_⟩:=x;exact⟨_,e⟩
 | S6 lo hi=>obtain⟨_,_,_,e⟩:=x;exact⟨_,e⟩
 | nO ob u=>obtain⟨e,_⟩:=x;exact⟨_,e⟩
 | eT ps=>exact⟨_,x⟩
 | met f y=>exact⟨_,x⟩
 | ext φ=>exact x.2.1
def QZ(o:Obj):Prop:=∃vs,o.data= .fields vs/\vs[2]? =some cH
section
variable {X:Cx} {pins:List (abF×Obj)} {σ:St} {Hc H':Hp} {sc s':abK} {B h2:Heap} {a C:abF} {a0:abL} {ch:List abF}
end
theorem wM{K:PySem.W.Frag}{a C:abF}(Z:nV K C):PySem.W.KitX K (.ref a) (.ref C) (DH a C) where
 ty:=λM h _ p=>by
  obtain⟨o,h1,h2,_⟩:=p
  rw[<-h2]
  exact(PySem.W.Looks.ld h1).andThen .now
 it:=λM h Y _=>by
  obtain⟨bm,N,nm,qn,bs,Vb,sn,sub,ab,col,dd,k0,k1,k2,k3,k5,mN,hC,_⟩:=pR Y Z.exc
  intro A' Q' E' s' k q
  unfold isType loadHead
  exact abZ (wpAny_loadPart (k _ _ hC) (ab4 q))
 ne:=λh tp dd its n sl Y e=>by
  obtain⟨bm,N,nm,qn,bs,Vb,sn,sub,ab,col,Mn,k0,k1,k2,k3,k5,mN,hC,_⟩:=pR Y Z.exc
  refine Bool.eq_false_iff.mpr λq=>?_
  have z:C=tp:=Value.ref.inj (beq_iff_eq.mp q)
  subst z
  rw[hC] at e
  have z2:pG "type"=pG "tuple":=congrArg Obj.cls (Option.some.inj e)
  exact absurd z2 (by decide)
 ca:=λ{prog w A E Q s} Y p k=>by
  obtain⟨o,h1,h2,_⟩:=p
  obtain⟨h,g,d,t,os⟩:=s
  exact IA Y Z h1 h2 k
abbrev Tab:=List ((PySem.Str×PySem.Str)×Bool)
abbrev yX:=List ((PySem.Str×String)×Bool)
structure TabOk(K:PySem.W.Frag)(tb:Tab)(tt:yX)(tc:Tab):Prop where
 own:∀c d b C D,tb.lookup (c,d)=some b->ClsAt K c C->ClsAt K d D->nV K C/\PySem.W.kitOne K (.ref C) (.ref D)=some b
 cat:∀c d b C D,tc.lookup (c,d)=some b->ClsAt K c C->ClsAt K d D->PySem.W.excIn K C Kv Iy=true/\PySem.W.excIn K D Kv Iy=true/\PySem.W.mroIn K C (.ref D)=some b
 typ:∀c T b C,tt.lookup (c,T)=some b->ClsAt K c C->nV K C/\PySem.W.kitOne K (.ref C) (.type T)=some b
def nW(tb:Tab)(c:PySem.Str):List Wv->Option Bool
 | []=>some false
 | .cls d::r=>(match tb.lookup (c,d) with
  | some true=>some true
  | some false=>nW tb c r
  | none=>none)
 | _=>none
theorem tL{K:PySem.W.Frag}{m:Mp}{H:Hp}{tb:Tab}{tt:yX}{tc:Tab}(O:TabOk K tb tt tc){c:PySem.Str}{C:abF}(hC:ClsAt K c C):∀{ds:List Wv}{vs:List V}{its:List abL}{b:Bool},aq K m H ds vs->Vals vs its->nW tb c ds=some b->PySem.W.kitAny K (.ref C) its=some b
 | [],vs,its,b,r,v,e=>by
  unfold aq at r
  subst r
  cases v
  cases e
  rfl
 | w::ds,vs,its,b,r,v,e=>by
  unfold aq at r
  obtain⟨x,t,rfl,r1,r2⟩:=r
  cases v with
  | cons h1 h2=>
   cases w with
   | cls d=>
    unfold ao at r1
    obtain⟨D,rfl,hD⟩:=r1
    cases h1
    unfold nW at e
    unfold PySem.W.kitAny
    cases q:tb.lookup (c,d) with
    | none=>rw[q] at e;cases e
    | some k=>
     rw[q] at e
     obtain⟨_,z3⟩:=O.own c d k C D q hC hD
     rw[z3]
     cases k with
     | true=>cases e;rfl
     | false=>exact tL O hC r2 h2 e
   | _=>cases e
def cU(tb:Tab)(tt:yX):List Wv->Hs->Re Wv
 | [.wz c,.cls d],st=>(match tb.lookup (c,d) with | some b=> .ok (.bl b) st | none=> .bad)
 | [.wz c,.ty T],st=>(match tt.lookup (c,T) with | some b=> .ok (.bl b) st | none=> .bad)
 | [.wz c,.tup (.cls d::ds)],st=>(match nW tb c (.cls d::ds) with | some b=> .ok (.bl b) st | none=> .bad)
 | ws,st=>QV ws st
section
variable {X:Cx}
theorem El:dq X (.builtin "isinstance") (λvs H Q=>∃a C v c b,vs=[.ref a,v]/\Tq a C (H a)/\nV X.K C/\RelV v c/\PySem.W.kitOne X.K (.ref C) c=some b/\Q (.bl b) H):=by
 intro pins s σ H xs us Q I r h
 obtain⟨a,C,v,c,b,rfl,ha,Z,rc,e,q⟩:=h
 obtain⟨u,u',rfl,r1,r2⟩:=vals2 r
 cases r1
 have uc:u'=c:=by
  cases v with
  | int i=>obtain⟨t,rfl⟩:=rc;cases e
  | str i=>obtain⟨t,rfl⟩:=rc;cases e
  | Lo i=>obtain⟨t,rfl⟩:=rc;cases e
  | i8 i=>obtain⟨t,rfl⟩:=rc;cases e
  | non=>cases rc;cases r2;rfl
  | bl i=>cases rc;cases r2;rfl
  | ref i=>cases rc;cases r2;rfl
  | ty i=>cases rc;cases r2;rfl
 subst uc
 exact PySem.W.kia_one (wM Z) I.sY (Kj I.hok ha) e (by intro z;cases z) λtk=>⟨.bl b,H,I.tok tk,rfl,q⟩
theorem BW:dq X (.builtin "isinstance") (λvs H Q=>∃a C p xs b,vs=[.ref a,.ref p]/\Tq a C (H a)/\nV X.K C/\fT X.K H p xs/\(∀its,Vals xs its->PySem.W.kitAny X.K (.ref C) its=some b)/\Q (.bl b) H):=by
 intro pins s σ H xs us Q I r h
 obtain⟨a,C,p,ys,b,rfl,ha,Z,hT,e,q⟩:=h
 obtain⟨u,u',rfl,r1,r2⟩:=vals2 r
 cases r1
 cases r2
 obtain⟨its,rv,⟨o,g1,g2,n,g3⟩,z⟩:=I.tuple hT
 obtain⟨oc,od,oda,osl⟩:=o
 cases g2
 cases g3
 exact PySem.W.kia_tup (wM Z) I.sY (Kj I.hok ha) g1 (e its rv) (by intro z;cases z) λtk=>⟨.bl b,H,I.tok tk,rfl,q⟩
theorem M3{tb:Tab}{tt:yX}{tc:Tab}(O:TabOk X.K tb tt tc):dc X (.builtin "isinstance") (cU tb tt):=by
 obtain⟨r,h1,h2⟩:=MV (X:=X)
 refine⟨_,El.or (BW.or h1),λws vs st H m Q S rs p=>?_⟩
 unfold cU at p
 split at p
 ·rename_i _ c d
  cases e:tb.lookup (c,d) with
  | none=>rw[e] at p;exact ae p
  | some b=>
   rw[e] at p
   obtain⟨v,v',rfl,r1,r2⟩:=wG rs
   unfold ao at r1 r2
   obtain⟨a,C,rfl,hC,ha⟩:=r1
   obtain⟨D,rfl,hD⟩:=r2
   obtain⟨z1,z3⟩:=O.own c d b C D e hC hD
   exact .inl ⟨a,C,.ref D,.ref D,b,rfl,ha,z1,rfl,z3,p _ m H Ext.refl S jg⟩
 ·rename_i _ c T
  cases e:tt.lookup (c,T) with
  | none=>rw[e] at p;exact ae p
  | some b=>
   rw[e] at p
   obtain⟨v,v',rfl,r1,r2⟩:=wG rs
   unfold ao at r1 r2
   obtain⟨a,C,rfl,hC,ha⟩:=r1
   subst r2
   obtain⟨z1,z3⟩:=O.typ c T b C e hC
   exact .inl ⟨a,C,.ty T,.type T,b,rfl,ha,z1,rfl,z3,p _ m H Ext.refl S jg⟩
 ·rename_i _ c d ds
  cases e:nW tb c (.cls d::ds) with
  | none=>rw[e] at p;exact ae p
  | some b=>
   rw[e] at p
   obtain⟨v,v',rfl,r1,r2⟩:=wG rs
   unfold ao at r1
   obtain⟨a,C,rfl,hC,ha⟩:=r1
   have r2':=r2
   unfold ao at r2'
   obtain⟨t,xs,rfl,hT,rx⟩:=r2'
   have Z:nV X.K C:=by
    have u6:=rx
    unfold aq at u6
    obtain⟨x,r,_,rd,_⟩:=u6
    unfold ao at rd
    obtain⟨D,_,hD⟩:=rd
    unfold nW at e
    cases q:tb.lookup (c,d) with
    | none=>rw[q] at e;cases e
    | some k=>exact(O.own c d k C D q hC hD).1
   exact .inr (.inl ⟨a,C,t,xs,b,rfl,ha,Z,fT.of hT,λits hv=>tL O hC rx hv e,p _ m H Ext.refl S jg⟩)
 ·exact .inr (.inr (h2 ws vs st H m Q S rs p))
end
section
variable {X:Cx} {pins:List (abF×Obj)} {σ:St} {H:Hp} {s:abK}
def M4(X:Cx):Prop:=X.A.handled=none\/∃a o u,X.A.handled=some (.ref a)/\QZ o/\X.H₀ a=some (.nO o u)
def BX(A:abG)(H:Hp):Prop:=A.handled=none\/∃a o u,A.handled=some (.ref a)/\QZ o/\H a=some (.nO o u)
theorem M4.at(h:M4 X)(I:Inv X pins σ H s):BX X.A H:=h.imp id λ⟨a,o,u,h1,h2,h3⟩=>⟨a,o,u,h1,h2,I.base.pd _ _ _ h3⟩
end
section
variable {X:Cx}
end
theorem Em(x:String):aY (pK x)=true:=by
 unfold aY
 rw[Ks]
 intro c hc
 have:∃ch:Char,c=ch.toNat:=by
  rw[Str.ofString_eq_toList] at hc
  simp at hc
  obtain⟨ch,_,e⟩:=hc
  exact⟨ch,e.symm⟩
 obtain⟨ch,rfl⟩:=this
 have h:=ch.valid
 simp only[decide_eq_true_eq]
 rcases h with h | ⟨_,h⟩
 ·exact uR h (by decide)
 ·exact h
section
variable {X:Cx}
def M5:List Wv->Hs->Re Wv
 | [.int i],st=>if i.natAbs.log2 < 1920 then .ok (.str (toString i:String)) st else .bad
 | _,_=> .bad
theorem M6:dc X (.type "str") M5:=⟨_,uD,λws vs st H m Q S r p=>by
 match ws,r,p with
 | [],r,p=>exact ae p
 | x::y::t,r,p=>cases x<;>exact ae p
 | [x],r,p=>
  obtain⟨v,rfl,rx⟩:=me r
  cases x with
  | int i=>
   cases aZ rx
   have p':dH X.K m H (if i.natAbs.log2 < 1920 then .ok (.str (toString i:String)) st else .bad) Q:=p
   by_cases c:i.natAbs.log2 < 1920
   ·rw[if_pos c] at p'
    exact⟨i,rfl,c,p' _ m H Ext.refl S (mkStr (Em _))⟩
   ·rw[if_neg c] at p';exact ae p'
  | _=>exact ae p⟩
def ji(o v:Wv)(st:Hs):Re Wv:=match o with
 | .ref l=>(match st[l]? with
  | some (.lst ws)=>if ws.length < lim then .ok .non (st.set l (.lst (ws++[v]))) else .bad
  | _=> .bad)
 | _=> .bad
def M7(o v:Wv)(st:Hs):Re Wv:=match o,v with
 | .ref l,.ref k=>(match st[l]?,st[k]? with
  | some (.lst ws),some (.lst zs)=>if ws.length+zs.length<=lim then .ok .non (st.set l (.lst (ws++zs))) else .bad
  | _,_=> .bad)
 | _,_=> .bad
def lR(mt:Wv->Wv->Hs->Re Wv)(go ga:GE):GE:=λρ st=>(go ρ st).bind λo st1=>match o with
 | .ref l=>(match aB st1 l with
  | some _=>(ga ρ st1).bind λv st2=>(mt o v st2).pO
  | none=> .bad)
 | _=> .bad
def Tu(X:Cx)(id:String)(mt:Wv->Wv->Hs->Re Wv):Prop:=∃r,UX X id r/\∀(o w:Wv)(x v:V)(st:Hs)(H:Hp)(m:Mp)(Q:VK),bZ X.K m st H->ao X.K m H o x->ao X.K m H w v->dH X.K m H (mt o w st) Q->r x [v] H Q
theorem En:Tu X "list.append" ji:=⟨_,BI,λo w x v st H m Q S ro rw' p=>by
 cases o with
 | ref l=>
  unfold ao at ro
  obtain⟨a,rfl,ha⟩:=ro
  have p':dH X.K m H (match st[l]? with | some (.lst ws)=>if ws.length < lim then .ok .non (st.set l (.lst (ws++[w]))) else .bad | _=> .bad) Q:=p
  cases e:st[l]? with
  | none=>rw[e] at p';exact ae p'
  | some ob=>
   cases ob with
   | dct kvs=>rw[e] at p';exact ae p'
   | nL kvs=>rw[e] at p';exact ae p'
   | Am kvs=>rw[e] at p';exact ae p'
   | CW kvs=>rw[e] at p';exact ae p'
   | nM kvs=>rw[e] at p';exact ae p'
   | ins _ _=>rw[e] at p';exact ae p'
   | sh ns=>rw[e] at p';exact ae p'
   | lst ws=>
    rw[e] at p'
    dsimp only at p'
    by_cases c:ws.length < lim
    ·rw[if_pos c] at p'
     obtain⟨xs,h1,h2⟩:=S.qB ha e
     have e4:Ext X.K m H m (upd H a (.lst (xs++[v]))):=Ext.upd (.inr ⟨xs,h1⟩)
     exact⟨a,xs,v,rfl,rfl,h1,by rw[<-h2.length];exact uV c,p' _ m _ e4 (S.write ha e (h2.append (aq.cons rw' aq.nil))) Aq⟩
    ·rw[if_neg c] at p';exact ae p'
 | _=>exact ae p⟩
theorem M8:Tu X "list.extend" M7:=⟨_,BJ,λo w x v st H m Q S ro rw' p=>by
 cases o with
 | ref l=>
  cases w with
  | ref k=>
   unfold ao at ro rw'
   obtain⟨a,rfl,ha⟩:=ro
   obtain⟨b,rfl,hb⟩:=rw'
   have p':dH X.K m H (match st[l]?,st[k]? with | some (.lst ws),some (.lst zs)=>if ws.length+zs.length<=lim then .ok .non (st.set l (.lst (ws++zs))) else .bad | _,_=> .bad) Q:=p
   cases e:st[l]? with
   | none=>rw[e] at p';exact ae p'
   | some ob=>
    cases ob with
    | dct kvs=>rw[e] at p';exact ae p'
    | nL kvs=>rw[e] at p';exact ae p'
    | Am kvs=>rw[e] at p';exact ae p'
    | CW kvs=>rw[e] at p';exact ae p'
    | nM kvs=>rw[e] at p';exact ae p'
    | ins _ _=>rw[e] at p';exact ae p'
    | sh ns=>rw[e] at p';exact ae p'
    | lst ws=>
     cases e2:st[k]? with
     | none=>rw[e,e2] at p';exact ae p'
     | some Zn=>
      cases Zn with
      | dct kvs=>rw[e,e2] at p';exact ae p'
      | nL kvs=>rw[e,e2] at p';exact ae p'
      | Am kvs=>rw[e,e2] at p';exact ae p'
      | CW kvs=>rw[e,e2] at p';exact ae p'
      | nM kvs=>rw[e,e2] at p';exact ae p'
      | ins _ _=>rw[e,e2] at p';exact ae p'
      | sh ns=>rw[e,e2] at p';exact ae p'
      | lst zs=>
       rw[e,e2] at p'
       dsimp only at p'
       by_cases c:ws.length+zs.length<=lim
       ·rw[if_pos c] at p'
        obtain⟨xs,h1,h2⟩:=S.qB ha e
        obtain⟨ys,g1,g2⟩:=S.qB hb e2
        have e4:Ext X.K m H m (upd H a (.lst (xs++ys))):=Ext.upd (.inr ⟨xs,h1⟩)
        exact⟨a,b,xs,ys,rfl,rfl,h1,g1,by rw[<-h2.length,<-g2.length];exact eL c,p' _ m _ e4 (S.write ha e (h2.append g2)) Aq⟩
       ·rw[if_neg c] at p';exact ae p'
  | _=>exact ae p
 | _=>exact ae p⟩
theorem Aw{x name:Str}{id:String}{e:Expr}{go ga:GE}{p apos cpos:Pos}{mt:Wv->Wv->Hs->Re Wv}(hm:Tu X id mt)(slot:Slot "list" name id)(hty:typeOf (.builtin id)=pure (.type "method_descriptor"))(ho:JE X (.Name x p) go)(ha:JE X e ga)
  (hst:abX [e] X.env=[(false,eval e X.env)])(hline:(apos.endLine == cpos.line)=true):JE X (.Call (.Attribute (.Name x p) name apos) [e] [] cpos) (lR mt go ga):=by
 obtain⟨r,h1,h2⟩:=hm
 have hfew:((backTo cpos (abX [e] X.env)).all (λx=> !x.1)&&(backToKw cpos (keywordEach [] X.env)).all (λx=>x.1.isSome)&&decide ([e].length+([]:List Keyword).length+(if([]:List Keyword).isEmpty then 0 else 1) < 30))=true:=by
  rw[hst];rfl
 refine JE.of (Qy PySem.F.plainAttrs_list slot hty h1 a6 jS rfl hfew hline hst rfl) λρ st σ H m Q S R p=>?_
 refine ho.go S R (aK.bind p) λo st1 v m1 H1 p1 e1 S1 ro=>?_
 cases o with
 | ref l=>
  dsimp only at p1
  cases el:aB st1 l with
  | none=>rw[el] at p1;exact ae p1
  | some ws0=>
   rw[el] at p1
   dsimp only at p1
   have XS:=ro
   unfold ao at XS
   obtain⟨a,rfl,hla⟩:=XS
   obtain⟨xs,hq,_⟩:=S1.read hla el
   refine⟨.inl ⟨rfl,xs,hq⟩,?_⟩
   refine(Ap ha DR hst).go S1 (R.mono e1) (ok:=λws st2=>aK X σ m H (match ws with | [w]=>(mt (.ref l) w st2).pO | _=> .bad) (Pu X.K m H Q)) ?_ λws st2 vs m2 H2 p2 e2 S2 rs=>?_
   ·have p3:=(aK.bind p1).imp e1 (λ_ _ q=>q)
    show aK X σ m1 H1 ((ga ρ st1).bind λx st1=>(aj ρ st1).bind λxs st2=> .ok (x::xs) st2) _
    cases eg:ga ρ st1 with
    | ok w st2=>rw[eg] at p3;exact p3
    | err c st2=>rw[eg] at p3;exact p3
    | bad=>rw[eg] at p3;exact p3
   ·match ws,rs,p2 with
    | [],rs,p2=>exact ae p2
    | [w],rs,p2=>
     obtain⟨v2,rfl,Zo⟩:=me rs
     exact h2 (.ref l) w (.ref a) v2 st2 H2 m2 Q S2 (ao.mono e2 _ _ ro) Zo (dH.shift (aK.pO p2) (e1.trans e2))
    | _::_::_,rs,p2=>exact ae p2
 | _=>exact ae p1
end
section
variable {X:Cx}
def tM:List Wv->Hs->Re Wv
 | [.str z],st=> .ok (.str z) st
 | ws,st=>M5 ws st
theorem yY:dq X (.type "str") (λxs H Q=>∃z,xs=[.str z]/\Q (.str z) H):=by
 intro pins s σ H xs us Q I r h
 obtain⟨z,rfl,q⟩:=h
 obtain⟨u,rfl,t,rfl⟩:=vals1 r
 exact PySem.P.str_of_str ⟨.str z,H,I,⟨t,rfl⟩,q⟩
theorem IB:dc X (.type "str") tM:=by
 obtain⟨r,h1,h2⟩:=M6 (X:=X)
 refine⟨_,yY.or h1,λws vs st H m Q S rs p=>?_⟩
 unfold tM at p
 split at p
 ·obtain⟨v,rfl,r1⟩:=me rs
  obtain⟨rfl,hz⟩:=eM r1
  exact .inl ⟨_,rfl,p _ m H Ext.refl S (mkStr hz)⟩
 ·exact .inr (h2 ws vs st H m Q S rs p)
def Q0:List Wv->Hs->Re Wv
 | [.int i,.int j],st=> .ok (.int (if j > i then j else i)) st
 | _,_=> .bad
def Q1:List Wv->Hs->Re Wv
 | [.int i,.int j],st=> .ok (.int (if j < i then j else i)) st
 | _,_=> .bad
theorem M9(hc:X.calm=true):dc X (.builtin "max") Q0:=⟨_,Bz hc,λws vs st H m Q S rs p=>by
 match ws,rs,p with
 | [],rs,p=>exact ae p
 | [x],rs,p=>cases x<;>exact ae p
 | x::y::z::t,rs,p=>cases x<;>cases y<;>exact ae p
 | [x,y],rs,p=>
  obtain⟨v,v',rfl,r1,r2⟩:=wG rs
  cases x with
  | int i=>
   cases y with
   | int j=>cases aZ r1;cases aZ r2;exact⟨i,j,rfl,p _ m H Ext.refl S mkInt⟩
   | _=>exact ae p
  | _=>cases y<;>exact ae p⟩
theorem M_(hc:X.calm=true):dc X (.builtin "min") Q1:=⟨_,BA hc,λws vs st H m Q S rs p=>by
 match ws,rs,p with
 | [],rs,p=>exact ae p
 | [x],rs,p=>cases x<;>exact ae p
 | x::y::z::t,rs,p=>cases x<;>cases y<;>exact ae p
 | [x,y],rs,p=>
  obtain⟨v,v',rfl,r1,r2⟩:=wG rs
  cases x with
  | int i=>
   cases y with
   | int j=>cases aZ r1;cases aZ r2;exact⟨i,j,rfl,p _ m H Ext.refl S mkInt⟩
   | _=>exact ae p
  | _=>cases y<;>exact ae p⟩
def BY:List Nat->List Wv->bY->Option bY
 | [],[],ρ=>some ρ
 | i::is,w::ws,ρ=>BY is ws (ρ.set i (some w))
 | _,_,_=>none
def Zp(is:List Nat)(w:Wv)(ρ:bY):Option bY:=match w with
 | .tup ws=>BY is ws ρ
 | _=>none
def Vc:List Nat->Kb
 | []=>L2.aj
 | i::is=>L2.aa (wg i) (Vc is)
theorem wN{m:Mp}{H:Hp}{Q:St->Hp->Prop}:∀{is:List Nat}{ws:List Wv}{xs:List V}{ρ ρ':bY}{σ:St},aq X.K m H ws xs->aT X.K m H ρ σ->BY is ws ρ=some ρ'->(∀σ',aT X.K m H ρ' σ'->Q σ' H)->Vc is xs σ H Q
 | [],[],xs,ρ,ρ',σ,r,R,e,k=>by
  unfold aq at r
  subst r
  cases e
  exact⟨rfl,k σ R⟩
 | i::is,w::ws,xs,ρ,ρ',σ,r,R,e,k=>by
  unfold aq at r
  obtain⟨x,rr,rfl,h1,h2⟩:=r
  exact⟨x,rr,rfl,wN (is:=is) h2 (R.set i h1) e k⟩
 | [],_::_,_,_,_,_,_,_,e,_=>by cases e
 | _::_,[],_,_,_,_,_,_,e,_=>by cases e
theorem wO:∀{is:List Nat}{ws:List Wv}{ρ ρ':bY},BY is ws ρ=some ρ'->ws.length=is.length
 | [],[],_,_,_=>rfl
 | _::is,_::ws,_,_,e=>congrArg (· +1) (wO (is:=is) (ws:=ws) e)
 | [],_::_,_,_,e=>by cases e
 | _::_,[],_,_,e=>by cases e
inductive Slots(X:Cx):List Expr->List Nat->Prop
 | nil:Slots X [] []
 | cons {x:Str} {p:Pos} {i:Nat} {es:List Expr} {is:List Nat}:X.N[i]? =some x->(Loc X.env.scope x/\(X.fn x=true\/X.env.scope.names.lookup x=some .local))->Slots X es is->Slots X (.Name x p::es) (i::is)
theorem tN(hN:X.N.Nodup):∀{es:List Expr}{is:List Nat},Slots X es is->P_ X es (Vc is)
 | _,_,.nil=>Hu
 | _,_,.cons h1 h2 r=>De (mM hN h1 h2.1 h2.2) (tN hN r) rfl
theorem wQ:∀{es:List Expr}{is:List Nat},Slots X es is->(assignEach es X.env).length=is.length
 | _,_,.nil=>rfl
 | _,_,.cons _ _ r=>congrArg (· +1) (wQ r)
theorem tO:∀{es:List Expr}{is:List Nat},Slots X es is->(assignEach es X.env).findIdx? (·.1)=none
 | _,_,.nil=>rfl
 | _,_,.cons (x:=x) (p:=p) (es:=es) _ _ r=>by
  have q:=tO r
  show List.findIdx? _ ((false,assign (.Name x p) X.env)::assignEach es X.env)=none
  rw[List.findIdx?_cons]
  simp[q]
def qM(is:List Nat)(g:GE):GS:=λρ st=>(g ρ st).bD ρ λw st'=>match Zp is w ρ with
 | some ρ'=> .nx ρ' st'
 | none=> .bad
theorem IC{es:List Expr}{is:List Nat}{k:Nat}{e:Expr}{g:GE}{pos pos':Pos}(hN:X.N.Nodup)(hc:X.calm=true)(sl:Slots X es is)(h:JE X e g)(hs:swapsWith e (some (.Tuple es k pos')) pos.line X.env=pure false)(hw:swappedStores [.Tuple es k pos'] e X.env=pure none) :
  JS X (.Assign [.Tuple es k pos'] e pos) (qM is g) :=
 JS.of (Df a6 (LI hc (tN hN sl) (wQ sl) (tO sl)) (by unfold swapsWithSole;exact hs) hw rfl) λρ st σ H m D S R p=>h.go S R (ba.cS R p) λw st1 v m1 H1 q e1 S1 r1=>by
  cases w with
  | tup ws=>
   have q':ba X m H (match BY is ws ρ with | some ρ'=> .nx ρ' st1 | none=> .bad) D:=q
   cases e2:BY is ws ρ with
   | none=>rw[e2] at q';exact ae q'
   | some ρ'=>
    rw[e2] at q'
    unfold ao at r1
    obtain⟨a,xs,rfl,f1,f2⟩:=r1
    exact⟨a,xs,rfl,fT.of f1,by rw[<-f2.length];exact wO e2,wN f2 (R.mono e1) e2 λσ' R'=>q' σ' m1 H1 e1 S1 R'⟩
  | _=>exact ae q
open Classical in
end
def u_(env:Env):List (Str×abI)->List (Str×abF)->List (Str×abF)
 | [],acc=>acc
 | (n,k)::r,acc=>if k= .free then u_ env r ((n,(env.cells.lookup n).getD 0)::acc) else u_ env r acc
theorem wR(env:Env):∀(names:List (Str×abI))(acc:List (Str×abF)),(∀y∈names,y.2= .free->∃c,env.cells.lookup y.1=some c)->
  (forIn names acc λx r=>match x with
   | (name,kind)=>if(kind == eC)=true then do let c <-cellOf env name;pure (uk ((name,c)::r)) else(pure (uk r):Sem _))=pure (u_ env names acc)
 | [],acc,_=>rfl
 | (n,k)::r,acc,h=>by
  have ih:=λacc=>wR env r acc λy hy=>h y (bq _ hy)
  rw[List.forIn_cons]
  by_cases hk:k= .free
  ·subst hk
   obtain⟨c,e⟩:=h (n,.free) bS rfl
   have e':env.cells.lookup n=some c:=e
   have cc:cellOf env n=pure c:=by unfold cellOf;rw[e']
   simp only[beq_self_eq_true,if_true,cc]
   have q:u_ env ((n,.free)::r) acc=u_ env r ((n,c)::acc):=by
    show(if eC= .free then u_ env r ((n,(env.cells.lookup n).getD 0)::acc) else _)=_
    rw[if_pos rfl,e']
    rfl
   rw[q,<-ih]
   rfl
  ·have hb:(k == eC)=false:=by simpa using hk
   simp only[hb,oK,if_false]
   have q:u_ env ((n,k)::r) acc=u_ env r acc:=by
    show(if k= .free then _ else u_ env r acc)=_
    rw[if_neg hk]
   rw[q,<-ih]
   rfl
theorem ID{env:Env}{scope:Scope}(h:∀y∈scope.names,y.2= .free->∃c,env.cells.lookup y.1=some c):closureFor scope env=pure (u_ env scope.names []):=by
 have q:=wR env scope.names [] h
 unfold closureFor
 first
  | (rw[<-q];rfl)
  | (simp only[bind_pure];exact q)
theorem va{env:Env}:∀{names:List (Str×abI)}{acc:List (Str×abF)}{y:Str}{c:abF},(∀y∈names,y.2= .free->∃c,env.cells.lookup y.1=some c)->(∀y c,acc.lookup y=some c->env.cells.lookup y=some c)->(u_ env names acc).lookup y=some c->env.cells.lookup y=some c
 | [],acc,y,c,_,ha,e=>ha y c e
 | (n,k)::r,acc,y,c,h,ha,e=>by
  unfold u_ at e
  by_cases hk:k= .free
  ·rw[if_pos hk] at e
   subst hk
   obtain⟨c0,e0⟩:=h (n,.free) bS rfl
   have Zq:env.cells.lookup n=some c0:=e0
   refine va (λy hy=>h y (bq _ hy)) (λy' c' e'=>?_) e
   rw[fu] at e'
   cases q:y' == n with
   | true=>
    rw[q] at e'
    have q':=eq_of_beq q
    subst q'
    rw[Zq] at e' ⊢
    exact e'
   | false=>rw[q] at e';exact ha y' c' e'
  ·rw[if_neg hk] at e
   exact va (λy hy=>h y (bq _ hy)) ha e
theorem pT{env:Env}{y:Str}:∀{names:List (Str×abI)}{acc:List (Str×abF)},((∃c,acc.lookup y=some c)\/(y,eC)∈names)->∃c,(u_ env names acc).lookup y=some c
 | [],acc,h=>by
  rcases h with h | h
  ·exact h
  ·cases h
 | (n,k)::r,acc,h=>by
  unfold u_
  by_cases hk:k= .free
  ·rw[if_pos hk]
   refine pT ?_
   rw[fu]
   cases q:y == n with
   | true=>exact .inl ⟨_,rfl⟩
   | false=>
    rcases h with h | h
    ·exact .inl h
    ·rcases List.mem_cons.mp h with h | h
     ·cases h;simp at q
     ·exact .inr h
  ·rw[if_neg hk]
   refine pT ?_
   rcases h with h | h
   ·exact .inl h
   ·rcases List.mem_cons.mp h with h | h
    ·cases h;exact absurd rfl hk
    ·exact .inr h
theorem lookup_mem{α β:Type}[BEq α][LawfulBEq α]{y:α}{k:β}:∀{names:List (α×β)},names.lookup y=some k->(y,k)∈names
 | [],h=>by cases h
 | (n,j)::r,h=>by
  rw[fu] at h
  cases q:y == n with
  | true=>
   rw[q] at h
   cases h
   have q':=eq_of_beq q
   subst q'
   exact bS
  | false=>rw[q] at h;exact bq _ (lookup_mem h)
theorem mY{env:Env}:∀{names:List (Str×abI)}{y:Str},(names.map λ(n,k)=>if(k == eC&&env.scope.kind == .function&&env.kindOf n == some .cell) then(n,eD) else(n,k)).lookup y=
  (names.lookup y).map λk=>if(k == eC&&env.scope.kind == .function&&env.kindOf y == some .cell)=true then eD else k
 | [],y=>rfl
 | (n,k)::r,y=>by
  have ih:=mY (env:=env) (names:=r) (y:=y)
  show lZ y ((if(k == eC&&env.scope.kind == .function&&env.kindOf n == some .cell)=true then(n,eD) else(n,k))::_)=_
  cases q:y == n with
  | true=>
   have q':=eq_of_beq q
   subst q'
   by_cases hc:(k == eC&&env.scope.kind == .function&&env.kindOf y == some .cell)=true
   ·rw[if_pos hc]
    simp only[fu,beq_self_eq_true,mL]
    rw[if_pos hc]
   ·rw[if_neg hc]
    simp only[fu,beq_self_eq_true,mL]
    rw[if_neg hc]
  | false=>
   by_cases hc:(k == eC&&env.scope.kind == .function&&env.kindOf n == some .cell)=true
   ·rw[if_pos hc];simp only[fu,q];exact ih
   ·rw[if_neg hc];simp only[fu,q];exact ih
open Classical in
def iO(ck:Hs->Prop)(gt:Wv->Hs->Re Bool)(ge:Wv->Hs->Re Wv)(l:Nat):List Wv->Hs->Option Hs
 | [],st=>some st
 | w::r,st=>match gt w st with
  | .ok false st1=>if ck st1 then iO ck gt ge l r st1 else none
  | .ok true st1=>(match ge w st1 with
   | .ok v st2=>(match ji (.ref l) v st2 with
    | .ok _ st3=>if ck st3 then iO ck gt ge l r st3 else none
    | _=>none)
   | _=>none)
  | _=>none
open Classical in
def oU(ck:Hs->Prop)(gt:Wv->Hs->Re Bool)(ge:Wv->Hs->Re Wv)(l:Nat):List Wv->Hs->Re Unit
 | [],st=> .ok () st
 | w::r,st=>match gt w st with
  | .ok false st1=>if ck st1 then oU ck gt ge l r st1 else .bad
  | .ok true st1=>(match ge w st1 with
   | .ok v st2=>(match ji (.ref l) v st2 with
    | .ok _ st3=>if ck st3 then oU ck gt ge l r st3 else .bad
    | _=> .bad)
   | .err c st2=> .err c st2
   | .bad=> .bad)
  | .err c st1=> .err c st1
  | .bad=> .bad
theorem qN{ck:Hs->Prop}{gt:Wv->Hs->Re Bool}{ge:Wv->Hs->Re Wv}{l:Nat}{Ax:Hs}:∀(ws:List Wv)(st:Hs),iO ck gt ge l ws st=some Ax->oU ck gt ge l ws st= .ok () Ax
 | [],st,h=>by cases h;rfl
 | w::r,st,h=>by
  unfold iO at h
  unfold oU
  cases eg:gt w st with
  | err c st1=>rw[eg] at h;cases h
  | bad=>rw[eg] at h;cases h
  | ok b st1=>
   rw[eg] at h
   cases b with
   | false=>
    dsimp only at h ⊢
    by_cases c:ck st1
    ·rw[if_pos c] at h ⊢;exact qN r st1 h
    ·rw[if_neg c] at h;cases h
   | true=>
    dsimp only at h ⊢
    cases ee:ge w st1 with
    | err c st2=>rw[ee] at h;cases h
    | bad=>rw[ee] at h;cases h
    | ok v st2=>
     rw[ee] at h
     dsimp only at h ⊢
     cases ea:ji (.ref l) v st2 with
     | err c st3=>rw[ea] at h;cases h
     | bad=>rw[ea] at h;cases h
     | ok u st3=>
      rw[ea] at h
      dsimp only at h ⊢
      by_cases c:ck st3
      ·rw[if_pos c] at h ⊢;exact qN r st3 h
      ·rw[if_neg c] at h;cases h
abbrev gU:=List (Str×Nat)
def f_(cs:gU)(ρ:bY):bY:=cs.map λp=>(ρ[p.2]?).getD none
def vb(cs:gU)(σ:St):St:=cs.map λp=>(σ[p.2]?).getD none
theorem IE{K:PySem.W.Frag}{m:Mp}{H:Hp}{ρ:bY}{σ:St}(cs:gU)(R:aT K m H ρ σ):aT K m H (f_ cs ρ) (vb cs σ):=by
 refine⟨by unfold f_ vb;simp,λi w e=>?_⟩
 unfold f_ at e
 rw[fk] at e
 cases q:cs[i]? with
 | none=>rw[q] at e;cases e
 | some p=>
  rw[q] at e
  have e':(ρ[p.2]?).getD none=some w:=by simpa using e
  cases q2:ρ[p.2]? with
  | none=>rw[q2] at e';cases e'
  | some o=>
   rw[q2] at e'
   have e2:o=some w:=e'
   subst e2
   obtain⟨v,h1,h2⟩:=R.get _ _ q2
   refine⟨v,?_,h2⟩
   unfold vb
   rw[fk,q]
   simp[h1]
def yg(X:Cx)(scope:Scope)(C:abF):List (Str×abF):=cellsFrom (C+1) scope.names (u_ X.env scope.names [])
theorem mZ:∀{names:List (Str×abI)}(n:Nat)(acc:List (Str×abF))(h:Heap),(names.filter λy=>y.2 == .cell)=[]->cellsFrom n names acc=acc/\pushCells h names=h
 | [],_,_,_,_=>⟨rfl,rfl⟩
 | (y,k)::r,n,acc,h,e=>by
  cases q:(k == eD) with
  | true=>rw[Eo (by exact q)] at e;cases e
  | false=>
   rw[Ep (by show ¬(k == eD)=true;rw[q];exact bE)] at e
   unfold cellsFrom pushCells
   rw[q]
   exact mZ n acc h e
theorem iP{x:Str}:∀{names:List (Str×abI)}(n:Nat)(acc:List (Str×abF))(h:Heap),(names.filter λy=>y.2 == .cell)=[(x,.cell)]->cellsFrom n names acc=(x,n)::acc/\pushCells h names=h.push { cls:=.type "cell",data:=.cell none }
 | [],_,_,_,e=>by cases e
 | (y,k)::r,n,acc,h,e=>by
  cases q:(k == eD) with
  | true=>
   rw[Eo (by exact q)] at e
   have e1:=(List.cons.inj e).1
   have e2:=(List.cons.inj e).2
   cases e1
   unfold cellsFrom pushCells
   rw[q]
   exact mZ _ _ _ e2
  | false=>
   rw[Ep (by show ¬(k == eD)=true;rw[q];exact bE)] at e
   unfold cellsFrom pushCells
   rw[q]
   exact iP n acc h e
theorem qO{M:Model}{A:abG}{E:abL->abK->Prop}{s:abK}{scope:Scope}{globals:abF}{closure:List (Str×abF)}{qual:Str}{env:Env}{Q:Env->abK->Prop}
  (hQ:Q (newEnv scope s.heap.objs.size globals (cellsFrom (s.heap.objs.size+1) scope.names closure) qual none .none (some env) builtinsNs) { s with heap:=pushCells (s.heap.push { cls:=.type "dict",data:=.dict #[] }) scope.names }) :
  abY M A (newFunctionEnv scope globals closure [] qual none .none (some env)) Q E s:=by
 simp only[newFunctionEnv,HR,if_true]
 refine abZ (wpAny_alloc ?_)
 refine abZ (wpAny_layCells _ (λname kind cells=>by cases hkc:kind == eD<;>simp[hkc]) _ _ _ _ ?_)
 rw[show({ s with heap:=s.heap.push { cls:=.type "dict",data:=.dict #[] } }:abK).heap.objs.size=s.heap.objs.size+1 from yw ..]
 rw[List.forIn_nil]
 exact abZ (ab4 (ab4 hQ))
def gw(X:Cx)(scope:Scope)(x:Str)(cs:gU)(C:abF)(s0:abK)(H0:Hp)(fp:List abF)(pn:List (abF×Obj))(E:abL->abK->Prop):Cx where
 prog:=X.prog
 w:=X.w
 K:=X.K
 mg:=X.mg
 base:=X.base
 A:=X.A
 N:=x::cs.map (·.1)
 s₀:=s0
 H₀:=H0
 env:=compEnvC scope (yg X scope C) C X.env
 outer:=X.stack
 stack:=X.stack
 ex:=fp
 fn:=λy=>scope.names.lookup y == some .cell
 calm:=X.calm
 pn:=pn
 xe:=E
structure dB(X:Cx)(scope:Scope)(x:Str)(cs:gU):Prop where
 kind:scope.kind= .function
 look:∀y∈scope.names,scope.names.lookup y.1=some y.2
 own:(scope.names.filter λy=>y.2 == .cell)=[]\/(scope.names.filter λy=>y.2 == .cell)=[(x,.cell)]
 var:scope.names.lookup x=some .local\/scope.names.lookup x=some .cell
 cap:∀y∈scope.names,y.2= .free->X.env.kindOf y.1=some .cell\/X.env.kindOf y.1=some .free
 at_:∀p∈cs,X.N[p.2]? =some p.1/\scope.names.lookup p.1=some .free
 nd:(x::cs.map (·.1)).Nodup
section
variable {X:Cx} {pins:List (abF×Obj)} {σ:St} {H:Hp} {s:abK} {scope:Scope} {x:Str} {cs:gU}
theorem wU(I:Inv X pins σ H s){b:abF}(f:h_ X pins H b):b∉frs X.stack:=λz=>by
 rcases List.mem_cons.mp (I.uw b z) with q | q
 ·exact f.2.1 q
 ·exact f.2.2.1 q
theorem dB.has(S:dB X scope x cs)(ok:X.Ok):∀y∈scope.names,y.2= .free->∃c,X.env.cells.lookup y.1=some c:=λy hy e=>ok.has y.1 (S.cap y hy e)
theorem dB.Er(S:dB X scope x cs){y:Str}(e:scope.names.lookup y=some .cell):y=x/\(scope.names.filter λy=>y.2 == .cell)=[(x,.cell)]:=by
 have h:(y,eD)∈scope.names.filter λy=>y.2 == .cell:=List.mem_filter.mpr ⟨lookup_mem e,rfl⟩
 rcases S.own with z | z
 ·rw[z] at h;cases h
 ·rw[z] at h
  have:=List.mem_singleton.mp h
  cases this
  exact⟨rfl,z⟩
theorem dB.sub(S:dB X scope x cs)(ok:X.Ok){C:abF}{y:Str}{c:abF}(e:(yg X scope C).lookup y=some c):(c=C+1/\y=x/\(scope.names.filter λy=>y.2 == .cell)=[(x,.cell)])\/(X.env.cells.lookup y=some c/\scope.names.lookup y≠some .cell):=by
 have old:∀{y:Str}{c:abF},(u_ X.env scope.names []).lookup y=some c->X.env.cells.lookup y=some c:=λe=>va (S.has ok) (λ_ _ z=>by cases z) e
 unfold yg at e
 rcases S.own with z | z
 ·rw[(mZ _ _ X.base z).1] at e
  refine .inr ⟨old e,λq=>?_⟩
  rw[(S.Er q).2] at z
  cases z
 ·rw[(iP _ _ X.base z).1,fu] at e
  cases q:(y == x) with
  | true=>
   rw[q] at e
   cases e
   exact .inl ⟨rfl,eq_of_beq q,z⟩
  | false=>
   rw[q] at e
   exact .inr ⟨old e,λw=>by rw[(S.Er w).1] at q;simp at q⟩
theorem dB.to(S:dB X scope x cs){C:abF}{y:Str}{c:abF}(e:(u_ X.env scope.names []).lookup y=some c)(n:scope.names.lookup y≠some .cell):(yg X scope C).lookup y=some c:=by
 unfold yg
 rcases S.own with z | z
 ·rw[(mZ _ _ X.base z).1];exact e
 ·rw[(iP _ _ X.base z).1,fu]
  have hx:scope.names.lookup x=some .cell:=by
   have hm:(x,eD)∈scope.names.filter λy=>y.2 == .cell:=by rw[z];exact bS
   exact S.look _ (List.mem_filter.mp hm).1
  cases q:(y == x) with
  | true=>exact absurd (by rw[eq_of_beq q];exact hx) n
  | false=>exact e
theorem dB.M'(S:dB X scope x cs){C:abF}{y:Str}(h:(compEnvC scope (yg X scope C) C X.env).kindOf y=some .cell\/(compEnvC scope (yg X scope C) C X.env).kindOf y=some .free):scope.names.lookup y=some .free\/scope.names.lookup y=some .cell:=by
 have q:(compEnvC scope (yg X scope C) C X.env).kindOf y=(scope.names.lookup y).map λk=>if(k == eC&&X.env.scope.kind == .function&&X.env.kindOf y == some .cell)=true then eD else k:=mY
 rw[q] at h
 cases e:scope.names.lookup y with
 | none=>rw[e] at h;simp at h
 | some k=>
  rw[e] at h
  simp only[mL,Option.some.injEq] at h
  by_cases hk:k= .free
  ·rw[hk];exact .inl rfl
  ·have hb:(k == eC)=false:=by simpa using hk
   rw[hb] at h
   simp only[Bool.false_and,oK,if_false] at h
   rcases h with h | h
   ·rw[h];exact .inr rfl
   ·exact absurd h hk
theorem dB.Es(S:dB X scope x cs){C:abF}{y:Str}(e:scope.names.lookup y=some .free):(compEnvC scope (yg X scope C) C X.env).kindOf y=some .cell\/(compEnvC scope (yg X scope C) C X.env).kindOf y=some .free:=by
 have q:(compEnvC scope (yg X scope C) C X.env).kindOf y=(scope.names.lookup y).map λk=>if(k == eC&&X.env.scope.kind == .function&&X.env.kindOf y == some .cell)=true then eD else k:=mY
 rw[q,e]
 simp only[mL]
 split
 ·exact .inl rfl
 ·exact .inr rfl
theorem Et{fp:List abF}{tk:Nat}{E:abL->abK->Prop}(S:dB X scope x cs)(I:Inv X pins σ H s)(hf:∀b∈fp,h_ X pins H b)(hl:∀b∈fp,b < s.heap.objs.size) :
  Inv (gw X scope x cs s.heap.objs.size s H fp (X.pn++pins) E) [] (none::vb cs σ) H { s with heap:=pushCells (s.heap.push { cls:=.type "dict",data:=.dict #[] }) scope.names,toks:=tk }:=by
 have keep:∀b o,s.heap.get? b=some o->(pushCells (s.heap.push { cls:=.type "dict",data:=.dict #[] }) scope.names).get? b=some o:=λb o e=>pushCells_keeps _ _ b o (bA _ e)
 have ns:(pushCells (s.heap.push { cls:=.type "dict",data:=.dict #[] }) scope.names).Ns s.heap.objs.size λ_=>none:=(Heap.Ns.new s.heap (.type "dict")).keeps (pushCells_keeps _ _)
 have own:(scope.names.filter λy=>y.2 == .cell)=[(x,.cell)]->(pushCells (s.heap.push { cls:=.type "dict",data:=.dict #[] }) scope.names).IsCell (s.heap.objs.size+1) none:=λz=>by
  rw[(iP 0 [] _ z).2]
  have:=cJ (s.heap.push { cls:=.type "dict",data:=.dict #[] }) (o:={ cls:=.type "cell",data:=.cell none }) rfl
  rw[yw] at this
  exact⟨_,this,rfl⟩
 generalize (pushCells (s.heap.push { cls:=.type "dict",data:=.dict #[] }) scope.names)=h2 at keep ns own ⊢
 have sub:=λ{y:Str}{c:abF}(e:(yg X scope s.heap.objs.size).lookup y=some c)=>S.sub I.ok e
 have cellK:∀y c,X.env.cells.lookup y=some c->∀v,s.heap.IsCell c v->h2.IsCell c v:=λy c _ v ⟨o,ho,hd⟩=>⟨o,keep c o ho,hd⟩
 have lt:∀{y:Str}{c:abF},X.env.cells.lookup y=some c->c < s.heap.objs.size:=λ{y c} e=>by
  obtain⟨v,z⟩:=I.cell y c e
  exact z.lt
 refine⟨⟨I.ok.mod,S.kind,I.ok.glob,I.ok.blt,aC _,(λy z c e1 e2=>?_),λy h=>?_,(λy c e1 e2=>?_),I.ok.hd,I.ok.frames,.inl rfl,λb hb=>⟨bN (hl b hb),λy c e=>?_⟩,I.bs,bf I.ok.Lr I.sz,λb o e hb=>?_,λb hb=>wU I (hf b hb),I.stack,I.ux⟩,rfl,I.bare,Un.kept keep,⟨_,ns,λi y v e1 e2 e3=>?_⟩,(λy c e=>?_),I.fresh,(λy c e=>?_),λp hp=>?_,I.hok.kept keep,by unfold gw vb;simp⟩
 ·rcases sub e1 with ⟨q1,q2,_⟩ | ⟨q1,_⟩<;>rcases sub e2 with ⟨q3,q4,_⟩ | ⟨q3,_⟩
  ·rw[q2,q4]
  ·exact absurd (lt q3) (by rw[q1];exact Nat.not_lt.mpr (pI _))
  ·exact absurd (lt q1) (by rw[q3];exact Nat.not_lt.mpr (pI _))
  ·exact I.ok.inj y z c q1 q3
 ·rcases S.M' h with k | k
  ·obtain⟨c,e⟩:=pT (env:=X.env) (y:=y) (names:=scope.names) (acc:=[]) (.inr (lookup_mem k))
   exact⟨c,S.to e (by rw[k];decide)⟩
  ·obtain⟨rfl,z⟩:=S.Er k
   refine⟨s.heap.objs.size+1,?_⟩
   show(yg X scope s.heap.objs.size).lookup y=_
   unfold yg
   rw[(iP _ _ s.heap z).1,fu,beq_self_eq_true]
 ·rcases sub e2 with ⟨q1,_,_⟩ | ⟨_,q2⟩
  ·rw[q1];exact pI _
  ·exact absurd (eq_of_beq e1) q2
 ·rcases sub e with ⟨q1,_,_⟩ | ⟨q1,_⟩
  ·rw[q1];exact pH (Nat.lt_succ_of_lt (hl b hb))
  ·exact(hf b hb).2.2.2.2.1 y c q1
 ·rcases(hf b hb).2.2.2.1 with z | z
  ·exact I.ok.Ls b o e z
  ·exact absurd (br (bc e) (bf I.ok.Lr z)) (gz _)
 ·cases i with
  | zero=>cases e2
  | succ i=>
   have Q2:(cs.map (·.1))[i]? =some y:=e1
   have Tv:(vb cs σ)[i]? =some (some v):=e2
   unfold vb at Tv
   rw[fk] at Q2 Tv
   cases q:cs[i]? with
   | none=>rw[q] at Q2;cases Q2
   | some p=>
    rw[q] at Q2 Tv
    have y1:p.1=y:=by simpa using Q2
    have e4:(σ[p.2]?).getD none=some v:=by simpa using Tv
    have e5:σ[p.2]? =some (some v):=by
     cases q2:σ[p.2]? with
     | none=>rw[q2] at e4;cases e4
     | some o=>
      rw[q2] at e4
      have:o=some v:=e4
      rw[this]
    have hp:=S.at_ p (List.mem_iff_getElem?.mpr ⟨i,q⟩)
    rw[y1] at hp
    have kd:=S.cap (y,.free) (lookup_mem hp.2) rfl
    obtain⟨m,hn,hl'⟩:=I.loc
    obtain⟨u,r,l⟩:=hl' p.2 y v hp.1 e5 (.inr kd)
    refine⟨u,r,.inr ⟨S.Es hp.2,?_⟩⟩
    rcases l with ⟨l,_⟩ | ⟨_,c,e,z⟩
    ·rcases kd with kd | kd
     ·have Vd:X.env.kindOf y=some .cell:=kd
      rw[Vd] at l;cases l
     ·have Vd:X.env.kindOf y=some .free:=kd
      rw[Vd] at l;cases l
    ·obtain⟨c',e'⟩:=pT (env:=X.env) (y:=y) (names:=scope.names) (acc:=[]) (.inr (lookup_mem hp.2))
     have e6:=S.to (C:=s.heap.objs.size) e' (by rw[hp.2];decide)
     rcases sub e6 with ⟨_,w1,w2⟩ | ⟨w1,_⟩
     ·have hm:(x,eD)∈scope.names.filter λy=>y.2 == .cell:=by rw[w2];exact bS
      have:=S.look _ (List.mem_filter.mp hm).1
      rw[<-w1,hp.2] at this
      cases this
     ·rw[e] at w1
      cases w1
      exact⟨c,e6,cellK y c e _ z⟩
 ·rcases sub e with ⟨rfl,_,q2⟩ | ⟨q1,_⟩
  ·exact⟨none,own q2⟩
  ·obtain⟨v,z⟩:=I.cell y c q1
   exact⟨v,cellK y c q1 v z⟩
 ·rcases sub e with ⟨rfl,_,_⟩ | ⟨q1,_⟩
  ·exact I.hok.fresh (pI _)
  ·exact I.oN y c q1
 ·rw[jc] at hp
  obtain⟨e,n,ne,nf,d⟩:=I.pin p hp
  refine⟨keep _ _ e,n,bN (bc e),λz=>?_,d⟩
  rcases List.mem_cons.mp (I.uw p.1 z) with q | q
  ·exact ne q
  ·exact nf q
theorem Eu{fp:List abF}{E:abL->abK->Prop}{Hb He:Hp}{sb se:abK}{C:abF}{σ':St}{z_:List (abF×Obj)}(I:Inv X pins σ Hb sb)(hf:∀b∈fp,h_ X pins Hb b)(J:Inv (gw X scope x cs C sb Hb fp (X.pn++pins) E) z_ σ' He se):Inv X pins σ He se:=by
 have un:Un (frs X.stack) fp Hb He sb.heap se.heap:=J.base
 exact I.P1 (ch:=fp) J.os un J.hok J.bare λb hb=>⟨(hf b hb).2.2.2.1,(hf b hb).2.1,(hf b hb).2.2.2.2.1,λp hp=>(hf b hb).2.2.2.2.2 p hp⟩
theorem tP{He:Hp}{se:abK}{C:abF}{h2:Heap}(I:Inv X pins σ He se)(f:h_ X pins He C)(same:nN C se.heap h2):Inv X pins σ He { se with heap:=h2 } :=
 I.turned (t':=se.toks) (it:=C) (λb o hb e=>(same.2 b hb).trans e) f.1 f.2.1 f.2.2.2.1 f.2.2.2.2.1 f.2.2.2.2.2
end
def Ew(X:Cx):Prop:=∃(env:Env)(outer:List Env)(L:abF),X.stack=env::outer/\env.frame=some L/\X.env.frame=some L
section
variable {X:Cx} {pins:List (abF×Obj)} {σ:St} {scope:Scope} {x:Str} {cs:gU}
end
structure Ex(Y:Cx->Prop)(P:abJ)(w:abM)(K:PySem.W.Frag)(tg:Expr)(J:It)(fp:List abF)(it:abF)(tn:Nat->Heap->Prop):Prop where
 obj:∀i h,tn i h->∀b∈fp,∃o,h.get? b=some o/\∀v,o.data≠.cell v
 keep:∀i h h',tn i h->(∀b∈fp,∀o,h.get? b=some o->h'.get? b=some o)->tn i h'
 item:∀(X:Cx),X.prog=P->X.w=w->X.K=K->Y X->∀(i:Nat)(pins:List (abF×Obj))(s:abK)(σ:St)(H:Hp)(E:abL->abK->Prop),Inv X pins σ H s->(∀b∈fp,h_ X pins H b)->tn i s.heap->J.go i H->abY (model P w) X.A (pyNext (.ref it)) (λr s1=>∃u,r=some u/\
  abY (model P w) X.A (letOwnedTupleGo tg (.ref it) u) (λ_ s2=>∃x H',Inv X pins σ H' s2/\RelV x u/\J.CU i H x H'/\tn (i+1) s2.heap/\∀b∈fp,H' b=none) E s1) E s
 done:∀(X:Cx),X.prog=P->X.w=w->X.K=K->Y X->∀(i:Nat)(pins:List (abF×Obj))(s:abK)(σ:St)(H:Hp)(E:abL->abK->Prop),Inv X pins σ H s->(∀b∈fp,h_ X pins H b)->tn i s.heap->J.stop i H->abY (model P w) X.A (pyNext (.ref it)) (λr s1=>r=none/\Inv X pins σ H s1) E s
 self:∀(A:abG)(i:Nat)(s:abK)(Q:abL->abK->Prop)(E:abL->abK->Prop),tn i s.heap->Q (.ref it) s->abY (model P w) A (pyIter (.ref it)) Q E s
abbrev Calm(X:Cx):Prop:=X.calm=true
theorem _root_.L2.Turn.y{P:abJ}{w:abM}{K:PySem.W.Frag}{tg:Expr}{J:It}{fp:List abF}{it:abF}{tn:Nat->Heap->Prop}(T:Turn P w K tg J fp it tn):Ex Calm P w K tg J fp it tn:=⟨T.obj,T.keep,T.item,T.done,T.self⟩
def Q3(Y:Cx->Prop)(X:Cx):Prop:=∀{pins:List (abF×Obj)}{σ:St}{H:Hp}{s:abK}(scope:Scope)(x:Str)(cs:gU)(C:abF)(s0:abK)(fp:List abF)(pn:List (abF×Obj))(E:abL->abK->Prop),Inv X pins σ H s->Y (gw X scope x cs C s0 H fp pn E)
theorem wV{X:Cx}(hc:X.calm=true):Q3 Calm X:=λ_ _ _ _ _ _ _ _ _=>hc
def Kx(X:Cx)(ifs:List Expr)(g:GT):Prop:=∀(ρ:bY)(st:Hs)(σ:St)(H:Hp)(m:Mp)(Q:Bool->Hp->Prop),bZ X.K m st H->aT X.K m H ρ σ->iM X σ m H (g ρ st) Q->∀(pins:List (abF×Obj))(s:abK),Inv X pins σ H s->
 abY (model X.prog X.w) X.A (forIn ifs true λc r=>if r=true then do let ok <-isTrue c X.env (eval c X.env);pure (uk ok) else pure (uk r)) (TP X pins σ Q) X.xe s
section
variable {X:Cx}
theorem IF:Kx X [] (λ_ st=> .ok true st):=λρ st σ H m Q S R p pins s I=>wpAny_tests_nil ⟨H,I,p m H Ext.refl S⟩
theorem IG{c:Expr}{g:GT}(h:JT X c g):Kx X [c] g:=λρ st σ H m Q S R p pins s I=>wpAny_tests_one (h ρ st σ H m Q S R p pins s I)
theorem yZ{pins:List (abF×Obj)}{σ:St}{ρ:bY}{scope:Scope}{x:Str}{cs:gU}{px pos:Pos}{elt iter:Expr}{ifs:List Expr}{gt:GT}{ge:GE}{ck:Hs->Prop}{ws:List Wv}{E:abL->abK->Prop}
  {use:Option (abL->Sem Unit)}{Q:abL->abK->Prop}{res:Re Unit}
  {it:abF}{fp:List abF}{tn:Nat->Heap->Prop}{J':It}{H2:Hp}{s2:abK}{m1:Mp}{st1:Hs}{Y:Cx->Prop}(fr:Ew X)(S:dB X scope x cs)(hY:Q3 Y X)(hH:M4 X)(I2:Inv X pins σ H2 s2)(T:Ex Y X.prog X.w X.K (.Name x px) J' fp it tn)(t0:tn 0 s2.heap)(f2:∀b∈fp,h_ X pins H2 b)
  (S1:bZ X.K m1 st1 H2)(R:aT X.K m1 H2 ρ σ)(hck:ck (st1++[.lst []]))(run:oU ck (λw=>gt (some w::f_ cs ρ)) (λw=>ge (some w::f_ cs ρ)) st1.length ws (st1++[.lst []])=res)(nb:res≠.bad)(hx:∀c Zr,res≠.err c Zr)
  (hE:∀C s0 H0 pn E,BX X.A H0->JE (gw X scope x cs C s0 H0 fp pn E) elt ge)(hT:∀C s0 H0 pn E,BX X.A H0->Kx (gw X scope x cs C s0 H0 fp pn E) ifs gt)
  (hgo:∀(k:Nat)(H:Hp)(m':Mp)(st:Hs),Ext X.K m1 H2 m' H->bZ X.K m' st H->ck st->k < ws.length->J'.go k H)(hstop:∀(k:Nat)(H:Hp)(m':Mp)(st:Hs),Ext X.K m1 H2 m' H->bZ X.K m' st H->ck st->k=ws.length->J'.stop k H)
  (hy:∀(k:Nat)(hk:k < ws.length)(H:Hp)(v:V)(H':Hp)(m':Mp)(st:Hs),Ext X.K m1 H2 m' H->bZ X.K m' st H->ck st->J'.CU k H v H'->H'=H/\ao X.K m' H ws[k] v)
  (fin:∀(Ax:Hs),res= .ok () Ax->∀(D C:abF)(mm:Str->Option abL)(m':Mp)(H':Hp)(s':abK),Ext X.K m1 H2 m' H'->bZ X.K m' Ax H'->m'[st1.length]? =some D->Inv X pins σ H' s'->h_ X pins H' C->s'.heap.Ns C mm->(∀y c,X.env.cells.lookup y=some c->c≠C)->abR (model X.prog X.w) X.A X.xe use Q (.ref D) C (.ok .next) s') :
  abY (model X.prog X.w) X.A (newList []) (λacc s3=>abY (model X.prog X.w) X.A (newFunctionEnv scope X.env.globals (u_ X.env scope.names []) [] X.env.qual none .none (some X.env)) (λcenv s4=>
   abQ (model X.prog X.w) X.A (.compStart (.ListComp elt [⟨.Name x px,iter,ifs,0⟩] scope pos) 0 (.ref it) acc { cenv with scope:=relabel scope X.env }) (abR (model X.prog X.w) X.A X.xe use Q acc cenv.locals) s4) E s3) E s2:=by
 refine wpAny_newList ?_
 have I3:Inv X pins σ (upd H2 s2.heap.objs.size (.lst [])) { s2 with heap:=s2.heap.push { cls:=.type "list",data:=.seq ([]:List abL).toArray } }:=I2.Mg (ys:=[]) (its:=[]) (t':=s2.toks) .nil (cL _)
 have Q4:∀b∈fp,b < s2.heap.objs.size:=λb hb=>by
  obtain⟨o,e,_⟩:=T.obj _ _ t0 b hb
  exact bc e
 have hD:H2 s2.heap.objs.size=none:=I2.fresh
 have f3:∀b∈fp,h_ X pins (upd H2 s2.heap.objs.size (.lst [])) b:=λb hb=>⟨by rw[a9 (bN (Q4 b hb))];exact(f2 b hb).1,(f2 b hb).2⟩
 have S3:=S1.alloc (ws:=[]) (xs:=[]) hD aq.nil
 have e3:Ext X.K m1 H2 (m1++[s2.heap.objs.size]) (upd H2 s2.heap.objs.size (.lst [])):=Ext.more.trans (Ext.upd (.inl hD))
 have Tw:(m1++[s2.heap.objs.size])[st1.length]? =some s2.heap.objs.size:=by
  rw[<-S1.len,l9 (aC _),pN];rfl
 generalize Na:({ s2 with heap:=s2.heap.push { cls:=.type "list",data:=.seq ([]:List abL).toArray } }:abK)=s3 at I3
 have XT:∀b o,s2.heap.get? b=some o->s3.heap.get? b=some o:=λb o e=>by rw[<-Na];exact bA _ e
 have Ve:∀b∈fp,b < s3.heap.objs.size:=λb hb=>by
  obtain⟨o,e,_⟩:=T.obj _ _ t0 b hb
  exact bc (XT b o e)
 generalize hDD:s2.heap.objs.size=D at *
 generalize hH3:upd H2 D (.lst [])=H3 at *
 generalize hm3:m1++[D]=m3 at *
 have R3:aT X.K m3 H3 (f_ cs ρ) (vb cs σ):=(IE cs R).mono e3
 generalize hrr:f_ cs ρ=ρc at *
 generalize hss:vb cs σ=σc at *
 refine qO ?_
 have Ic:=λE=>Et (E:=E) (tk:=s3.toks) S I3 f3 Ve
 have XU:∀b o,s3.heap.get? b=some o->(pushCells (s3.heap.push { cls:=.type "dict",data:=.dict #[] }) scope.names).get? b=some o:=λb o e=>pushCells_keeps _ _ b o (bA _ e)
 generalize (pushCells (s3.heap.push { cls:=.type "dict",data:=.dict #[] }) scope.names)=h4 at Ic XU ⊢
 have t4:tn 0 h4:=T.keep _ _ _ t0 λb _ o e=>XU b o (XT b o e)
 let EX:abL->abK->Prop:=notedBy (model X.prog X.w) X.A (compEnvC scope (yg X scope s3.heap.objs.size) s3.heap.objs.size X.env) λe s'=>abR (model X.prog X.w) X.A X.xe use Q (.ref D) s3.heap.objs.size (.error e) s'
 let Xc:=gw X scope x cs s3.heap.objs.size s3 H3 fp (X.pn++pins) EX
 have noted:∀{σ':St}{m:Mp}{H:Hp}{c:Str}{st:Hs},Ext X.K m1 H2 m H->res= .err c st->Pr Xc σ' m H c st:=λ_ er=>(hx _ _ er).elim
 have vis:Loc Xc.env.scope x/\(Xc.fn x=true\/Xc.env.scope.names.lookup x=some .local):=by
  rcases S.var with v | v
  ·exact⟨.inl (lookup_relabel_local v),.inr (lookup_relabel_local v)⟩
  ·have q:Xc.env.scope.names.lookup x=some .cell:=by
    show(scope.names.map _).lookup x=_
    rw[mY,v]
    rfl
   exact⟨.inr q,.inl (by show(scope.names.lookup x == some .cell)=true;rw[v];rfl)⟩
 have Vf:∀(H':Hp),(∀b∈fp,H' b=none)->∀b∈fp,h_ Xc [] H' b:=λH' hn b hb=>⟨hn b hb,bN (Ve b hb),wU I3 (f3 b hb),.inl hb,λy c e=>(by
  rcases S.sub I3.ok e with ⟨q1,_,_⟩ | ⟨q1,_⟩
  ·rw[q1];exact pH (Nat.lt_succ_of_lt (Ve b hb))
  ·exact(f3 b hb).2.2.2.2.1 y c q1),λp hp=>(f2 b hb).2.2.2.2.2 p (by have Tz:p∈(X.pn++pins)++[]:=hp;rw[jc] at Tz;exact Tz)⟩
 let Pv:Nat->abK->Prop:=λk s'=>∃z H' st m',Inv Xc [] (z::σc) H' s'/\tn k s'.heap/\(∀b∈fp,H' b=none)/\Ext X.K m3 H3 m' H'/\bZ X.K m' st H'/\ck st/\oU ck (λw=>gt (some w::ρc)) (λw=>ge (some w::ρc)) st1.length (ws.drop k) st=res
 have loop:∀s4:abK,Pv 0 s4->abQ (model X.prog X.w) X.A (.compLoop (.ListComp elt [⟨.Name x px,iter,ifs,0⟩] scope pos) 0 (.ref it) (.ref D) (compEnvC scope (yg X scope s3.heap.objs.size) s3.heap.objs.size X.env)) (abR (model X.prog X.w) X.A X.xe use Q (.ref D) s3.heap.objs.size) s4:=λs4 p0=>by
  refine codeAny_compLoop_tests (λn s'=>∃k,n=ws.length - k/\k<=ws.length/\Pv k s') ?_ ws.length ⟨0,by simp,cL _,p0⟩
  rintro n s5 ⟨k,rfl,hk,z5,H5,Dh,m5,I5,XW,Tg,e5,S5,c5,eN⟩
  have Pz:=e3.trans e5
  by_cases hlt:k < ws.length
  ·refine bD (T.item Xc rfl rfl rfl (hY _ _ _ _ _ _ _ _ I3) k [] s5 (z5::σc) H5 _ I5 (Vf H5 Tg) XW (hgo k H5 m5 Dh Pz S5 c5 hlt)) λr s6 h6=>?_
   obtain⟨u,rfl,h6⟩:=h6
   show abY (model X.prog X.w) X.A (pure () >>= λ_=>assign (.Name x px) Xc.env u) _ _ s6
   refine abZ (bD h6 λ_ s7 h7=>?_)
   obtain⟨v,H7,I7,rv,yl,Vg,Zs⟩:=h7
   obtain⟨rfl,Zt⟩:=hy k hlt H5 v H7 m5 Dh Pz S5 c5 yl
   have Zu:=I7.pinned (Vf H7 Zs) (T.obj _ _ Vg)
   refine wpAny_assign_Name (qi (i:=0) Zu S.nd rfl vis.1 rv (λs8 I8=>?_) vis.2)
   have XX:Inv Xc ([]++gS fp s7.heap) (some v::σc) H7 s8:=I8
   have R8:aT X.K m5 H7 (some ws[k]::ρc) (some v::σc):=by
    have R5:=R3.mono e5
    refine⟨by simp[R5.len],λi w e=>?_⟩
    cases i with
    | zero=>
     cases e
     exact⟨v,rfl,Zt⟩
    | succ i=>exact R5.get i w e
   have ed:ws.drop k=ws[k]::ws.drop (k+1):=Eb hlt
   rw[ed] at eN
   unfold oU at eN
   have back:∀{H':Hp}{s':abK}{m':Mp}{st:Hs},Inv Xc ([]++gS fp s7.heap) (some v::σc) H' s'->Ext X.K m3 H3 m' H'->bZ X.K m' st H'->ck st->oU ck (λw=>gt (some w::ρc)) (λw=>ge (some w::ρc)) st1.length (ws.drop (k+1)) st=res->∃n',n' < ws.length - k/\∃k',n'=ws.length - k'/\k'<=ws.length/\Pv k' s' :=
    λ{H' s' m' st} I' e' S' c' r'=>⟨ws.length - (k+1),by omega,k+1,rfl,hlt,some v,H',st,m',I'.mO,T.keep _ _ _ Vg λb hb o e=>(I'.pin (b,o) (gA _ (gA _ (i_ hb e)))).1,λb hb=>by
     obtain⟨o,e,_⟩:=T.obj _ _ Vg b hb
     exact(I'.pin (b,o) (gA _ (gA _ (i_ hb e)))).2.1,e',S',c',r'⟩
   cases eg:gt (some ws[k]::ρc) Dh with
   | err c PB=>
    rw[eg] at eN
    refine ab2 (hT s3.heap.objs.size s3 H3 (X.pn++pins) EX (hH.at I3) (some ws[k]::ρc) Dh (some v::σc) H7 m5 (λ_ _=>False) S5 R8 (by rw[eg];exact noted Pz eN.symm) ([]++gS fp s7.heap) s8 XX) (λ_ _ h9=>?_) λ_ _ z=>z
    obtain⟨_,_,z⟩:=h9
    exact z.elim
   | bad=>rw[eg] at eN;exact absurd eN.symm nb
   | ok b PB=>
    rw[eg] at eN
    have Pw:=hT s3.heap.objs.size s3 H3 (X.pn++pins) EX (hH.at I3) (some ws[k]::ρc) Dh (some v::σc) H7 m5 (λb' H'=>b'=b/\∃m',Ext X.K m5 H7 m' H'/\bZ X.K m' PB H') S5 R8 (by rw[eg];exact λm' H' e' S'=>⟨rfl,m',e',S'⟩) ([]++gS fp s7.heap) s8 XX
    refine ab2 Pw (λok s9 h9=>?_) λ_ _ z=>z
    obtain⟨H9,I9,rfl,m9,e9,S9⟩:=h9
    cases ok with
    | false=>
     dsimp only at eN
     by_cases c6:ck PB
     ·rw[if_pos c6] at eN
      rw[if_neg bE]
      exact back I9 (e5.trans e9) S9 c6 eN
     ·rw[if_neg c6] at eN;exact absurd eN.symm nb
    | true=>
     dsimp only at eN
     rw[if_pos rfl]
     cases ee:ge (some ws[k]::ρc) PB with
     | err c TC=>
      rw[ee] at eN
      refine ab2 (hE s3.heap.objs.size s3 H3 (X.pn++pins) EX (hH.at I3) (some ws[k]::ρc) PB (some v::σc) H9 m9 (λ_ _=>False) S9 (R8.mono e9) (by rw[ee];exact noted (Pz.trans e9) eN.symm) ([]++gS fp s7.heap) s9 I9) (λ_ _ Vh=>?_) λ_ _ z=>z
      obtain⟨_,_,_,_,z⟩:=Vh
      exact z.elim
     | bad=>rw[ee] at eN;exact absurd eN.symm nb
     | ok w TC=>
      rw[ee] at eN
      dsimp only at eN
      cases ea:ji (.ref st1.length) w TC with
      | err c Vi=>rw[ea] at eN;exact absurd eN.symm nb
      | bad=>rw[ea] at eN;exact absurd eN.symm nb
      | ok w2 Vi=>
       rw[ea] at eN
       dsimp only at eN
       by_cases c8:ck Vi
       ·rw[if_pos c8] at eN
        have el:=hE s3.heap.objs.size s3 H3 (X.pn++pins) EX (hH.at I3) (some ws[k]::ρc) PB (some v::σc) H9 m9 (λv' H'=>∃m',Ext X.K m9 H9 m' H'/\bZ X.K m' TC H'/\ao X.K m' H' w v') S9 (R8.mono e9) (by rw[ee];exact λv' m' H' e' S' r'=>⟨m',e',S',r'⟩) ([]++gS fp s7.heap) s9 I9
        refine ab2 el (λu2 Zv Vh=>?_) λ_ _ z=>z
        obtain⟨v2,PC,Zw,r2,Vj,Zx,Zy,Vk⟩:=Vh
        obtain⟨r,h1,h2⟩:=En (X:=Xc)
        have eA:=(e5.trans e9).trans Zx
        have ro:ao X.K Vj PC (.ref st1.length) (.ref D):=by unfold ao;exact⟨D,rfl,eA.pre _ _ Tw⟩
        have rd:=h2 (.ref st1.length) w (.ref D) v2 TC PC Vj (λ_ H'=>∃m',Ext X.K Vj PC m' H'/\bZ X.K m' Vi H') Zy ro Vk (by rw[ea];exact λv' m' H' e' S' r'=>⟨m',e',S'⟩)
        refine ab2 (h1 ([]++gS fp s7.heap) Zv (some v::σc) PC (.ref D) [v2] (.ref D) [u2] _ Zw rfl (.cons r2 .nil) rd) (λ_ s11 h11=>?_) λ_ _ z=>z
        obtain⟨_,Vl,Zz,_,m11,ZA,ZC⟩:=h11
        exact back Zz (eA.trans ZA) ZC c8 eN
       ·rw[if_neg c8] at eN;exact absurd eN.symm nb
  ·have ek:k=ws.length:=by omega
   subst ek
   refine bD (T.done Xc rfl rfl rfl (hY _ _ _ _ _ _ _ _ I3) _ [] s5 (z5::σc) H5 _ I5 (Vf H5 Tg) XW (hstop _ H5 m5 Dh Pz S5 c5 rfl)) λr s6 h6=>?_
   obtain⟨rfl,I6⟩:=h6
   rw[Ec] at eN
   obtain⟨mm,ZD,_⟩:=id I6.loc
   have fC:=I3.Dg (H':=H5) (aC _) I6.free
   exact fin Dh eN.symm D _ mm m5 H5 _ Pz S5 (e5.pre _ _ Tw) (Eu I3 f3 I6) fC ZD fC.2.2.2.2.1
 have p0:Pv 0 { s3 with heap:=h4,toks:=s3.toks }:=⟨none,H3,st1++[Ob.lst []],m3,hss ▸ Ic EX,t4,λb hb=>(f3 b hb).1,Ext.refl,S3,hck,by rw[Ey];exact run⟩
 exact codeAny_compStart_list (loop _ p0) (T.self X.A 0 _ _ _ t4 (loop _ p0))
end
abbrev Wk:=Option Nat×List Wv
def ko(w:Wk)(st:Hs):Prop:=match w.1 with
 | some l=>aB st l=some w.2
 | none=>True
structure wW(X:Cx)(w:Wk)(m1:Mp)(H1:Hp)(J':It):Prop where
 go:∀(k:Nat)(H:Hp)(m':Mp)(st:Hs),Ext X.K m1 H1 m' H->bZ X.K m' st H->ko w st->k < w.2.length->J'.go k H
 stop:∀(k:Nat)(H:Hp)(m':Mp)(st:Hs),Ext X.K m1 H1 m' H->bZ X.K m' st H->ko w st->k=w.2.length->J'.stop k H
 CU:∀(k:Nat)(hk:k < w.2.length)(H:Hp)(v:V)(H':Hp)(m':Mp)(st:Hs),Ext X.K m1 H1 m' H->bZ X.K m' st H->ko w st->J'.CU k H v H'->H'=H/\ao X.K m' H w.2[k] v
abbrev GI:=bY->Hs->Re Wk
def Vm(Y:Cx->Prop)(X:Cx)(pins:List (abF×Obj))(σ:St)(tg:Expr)(R:It->Hp->Prop)(itv:abL)(s2:abK):Prop :=
 ∃(it:abF)(fp:List abF)(tn:Nat->Heap->Prop)(J:It)(H':Hp),itv= .ref it/\Inv X pins σ H' s2/\Ex Y X.prog X.w X.K tg J fp it tn/\tn 0 s2.heap/\(∀b∈fp,h_ X pins H' b)/\R J H'
def XY(Y:Cx->Prop)(X:Cx)(tg iter:Expr)(wi:TI):Prop:=∀(pins:List (abF×Obj))(s:abK)(σ:St)(H:Hp)(R:It->Hp->Prop),Inv X pins σ H s->wi σ H R->
 abY (model X.prog X.w) X.A (eval iter X.env) (λv s1=>abY (model X.prog X.w) X.A (pyIter v) (Vm Y X pins σ tg R) X.xe s1) X.xe s
theorem _root_.L2.PI.y{X:Cx}{tg iter:Expr}{wi:TI}(h:PI X tg iter wi):XY Calm X tg iter wi:=λpins s σ H R I q=>bD (h pins s σ H R I q) λ_ _ h1=>bD h1 λ_ _ h2=>
 let ⟨it,fp,tn,J,H',e,I',T,r⟩:=h2;⟨it,fp,tn,J,H',e,I',T.y,r⟩
def TF(Y:Cx->Prop)(X:Cx)(tg iter:Expr)(gi:GI):Prop:=∃wi,XY Y X tg iter wi/\∀(ρ:bY)(st:Hs)(σ:St)(H:Hp)(m:Mp)(R:It->Hp->Prop),bZ X.K m st H->aT X.K m H ρ σ->
 aK X σ m H (gi ρ st) (λw st1=>∀(m1:Mp)(H1:Hp)(J':It),Ext X.K m H m1 H1->bZ X.K m1 st1 H1->ko w st1->wW X w m1 H1 J'->R J' H1)->wi σ H R
def JI(X:Cx)(tg iter:Expr)(gi:GI):Prop:=∃wi,PI X tg iter wi/\∀(ρ:bY)(st:Hs)(σ:St)(H:Hp)(m:Mp)(R:It->Hp->Prop),bZ X.K m st H->aT X.K m H ρ σ->
 aK X σ m H (gi ρ st) (λw st1=>∀(m1:Mp)(H1:Hp)(J':It),Ext X.K m H m1 H1->bZ X.K m1 st1 H1->ko w st1->wW X w m1 H1 J'->R J' H1)->wi σ H R
theorem JI.y{X:Cx}{tg iter:Expr}{gi:GI}(h:JI X tg iter gi):TF Calm X tg iter gi:=let ⟨wi,h1,h2⟩:=h;⟨wi,h1.y,h2⟩
def Nb(w:Wv)(st:Hs):Re Wk:=match w with
 | .ref l=>(match aB st l with | some ws=> .ok (some l,ws) st | none=> .bad)
 | .tup ws=> .ok (none,ws) st
 | .qA ws=> .ok (none,ws) st
 | _=> .bad
def Ez(g:GE):GI:=λρ st=>(g ρ st).bind Nb
section
variable {X:Cx}
theorem Nc{tg iter:Expr}{g:GE}(h:JE X iter g):JI X tg iter (Ez g):=by
 refine⟨_,Ed a6,λρ st σ H m Q S R p=>?_⟩
 refine h.go S R (aK.bind p) λw st1 v m1 H1 p1 e1 S1 rw'=>?_
 cases w with
 | ref l=>
  unfold ao at rw'
  obtain⟨a,rfl,hla⟩:=rw'
  unfold Nb at p1
  cases el:aB st1 l with
  | none=>simp only[el] at p1;exact ae p1
  | some ws=>
   simp only[el] at p1
   obtain⟨Va,q0,_⟩:=S1.read hla el
   refine⟨a,rfl,.inl ⟨⟨Va,q0⟩,p1 m1 H1 _ e1 S1 el ⟨λk H' m' st' e S' c hk=>?_,λk H' m' st' e S' c hk=>?_,λk hk H' v XZ m' st' e S' c y=>?_⟩⟩⟩
   ·obtain⟨xs,hq,rws⟩:=S'.read (e.pre _ _ hla) c
    have hx':k < xs.length:=by rw[<-rws.length];exact hk
    exact⟨xs,xs[k],hq,by simp[hx']⟩
   ·obtain⟨xs,hq,rws⟩:=S'.read (e.pre _ _ hla) c
    exact⟨xs,hq,by rw[<-rws.length,hk];exact aC _⟩
   ·obtain⟨xs,hq,rws⟩:=S'.read (e.pre _ _ hla) c
    obtain⟨ee,y⟩:=y
    refine⟨ee,?_⟩
    obtain⟨x',ex',u6⟩:=rws.get (i:=k) (w:=ws[k]) (dJ hk)
    rw[y xs hq] at ex'
    cases ex'
    exact u6
 | tup ws=>
  unfold ao at rw'
  obtain⟨a,xs,rfl,hq,rws⟩:=rw'
  refine⟨a,rfl,.inr ⟨⟨xs,fT.of hq⟩,p1 m1 H1 _ e1 S1 trivial ⟨λk H' m' st' e S' c hk=>?_,λk H' m' st' e S' c hk=>?_,λk hk H' v XZ m' st' e S' c y=>?_⟩⟩⟩
  ·have hx':k < xs.length:=by rw[<-rws.length];exact hk
   exact⟨xs,xs[k],fT.of (e.tup _ _ hq),by simp[hx']⟩
  ·exact⟨xs,fT.of (e.tup _ _ hq),by rw[<-rws.length,hk];exact aC _⟩
  ·obtain⟨ee,y⟩:=y
   refine⟨ee,?_⟩
   obtain⟨x',ex',u6⟩:=(aq.mono e _ _ rws).get (i:=k) (w:=ws[k]) (dJ hk)
   rw[y xs (fT.of (e.tup _ _ hq))] at ex'
   cases ex'
   exact u6
 | qA ws=>
  unfold ao at rw'
  obtain⟨a,xs,rfl,hq,rws⟩:=rw'
  refine⟨a,rfl,.inr ⟨⟨xs,.inr hq⟩,p1 m1 H1 _ e1 S1 trivial ⟨λk H' m' st' e S' c hk=>?_,λk H' m' st' e S' c hk=>?_,λk hk H' v XZ m' st' e S' c y=>?_⟩⟩⟩
  ·have hx':k < xs.length:=by rw[<-rws.length];exact hk
   exact⟨xs,xs[k],.inr hq,by simp[hx']⟩
  ·exact⟨xs,.inr hq,by rw[<-rws.length,hk];exact aC _⟩
  ·obtain⟨ee,y⟩:=y
   refine⟨ee,?_⟩
   obtain⟨x',ex',u6⟩:=(aq.mono e _ _ rws).get (i:=k) (w:=ws[k]) (dJ hk)
   rw[y xs (.inr hq)] at ex'
   cases ex'
   exact u6
 | _=>exact ae p1
theorem EA{lo:Int}{n:Nat}{m1:Mp}{H1:Hp}:wW X (none,cO lo n) m1 H1 (Kc lo n) where
 go:=λk H m' st e S c hk=>by
  have:(cO lo n).length=n:=du
  have hk':k < (cO lo n).length:=hk
  rw[this] at hk';exact hk'
 stop:=λk H m' st e S c hk=>by
  have:(cO lo n).length=n:=du
  have hk':k=(cO lo n).length:=hk
  rw[this] at hk';exact mP hk'.symm
 CU:=λk hk H v H' m' st e S c y=>by
  obtain⟨y1,y2⟩:=y
  refine⟨y1,?_⟩
  have q:(cO lo n)[k]'hk= .int (lo+k):=wL hk
  show ao X.K m' H ((cO lo n)[k]'hk) v
  rw[q,y2]
  exact mkInt
def wX(ws:List Wv)(st:Hs):Re Wk:=match ws with
 | [.int j]=>if dA j then .ok (none,cO 0 j.toNat) st else .bad
 | _=> .bad
def Ay(ws:List Wv)(st:Hs):Re Wk:=match ws with
 | [.int a,.int j]=>if dA a/\dA j then .ok (none,cO a (j - a).toNat) st else .bad
 | _=> .bad
def IH(g:GA):GI:=λρ st=>(g ρ st).bind wX
def EB(g:GA):GI:=λρ st=>(g ρ st).bind Ay
theorem Q5{tg a:Expr}{ga:GA}{p q:Pos}(hg:Gl X "range")(hm:X.mg "range"=none)(ha:JA X [a] ga)(hst:abX [a] X.env=[(false,eval a X.env)]):JI X tg (.Call (.Name "range" p) [a] [] q) (IH ga):=by
 refine⟨_,tm hg hm jS hst,λρ st σ H m Q S R p=>?_⟩
 refine ha.go S R (aK.bind p) λws st1 vs m1 H1 p1 e1 S1 rs=>?_
 match ws,rs,p1 with
 | [],rs,p1=>exact ae p1
 | x::y::t,rs,p1=>cases x<;>exact ae p1
 | [x],rs,p1=>
  obtain⟨v,rfl,r1⟩:=me rs
  cases x with
  | int j=>
   cases aZ r1
   unfold wX at p1
   by_cases c:dA j
   ·simp only[if_pos c] at p1
    exact⟨j,rfl,c.1,c.2,p1 m1 H1 _ e1 S1 trivial EA⟩
   ·simp only[if_neg c] at p1;exact ae p1
  | _=>exact ae p1
theorem Q6{tg a b:Expr}{ga:GA}{p q:Pos}(hg:Gl X "range")(hm:X.mg "range"=none)(ha:JA X [a,b] ga)(hst:abX [a,b] X.env=[(false,eval a X.env),(false,eval b X.env)])(MZ:abX [b] X.env=[(false,eval b X.env)]):JI X tg (.Call (.Name "range" p) [a,b] [] q) (EB ga):=by
 refine⟨_,tq hg hm jS hst MZ,λρ st σ H m Q S R p=>?_⟩
 refine ha.go S R (aK.bind p) λws st1 vs m1 H1 p1 e1 S1 rs=>?_
 match ws,rs,p1 with
 | [],rs,p1=>exact ae p1
 | [x],rs,p1=>cases x<;>exact ae p1
 | x::y::z::t,rs,p1=>cases x<;>cases y<;>exact ae p1
 | [x,y],rs,p1=>
  obtain⟨v,v',rfl,r1,r2⟩:=wG rs
  cases x with
  | int a=>
   cases y with
   | int j=>
    cases aZ r1;cases aZ r2
    unfold Ay at p1
    by_cases c:dA a/\dA j
    ·simp only[if_pos c] at p1
     exact⟨a,j,rfl,⟨c.1.1,c.1.2,c.2.1,c.2.2⟩,p1 m1 H1 _ e1 S1 trivial EA⟩
    ·simp only[if_neg c] at p1;exact ae p1
   | _=>exact ae p1
  | _=>cases y<;>exact ae p1
def Az:GI:=λ_ _=> .bad
theorem EC{tg iter:Expr}:PI X tg iter (λ_ _ _=>False):=λ_ _ _ _ _ _ h=>h.elim
theorem y3{tg iter:Expr}:JI X tg iter Az:=⟨_,EC,λρ st σ H m Q S R p=>p⟩
def dQ(cs:gU)(gt:GT)(ge:GE)(ρ:bY)(w:Wk)(st:Hs):Re Wv:=match iO (ko w) (λv=>gt (some v::f_ cs ρ)) (λv=>ge (some v::f_ cs ρ)) st.length w.2 (st++[.lst []]) with
 | some Ax=> .ok (.ref st.length) Ax
 | none=> .bad
def iQ(cs:gU)(gi:GI)(gt:GT)(ge:GE):GE:=λρ st=>(gi ρ st).bind λw st1=>dQ cs gt ge ρ w st1
theorem BZ{st:Hs}{l:Nat}{ws:List Wv}{more:Hs}(h:aB st l=some ws):aB (st++more) l=some ws:=by
 unfold aB at h ⊢
 cases e:st[l]? with
 | none=>rw[e] at h;cases h
 | some o=>
  have hl:=(List.getElem?_eq_some_iff.mp e).1
  rw[f9 hl,e]
  rw[e] at h
  exact h
theorem qP{w:Wk}{st more:Hs}(h:ko w st):ko w (st++more):=by
 obtain⟨o,ws⟩:=w
 cases o with
 | none=>trivial
 | some l=>exact BZ h
theorem AA{scope:Scope}{x:Str}{cs:gU}{px pos:Pos}{elt iter:Expr}{ifs:List Expr}{gi:GI}{gt:GT}{ge:GE}{use:Option (abL->Sem Unit)}{Q:abL->abK->Prop}{P:Wv->Hs->Prop}
  {ρ:bY}{st:Hs}{σ:St}{H:Hp}{m:Mp}{pins:List (abF×Obj)}{s:abK}{ps:Pos}
  {Y:Cx->Prop}(fr:Ew X)(CS:dB X scope x cs)(hc:Q3 Y X)(hH:M4 X)(hi:TF Y X (.Name x px) iter gi)(hE:∀C s0 H0 fp pn E,BX X.A H0->JE (gw X scope x cs C s0 H0 fp pn E) elt ge)(hT:∀C s0 H0 fp pn E,BX X.A H0->Kx (gw X scope x cs C s0 H0 fp pn E) ifs gt)(hs:∀x,abT iter X.env x=pure x)
  (S:bZ X.K m st H)(R:aT X.K m H ρ σ)(I:Inv X pins σ H s)(p:aK X σ m H (iQ cs gi gt ge ρ st) P)
  (fin:∀(w:Wv)(Ax:Hs)(v:V)(D C:abF)(mm:Str->Option abL)(m':Mp)(H':Hp)(s':abK),P w Ax->Ext X.K m H m' H'->bZ X.K m' Ax H'->ao X.K m' H' w v->v= .ref D->Inv X pins σ H' s'->h_ X pins H' C->s'.heap.Ns C mm->abR (model X.prog X.w) X.A X.xe use Q (.ref D) C (.ok .next) s') :
  abY (model X.prog X.w) X.A (comprehension (.ListComp elt [⟨.Name x px,iter,ifs,0⟩] scope pos) scope X.env ps (newList []) false (eval iter X.env) use) Q X.xe s:=by
 obtain⟨wi,ZE,hw⟩:=hi
 let R':It->Hp->Prop:=λJ' H1=>∃(w:Wk)(st1:Hs)(m1:Mp),aK X σ m H (dQ cs gt ge ρ w st1) P/\Ext X.K m H m1 H1/\bZ X.K m1 st1 H1/\ko w st1/\wW X w m1 H1 J'
 have hr:=hw ρ st σ H m R' S R ((aK.bind p).imp Ext.refl λw st1 q m1 H1 J' e1 S1 c1 Q7=>⟨w,st1,m1,q,e1,S1,c1,Q7⟩)
 refine wpAny_comprehension_free (g:=⟨.Name x px,iter,ifs,0⟩) (gs:=[]) (cl:=u_ X.env scope.names []) rfl hs (ID (CS.has I.ok)) CS.kind (λy hy e=>by rw[CS.look y hy,e]) (bD (ZE pins s σ H R' I hr) λv s1 h1=>bD h1 λitv s2 h2=>?_)
 obtain⟨it,fp,tn,J',H1,rfl,I2,T,t0,f2,w,st1,m1,q,e1,S1,c1,Q7⟩:=h2
 unfold dQ at q
 cases run:iO (ko w) (λv=>gt (some v::f_ cs ρ)) (λv=>ge (some v::f_ cs ρ)) st1.length w.2 (st1++[.lst []]) with
 | none=>
  rw[run] at q
  exact ae q
 | some Ax=>
  rw[run] at q
  refine yZ (use:=use) (Q:=Q) fr CS hc hH I2 T t0 f2 S1 (R.mono e1) (qP c1) (qN _ _ run) (by intro z;cases z) (λc' ZF z=>by cases z) (λC s0 H0 pn E=>hE C s0 H0 fp pn E) (λC s0 H0 pn E=>hT C s0 H0 fp pn E) Q7.go Q7.stop Q7.CU ?_
  intro ZG z D C mm m' H' s' e' S' Tw I' fC ns _
  cases z
  exact fin _ Ax (.ref D) D C mm m' H' s' q (e1.trans e') S' (by unfold ao;exact⟨D,rfl,Tw⟩) rfl I' fC ns
theorem AB{scope:Scope}{x:Str}{cs:gU}{px pos:Pos}{elt iter:Expr}{ifs:List Expr}{gi:GI}{gt:GT}{ge:GE}
  {Y:Cx->Prop}(fr:Ew X)(CS:dB X scope x cs)(hc:Q3 Y X)(hH:M4 X)(hi:TF Y X (.Name x px) iter gi)(hE:∀C s0 H0 fp pn E,BX X.A H0->JE (gw X scope x cs C s0 H0 fp pn E) elt ge)(hT:∀C s0 H0 fp pn E,BX X.A H0->Kx (gw X scope x cs C s0 H0 fp pn E) ifs gt)(hs:∀x,abT iter X.env x=pure x) :
  JE X (.ListComp elt [⟨.Name x px,iter,ifs,0⟩] scope pos) (iQ cs gi gt ge):=λρ st σ H m Q S R p pins s I=>by
 rw[eval_ListComp]
 refine AA (use:=none) fr CS hc hH hi hE hT hs S R I p ?_
 intro w Ax v D C mm m' H' s' q e' S' rw' ev I' fC ns
 exact⟨mm,ns,λh' same=>⟨.ref D,H',tP I' fC same,rfl,ev ▸ q v m' H' e' S' rw'⟩⟩
theorem II(i:Nat){scope:Scope}{x y:Str}{cs:gU}{px pos spos py:Pos}{elt iter:Expr}{ifs:List Expr}{gi:GI}{gt:GT}{ge:GE}(hN:X.N.Nodup)
  {Y:Cx->Prop}(fr:Ew X)(CS:dB X scope x cs)(hc:Q3 Y X)(hH:M4 X)(hi:TF Y X (.Name x px) iter gi)(hE:∀C s0 H0 fp pn E,BX X.A H0->JE (gw X scope x cs C s0 H0 fp pn E) elt ge)(hT:∀C s0 H0 fp pn E,BX X.A H0->Kx (gw X scope x cs C s0 H0 fp pn E) ifs gt)(hs:∀x,abT iter X.env x=pure x)
  (hx:X.N[i]? =some y)(hl:Loc X.env.scope y)(hf:X.fn y=true\/X.env.scope.names.lookup y=some .local) :
  JS X (.Assign [.Name y py] (.ListComp elt [⟨.Name x px,iter,ifs,0⟩] scope pos) spos) (bB i (iQ cs gi gt ge)):=by
 have sw:∃b,swapsWith (.ListComp elt [⟨.Name x px,iter,ifs,0⟩] scope pos) (some (.Name y py)) spos.line X.env=pure b:=⟨_,rfl⟩
 obtain⟨b,sw⟩:=sw
 cases b with
 | false=>exact yU i hN (AB fr CS hc hH hi hE hT hs) hx hl sw hf
 | true=>
  intro ρ st σ H m D S R p pins s I
  rw[exec_Assign_Name_used _ _ _ _ sw]
  refine abZ (wpAny_standAt (abZ ?_))
  show abY _ X.A (do let _ <-comprehension (.ListComp elt [⟨.Name x px,iter,ifs,0⟩] scope pos) scope X.env _ (newList []) false (eval iter X.env) (some (assign (.Name y py) X.env))) _ _ s
  refine abZ (ab2 (AA (use:=some (assign (.Name y py) X.env)) (Q:=λ_ s'=>SP X pins D .next s') fr CS hc hH hi hE hT hs S R I (ba.cS R p) ?_) (λ_ s' hq=>ab4 (ab4 hq)) λ_ _ e=>e)
  intro w Ax v D' C mm m' H' s' q e' S' rw' ev I' fC ns
  refine wpAny_assign_Name (sZ (i:=i) I' hN hx hl (show RelV v (.ref D') by rw[ev];rfl) (λs2 I2 h2=>?_) hf)
  obtain⟨a,sb,ha⟩:=h2
  have hca:C≠a:=by
   rcases ha with z | z
   ·rw[z];exact fC.2.1
   ·exact bo (fC.2.2.2.2.1 y a z)
  exact⟨mm,ns.sameBut sb hca,λh' same=>⟨_,_,tP I2 fC same,q _ m' H' e' S' ((R.mono e').set i rw')⟩⟩
end
section
variable {X:Cx}
def Nd(n:Nat)(k:Int):Prop:=-(2 ^ 62)<=k/\k < 2 ^ 62/\n * k.toNat<=lim
instance {n k}:Decidable (Nd n k):=Ee _
def qQ:gT
 | .ref l,.int n,st=>match st[l]? with
  | some (.lst ws)=>if Nd ws.length n then .ok (.ref st.length) (st++[.lst (aS n.toNat ws).flatten]) else .bad
  | _=> .bad
 | x,y,st=>D8 x y st
theorem nX{K:PySem.W.Frag}{m:Mp}{H:Hp}{ws:List Wv}{xs:List V}(r:aq K m H ws xs):∀n:Nat,aq K m H (aS n ws).flatten (aS n xs).flatten
 | 0=>aq.nil
 | n+1=>by
  rw[ig,qu,ig,qu]
  exact r.append (nX r n)
theorem IJ:jY X (abO .Mult) qQ:=by
 obtain⟨r,h1,h2⟩:=Iv (X:=X)
 refine⟨_,fh.or Mh h1,λx y a b st H m Q S rx ry p=>?_⟩
 unfold qQ at p
 split at p
 ·rename_i l n
  unfold ao at rx
  obtain⟨a1,rfl,hl⟩:=rx
  cases aZ ry
  cases e:st[l]? with
  | none=>rw[e] at p;exact ae p
  | some o=>
   cases o with
   | dct kvs=>rw[e] at p;exact ae p
   | nL kvs=>rw[e] at p;exact ae p
   | Am kvs=>rw[e] at p;exact ae p
   | CW kvs=>rw[e] at p;exact ae p
   | nM kvs=>rw[e] at p;exact ae p
   | ins _ _=>rw[e] at p;exact ae p
   | sh ns=>rw[e] at p;exact ae p
   | lst ws=>
    rw[e] at p
    dsimp only at p
    by_cases c:Nd ws.length n
    ·rw[if_pos c] at p
     obtain⟨xs,q1,q2⟩:=S.qB hl e
     refine .inl ⟨a1,n,xs,rfl,rfl,q1,by have:=c.1;omega,by have:=c.2.1;omega,by rw[<-q2.length];exact eL c.2.2,λq hq=>?_⟩
     exact iN p Ext.refl S (nX q2 n.toNat) q hq
    ·rw[if_neg c] at p;exact ae p
 ·exact .inr (h2 x y a b st H m Q S rx ry p)
def qR:List Wv->Hs->Re Wv
 | [.ref l],st=>match aB st l with
  | some ws=> .ok (.ref st.length) (st++[.lst ws])
  | none=> .bad
 | [.tup ws],st=> .ok (.ref st.length) (st++[.lst ws])
 | _,_=> .bad
theorem IK:dc X (.type "list") qR:=⟨_,uN,λws vs st H m Q S rs p=>by
 match ws,rs,p with
 | [],rs,p=>exact ae p
 | x::y::t,rs,p=>cases x<;>exact ae p
 | [x],rs,p=>
  obtain⟨v,rfl,r1⟩:=me rs
  cases x with
  | ref l=>
   unfold qR at p
   unfold ao at r1
   obtain⟨a,rfl,hl⟩:=r1
   cases e:aB st l with
   | none=>simp only[e] at p;exact ae p
   | some ws=>
    simp only[e] at p
    obtain⟨xs,q1,q2⟩:=S.read hl e
    exact⟨a,xs,rfl,.inl q1,λq hq=>iN p Ext.refl S q2 q hq⟩
  | tup ws=>
   unfold ao at r1
   obtain⟨a,xs,rfl,q1,q2⟩:=r1
   exact⟨a,xs,rfl,.inr (fT.of q1),λq hq=>iN p Ext.refl S q2 q hq⟩
  | _=>exact ae p⟩
def qS:List Wv->Hs->Re Wv
 | [.ref l],st=>match aB st l with
  | some ws=> .ok (.tup ws) st
  | none=> .bad
 | [.tup ws],st=> .ok (.tup ws) st
 | _,_=> .bad
theorem Nf:dc X (.type "tuple") qS:=⟨_,sy,λws vs st H m Q S rs p=>by
 match ws,rs,p with
 | [],rs,p=>exact ae p
 | x::y::t,rs,p=>cases x<;>exact ae p
 | [x],rs,p=>
  obtain⟨v,rfl,r1⟩:=me rs
  cases x with
  | ref l=>
   unfold qS at p
   unfold ao at r1
   obtain⟨a,rfl,hl⟩:=r1
   cases e:aB st l with
   | none=>simp only[e] at p;exact ae p
   | some ws=>
    simp only[e] at p
    obtain⟨xs,q1,q2⟩:=S.read hl e
    refine⟨a,xs,rfl,.inl ⟨q1,λq hq=>?_⟩⟩
    have e2:Ext X.K m H m (upd H q (.tup xs)):=Ext.upd (.inl hq)
    exact p (.ref q) m _ e2 (S.fresh hq) (by unfold ao;exact⟨q,xs,rfl,bC,aq.mono e2 _ _ q2⟩)
  | tup ws=>
   have r1':=r1
   unfold ao at r1'
   obtain⟨a,xs,rfl,q1,q2⟩:=r1'
   exact⟨a,xs,rfl,.inr ⟨fT.of q1,p _ m H Ext.refl S r1⟩⟩
  | _=>exact ae p⟩
end
end J
namespace JL
open PySem PyProof.Rows
def Ik(p:ab6):Prop:=∃n t,p.1=ie n t
def kn(p:ab6):Int:=numOf p.1
section
variable {prog:abJ} {w:abM} {A:abG} {E:abL->abK->Prop} {s:abK}
def gp(left:Bool)(key:ab6)(arr:Array ab6)(base i:Nat):Bool:=if left then decide (K arr (base+i) < kn key) else !decide (kn key < K arr (base+i))
end
section
variable {α:Type} {f:α->Int} {A B:List α}
end
section
variable {prog:abJ} {w:abM} {A:abG} {E:abL->abK->Prop} {s:abK}
end
section
variable {α:Type} {f:α->Int} {A B:List α}
theorem drop_take{i n:Nat}(h:i<=n):A.drop i=(A.take n).drop i++A.drop n:=by
 have h1:=IL n A
 have h2:=congrArg (List.drop i) h1
 rw[List.drop_append] at h2
 rw[<-h2]
 by_cases c:n<=A.length
 ·rw[ql,Nat.min_eq_left c,IM h,Ey]
 ·rw[Ng (show A.length<=n by exact Nat.le_of_not_le ‹_›),List.drop_nil]
end
theorem vc{a:Array ab6}(i n:Nat):(a.extract i n).toList=(a.toList.take n).drop i:=by
 rw[Q8,Nh,List.drop_take]
section
variable {prog:abJ} {w:abM} {A:abG} {E:abL->abK->Prop} {s:abK}
end
section
variable {prog:abJ} {w:abM} {A₀:abG} {E:abL->abK->Prop} {s:abK}
end
section
variable {prog:abJ} {w:abM} {A:abG} {E:abL->abK->Prop} {s:abK} {P:Array (Nat×Nat×Nat)} {g:Nat}
end
section
variable {prog:abJ} {w:abM} {A:abG} {E:abL->abK->Prop} {s:abK} {P:Array (Nat×Nat×Nat)} {g:Nat}
end
section
variable {prog:abJ} {w:abM} {A₀:abG} {E:abL->abK->Prop} {s:abK}
end
section
variable {prog:abJ} {w:abM} {A₀:abG} {E:abL->abK->Prop} {s:abK}
end
section
variable {prog:abJ} {w:abM} {A:abG} {E:abL->abK->Prop} {s:abK}
end
end JL
namespace J
open PySem PySem.Spec PyProof.Rows L2
section
variable {X:Cx}
def intsOf:List Wv->Option (List Int)
  | []=>some []
  | .int b::r=>(match intsOf r with | some l=>some (b::l) | none=>none)
  | _=>none
theorem jj:∀ns:List Int,intsOf (ns.map Wv.int)=some ns
  | []=>rfl
  | n::r=>by rw[bw];unfold intsOf;rw[jj r]
theorem jk{K:PySem.W.Frag}{m:Mp}{H:Hp}:∀{ws:List Wv}{xs:List V}{bs:List Int},aq K m H ws xs->intsOf ws=some bs->xs=bs.map V.int
  | [],xs,bs,r,h=>by
    unfold aq at r
    cases h
    exact r
  | w::ws,xs,bs,r,h=>by
    unfold aq at r
    obtain⟨x,t,rfl,r1,r2⟩:=r
    cases w with
    | int b=>
      unfold intsOf at h
      cases e:intsOf ws with
      | none=>rw[e] at h;cases h
      | some l=>
        rw[e] at h
        cases h
        unfold ao at r1
        rw[r1,jk r2 e]
        rfl
    | _=>cases h
theorem m6:∀{ns:List Int}{its:List abL},Vals (ns.map V.int) its->∃xs:List (Int×Tok),its=xs.map (λp=>ie p.1 p.2)/\xs.map (·.1)=ns
  | [],its,r=>by cases r;exact⟨[],rfl,rfl⟩
  | n::ns,its,r=>by
    cases r with
    | cons h t=>
      obtain⟨tk,rfl⟩:=h
      obtain⟨xs,e1,e2⟩:=m6 t
      exact⟨(n,tk)::xs,by rw[e1];rfl,by rw[<-e2];rfl⟩
theorem nY(xs:List (Int×Tok))(i:Nat):numAt xs.toArray i=(xs.map (·.1)).getD i 0:=by
  unfold numAt
  rw[List.getElem?_toArray,y6,fk]
theorem qT(xs:List (Int×Tok)):∀k,preSum (numAt xs.toArray) k=((xs.map (·.1)).take k).sum
  | 0=>by simp[preSum]
  | k+1=>by
    unfold preSum
    rw[qT xs k,nY]
    rw[PySem.sum_take_succ]
theorem B0(hc:X.calm=true):dq X (.builtin "sum") (λxs H Q=>∃(p:abF)(ns:List Int),xs=[.ref p]/\lX X.K H p (ns.map V.int)/\Q (.int ns.sum) H):=by
  intro pins s σ H xs us Q I r h
  obtain⟨p,ns,rfl,hq,q⟩:=h
  obtain⟨u,rfl,rx⟩:=vals1 r
  cases rx
  obtain⟨its,r',pl,hz⟩:=I.list hq
  obtain⟨xs,rfl,rfl⟩:=m6 r'
  have hl:=pl.isList
  have e:(xs.map λp=>ie p.1 p.2).toArray=intItems xs.toArray:=by unfold intItems;simp
  rw[e] at hl
  refine sum_intListG (I.ok.hd hc) hl λh' tk t' hk=>⟨.int _,H,I.kept hk,⟨t',?_⟩,q⟩
  rw[qT,IP (by simp)]
def B1:List Wv->Hs->Re Wv
  | [.ref l],st=>match aB st l with
    | some ws=>(match intsOf ws with | some ns=> .ok (.int ns.sum) st | none=> .bad)
    | none=> .bad
  | _,_=> .bad
theorem Ni(hc:X.calm=true):dc X (.builtin "sum") B1:=⟨_,B0 hc,λws vs st H m Q S rs p=>by
  match ws,rs,p with
  | [],rs,p=>exact ae p
  | x::y::t,rs,p=>cases x<;>exact ae p
  | [x],rs,p=>
    obtain⟨v,rfl,r1⟩:=me rs
    cases x with
    | ref l=>
      unfold B1 at p
      unfold ao at r1
      obtain⟨a,rfl,hl⟩:=r1
      cases e:aB st l with
      | none=>simp only[e] at p;exact ae p
      | some ws=>
        simp only[e] at p
        cases e2:intsOf ws with
        | none=>simp only[e2] at p;exact ae p
        | some bs=>
          simp only[e2] at p
          obtain⟨xs,q1,q2⟩:=S.read hl e
          have q3:=jk q2 e2
          subst q3
          exact⟨a,bs,rfl,q1,p _ m H Ext.refl S mkInt⟩
    | _=>exact ae p⟩
def B2(n:Int)(r:List Int):Int:=r.foldl (λa b=>if b > a then b else a) n
def B3(n:Int)(r:List Int):Int:=r.foldl (λa b=>if b < a then b else a) n
theorem ED:∀(r:List Int)(n:Int),B2 n r∈n::r/\∀a∈n::r,a<=B2 n r
  | [],n=>by simp[B2]
  | b::r,n=>by
    have e:B2 n (b::r)=B2 (if b > n then b else n) r:=rfl
    obtain⟨h1,h2⟩:=ED r (if b > n then b else n)
    rw[e]
    constructor
    · rcases List.mem_cons.mp h1 with z | z
      · rw[z];split<;>simp
      · simp[z]
    · intro a ha
      have hn:n<=B2 (if b > n then b else n) r/\b<=B2 (if b > n then b else n) r:=by
        have q:=h2 _ bS
        revert q
        split<;>intro q<;>constructor<;>omega
      rcases List.mem_cons.mp ha with z | z
      · rw[z];exact hn.1
      · rcases List.mem_cons.mp z with z | z
        · rw[z];exact hn.2
        · exact h2 a (bq _ z)
theorem EE:∀(r:List Int)(n:Int),B3 n r∈n::r/\∀a∈n::r,B3 n r<=a
  | [],n=>by simp[B3]
  | b::r,n=>by
    have e:B3 n (b::r)=B3 (if b < n then b else n) r:=rfl
    obtain⟨h1,h2⟩:=EE r (if b < n then b else n)
    rw[e]
    constructor
    · rcases List.mem_cons.mp h1 with z | z
      · rw[z];split<;>simp
      · simp[z]
    · intro a ha
      have hn:B3 (if b < n then b else n) r<=n/\B3 (if b < n then b else n) r<=b:=by
        have q:=h2 _ bS
        revert q
        split<;>intro q<;>constructor<;>omega
      rcases List.mem_cons.mp ha with z | z
      · rw[z];exact hn.1
      · rcases List.mem_cons.mp z with z | z
        · rw[z];exact hn.2
        · exact h2 a (bq _ z)
theorem Q9{n M:Int}{r:List Int}(h:M∈n::r)(k:∀a∈n::r,a<=M):M=B2 n r:=by
  obtain⟨h1,h2⟩:=ED r n
  have:=h2 M h
  have:=k _ h1
  omega
theorem Q_{n M:Int}{r:List Int}(h:M∈n::r)(k:∀a∈n::r,M<=a):M=B3 n r:=by
  obtain⟨h1,h2⟩:=EE r n
  have:=h2 M h
  have:=k _ h1
  omega
theorem tQ{l:List Int}{i:Nat}(h:i < l.length):l.getD i 0∈l:=by
  rw[y6,dJ h]
  exact List.getElem_mem h
theorem B4(hc:X.calm=true):dq X (.builtin "max") (λxs H Q=>∃(p:abF)(n:Int)(ns:List Int),xs=[.ref p]/\lX X.K H p ((n::ns).map V.int)/\Q (.int (B2 n ns)) H):=by
  intro pins s σ H xs us Q I r h
  obtain⟨p,n,ns,rfl,hq,q⟩:=h
  obtain⟨u,rfl,rx⟩:=vals1 r
  cases rx
  obtain⟨its,r',pl,hz⟩:=I.list hq
  obtain⟨xs,rfl,e0⟩:=m6 r'
  have hl:=pl.isList
  have e:(xs.map λp=>ie p.1 p.2).toArray=intItems xs.toArray:=by unfold intItems;simp
  rw[e] at hl
  have hsz:xs.length=(n::ns).length:=by rw[<-e0];simp
  have hs0:0 < xs.toArray.size:=by simp[hsz]
  refine max_intList (I.ok.hd hc) hl hs0 λv h' tk hv hk=>?_
  obtain⟨t,rfl⟩:=intItems_at hv
  obtain⟨h1,h2⟩:=PySem.argBest_gt (numAt xs.toArray) (xs.toArray.size - 1)
  refine⟨.int _,H,I.kept hk,⟨t,?_⟩,q⟩
  congr 1
  have hn:=λi=>nY xs i
  rw[e0] at hn
  refine Q9 ?_ λa ha=>?_
  · rw[hn]
    refine tQ ?_
    have:xs.toArray.size=(n::ns).length:=by simp[hsz]
    omega
  · obtain⟨j,hj,rfl⟩:=List.mem_iff_getElem.mp ha
    have q2 := h2 j (by have : xs.toArray.size = (n :: ns).length := by simp [hsz]
                        omega)
    rw[hn j,y6,dJ hj] at q2
    exact q2
theorem B5(hc:X.calm=true):dq X (.builtin "min") (λxs H Q=>∃(p:abF)(n:Int)(ns:List Int),xs=[.ref p]/\lX X.K H p ((n::ns).map V.int)/\Q (.int (B3 n ns)) H):=by
  intro pins s σ H xs us Q I r h
  obtain⟨p,n,ns,rfl,hq,q⟩:=h
  obtain⟨u,rfl,rx⟩:=vals1 r
  cases rx
  obtain⟨its,r',pl,hz⟩:=I.list hq
  obtain⟨xs,rfl,e0⟩:=m6 r'
  have hl:=pl.isList
  have e:(xs.map λp=>ie p.1 p.2).toArray=intItems xs.toArray:=by unfold intItems;simp
  rw[e] at hl
  have hsz:xs.length=(n::ns).length:=by rw[<-e0];simp
  have hs0:0 < xs.toArray.size:=by simp[hsz]
  refine min_intList (I.ok.hd hc) hl hs0 λv h' tk hv hk=>?_
  obtain⟨t,rfl⟩:=intItems_at hv
  obtain⟨h1,h2⟩:=PySem.argBest_lt (numAt xs.toArray) (xs.toArray.size - 1)
  refine⟨.int _,H,I.kept hk,⟨t,?_⟩,q⟩
  congr 1
  have hn:=λi=>nY xs i
  rw[e0] at hn
  refine Q_ ?_ λa ha=>?_
  · rw[hn]
    refine tQ ?_
    have:xs.toArray.size=(n::ns).length:=by simp[hsz]
    omega
  · obtain⟨j,hj,rfl⟩:=List.mem_iff_getElem.mp ha
    have q2 := h2 j (by have : xs.toArray.size = (n :: ns).length := by simp [hsz]
                        omega)
    rw[hn j,y6,dJ hj] at q2
    exact q2
def oV:List Wv->Hs->Re Wv
  | [.ref l],st=>match aB st l with
    | some ws=>(match intsOf ws with | some (n::r)=> .ok (.int (B2 n r)) st | _=> .bad)
    | none=> .bad
  | ws,st=>Q0 ws st
def oW:List Wv->Hs->Re Wv
  | [.ref l],st=>match aB st l with
    | some ws=>(match intsOf ws with | some (n::r)=> .ok (.int (B3 n r)) st | _=> .bad)
    | none=> .bad
  | ws,st=>Q1 ws st
theorem dc.or{f:abL}{op op':List Wv->Hs->Re Wv}(g:List Wv->Hs->Re Wv)(h:dc X f op)(h':dc X f op')(k:∀ws st,g ws st=op ws st\/g ws st=op' ws st):dc X f g:=by
  obtain⟨r,h1,h2⟩:=h
  obtain⟨r',Kk,h2'⟩:=h'
  refine⟨_,h1.or Kk,λws vs st H m Q S rs p=>?_⟩
  rcases k ws st with e | e
  · rw[e] at p;exact .inl (h2 ws vs st H m Q S rs p)
  · rw[e] at p;exact .inr (h2' ws vs st H m Q S rs p)
def EF:List Wv->Hs->Re Wv
  | [.ref l],st=>match aB st l with
    | some ws=>(match intsOf ws with | some (n::r)=> .ok (.int (B2 n r)) st | _=> .bad)
    | none=> .bad
  | _,_=> .bad
def EG:List Wv->Hs->Re Wv
  | [.ref l],st=>match aB st l with
    | some ws=>(match intsOf ws with | some (n::r)=> .ok (.int (B3 n r)) st | _=> .bad)
    | none=> .bad
  | _,_=> .bad
theorem IQ(hc:X.calm=true):dc X (.builtin "max") EF:=⟨_,B4 hc,λws vs st H m Q S rs p=>by
  match ws,rs,p with
  | [],rs,p=>exact ae p
  | x::y::t,rs,p=>cases x<;>exact ae p
  | [x],rs,p=>
    obtain⟨v,rfl,r1⟩:=me rs
    cases x with
    | ref l=>
      unfold EF at p
      unfold ao at r1
      obtain⟨a,rfl,hl⟩:=r1
      cases e:aB st l with
      | none=>simp only[e] at p;exact ae p
      | some ws=>
        simp only[e] at p
        cases e2:intsOf ws with
        | none=>simp only[e2] at p;exact ae p
        | some bs=>
          cases bs with
          | nil=>simp only[e2] at p;exact ae p
          | cons n bs=>
            simp only[e2] at p
            obtain⟨xs,q1,q2⟩:=S.read hl e
            have q3:=jk q2 e2
            subst q3
            exact⟨a,n,bs,rfl,q1,p _ m H Ext.refl S mkInt⟩
    | _=>exact ae p⟩
theorem IS(hc:X.calm=true):dc X (.builtin "min") EG:=⟨_,B5 hc,λws vs st H m Q S rs p=>by
  match ws,rs,p with
  | [],rs,p=>exact ae p
  | x::y::t,rs,p=>cases x<;>exact ae p
  | [x],rs,p=>
    obtain⟨v,rfl,r1⟩:=me rs
    cases x with
    | ref l=>
      unfold EG at p
      unfold ao at r1
      obtain⟨a,rfl,hl⟩:=r1
      cases e:aB st l with
      | none=>simp only[e] at p;exact ae p
      | some ws=>
        simp only[e] at p
        cases e2:intsOf ws with
        | none=>simp only[e2] at p;exact ae p
        | some bs=>
          cases bs with
          | nil=>simp only[e2] at p;exact ae p
          | cons n bs=>
            simp only[e2] at p
            obtain⟨xs,q1,q2⟩:=S.read hl e
            have q3:=jk q2 e2
            subst q3
            exact⟨a,n,bs,rfl,q1,p _ m H Ext.refl S mkInt⟩
    | _=>exact ae p⟩
theorem IT(hc:X.calm=true):dc X (.builtin "max") oV:=dc.or oV (IQ hc) (M9 hc) λws st=>by
  unfold oV EF
  split
  · exact .inl rfl
  · exact .inr rfl
theorem IU(hc:X.calm=true):dc X (.builtin "min") oW:=dc.or oW (IS hc) (M_ hc) λws st=>by
  unfold oW EG
  split
  · exact .inl rfl
  · exact .inr rfl
end
section
variable {X:Cx}
theorem tR{z:PySem.Str}:aY z=true↔∀c∈z.cps.toList,c < 1114112:=by
 unfold aY
 rw[Ks]
 constructor
 ·intro h c hc
  simpa using h c (Array.mem_toList_iff.mp hc)
 ·intro h c hc
  simpa using h c (Array.mem_toList_iff.mpr hc)
end
section
variable {X:Cx}
theorem Nj:GV X (λx lo hi H Q=>∃z,x= .str z/\z.length<=abW/\Q (.str (lu z lo hi)) H):=by
 intro pins s σ H x v vl vu lo hi sl Q I rx hs pl pu h
 obtain⟨z,rfl,hz,q⟩:=h
 obtain⟨t,rfl⟩:=rx
 have fin:∀t' k,EP X pins σ Q (.str (lu z lo hi) t') { s with toks:=k }:=λt' k=>⟨.str _,H,I.tok k,⟨t',rfl⟩,q⟩
 refine⟨"str",_,PySem.F.slot_str_getitem.lookup,typeIs_str _ _ _,?_⟩
 have hl:=bf (Txt.slice_le z lo hi) hz
 cases pl with
 | none=>
  cases pu with
  | none=>exact wpAny_getItem_str_slice (l:=none) (u:=none) (st:=none) hs rfl (post_val_or_str ⟨hl,fin⟩)
  | int j tj=>exact wpAny_getItem_str_slice (l:=none) (u:=some (j,tj)) (st:=none) hs rfl (post_val_or_str ⟨hl,fin⟩)
 | int i ti=>
  cases pu with
  | none=>exact wpAny_getItem_str_slice (l:=some (i,ti)) (u:=none) (st:=none) hs rfl (post_val_or_str ⟨hl,fin⟩)
  | int j tj=>exact wpAny_getItem_str_slice (l:=some (i,ti)) (u:=some (j,tj)) (st:=none) hs rfl (post_val_or_str ⟨hl,fin⟩)
theorem B6{z:PySem.Str}{lo hi:Option Int}{c:Nat}(h:c∈(lu z lo hi).cps.toList):c∈z.cps.toList:=by
 unfold lu at h
 split at h
 ·exact h
 ·simp only[List.mem_filterMap] at h
  obtain⟨i,_,e⟩:=h
  rw[Array.getElem?_eq_some_iff] at e
  obtain⟨hi,rfl⟩:=e
  exact Array.mem_toList_iff.mpr (Array.getElem_mem hi)
theorem wY{z:PySem.Str}{lo hi:Option Int}(h:aY z=true):aY (lu z lo hi)=true:=by
 rw[tR] at h ⊢
 exact λc hc=>h c (B6 hc)
end
section
open HT
theorem sE{prog:abJ}{w:abM}{A:abG}{E:abL->abK->Prop}{s:abK}{t sl:abF}{us:Array abL}{vl vu:abL}{lo hi:Option Int}{Q:abL->abK->Prop}(ht:IsTup s.heap t us)(hs:s.heap.IsSliceOf sl vl vu .none)(pl:IsPart vl lo)(pu:IsPart vu hi)
  (hw:dD us.size 0 lo=0/\dD us.size us.size hi=us.size)(h:Q (.ref t) s):abY (model prog w) A (getItem (.ref t) (.ref sl)) Q E s:=by
 obtain⟨os,o1,o2,o3⟩:=id hs
 have tys:s.TypeIs (.ref sl) "slice":=⟨os,o1,o2⟩
 unfold getItem;try with_reducible refine ab1 ?_
 first | refine abZ (ab4 ?_) | skip
 refine abZ (wpAny_sequenceKey ht.typeIs (by decide) ?_);refine abZ (wpAny_callSpecial?_slot (name:=pK "__getitem__") ht.typeIs uF (wpAny_call_entry uF ht.typeIs entry_tuple_getitem ?_ (args_tuple_getitem _ _)))
 show abY _ _ (yh (.ref t) >>= _) _ _ _;refine abZ (tupleItemsOf_ ht ?_);refine abZ (wpAny_typeOf tys ?_)
 rw[if_pos (by decide)];refine abZ (iL hs pl pu ?_)
 rw[hw.1,hw.2]
 have yes:((((0:Nat):Int)) == 0&&(1:Int) == 1&&(us.size - 0) == us.size)=true:=by simp
 show abY _ _ (if((((0:Nat):Int)) == 0&&(1:Int) == 1&&(us.size - 0) == us.size)=true then _ else _) _ _ s
 rw[if_pos yes]
 refine abZ (m:=Nk _) ?_
 unfold Nk
 refine abZ (wpAny_typeOf ht.typeIs (ab4 ?_))
 rw[if_pos (by decide)]
 exact abZ (wpAny_rule (ab4 ⟨_,rfl,ab4 h⟩))
end
section
variable {X:Cx}
def Vn(K:PySem.W.Frag):V->Option Int->Option Int->Hp->VK->Prop:=λx lo hi H Q=>∃a xs,x= .ref a/\fT K H a xs/\(HT.dD xs.length 0 lo=0/\HT.dD xs.length xs.length hi=xs.length)/\Q (.ref a) H
theorem EH:GV X (Vn X.K):=by
 intro pins s σ H x v vl vu lo hi sl Q I rx hs pl pu h
 obtain⟨a,xs,rfl,hx,hw,q⟩:=h
 cases rx
 obtain⟨its,r,ht,hz⟩:=I.tuple hx
 have n:its.toArray.size=xs.length:=by rw[a7];exact r.length.symm
 exact⟨"tuple",_,PyProof.Rows.slot_tuple_getitem.lookup,ht.typeIs,sE ht hs pl pu (by rw[n];exact hw) ⟨.ref a,H,I,rfl,q⟩⟩
def mf(n:Nat)(lo hi:Option Int):Prop:=HT.dD n 0 lo=0/\HT.dD n n hi=n
instance {n:Nat}{lo hi:Option Int}:Decidable (mf n lo hi):=inferInstanceAs (Decidable (HT.dD n 0 lo=0/\HT.dD n n hi=n))
def B7(x:Wv)(lo hi:Option Int)(st:Hs):Re Wv:=match x with
 | .str z=>if z.length<=lim then .ok (.str (lu z lo hi)) st else .bad
 | .tup ws=>if mf ws.length lo hi then .ok (.tup ws) st else Px (.tup ws) lo hi st
 | x=>Px x lo hi st
def gE(ga:GE)(gl gh:GO):GE:=λρ st=>(ga ρ st).bind λx st1=>(gl ρ st1).bind λlo st2=>(gh ρ st2).bind λhi st3=>B7 x lo hi st3
theorem B8{a:Expr}{lo hi:Option Expr}{ga:GE}{gl gh:GO}{pos p2:Pos}(ha:JE X a ga)(hl:JO X lo gl)(hh:JO X hi gh):JE X (.Subscript a (.Slice lo hi none p2) pos) (gE ga gl gh):=by
 have hS:JE X (.Subscript a (.Slice lo hi none p2) pos) (λρ st=>(ga ρ st).bind λx st1=>(gl ρ st1).bind λlo st2=>(gh ρ st2).bind λhi st3=>match x with | .str z=>if z.length<=lim then .ok (.str (lu z lo hi)) st3 else .bad | _=> .bad):=by
  refine JE.of (qp Nj a6 tH tH) λρ st σ H m Q S R p=>?_
  refine ha.go S R (aK.bind p) λx st1 v m1 H1 p1 e1 S1 rx=>?_
  refine hl.go S1 (R.mono e1) ((aK.bind p1).imp e1 λ_ _ q=>q) λl st2 m2 H2 p2 e2 S2=>?_
  refine hh.go S2 (R.mono (e1.trans e2)) ((aK.bind p2).imp (e1.trans e2) λ_ _ q=>q) λh st3 m3 H3 p3 e3 S3=>?_
  have yf:=e1.trans (e2.trans e3)
  cases x with
  | str z=>
   dsimp only at p3
   by_cases c:z.length<=lim
   ·rw[if_pos c] at p3
    unfold ao at rx
    obtain⟨rfl,hz⟩:=rx
    exact⟨z,rfl,eL c,p3 _ m3 H3 yf S3 (mkStr (wY hz))⟩
   ·rw[if_neg c] at p3;exact ae p3
  | _=>exact ae p3
 have hW:JE X (.Subscript a (.Slice lo hi none p2) pos) (λρ st=>(ga ρ st).bind λx st1=>(gl ρ st1).bind λlo st2=>(gh ρ st2).bind λhi st3=>match x with | .tup ws=>if mf ws.length lo hi then .ok (.tup ws) st3 else Px (.tup ws) lo hi st3 | _=> .bad):=by
  refine JE.of (qp (GV.or EH Dv) a6 tH tH) λρ st σ H m Q S R p=>?_
  refine ha.go S R (aK.bind p) λx st1 v m1 H1 p1 e1 S1 rx=>?_
  refine hl.go S1 (R.mono e1) ((aK.bind p1).imp e1 λ_ _ q=>q) λl st2 m2 H2 p2 e2 S2=>?_
  refine hh.go S2 (R.mono (e1.trans e2)) ((aK.bind p2).imp (e1.trans e2) λ_ _ q=>q) λh st3 m3 H3 p3 e3 S3=>?_
  have yf:=e1.trans (e2.trans e3)
  cases x with
  | tup ws=>
   dsimp only at p3
   have u6:=ao.mono (e2.trans e3) _ _ rx
   unfold ao at u6
   obtain⟨a',xs,rfl,f1,f2⟩:=u6
   by_cases c:mf ws.length l h
   ·rw[if_pos c] at p3
    unfold mf at c
    rw[f2.length] at c
    exact .inl ⟨a',xs,rfl,fT.of f1,c,p3 _ m3 H3 yf S3 (by unfold ao;exact⟨a',xs,rfl,f1,f2⟩)⟩
   ·rw[if_neg c] at p3
    unfold Px at p3
    dsimp only at p3
    unfold mf at c
    rw[if_neg c] at p3
    rw[f2.length] at c
    refine .inr ⟨a',xs,rfl,fT.of f1,c,λq hq=>?_⟩
    have eU:Ext X.K m3 H3 m3 (L2.upd H3 q (.tup (su xs l h))):=Ext.iD (.inl hq)
    exact p3 (.ref q) m3 _ (yf.trans eU) (S3.fresh hq) (by unfold ao;exact⟨q,_,rfl,L2.bC,aq.mono eU _ _ (u5 f2)⟩)
  | _=>exact ae p3
 intro ρ st σ H m Q S R p
 unfold gE at p
 cases e1:ga ρ st with
 | bad=>rw[e1] at p;exact ae p
 | err c st1=>rw[e1] at p;exact wF ha hl hh ρ st σ H m Q S R (by unfold yT;rw[e1];exact p)
 | ok x st1=>
  rw[e1] at p
  cases x with
  | str z=>exact hS ρ st σ H m Q S R (by dsimp only;rw[e1];exact p)
  | tup ws=>exact hW ρ st σ H m Q S R (by dsimp only;rw[e1];exact p)
  | _=>exact wF ha hl hh ρ st σ H m Q S R (by unfold yT;rw[e1];exact p)
def m7:gT
 | .str i,.str j,st=> .ok (.bl (!(ym j i 0 j.length 1).isEmpty)) st
 | x,y,st=>U7 x y st
def m8:gT
 | .str i,.str j,st=> .ok (.bl (!(!(ym j i 0 j.length 1).isEmpty))) st
 | x,y,st=>yS x y st
theorem Nl:jY X (abS .In) m7:=by
 obtain⟨r,h1,h2⟩:=QT (X:=X)
 refine⟨_,fh.or By h1,λx y a b st H m Q S rx ry p=>?_⟩
 unfold m7 at p
 split at p
 ·rename_i i j
  unfold ao at rx ry
  obtain⟨rfl,_⟩:=rx
  obtain⟨rfl,_⟩:=ry
  exact .inl ⟨i,j,rfl,rfl,p _ m H Ext.refl S jg⟩
 ·exact .inr (h2 x y a b st H m Q S rx ry p)
theorem B9:jY X (abS .NotIn) m8:=by
 obtain⟨r,h1,h2⟩:=DU (X:=X)
 refine⟨_,fh.or uK h1,λx y a b st H m Q S rx ry p=>?_⟩
 unfold m8 at p
 split at p
 ·rename_i i j
  unfold ao at rx ry
  obtain⟨rfl,_⟩:=rx
  obtain⟨rfl,_⟩:=ry
  exact .inl ⟨i,j,rfl,rfl,p _ m H Ext.refl S jg⟩
 ·exact .inr (h2 x y a b st H m Q S rx ry p)
end
open PySem PySem.Spec PyProof.Rows L2 PySem.W
section
variable {X:Cx}
end
section
variable {X:Cx}
end
section
variable {X:Cx}
end
def Ra(x:Str):It:=⟨λi _=>i < x.cps.size,λi H v H'=>H'=H/\∃c,x.cps[i]? =some c/\v= .str ⟨#[c]⟩,λi _=>x.cps.size<=i⟩
theorem y7{P:abJ}{w:abM}{K:PySem.W.Frag}{tg:Expr}(x:Str)(t:Tok)(it:abF):Turn P w K tg (Ra x) [it] it (λi h=>h.IsStrIter it "str_ascii_iterator" x t i) where
 mem:=List.mem_singleton.mpr rfl
 obj:=λi h st b hb=>by
  cases List.mem_singleton.mp hb
  obtain⟨o,e,c,d⟩:=st
  exact⟨o,e,λv z=>by rw[d] at z;cases z⟩
 keep:=λi h h' st k=>let ⟨o,e,r⟩:=st;⟨o,k it (List.mem_singleton.mpr rfl) o e,r⟩
 item:=by
  intro X hP hw hK hc i pins s σ H E I hf st hg
  subst hP;subst hw;subst hK
  obtain⟨f0,f1,f2,f3,f4,f5⟩:=hf it (List.mem_singleton.mpr rfl)
  have hi:i < x.cps.size:=hg
  refine wpAny_pyNext_ascii_item st (c:=x.cps[i]) (by simp[hi]) λh' st' sb=>?_
  have I1:L2.Inv X pins σ H { s with heap:=h',toks:=s.toks+1 }:=I.turned (t':=s.toks+1) (λb o hb e=>sb.extBut b o hb e) f0 f1 f3 f4 f5
  obtain⟨o,e,c,d⟩:=id st'
  exact⟨_,rfl,s_ (s:={ s with heap:=h',toks:=s.toks+1 }) e c d (by decide) ⟨.str ⟨#[x.cps[i]]⟩,H,I1,⟨_,rfl⟩,⟨rfl,_,by simp[hi],rfl⟩,st',λb hb=>(hf b hb).1⟩⟩
 done:=by
  intro X hP hw hK hc i pins s σ H E I hf st hg
  subst hP;subst hw;subst hK
  obtain⟨f0,f1,f2,f3,f4,f5⟩:=hf it (List.mem_singleton.mpr rfl)
  have hi:x.cps.size<=i:=hg
  exact wpAny_pyNext_ascii_end (I.ok.hd hc) st (by simp[hi]) λh' eb=>⟨rfl,I.turned (t':=s.toks) (λb o hb e=>eb b o hb e) f0 f1 f3 f4 f5⟩
 self:=λ_ _ _ _ _ st h=>wpAny_pyIter_striter_ascii st h
theorem B_{P:abJ}{w:abM}{K:PySem.W.Frag}{tg:Expr}(x:Str)(t:Tok)(it:abF):Turn P w K tg (Ra x) [it] it (λi h=>h.IsStrIter it "str_iterator" x t i) where
 mem:=List.mem_singleton.mpr rfl
 obj:=λi h st b hb=>by
  cases List.mem_singleton.mp hb
  obtain⟨o,e,c,d⟩:=st
  exact⟨o,e,λv z=>by rw[d] at z;cases z⟩
 keep:=λi h h' st k=>let ⟨o,e,r⟩:=st;⟨o,k it (List.mem_singleton.mpr rfl) o e,r⟩
 item:=by
  intro X hP hw hK hc i pins s σ H E I hf st hg
  subst hP;subst hw;subst hK
  obtain⟨f0,f1,f2,f3,f4,f5⟩:=hf it (List.mem_singleton.mpr rfl)
  have hi:i < x.cps.size:=hg
  refine wpAny_pyNext_wide_item st (c:=x.cps[i]) (by simp[hi]) λh' st' sb=>?_
  have I1:L2.Inv X pins σ H { s with heap:=h',toks:=s.toks+1 }:=I.turned (t':=s.toks+1) (λb o hb e=>sb.extBut b o hb e) f0 f1 f3 f4 f5
  obtain⟨o,e,c,d⟩:=id st'
  exact⟨_,rfl,s_ (s:={ s with heap:=h',toks:=s.toks+1 }) e c d (by decide) ⟨.str ⟨#[x.cps[i]]⟩,H,I1,⟨_,rfl⟩,⟨rfl,_,by simp[hi],rfl⟩,st',λb hb=>(hf b hb).1⟩⟩
 done:=by
  intro X hP hw hK hc i pins s σ H E I hf st hg
  subst hP;subst hw;subst hK
  obtain⟨f0,f1,f2,f3,f4,f5⟩:=hf it (List.mem_singleton.mpr rfl)
  have hi:x.cps.size<=i:=hg
  exact wpAny_pyNext_wide_end (I.ok.hd hc) st (by simp[hi]) λh' eb=>⟨rfl,I.turned (t':=s.toks) (λb o hb e=>eb b o hb e) f0 f1 f3 f4 f5⟩
 self:=λ_ _ _ _ _ st h=>wpAny_pyIter_striter_wide st h
section
variable {X:Cx}
theorem Nm{tg l:Expr}{tl:TE}(hl:PE X l tl):PI X tg l (λσ H R=>tl σ H λv H1=>∃z,v= .str z/\R (Ra z) H1):=by
 intro pins s σ H R I h
 refine bD (hl pins s σ H _ I h) λv s1 ⟨x,H1,I1,r1,z,e,q⟩=>?_
 subst e
 obtain⟨t,rfl⟩:=r1
 have frs:∀b∈[s1.heap.objs.size],h_ X pins H1 b:=λb hb=>by
  cases List.mem_singleton.mp hb
  exact I1.Dg (aC _) (I1.hok.fresh (aC _))
 cases ha:z.cps.all (· < 128)
 ·exact wpAny_pyIter_wide ha ⟨s1.heap.objs.size,[s1.heap.objs.size],_,_,H1,rfl,I1.kept (t':=s1.toks) λb o e=>bA _ e,B_ z t _,⟨_,cJ _ rfl,rfl,rfl⟩,frs,q⟩
 ·exact wpAny_pyIter_ascii ha ⟨s1.heap.objs.size,[s1.heap.objs.size],_,_,H1,rfl,I1.kept (t':=s1.toks) λb o e=>bA _ e,y7 z t _,⟨_,cJ _ rfl,rfl,rfl⟩,frs,q⟩
def iE(z:PySem.Str):List Wv:=z.cps.toList.map λc=>Wv.str ⟨#[c]⟩
def oX(w:Wv)(st:Hs):Re Wk:=match w with
 | .str z=> .ok (none,iE z) st
 | w=>Nb w st
def gW(g:GE):GI:=λρ st=>(g ρ st).bind oX
theorem Nn{z:PySem.Str}{m1:Mp}{H1:Hp}(hz:aY z=true):wW X (none,iE z) m1 H1 (Ra z) where
 go:=λk H m' st _ _ _ hk=>by
  have:k < z.cps.size:=by simpa [iE] using hk
  exact this
 stop:=λk H m' st _ _ _ hk=>by
  have:k=z.cps.size:=by simpa [iE] using hk
  exact mP this.symm
 CU:=λk hk H v H' m' st _ _ _ y=>by
  obtain⟨rfl,c,hc,rfl⟩:=y
  refine⟨rfl,?_⟩
  have hk':k < z.cps.size:=by simpa [iE] using hk
  have e:∀h:k < (iE z).length,(iE z)[k]'h= .str ⟨#[z.cps[k]]⟩:=by intro h;simp[iE]
  have hc':z.cps[k]=c:=by simpa [hk'] using hc
  show ao X.K m' H' ((iE z)[k]'hk) _
  rw[e hk,hc']
  refine mkStr ?_
  rw[tR] at hz ⊢
  intro d hd
  simp at hd
  rw[hd,<-hc']
  exact hz _ (by simp)
theorem ve{tg iter:Expr}{g:GE}(h:JE X iter g):JI X tg iter (gW g):=by
 obtain⟨w1,h1,k1⟩:=Nc (tg:=tg) h
 refine⟨λσ H R=>w1 σ H R\/(SE X iter σ H λv H1=>∃z,v= .str z/\R (Ra z) H1),λpins s σ H R I q=>?_,λρ st σ H m R S RR p=>?_⟩
 ·rcases q with q | q
  ·exact h1 pins s σ H R I q
  ·exact Nm a6 pins s σ H R I q
 ·unfold gW at p
  cases e:g ρ st with
  | bad=>rw[e] at p;exact ae p
  | err c st'=>rw[e] at p;exact .inl (k1 ρ st σ H m R S RR (by unfold Ez;rw[e];exact p))
  | ok w st'=>
   rw[e] at p
   cases w with
   | str z=>
    refine .inr ?_
    refine h.go (ok:=λw st1=>w= .str z/\st1=st') S RR (by rw[e];exact⟨rfl,rfl⟩) λw st1 v m1 H1 q e1 S1 r1=>?_
    obtain⟨rfl,rfl⟩:=q
    unfold ao at r1
    obtain⟨rfl,hz⟩:=r1
    exact⟨z,rfl,p m1 H1 _ e1 S1 trivial (Nn hz)⟩
   | _=>exact .inl (k1 ρ st σ H m R S RR (by unfold Ez;rw[e];exact p))
end
section
variable {X:Cx}
end
def keyOf:Wv->Option L2.Key
 | .int i=>some (.inl i)
 | .str x=>some (.inr x)
 | .non=>some .non
 | _=>none
theorem nZ{K:PySem.W.Frag}{m:Mp}{H:Hp}{w:Wv}{v:V}{k:L2.Key}(r:ao K m H w v)(e:keyOf w=some k):v=kV k:=by
 cases w with
 | int i=>cases e;unfold ao at r;rw[r];rfl
 | str x=>cases e;unfold ao at r;rw[r.1];rfl
 | non=>cases e;unfold ao at r;rw[r];rfl
 | _=>cases e
def kq{κ:Type}[DecidableEq κ](kvs:List (κ×Wv))(k:κ):Option Wv:=match kvs with
 | []=>none
 | p::r=>if p.1=k then some p.2 else kq r k
def pk{κ:Type}[DecidableEq κ](kvs:List (κ×Wv))(k:κ)(v:Wv):List (κ×Wv):=if(kvs.any λkv=>decide (kv.1=k))=true then kvs.map (λkv=>if kv.1=k then(kv.1,v) else kv) else kvs++[(k,v)]
section
variable {K:PySem.W.Frag} {m:Mp} {H:Hp} {κ:Type}
theorem RelK.nil:RelK (κ:=κ) K m H [] []:=⟨rfl,aq.nil⟩
theorem RelK.cons{k:κ}{w:Wv}{v:V}{kvs:List (κ×Wv)}{xs:List (κ×V)}(h:ao K m H w v)(t:RelK K m H kvs xs):RelK K m H ((k,w)::kvs) ((k,v)::xs) :=
 ⟨by simp[t.1],by simpa using aq.cons h t.2⟩
theorem RelK.nil_inv{xs:List (κ×V)}(h:RelK K m H [] xs):xs=[]:=by
 have:=h.1
 cases xs with
 | nil=>rfl
 | cons a b=>simp at this
theorem RelK.cons_inv{p:κ×Wv}{kvs:List (κ×Wv)}{xs:List (κ×V)}(h:RelK K m H (p::kvs) xs):∃v t,xs=(p.1,v)::t/\ao K m H p.2 v/\RelK K m H kvs t:=by
 obtain⟨h1,h2⟩:=h
 cases xs with
 | nil=>simp at h1
 | cons q t=>
  simp at h1 h2
  unfold aq at h2
  obtain⟨x,r,e1,e2,e3⟩:=h2
  cases e1
  exact⟨q.2,t,by rw[h1.1],e2,h1.2,e3⟩
theorem RelK.length{kvs:List (κ×Wv)}{xs:List (κ×V)}(h:RelK K m H kvs xs):kvs.length=xs.length:=by
 have:=congrArg l8 h.1
 simpa using this
variable [DecidableEq κ]
theorem RelK.val:∀{kvs:List (κ×Wv)}{xs:List (κ×V)}(k:κ),RelK K m H kvs xs->(kq kvs k=none->mU xs k=none)/\∀w,kq kvs k=some w->∃v,mU xs k=some v/\ao K m H w v
 | [],xs,k,h=>by
  rw[h.nil_inv]
  exact⟨λ_=>rfl,(λw e=>by cases e)⟩
 | p::r,xs,k,h=>by
  obtain⟨v,t,rfl,h1,h2⟩:=h.cons_inv
  obtain⟨i1,i2⟩:=RelK.val k h2
  unfold kq
  by_cases e:p.1=k
  ·rw[if_pos e,j7 (by exact e)]
   exact⟨(λz=>by cases z),λw z=>⟨v,rfl,by cases z;exact h1⟩⟩
  ·rw[if_neg e,j9 (by exact e)]
   exact⟨i1,i2⟩
theorem RelK.any:∀{kvs:List (κ×Wv)}{xs:List (κ×V)}(k:κ),RelK K m H kvs xs->(kvs.any λkv=>decide (kv.1=k))=xs.any λkv=>decide (kv.1=k)
 | [],xs,k,h=>by rw[h.nil_inv];rfl
 | p::r,xs,k,h=>by
  obtain⟨v,t,rfl,h1,h2⟩:=h.cons_inv
  rw[fm,fm,RelK.any k h2]
theorem RelK.repl:∀{kvs:List (κ×Wv)}{xs:List (κ×V)}(k:κ){w:Wv}{v:V},RelK K m H kvs xs->ao K m H w v->RelK K m H (kvs.map λkv=>if kv.1=k then(kv.1,w) else kv) (xs.map λkv=>if kv.1=k then(kv.1,v) else kv)
 | [],xs,k,w,v,h,r=>by rw[h.nil_inv];exact RelK.nil
 | p::kvs,xs,k,w,v,h,r=>by
  obtain⟨u,t,rfl,h1,h2⟩:=h.cons_inv
  rw[bw,bw]
  by_cases e:p.1=k
  ·rw[if_pos e,if_pos (by exact e)]
   exact RelK.cons r (RelK.repl k h2 r)
  ·rw[if_neg e,if_neg (by exact e)]
   exact RelK.cons h1 (RelK.repl k h2 r)
theorem RelK.snoc:∀{kvs:List (κ×Wv)}{xs:List (κ×V)}(k:κ){w:Wv}{v:V},RelK K m H kvs xs->ao K m H w v->RelK K m H (kvs++[(k,w)]) (xs++[(k,v)])
 | [],xs,k,w,v,h,r=>by rw[h.nil_inv];exact RelK.cons r RelK.nil
 | p::kvs,xs,k,w,v,h,r=>by
  obtain⟨u,t,rfl,h1,h2⟩:=h.cons_inv
  exact RelK.cons h1 (RelK.snoc k h2 r)
theorem RelK.put{kvs:List (κ×Wv)}{xs:List (κ×V)}(k:κ){w:Wv}{v:V}(h:RelK K m H kvs xs)(r:ao K m H w v):RelK K m H (pk kvs k w) (putK xs k v):=by
 unfold pk putK
 rw[h.any k]
 split
 ·exact h.repl k r
 ·exact h.snoc k r
end
section
variable {K:PySem.W.Frag} {m:Mp} {H:Hp}
end
section
variable {X:Cx}
def AD(st:Hs)(l:Nat):Bool:=match st[l]? with
 | some (.dct _)=>true
 | _=>false
def EI(gd gk gx:GE):GE:=λρ st=>(gd ρ st).bind λd st1=>match d with
 | .ref l=>if AD st1 l=true then(gk ρ st1).bind λk st2=>(gx ρ st2).bind λx st3=>(match keyOf k,st3[l]? with
  | some kk,some (.dct kvs)=> .ok ((kq kvs kk).getD x) st3
  | _,_=> .bad) else .bad
 | _=> .bad
theorem EJ{m:Mp}{st:Hs}{H:Hp}{l:Nat}{a:abF}(S:bZ X.K m st H)(ha:m[l]? =some a)(h:AD st l=true):To H a:=by
 unfold AD at h
 cases e:st[l]? with
 | none=>rw[e] at h;cases h
 | some o=>
  rw[e] at h
  cases o with
  | dct kvs=>
   obtain⟨xs,e1,_⟩:=(show ∃ys,H a=some (.dK ys)/\RelK X.K m H kvs ys from S.obj _ _ _ ha e)
   exact .inl ⟨xs,.inl e1⟩
  | _=>cases h
theorem EK{o e f:Expr}{gd gk gx:GE}{apos cpos:Pos}(hu:X.A.units+1 < cLine)(ho:JE X o gd)(he:JE X e gk)(hf:JE X f gx)(M:M2 X o "get" apos e f cpos):JE X (.Call (.Attribute o "get" apos) [e,f] [] cpos) (EI gd gk gx) :=
 JE.of (wy hu a6 a6 a6 M) λρ st σ H m Q S R p=>by
  refine ho.go S R (aK.bind p) λd st1 v m1 H1 p1 e1 S1 r1=>?_
  cases d with
  | ref l=>
   dsimp only at p1
   by_cases hd:AD st1 l=true
   ·rw[if_pos hd] at p1
    unfold ao at r1
    obtain⟨a,rfl,ha⟩:=r1
    refine⟨a,rfl,EJ S1 ha hd,?_⟩
    refine he.go S1 (R.mono e1) ((aK.bind p1).imp e1 λ_ _ q=>q) λk st2 y m2 H2 p2 e2 S2 r2=>?_
    refine hf.go S2 (R.mono (e1.trans e2)) ((aK.bind p2).imp (e1.trans e2) λ_ _ q=>q) λx st3 z m3 H3 p3 e3 S3 r3=>?_
    cases q1:keyOf k with
    | none=>rw[q1] at p3;exact ae p3
    | some kk=>
     cases q2:st3[l]? with
     | none=>rw[q1,q2] at p3;exact ae p3
     | some ob=>
      rw[q1,q2] at p3
      cases ob with
      | dct kvs=>
       have Vo:m3[l]? =some a:=(e2.trans e3).pre _ _ ha
       obtain⟨xs,y1,y2⟩:=(show ∃ys,H3 a=some (.dK ys)/\RelK X.K m3 H3 kvs ys from S3.obj _ _ _ Vo q2)
       dsimp only at p3
       refine⟨_,by rw[nZ r2 q1];exact yL.k y1,?_⟩
       obtain⟨i1,i2⟩:=y2.val kk
       cases q3:kq kvs kk with
       | none=>
        rw[i1 q3]
        rw[q3] at p3
        exact p3 z m3 H3 (e1.trans (e2.trans e3)) S3 r3
       | some w=>
        obtain⟨u,j1,j2⟩:=i2 w q3
        rw[j1]
        rw[q3] at p3
        exact p3 u m3 H3 (e1.trans (e2.trans e3)) S3 j2
      | _=>exact ae p3
   ·rw[if_neg hd] at p1;exact ae p1
  | _=>exact ae p1
end
def AE:Wv->abL->Prop
 | .int i,u=>∃t,u= .int i t
 | .str x,u=>(∃t,u= .str x t)/\aY x=true
 | _,_=>False
abbrev Dc:=List (PySem.Str×Wv)
def vf(w:abM):Dc->List DictEntry->Prop
 | [],[]=>True
 | (k,v)::r,e::t=>(e.hash=hashStr w k/\(∃tk,e.key= .str k tk)/\AE v e.val)/\vf w r t
 | _,_=>False
def wZ(K:PySem.W.Frag)(w:abM)(mg:Str->Option abL)(x:Str)(kvs:Dc):Prop :=
 ∃(a:abF)(es:Array DictEntry)(ep:Nat),mg x=some (.ref a)/\K.lookup a=some ⟨.type "dict",none,.dict es ep,#[]⟩/\(a == sysModules)=false/\vf w kvs es.toList/\(kvs.map (·.1)).Nodup
theorem m_{P:abJ}{w:abM}:∀{kvs:Dc}{l:List DictEntry},vf w kvs l->∃vs:List (PySem.Str×abL),vs.map (·.1)=kvs.map (·.1)/\Pairs (PySem.strKind P w) l vs/\(∀e∈l,∃k,(PySem.strKind P w).is k e.key=true/\e.hash=(PySem.strKind P w).hash k)/\
  ∀k,(kvs.lookup k=none->valueAt vs k=none)/\∀v,kvs.lookup k=some v->∃u,valueAt vs k=some u/\AE v u
 | [],[],_=>⟨[],rfl,.nil,(λ_ z=>by cases z),λk=>⟨λ_=>rfl,(λv z=>by cases z)⟩⟩
 | (k,v)::r,e::t,h=>by
  obtain⟨⟨h1,⟨tk,h2⟩,h3⟩,h4⟩:=h
  obtain⟨vs,i1,i2,i3,i4⟩:=m_ (P:=P) h4
  have his:(PySem.strKind P w).is k e.key=true:=by rw[h2];exact strKind_is P w k tk
  refine⟨(k,e.val)::vs,by simp[i1],.cons his rfl i2,λe' he=>?_,λk'=>?_⟩
  ·rcases List.mem_cons.mp he with z | z
   ·subst z;exact⟨k,his,h1⟩
   ·exact i3 e' z
  ·rw[fu]
   unfold valueAt
   rw[j8]
   by_cases ek:k=k'
   ·subst ek
    have b1:(k == k)=true:=by simp
    rw[b1]
    simp only[decide_true,mL]
    exact⟨(λz=>by cases z),λv' z=>⟨e.val,rfl,by cases z;exact h3⟩⟩
   ·have b1:(k' == k)=false:=beq_eq_false_iff_ne.mpr λz=>ek z.symm
    rw[b1]
    simp only[ek,decide_false]
    exact i4 k'
 | [],_::_,h=>ae h
 | _::_,[],h=>ae h
theorem AF{P:abJ}{w:abM}{K:PySem.W.Frag}{h:Heap}{a:abF}{es:Array DictEntry}{ep:Nat}{kvs:Dc}(KX:K.In h)(hl:K.lookup a=some ⟨.type "dict",none,.dict es ep,#[]⟩)(he:vf w kvs es.toList)(nd:(kvs.map (·.1)).Nodup) :
  ∃vs:List (PySem.Str×abL),h.DictOf (PySem.strKind P w) a vs/\∀k,(kvs.lookup k=none->valueAt vs k=none)/\∀v,kvs.lookup k=some v->∃u,valueAt vs k=some u/\AE v u:=by
 obtain⟨vs,i1,i2,i3,i4⟩:=m_ (P:=P) he
 exact⟨vs,⟨_,es,ep,KX a _ hl,⟨rfl,rfl,rfl⟩,rfl,λe hm=>i3 e (by simpa using hm),i2,by rw[i1];exact nd⟩,i4⟩
section
variable {X:Cx}
def AG(kvs:Dc)(ga:GE):GE:=λρ st=>(ga ρ st).bind λa st1=>match a with
 | .str k=>(match kvs.lookup k with | some w=> .ok w st1 | none=> .bad)
 | _=> .bad
def Rb(kvs:Dc)(ty:TE):TE:=λσ H Q=>ty σ H λy H1=>∃z w v,y= .str z/\kvs.lookup z=some w/\(∀u,AE w u->RelV v u)/\Q v H1
theorem IV{b:Expr}{ty:TE}{x:Str}{p pos:Pos}{kvs:Dc}(hb:PE X b ty)(hs:Mo b)(hg:Gl X x)(hd:(x == ("__debug__":Str))=false)(D:wZ X.K X.w X.mg x kvs):PE X (.Subscript (.Name x p) b pos) (Rb kvs ty):=by
 intro pins s σ H Q I h
 obtain⟨a,es,ep,g1,g2,g3,g4,g5⟩:=D
 refine HS PySem.F.slot_dict_getitem.lookup hs (bD (i9 (v:=.ref a) hg g1 rfl hd pins s σ H (λv H2=>v= .ref a/\H2=H) I ⟨rfl,rfl⟩) λu s1 ⟨v,H1,I1,rv,ev,eH⟩=>?_)
 subst ev eH
 obtain rfl:u=aO a:=rv
 refine bD (hb pins s1 σ H1 _ I1 h) λiv s2 ⟨y,H2,I2,ry,z,w,v,ey,ew,ev,q⟩=>?_
 subst ey
 obtain⟨t,rfl⟩:=(show ∃t,iv=mK z t from ry)
 obtain⟨vs,dd,look⟩:=AF (P:=X.prog) (w:=X.w) I2.sY g2 g4 g5
 obtain⟨u,e1,e2⟩:=(look z).2 w ew
 exact⟨dd.typeIs,wpAny_getItem_of (strKind_is X.prog X.w z t) dd.mapOf e1 ⟨v,H2,I2.tok _,ev u e2,q⟩⟩
theorem IW{b:Expr}{gb:GE}{x:Str}{p pos:Pos}{kvs:Dc}(hb:JE X b gb)(hs:Mo b)(hg:Gl X x)(hd:(x == ("__debug__":Str))=false)(D:wZ X.K X.w X.mg x kvs):JE X (.Subscript (.Name x p) b pos) (AG kvs gb) :=
 JE.of (IV a6 hs hg hd D) λρ st σ H m Q S R p=>by
  refine hb.go S R (aK.bind p) λw st1 v m1 H1 p1 e1 S1 r1=>?_
  cases w with
  | str k=>
   dsimp only at p1
   cases e:kvs.lookup k with
   | none=>rw[e] at p1;exact ae p1
   | some u=>
    rw[e] at p1
    unfold ao at r1
    cases u with
    | int i=>exact⟨k,.int i,.int i,r1.1,e,λu h=>h,p1 _ m1 H1 e1 S1 (by unfold ao;rfl)⟩
    | str y=>
     by_cases hy:aY y=true
     ·exact⟨k,.str y,.str y,r1.1,e,λu h=>h.1,p1 _ m1 H1 e1 S1 (by unfold ao;exact⟨rfl,hy⟩)⟩
     ·obtain⟨a,es,ep,_,_,_,g4,_⟩:=D
      obtain⟨vs,_,_,_,i4⟩:=m_ (P:=X.prog) g4
      obtain⟨u,_,e2⟩:=(i4 k).2 _ e
      exact absurd e2.2 hy
    | _=>
     obtain⟨a,es,ep,_,_,_,g4,_⟩:=D
     obtain⟨vs,_,_,_,i4⟩:=m_ (P:=X.prog) g4
     obtain⟨u,_,e2⟩:=(i4 k).2 _ e
     exact ae e2
  | _=>exact ae p1
end
open PySem PySem.Spec PyProof.Rows PySem.W L2
section
variable (lt:Nat->Nat->Bool) (N:Nat)
end
section
variable {lt:Nat->Nat->Bool} {N:Nat}
abbrev at_(p:Array Nat)(i:Nat):Nat:=p.getD i 0
end
section
variable {prog:abJ} {w:abM} {A:abG} {E:abL->abK->Prop} {s:abK}
end
section
variable {X:Cx} {pins:List (abF×Obj)} {σ:St} {H:Hp} {s:abK}
end
theorem Np{h h':Heap}{L:abF}{m m':Str->Option abL}(a:h.Ns L m)(b:h.Ns L m')(c:h'.Ns L m):h'.Ns L m':=by
 obtain⟨o,es,ep,e1,e2,_,e4⟩:=a
 obtain⟨o',es',S_,f1,f2,_,f4⟩:=b
 rw[e1] at f1
 cases f1
 rw[e2] at f2
 cases f2
 have:m=m':=funext λx=>(e4 x).symm.trans (f4 x)
 rw[<-this]
 exact c
section
variable {X:Cx}
end
section
variable {prog:abJ} {w:abM} {A:abG} {E:abL->abK->Prop} {s:abK}
end
section
variable {X:Cx}
abbrev pw(p:Int×Int):Wv:=.tup [.int p.1,.int p.2]
end
def keysOf:List Wv->Option (List L2.Key)
 | []=>some []
 | w::r=>(match keyOf w,keysOf r with | some k,some l=>some (k::l) | _,_=>none)
def n6:Wv->Option (List L2.Key)
 | .tup ws=>keysOf ws
 | _=>none
theorem qU{K:PySem.W.Frag}{m:Mp}{H:Hp}:∀{ws:List Wv}{xs:List V}{ks:List L2.Key},aq K m H ws xs->keysOf ws=some ks->xs=ks.map kV
 | [],xs,ks,r,e=>by unfold aq at r;subst r;cases e;rfl
 | w::ws,xs,ks,r,e=>by
  unfold aq at r
  obtain⟨x,t,rfl,r1,r2⟩:=r
  unfold keysOf at e
  cases e1:keyOf w with
  | none=>rw[e1] at e;cases e
  | some k=>
   cases e2:keysOf ws with
   | none=>rw[e1,e2] at e;cases e
   | some l=>
    rw[e1,e2] at e
    cases e
    rw[nZ r1 e1,qU r2 e2]
    rfl
theorem qV{K:PySem.W.Frag}{m:Mp}{H:Hp}{w:Wv}{v:V}{ks:List L2.Key}(r:ao K m H w v)(e:n6 w=some ks):∃b,v= .ref b/\H b=some (.tup (ks.map kV)):=by
 cases w with
 | tup ws=>
  unfold ao at r
  obtain⟨a,xs,rfl,h1,h2⟩:=r
  rw[qU h2 e] at h1
  exact⟨a,rfl,h1⟩
 | _=>cases e
def w5:GE:=λ_ st=> .ok (.ref st.length) (st++[.nL []])
section
variable {X:Cx}
theorem IX{pos:Pos}:JE X (.Dict [] [] pos) w5:=JE.of DC λρ st σ H m Q S R p=>λq hq=>
 p (.ref q) (m++[q]) _ (Ext.more.trans (Ext.iD (.inl hq))) (S.uU hq ⟨[],bC,RelK.nil⟩) (S.newest q _)
def putD(d k v:Wv)(st:Hs):Option Hs:=match d with
 | .ref l=>(match st[l]? with
  | some (.dct kvs)=>(match keyOf k with | some kk=>if kvs.length < lim then some (st.set l (.dct (pk kvs kk v))) else none | none=>none)
  | some (.nL kvs)=>(match n6 k with | some kk=>if kvs.length < lim then some (st.set l (.nL (pk kvs kk v))) else none | none=>none)
  | _=>none)
 | _=>none
def qW(gv gd gk:GE):GS:=λρ st=>(gv ρ st).bD ρ λv st1=>(gd ρ st1).bD ρ λd st2=>(gk ρ st2).bD ρ λk st3=>match putD d k v st3 with
 | some yd=> .nx ρ yd
 | none=> .bad
theorem IY{m:Mp}{st st':Hs}{H:Hp}{d k v:Wv}{x y z:V}(S:bZ X.K m st H)(rd:ao X.K m H d x)(rk:ao X.K m H k y)(rv:ao X.K m H v z)(e:putD d k v st=some st'):∃a H',x= .ref a/\uQ H a y z H'/\Ext X.K m H m H'/\bZ X.K m st' H':=by
 unfold putD at e
 cases d with
 | ref l=>
  dsimp only at e
  unfold ao at rd
  obtain⟨a,rfl,ha⟩:=rd
  cases e1:st[l]? with
  | none=>rw[e1] at e;cases e
  | some o=>
   rw[e1] at e
   cases o with
   | dct kvs=>
    dsimp only at e
    cases e2:keyOf k with
    | none=>rw[e2] at e;cases e
    | some kk=>
     rw[e2] at e
     dsimp only at e
     by_cases c:kvs.length < lim
     ·rw[if_pos c] at e
      cases e
      obtain⟨xs,h1,h2⟩:=(show ∃ys,H a=some (.dK ys)/\RelK X.K m H kvs ys from S.obj _ _ _ ha e1)
      have ex:Ext X.K m H m (upd H a (.dK (putK xs kk z))):=Ext.iD (.inr (.inr (.inl ⟨_,h1⟩)))
      refine⟨a,_,rfl,by rw[nZ rk e2];exact uQ.k h1 (by rw[<-h2.length];exact uV c),ex,?_⟩
      exact S.qC ha e1 rfl ⟨_,bC,(h2.put kk rv).mono ex⟩
     ·rw[if_neg c] at e;cases e
   | nL kvs=>
    dsimp only at e
    cases e2:n6 k with
    | none=>rw[e2] at e;cases e
    | some kk=>
     rw[e2] at e
     dsimp only at e
     by_cases c:kvs.length < lim
     ·rw[if_pos c] at e
      cases e
      obtain⟨xs,h1,h2⟩:=(show ∃ys,H a=some (.dT ys)/\RelK X.K m H kvs ys from S.obj _ _ _ ha e1)
      obtain⟨b,rfl,hb⟩:=qV rk e2
      have ex:Ext X.K m H m (upd H a (.dT (putK xs kk z))):=Ext.iD (.inr (.inr (.inr (.inl ⟨_,h1⟩))))
      refine⟨a,_,rfl,uQ.t h1 hb (by rw[<-h2.length];exact uV c),ex,?_⟩
      exact S.qC ha e1 rfl ⟨_,bC,(h2.put kk rv).mono ex⟩
     ·rw[if_neg c] at e;cases e
   | _=>cases e
 | _=>cases e
theorem IZ{o i e:Expr}{go gi ge:GE}{pos pos':Pos}(hu:X.A.units+1 < cLine)(he:JE X e ge)(ho:JE X o go)(hi:JE X i gi)(hs:swapsWith e (some (.Subscript o i pos')) pos.line X.env=pure false):JS X (.Assign [.Subscript o i pos'] e pos) (qW ge go gi) :=
 JS.of (HU hu a6 a6 a6 hs) λρ st σ H m D S R p=>by
  refine he.go S R (ba.cS R p) λv st1 vv m1 H1 p1 e1 S1 rv=>?_
  refine ho.go S1 (R.mono e1) ((ba.cS (m:=m) (H:=H) R p1).imp e1 λ_ _ q=>q) λd st2 vd m2 H2 p2 e2 S2 rd=>?_
  refine hi.go S2 (R.mono (e1.trans e2)) ((ba.cS (m:=m) (H:=H) R p2).imp (e1.trans e2) λ_ _ q=>q) λk st3 vk m3 H3 p3 e3 S3 rk=>?_
  have yf:=e1.trans (e2.trans e3)
  cases e4:putD d k v st3 with
  | none=>rw[e4] at p3;exact ae p3
  | some yd=>
   rw[e4] at p3
   obtain⟨a,H4,f1,f2,f3,f4⟩:=IY (X:=X) S3 (ao.mono e3 _ _ rd) rk (ao.mono (e2.trans e3) _ _ rv) e4
   exact⟨a,H4,f1,f2,p3 σ m3 H4 (yf.trans f3) f4 (R.mono (yf.trans f3))⟩
end
def vg(h:Heap)(d:abF)(es:Array DictEntry)(ep:Nat):Prop:=∃o,h.get? d=some o/\o.cls= .type "dict"/\o.data= .dict es ep
section
variable {prog:abJ} {w:abM} {A:abG} {E:abL->abK->Prop} {s:abK} {d it:abF} {es:Array DictEntry} {ep i:Nat}
theorem vg.ty(x:vg s.heap d es ep):s.TypeIs (.ref d) "dict":=let ⟨o,h1,h2,_⟩:=x;⟨o,h1,h2⟩
theorem EL{Q:abL->abK->Prop}(lo:(d == sysModules)=false)(x:vg s.heap d es ep)
  (k:Q (.ref s.heap.objs.size) { s with heap:=s.heap.push { cls:=.type "dict_keyiterator",data:=.fields #[.ref d,.int 0 0,.int es.size 0,.int ep 0] } }):abY (model prog w) A (pyIter (.ref d)) Q E s:=by
 have ty:=x.ty
 obtain⟨o,g1,g2,g3⟩:=x
 refine wpAny_pyIter_slot ty PySem.F.slot_dict_iter (wpAny_call_entry PySem.F.slot_dict_iter ty PySem.F.entry_dict_iter ?_ (PySem.F.args_dict_iter_1 _))
 unfold Builtin.«dict.__iter__» Builtin.Dict.dictSlotNone
 refine abZ (abZ (wpAny_notOrdered_dict ty (ab4 ?_)))
 unfold Builtin.Dict.showsAll
 have nlo:¬(d == sysModules)=true:=by rw[lo];exact bE
 refine abZ (show abY _ _ (pure d) _ _ s from ab4 (abZ ?_))
 rw[if_neg nlo]
 exact ab4 (abZ (ab0 g1 g3 (abZ (wpAny_dictEpoch g1 g3 (abZ (ab3 (ab4 ⟨_,rfl,"dict_keyiterator",_,⟨_,cJ _ rfl,rfl⟩,PySem.F.slot_dict_keyiterator_next.lookup,by simpa [rawInt] using k⟩)))))))
theorem EM{Q:Option abL->abK->Prop}(ki:s.heap.IsKeyIter it d i es.size ep)(x:vg s.heap d es ep)(hi:i < es.size)
  (k:∀h',h'.IsKeyIter it d (i+1) es.size ep->nN it s.heap h'->Q (some es[i].key) { s with heap:=h' }):abY (model prog w) A (pyNext (.ref it)) Q E s:=by
 have ty:=ki.typeIs
 obtain⟨oi,f1,f2,f3⟩:=id ki
 obtain⟨o,g1,g2,g3⟩:=x
 have own:Nq "dict_keyiterator"=false:=by decide
 have nn:¬((aO d == cH)=true):=bE
 unfold pyNext
 refine abZ (wpAny_attempt (wpAny_callSpecial?_slot (name:=pK "__next__") ty PySem.F.slot_dict_keyiterator_next (wpAny_call_entry PySem.F.slot_dict_keyiterator_next ty PySem.F.entry_dict_keyiterator_next ?_ (PySem.F.args_dict_keyiterator_next_1 _))))
 refine abZ (ab4 (abZ (abZ ?_)))
 first | refine abZ (wpAny_typeNameOfWhole_keyiter ty (ab4 (abZ (wpAny_fieldsOf f1 f3 ?_)))) | refine abZ (wpAny_typeNameOf_keyiter ty (ab4 (abZ (wpAny_fieldsOf f1 f3 ?_))))
 simp only[own,oK,if_false]
 refine(show abY _ _ (if(aO d == cH)=true then _ else _) _ _ s from ?_);rw[if_neg nn]
 refine abZ (ab4 (abZ (ab0 g1 g3 ?_)))
 rw[if_neg (by simp)]
 refine abZ (ab4 (abZ (wpAny_dictEpoch g1 g3 ?_)))
 rw[if_neg (by simp)]
 refine ab4 ?_
 have n0:¬((i:Int) < 0):=by omega
 simp only[n0,if_false,Int.toNat_natCast,Array.getElem?_eq_getElem hi]
 refine abZ ?_
 first | refine abZ (wpAny_typeNameOfWhole_keyiter ty (ab4 (abZ (wpAny_isOneOf_keyiter ty ?_)))) | refine abZ (wpAny_typeNameOf_keyiter ty (ab4 (abZ (wpAny_isOneOf_keyiter ty ?_))))
 refine(show abY _ _ (setField (.ref it) 1 (rawInt ((i:Int)+1)) >>= _) _ _ s from ?_)
 have X0:(s.heap.update it (jd (·.setIfInBounds 1 (rawInt ((i:Int)+1))))).IsKeyIter it d (i+1) es.size ep:=⟨_,yE _ f1 (Al (pM f3 _)),(Obj.cls_mapFields ..).trans f2,by rw[pM f3];simp[rawInt]⟩
 refine abZ (wpAny_setField f1 f3 (by simp) (abZ (ab1 (abZ (wpAny_isOneOf_keyiter (s:={ s with heap:=s.heap.update it (jd (·.setIfInBounds 1 (rawInt ((i:Int)+1)))) }) X0.typeIs ?_)))))
 exact(show abY _ _ (pure es[i].key) _ _ _ from ab4 (ab4 ⟨_,rfl,ab4 (k _ X0 (Nr ..))⟩))
theorem I0{Q:Option abL->abK->Prop}(hh:A.handled=none)(ki:s.heap.IsKeyIter it d i es.size ep)(x:vg s.heap d es ep)(hi:es.size<=i)(k:∀h',Heap.ExtBut it s.heap h'->Q none { s with heap:=h' }):abY (model prog w) A (pyNext (.ref it)) Q E s:=by
 have ty:=ki.typeIs
 obtain⟨oi,f1,f2,f3⟩:=id ki
 obtain⟨o,g1,g2,g3⟩:=x
 have own:Nq "dict_keyiterator"=false:=by decide
 have nn:¬((aO d == cH)=true):=bE
 unfold pyNext
 refine abZ (wpAny_attempt (wpAny_callSpecial?_slot (name:=pK "__next__") ty PySem.F.slot_dict_keyiterator_next (wpAny_call_entry PySem.F.slot_dict_keyiterator_next ty PySem.F.entry_dict_keyiterator_next ?_ (PySem.F.args_dict_keyiterator_next_1 _))))
 refine abZ (ab4 (abZ (abZ ?_)))
 first | refine abZ (wpAny_typeNameOfWhole_keyiter ty (ab4 (abZ (wpAny_fieldsOf f1 f3 ?_)))) | refine abZ (wpAny_typeNameOf_keyiter ty (ab4 (abZ (wpAny_fieldsOf f1 f3 ?_))))
 simp only[own,oK,if_false]
 refine(show abY _ _ (if(aO d == cH)=true then _ else _) _ _ s from ?_);rw[if_neg nn]
 refine abZ (ab4 (abZ (ab0 g1 g3 ?_)))
 rw[if_neg (by simp)]
 refine abZ (ab4 (abZ (wpAny_dictEpoch g1 g3 ?_)))
 rw[if_neg (by simp)]
 refine ab4 ?_
 have n0:¬((i:Int) < 0):=by omega
 simp only[n0,if_false,Int.toNat_natCast,Array.getElem?_eq_none hi]
 refine abZ ?_
 first | refine abZ (wpAny_typeNameOfWhole_keyiter ty (ab4 ?_)) | refine abZ (wpAny_typeNameOf_keyiter ty (ab4 ?_))
 refine(show abY _ _ (setField (.ref it) 0 .none >>= _) _ _ s from abZ (wpAny_setField f1 f3 (by simp) ?_))
 refine(show abY _ _ (newExc (.type "StopIteration") [] >>= _) _ _ _ from ?_)
 simp only[newExc,newTuple,raiseNew]
 refine abZ (abZ (ab3 (abZ (m:=firstArgMember _ _) (wpAny_of_eq (a:=cH) (by first | rfl | (simp only[firstArgMember];rfl)) (ab3 ?_ (by size_fits)))) (by size_fits)))
 refine(abZ (wpAny_handled ?_))
 rw[show A.in1.handled=none by exact hh]
 refine(abZ (ab4 (wpAny_throw ?_)))
 refine abZ (wpAny_isInstance (b:=true) (T:="StopIteration") ⟨_,cJ _ rfl,rfl⟩ isSubtype_stop (ab4 ?_))
 refine k _ ?_;exact((Nr ..).extBut.push _).push _
theorem B'(hh:A.handled=none)(I:abF)(hne:d≠I):Walks prog w A I [I,d] [I] es.size (λi v=>∃h:i < es.size,v=es[i].key) (λi h=>h.IsKeyIter I d i es.size ep/\vg h d es ep) where
 sub:=λb hb=>List.mem_cons.mpr (.inl (List.mem_singleton.mp hb))
 frame:=λ_ _ _ st hk=>⟨st.1.at λo e=>hk I (by simp) o e,let ⟨o,e1,e2⟩:=st.2;⟨o,hk d (by simp) o e1,e2⟩⟩
 item:=λi s Q E hi st hQ=>EM st.1 st.2 hi λh' ki sb=>hQ _ h' s.toks ⟨hi,rfl⟩ ⟨ki,let ⟨o,e1,e2⟩:=st.2;⟨o,sb.extBut d o hne e1,e2⟩⟩ λb o hb e=>sb.extBut b o (λz=>hb (by simp[z])) e
 done:=λs Q E st hQ=>I0 hh st.1 st.2 (aC _) λh' eb=>hQ h' s.toks λb o hb e=>eb b o (λz=>hb (by simp[z])) e
 self:=λ_ _ _ _ st k=>wpAny_pyIter_keyiter st.1 k
theorem AH(lo:(d == sysModules)=false):KdlSrc prog w "dict" d d es.size (λi v=>∃h:i < es.size,v=es[i].key) (λh=>vg h d es ep) where
 type:=λ_ x=>x.ty
 there:=λ_ x=>let ⟨o,e,_⟩:=x;⟨bc e,bc e⟩
 keep:=λ_ _ x hk=>let ⟨o,e,r⟩:=x;⟨o,hk d (.inl rfl) o e,r⟩
 notList:=by decide
 notTuple:=by decide
 hint:=λ_ _ _ _ x hq=>kdl_hint_dict x.ty hq
 iter:=λ_ s hh x=>⟨_,_,(λ_ _ hq=>EL lo x hq),B' hh _ (by obtain⟨o,e,_⟩:=x;exact bN (bc e)),⟨⟨_,cJ _ rfl,rfl,rfl⟩,let ⟨o,e,r⟩:=x;⟨o,bA _ e,r⟩⟩⟩
end
abbrev TH(H:Hp):List V->List (List L2.Key)->Prop:=Paired λv k=>∃b,v= .ref b/\H b=some (.tup (k.map kV))
theorem AI{H:Hp}:∀{kvs:List (List L2.Key×V)}{xs:List (List L2.Key×abF×abL)},KT H kvs xs->TH H (xs.map λx=>V.ref x.2.1) (kvs.map (·.1))
 | _,_,.nil=> .nil
 | _,_,.cons h t=> .cons ⟨_,rfl,h.2.1⟩ (AI t)
theorem tS{α:Type}(f:α->abF):∀xs:List α,Vals (xs.map λx=>V.ref (f x)) (xs.map λx=>aO (f x))
 | []=> .nil
 | x::r=> .cons rfl (tS f r)
section
variable {X:Cx}
theorem y8:dq X (.type "list") (λxs H Q=>∃(p:abF)(kvs:List (List L2.Key×V)),xs=[.ref p]/\H p=some (.dT kvs)/\X.A.handled=none/\∀l vs',H l=none->TH H vs' (kvs.map (·.1))->Q (.ref l) (upd H l (.lst vs'))):=by
 intro pins s σ H xs us Q I r h
 obtain⟨p,kvs,rfl,hp,hh,q⟩:=h
 obtain⟨u,rfl,rx⟩:=vals1 r
 cases rx
 obtain⟨z,lo,ys,kt,o,es,ep,g1,g2,g3,g4,g5,g6⟩:=Kh I.hok hp
 have len:es.size=ys.length:=by have:=congrArg l8 g4;simpa using this
 have sF:kvs.length=ys.length:=kt.length
 obtain⟨m,hn,hl⟩:=id I.loc
 have raw:vg s.heap p es ep:=⟨o,g1,g2.1,g3⟩
 refine kdl_N (AH lo) hh (Att.Mi hn) (C4 (g:=Att.uO s.heap) (h:=s.heap) (L:=X.env.locals)) raw (by rw[len,<-sF];exact z) λD c h'' tk vs X1 Vp hD hlen hv=>?_
 have Vq:vs=ys.map λx=>aO x.2.1:=by
  refine EN λj=>?_
  cases e:vs[j]? with
  | none=>
   have hj:vs.length<=j:=by simpa using e
   rw[Nu]
   simp
   omega
  | some v=>
   obtain⟨hj,ev⟩:=hv j v e
   have hj':j < ys.length:=by omega
   have q1:es.toList[j]'(by simpa using hj)=entryOfKey (tupleKind (b4 X.prog X.w)) ys[j]:=by
    have:es.toList[j]? =(ys.map (entryOfKey (tupleKind (b4 X.prog X.w))))[j]?:=by rw[g4]
    rw[dJ (by simpa using hj),fk,dJ hj'] at this
    simpa using this
   rw[fk,dJ hj',ev]
   have q2:es[j]=es.toList[j]'(by simpa using hj):=by simp
   rw[q2,q1]
   rfl
 subst Vq
 have hDL:D≠X.env.locals:=(Vp (D,_) bS).2.1
 have AJ:∀b o,b≠X.env.locals->s.heap.get? b=some o->h''.get? b=some o:=λb o n e=>(Vp (b,o) (bq _ (oM n (Att.l_ _ _) e))).1
 have X2:s.heap.get? D=none:=by
  cases e:s.heap.get? D with
  | none=>rfl
  | some o=>exact absurd (hD (D,o) (oM hDL (Att.l_ _ _) e)) (gz _)
 have X3:H D=none:=by
  cases e:H D with
  | none=>rfl
  | some ob=>
   obtain⟨z,e'⟩:=BV (I.hok D ob e)
   rw[X2] at e'
   cases e'
 have Rc:∀b u,H b=some u->b≠D:=λb u e=>dg e X3
 have PY:∀b u,H b=some u->b≠X.env.locals:=λb u e=>dg e I.free
 have I':Inv X pins σ (upd H D (.lst (ys.map λx=>V.ref x.2.1))) { s with heap:=h'',toks:=tk }:=by
  refine I.step (g':=s.gens) (d':=s.drawn) (t':=tk) (ch:=[]) (λ_ z=>nomatch z) (λb o n _ _ e _=>AJ b o n e) (λb o n _ _ e _=>⟨o.slots,AJ b o n e⟩) (λb o _ e n=>?_) (λb o _ e=>?_) (λb xs e=>?_) (λb o u e=>?_) (λb ps e=>?_) (λm' hm=>Np hn hm X1.ns) (λb ob e=>?_) I.bare
  ·rw[a9 (λz=>by subst z;rw[X2] at e;cases e)];exact n
  ·by_cases z:b=X.env.locals
   ·subst z
    obtain⟨o',_,_,e',_⟩:=X1.ns
    exact⟨o',e'⟩
   ·exact⟨o,AJ b o z e⟩
  ·rw[a9 (Rc _ _ e)];exact e
  ·rw[a9 (Rc _ _ e)];exact e
  ·exact⟨#[],by rw[a9 (Rc _ _ e),e];simp⟩
  ·by_cases z':b=D
   ·subst z'
    rw[bC] at e
    cases e
    exact⟨by rw[bU,<-sF];exact z,_,c,tS (λx=>x.2.1) ys,(Vp (b,_) bS).1⟩
   ·rw[a9 z'] at e
    refine(I.hok b ob e).stay (λc v hc q=>AJ c v ?_ q) (λc q=>by rw[a9 (Rc _ _ q)];exact q) λc xs q=>by rw[a9 (Rc _ _ q)];exact q
    rcases hc with y | y
    ·rw[y];exact PY b ob e
    ·exact PY c _ y
 exact⟨.ref D,_,I',rfl,q D _ X3 (AI kt)⟩
end
def Ca:List L2.Key->Option (List Int)
 | []=>some []
 | .inl i::r=>(match Ca r with | some l=>some (i::l) | none=>none)
 | _=>none
theorem AK:∀{ks:List L2.Key}{ns:List Int},Ca ks=some ns->ks.map kV=ns.map V.int
 | [],ns,e=>by cases e;rfl
 | .inl i::r,ns,e=>by
  unfold Ca at e
  cases q:Ca r with
  | none=>rw[q] at e;cases e
  | some l=>rw[q] at e;cases e;rw[bw,bw,AK q];rfl
 | .inr x::r,ns,e=>by cases e
 | .non::r,ns,e=>by cases e
def tT:List (List L2.Key)->Option (List Wv)
 | []=>some []
 | k::r=>(match Ca k,tT r with | some ns,some l=>some (.tup (ns.map Wv.int)::l) | _,_=>none)
theorem tU{K:PySem.W.Frag}{m:Mp}{H:Hp}:∀{vs:List V}{ks:List (List L2.Key)}{ws:List Wv},TH H vs ks->tT ks=some ws->aq K m H ws vs
 | _,_,ws,.nil,e=>by cases e;exact aq.nil
 | _,_,ws,.cons (b:=k) (l₂:=ks) h t,e=>by
  obtain⟨b,rfl,hb⟩:=h
  unfold tT at e
  cases q1:Ca k with
  | none=>rw[q1] at e;cases e
  | some ns=>
   cases q2:tT ks with
   | none=>rw[q1,q2] at e;cases e
   | some l=>
    rw[q1,q2] at e
    cases e
    refine aq.cons ?_ (tU t q2)
    rw[AK q1] at hb
    unfold ao
    exact⟨b,_,rfl,hb,aq.ints ns⟩
def qX:List Wv->Hs->Re Wv
 | [.ref l],st=>match st[l]? with
  | some (.nL kvs)=>(match tT (kvs.map (·.1)) with | some ws=> .ok (.ref st.length) (st++[.lst ws]) | none=> .bad)
  | _=>qR [.ref l] st
 | ws,st=>qR ws st
section
variable {X:Cx}
theorem w6(hc:X.calm=true):dq X (.type "list") (λxs H Q=>∃(p:abF)(kvs:List (List L2.Key×V)),xs=[.ref p]/\H p=some (.dT kvs)/\∀l vs',H l=none->TH H vs' (kvs.map (·.1))->Q (.ref l) (upd H l (.lst vs'))):=by
 intro pins s σ H xs us Q I r h
 obtain⟨p,kvs,e,hp,q⟩:=h
 exact y8 pins s σ H xs us Q I r ⟨p,kvs,e,hp,I.ok.hd hc,q⟩
theorem EO(hc:X.calm=true):dc X (.type "list") qX:=by
 obtain⟨rr,h1,h2⟩:=IK (X:=X)
 refine⟨_,(w6 hc).or h1,λws vs st H m Q S rs p=>?_⟩
 have other:dH X.K m H (qR ws st) Q->rr vs H Q:=λp=>h2 ws vs st H m Q S rs p
 match ws,rs,p,other with
 | [],rs,p,other=>exact .inr (other p)
 | x::y::t,rs,p,other=>exact .inr (other (by cases x<;>exact p))
 | [x],rs,p,other=>
  cases x with
  | ref l=>
   unfold qX at p
   cases e:st[l]? with
   | none=>simp only[e] at p;exact .inr (other p)
   | some o=>
    simp only[e] at p
    cases o with
    | nL kvs=>
     dsimp only at p
     cases e2:tT (kvs.map (·.1)) with
     | none=>rw[e2] at p;exact ae p
     | some us=>
      rw[e2] at p
      obtain⟨v,rfl,r1⟩:=me rs
      unfold ao at r1
      obtain⟨a,rfl,ha⟩:=r1
      obtain⟨xs,g1,g2⟩:=(show ∃ys,H a=some (.dT ys)/\RelK X.K m H kvs ys from S.obj _ _ _ ha e)
      refine .inl ⟨a,xs,rfl,g1,λk vs' hk hy=>?_⟩
      rw[<-g2.1] at hy
      exact p (.ref k) (m++[k]) _ (Ext.more.trans (Ext.upd (.inl hk))) (S.alloc hk (tU hy e2)) (S.newest k _)
    | _=>exact .inr (other p)
  | _=>exact .inr (other p)
end
open PySem L2 PyProof.Rows
section
open PySem.SeqAt PySem.MeetsSeq PySem.MeetsSeq2 PySem.MeetsSeq3
end
variable {X:Cx}
def oLe:gT:=λx y st=>QI x y st
theorem Nv(hu:X.A.units+64 < cLine):jY X (abS .LtE) oLe:=QL
def Rf:gT:=λx y st=>QH x y st
theorem Nw(hu:X.A.units+64 < cLine):jY X (abS .Lt) Rf:=QK
structure oY(k:Nat)(A:abG):Prop where
 d:A.depth+3 * k+5 < recursionLimit
 u:A.units+16 * k+200 < cLine
theorem oY.of{k:Nat}{A:abG}(r:gD k A):oY k A:=⟨r.dp,r.un⟩
structure Rg(P:abJ)(w:abM)(K:PySem.W.Frag)(mg:Str->Option abL)(base:Heap)(k:Nat)(f:abF)(fd:abH)(ps:List Str)(sp:Sp):Prop where
 n:∀vs H Q E,sp vs H Q E->vs.length=ps.length
 go:∀(A:abG)(outer:List Env)(s:abK)(H:Hp)(args:Args)(us:List abL)(vs:List V)(Q:VK)(E:XK),oY k A->BX A H->wk P w K mg base A outer s H->
  BindsTo s fd args (ps.zip us)->Vals vs us->sp vs H Q E->abQ (model P w) A (.call (.ref f) args) (CR (CXJ P w) outer P w H s Q E) s
section
variable {P:abJ} {w:abM} {K:PySem.W.Frag} {mg:Str->Option abL} {base:Heap}
end
section
variable {X:Cx}
end
def I_(P:abJ)(w:abM)(K:PySem.W.Frag)(mg:Str->Option abL)(base:Heap)(k:Nat)(x:Str)(n:Nat)(F:List Wv->Hs->Re Wv):Prop :=
 ∃f fd ps,Rg P w K mg base k f fd ps (spW K n F)/\mg x=some (.ref f)/\PySem.W.keepIn K (.ref f)=true/\Binds K fd ps []
section
variable {X:Cx}
end
section
variable {X:Cx}
end
section
variable {X:Cx}
end
open Classical in
section
variable {X:Cx}
end
open Classical in
section
variable {X:Cx} {pins:List (abF×Obj)} {σ:St} {H:Hp} {s:abK} {scope:Scope} {x:Str} {xr:List Str} {cs:gU}
end
section
variable {prog:abJ} {w:abM} {A:abG} {R:Result->abK->Prop} {s:abK}
end
section
variable {X:Cx}
end
section
variable {X:Cx}
end
section
open PySem.SeqAt PySem.MeetsSeq PySem.MeetsSeq2 PySem.MeetsSeq3
end
section
variable {X:Cx}
end
section
variable {X:Cx}
end
section
variable {X:Cx}
def ER(kvs:Dc)(gk gx:GE):GE:=λρ st=>(gk ρ st).bind λk st1=>(gx ρ st1).bind λx st2=>match k with
 | .str z=> .ok ((kvs.lookup z).getD x) st2
 | _=> .bad
theorem ES{e f:Expr}{gk gx:GE}{x:Str}{p apos cpos:Pos}{kvs:Dc}(he:JE X e gk)(hf:JE X f gx)(M:M2 X (.Name x p) "get" apos e f cpos)(hg:Gl X x)(hd:(x == ("__debug__":Str))=false)(D:wZ X.K X.w X.mg x kvs):JE X (.Call (.Attribute (.Name x p) "get" apos) [e,f] [] cpos) (ER kvs gk gx):=by
 intro ρ st σ H m Q S R pp pins s I
 obtain⟨a,es,ep,g1,g2,g3,g4,g5⟩:=D
 have k1:=he.go (T:=λy H2=>∃k st1 m1,eO X σ m H ((gx ρ st1).bind λx st2=>match k with | .str z=> .ok ((kvs.lookup z).getD x) st2 | _=> .bad) Q/\Ext X.K m H m1 H2/\bZ X.K m1 st1 H2/\ao X.K m1 H2 k y) S R (aK.bind pp) λw st1 v m1 H1 p1 e1 S1 rw'=>⟨w,st1,m1,p1,e1,S1,rw'⟩
 refine wpAny_Call_method M.base M.few M.line PySem.F.plainAttrs_dict PySem.F.slot_dict_get PySem.F.type_dict_get (bD (i9 (v:=.ref a) hg g1 rfl hd pins s σ H (λv H2=>v= .ref a/\H2=H) I ⟨rfl,rfl⟩) λu s1 ⟨v,H1,I1,rv,ev,eH⟩=>?_)
 subst ev
 cases eH
 obtain rfl:u=aO a:=rv
 refine⟨⟨_,I1.sY _ _ g2,rfl⟩,λa' e=>by cases e;exact⟨_,I1.sY _ _ g2,rfl⟩,?_⟩
 rw[M.trees]
 refine yG rfl (yH (qk (bD (k1 pins s1 I1) λiv s2 ⟨y,H2,I2,ry,k,st1,m1,p1,e1,S1,rk⟩=>?_)))
 have k2:=hf.go (T:=λz H3=>∃x' st2 m2,eO X σ m H (match k with | .str z=> .ok ((kvs.lookup z).getD x') st2 | _=> .bad) Q/\Ext X.K m H m2 H3/\bZ X.K m2 st2 H3/\ao X.K m2 H3 x' z) S1 (R.mono e1) ((aK.bind p1).imp e1 λ_ _ q=>q) λw st2 v m2 H3 p2 e2 S2 rw'=>⟨w,st2,m2,p2,e1.trans e2,S2,rw'⟩
 refine qk (bD (k2 pins s2 I2) λfv s3 ⟨z,H3,I3,rz,x',st2,m2,p2,e2,S2,rx⟩=>yz ?_)
 cases k with
 | str zs=>
  obtain⟨rfl,_⟩:=eM rk
  obtain⟨t,rfl⟩:=(show ∃t,iv=mK zs t from ry)
  obtain⟨vs,dd,look⟩:=AF (P:=X.prog) (w:=X.w) I3.sY g2 g4 g5
  refine call_meetsIn PySem.F.slot_dict_get dd.typeIs PySem.F.entry_dict_get (PySem.F.args_dict_get_3 _ _ _) (meets_dict_get_default (PySem.strKind X.prog X.w) a (strKind_is X.prog X.w zs t) g3 fv) ⟨_,dd.mapOf,?_⟩
  have p2':Pu X.K m H Q ((kvs.lookup zs).getD x') st2:=p2
  cases e:kvs.lookup zs with
  | none=>
   rw[e] at p2'
   have q:=(look zs).1 e
   show EP X pins σ Q ((valueAt vs zs).getD fv) _
   rw[q]
   exact⟨z,H3,I3.tok _,rz,p2' z m2 H3 e2 S2 rx⟩
  | some u=>
   rw[e] at p2'
   obtain⟨u',q1,q2⟩:=(look zs).2 u e
   show EP X pins σ Q ((valueAt vs zs).getD fv) _
   rw[q1]
   cases u with
   | int i=>exact⟨.int i,H3,I3.tok _,q2,p2' _ m2 H3 e2 S2 (by unfold ao;rfl)⟩
   | str y=>exact⟨.str y,H3,I3.tok _,q2.1,p2' _ m2 H3 e2 S2 (by unfold ao;exact⟨rfl,q2.2⟩)⟩
   | _=>exact ae q2
 | _=>exact ae p2
end
def w8:List Wv->Hs->Re Wv:=λ_ _=> .bad
theorem jl{P:abJ}{w:abM}{K:PySem.W.Frag}{mg:Str->Option abL}{base:Heap}{h:Heap}{k:Nat}{x:Str}{st:Stmt}{ps:List Str}(KX:K.In h)(NS:h.Ns abV mg)(D:bb K x st)
  (hb:∀(kV doc pm:abL)(an:Option abF)(cdv ct:abL)(us:List abL),us.length=ps.length->bindArgs (PySem.W.fnOf x x (defArgs st) (defBody st) (defScope st) .none kV doc pm an cdv ct) ⟨us,[]⟩=pure (ps.zip us)) :
  dE P w K mg base k x ps.length w8:=by
 obtain⟨f,fd,a,F⟩:=D
 exact⟨f,fd,ps,⟨λvs H Q E ⟨_,_,_,_,_,_,p⟩=>ae p,λA outer s H args us vs Q E hr e0 hb r ⟨_,_,_,_,_,_,p⟩=>ae p⟩,PySem.W.mg_of KX NS a,F.kp,F.binds hb⟩
section
variable {X:Cx}
theorem ET:fh X (abO .Mult) (λx y H Q=>∃z n,x= .str z/\y= .int n/\(n=0\/n=1)/\Q (.str (if n=0 then PySem.Str.empty else z)) H):=by
 intro pins s σ H x y v u Q I rx ry h
 obtain⟨z,n,rfl,rfl,hn,q⟩:=h
 obtain⟨t,rfl⟩:=rx
 obtain⟨t',rfl⟩:=ry
 rcases hn with rfl | rfl
 ·exact PySem.P.mul_str_none (by omega) (by omega) ⟨.str PySem.Str.empty,H,I.tok _,⟨_,rfl⟩,q⟩
 ·refine PySem.P.mul_str (by decide) (λ_ h=>by cases h) (λ_ h=>by cases h) ?_
  rw[if_neg (by omega),if_pos (by rfl)]
  exact⟨.str z,H,I,⟨t,rfl⟩,q⟩
def Ky:gT:=λx y st=>match x,y with
 | .str z,.int n=>if n=0\/n=1 then .ok (.str (if n=0 then PySem.Str.empty else z)) st else qQ (.str z) (.int n) st
 | x,y=>qQ x y st
theorem Ja:jY X (abO .Mult) Ky:=by
 obtain⟨r,h1,h2⟩:=IJ (X:=X)
 refine⟨_,fh.or ET h1,λx y a b st H m Q S rx ry p=>?_⟩
 cases x with
 | str z=>
  cases y with
  | int n=>
   have p':dH X.K m H (if n=0\/n=1 then .ok (.str (if n=0 then PySem.Str.empty else z)) st else qQ (.str z) (.int n) st) Q:=p
   by_cases c:n=0\/n=1
   ·rw[if_pos c] at p'
    obtain⟨rfl,ok⟩:=eM rx
    refine .inl ⟨z,n,rfl,aZ ry,c,p' _ m H Ext.refl S (mkStr ?_)⟩
    by_cases c0:n=0
    ·rw[if_pos c0];decide+kernel
    ·rw[if_neg c0];exact ok
   ·rw[if_neg c] at p'
    exact .inr (h2 _ _ _ _ st H m Q S rx ry p')
  | _=>exact .inr (h2 _ _ _ _ st H m Q S rx ry p)
 | _=>exact .inr (h2 _ _ _ _ st H m Q S rx ry p)
end
abbrev LF:=List Wv->List Wv->Hs->Re Wv
section
variable {X:Cx} {pins:List (abF×Obj)} {σ:St} {H:Hp} {s:abK}
end
def ZH(K:PySem.W.Frag)(n:Nat)(p:Lm)(L:LF):Sp:=λvs H Q E=>∃m st ws caps,bZ K m st H/\aq K m H ws vs/\aq K m H caps p.xs/\H p.c=some (.ext (DI p.c p.q))/\ws.length=n/\Kt K m H (L caps ws st) Q E
def Nx(P:abJ)(w:abM)(K:PySem.W.Frag)(mg:Str->Option abL)(base:Heap)(k:Nat)(p:Lm)(n:Nat)(L:LF):Prop :=
 ∃fd ps ob,FnOk P w K mg base (CXJ P w) k p.a fd ps (ZH K n p L)/\base.get? p.a=some ob/\ob.data= .func fd/\Binds K fd ps []
open Classical in
section
variable {X:Cx}
end
section
variable {P:abJ} {w:abM} {K:PySem.W.Frag} {mg:Str->Option abL} {base:Heap} {p:Lm} {scope:Scope} {x1 x2 x3 y:Str} {cy:abF}
theorem Vr{m:Mp}{H:Hp}{ws:List Wv}{vs:List V}(r:aq K m H ws vs)(h:ws.length=3):∃w1 w2 w3 v1 v2 v3,ws=[w1,w2,w3]/\vs=[v1,v2,v3]/\ao K m H w1 v1/\ao K m H w2 v2/\ao K m H w3 v3:=by
 match ws,h with
 | [w1,w2,w3],_=>
  unfold aq at r
  obtain⟨v1,t1,rfl,r1,r⟩:=r
  unfold aq at r
  obtain⟨v2,t2,rfl,r2,r⟩:=r
  unfold aq at r
  obtain⟨v3,t3,rfl,r3,r⟩:=r
  unfold aq at r
  subst r
  exact⟨w1,w2,w3,v1,v2,v3,rfl,rfl,r1,r2,r3⟩
end
structure Kz(X:Cx)(q:Str)(P:abF):Prop where
 code:∃c,X.env.code= .ref c/\PySem.W.CodeHd X.base c P
 qual:X.env.qual=q++".<locals>."
 tab:je X.K q=some P
 mem:q∈cI
 uniq:∀q',q'∈cI->je X.K q'=some P->q'=q
 bm:∃bm ob,X.mg "__builtins__"=some (.ref bm)/\bm≠builtinsNs/\bm≠abV/\X.base.get? bm=some ob/\ob.cls= .type "module"/\ob.dict=some builtinsNs/\ob.data= .plain
section
variable {X:Cx} {pins:List (abF×Obj)} {σ:St} {H:Hp} {s:abK} {q:Str} {P:abF}
end
abbrev X4:=Lm->LF->List Wv->Hs->Re Wv
def Vs(mg:Str->Option abL)(base:Heap):Prop:=∃bm ob,mg "__builtins__"=some (.ref bm)/\bm≠builtinsNs/\bm≠abV/\base.get? bm=some ob/\ob.cls= .type "module"/\ob.dict=some builtinsNs/\ob.data= .plain
def Cb(K:PySem.W.Frag)(mg:Str->Option abL)(base:Heap):Prop:=Mod K mg base/\Vs mg base
def X5(P:abJ)(w:abM)(K:PySem.W.Frag)(mg:Str->Option abL)(k j:Nat)(x:Str)(FL:X4):Prop :=
 (∃f,mg x=some (.ref f)/\PySem.W.keepIn K (.ref f)=true)/\∀(base:Heap)(p:Lm)(L:LF),Cb K mg base->Nx P w K mg base (j+1) p 3 L->dE P w K mg base k x 2 (FL p L)
section
variable {X:Cx}
end
section
variable {P:abJ} {w:abM} {A:abG} {E:abL->abK->Prop} {s:abK}
end
theorem Vt(a b c d:abL):argsOk "object.__init__" ⟨[a,b,c,d],[]⟩:=by
 unfold argsOk;rw[signature?_of (id:="object.__init__") (n:=['_','_','t','i','n','i','_','_']) (o:=['t','c','e','j','b','o']) (by kernel_rfl) F.owner_object];kernel_rfl
section
variable {P:abJ} {w:abM} {A:abG} {E:abL->abK->Prop} {s:abK}
end
section
variable {P:abJ} {w:abM} {A:abG} {E:abL->abK->Prop} {s:abK}
end
section
variable {X:Cx}
end
def Vu(lo c:Int)(n:Nat):It:=⟨λi _=>i < n,λi H v H'=>H'=H/\v= .int (lo+i * c),λi _=>n<=i⟩
theorem w9{P:abJ}{w:abM}{K:PySem.W.Frag}{tg:Expr}(it:abF)(lo c:Int)(n:Nat):Turn P w K tg (Vu lo c n) [it] it (λi h=>IsRangeIter h it (lo+(i:Nat) * c) ((n:Int) - (i:Nat)) c) where
 mem:=by simp
 obj:=λi h st b hb=>by
  have e:b=it:=by simpa using hb
  subst e
  exact⟨_,st,λv z=>by cases z⟩
 keep:=λi h h' st k=>k it (by simp) _ st
 item:=by
  intro X hP hw hK hc i pins s σ H E I hf st hg
  subst hP hw hK
  obtain⟨f0,f1,f2,f3,f4,f5⟩:=hf it (by simp)
  have W:=Walks.range (prog:=X.prog) (w:=X.w) (I.ok.hd hc) it lo c n
  refine W.item i s _ _ hg st λv h' tk hv st' kk=>?_
  obtain⟨t,rfl⟩:=hv
  have I1:Inv X pins σ H { s with heap:=h',toks:=tk }:=I.turned (λb o hb e=>kk b o (by simpa using hb) e) f0 f1 f3 f4 f5
  exact⟨_,rfl,s_ (s:={ s with heap:=h',toks:=tk }) (n:="range_iterator") st' rfl rfl (by decide) ⟨.int (lo+i * c),H,I1,⟨t,rfl⟩,⟨rfl,rfl⟩,st',λb hb=>(hf b hb).1⟩⟩
 done:=by
  intro X hP hw hK hc i pins s σ H E I hf st hg
  subst hP hw hK
  obtain⟨f0,f1,f2,f3,f4,f5⟩:=hf it (by simp)
  exact wpAny_pyNext_range_end (I.ok.hd hc) st (by have:n<=i:=hg;omega) λh' eb=>⟨rfl,I.turned (t':=s.toks) (λb o hb e=>eb b o hb e) f0 f1 f3 f4 f5⟩
 self:=λ_ _ _ _ _ st h=>wpAny_pyIter_rangeiter st h
theorem Cc(a b c:abL):checkTypeCall "range" ⟨[a,b,c],[]⟩=pure ():=by kernel_rfl
theorem Cd(a b c:abL):checkBuiltinCall "range.__new__" ⟨[.type "range",a,b,c],[]⟩=pure ():=by kernel_rfl
def CY(a b c:Int):Prop:=0<=a/\a < 2 ^ 30/\0<=b/\b < 2 ^ 30/\1<=c/\c < 2 ^ 30
instance {a b c}:Decidable (CY a b c):=Ee _
def gX(a b c:Int):Nat:=(if a < b then(b - a - 1) / c+1 else 0).toNat
theorem Ce{a b c:Int}(h:CY a b c):uz a b c=gX a b c:=by
 obtain⟨h1,h2,h3,h4,h5,h6⟩:=h
 unfold uz gX
 rw[if_pos (by omega)]
 by_cases e:a < b
 ·rw[if_pos e]
  have:0<=(b - a - 1) / c:=Int.ediv_nonneg (by omega) (by omega)
  omega
 ·rw[if_neg e];rfl
theorem y9{a b c:Int}(h:CY a b c):Ny a b c=true:=by
 obtain⟨h1,h2,h3,h4,h5,h6⟩:=h
 unfold Ny uz
 have d1:0<=(b - a - 1) / c\/¬a < b:=by
  by_cases e:a < b
  ·exact .inl (Int.ediv_nonneg (by omega) (by omega))
  ·exact .inr e
 have d2:a < b->(b - a - 1) / c<=b - a - 1:=λe=>Int.ediv_le_self _ (by omega)
 simp only[Builtin.Range.rangeFitsLong,dm,DZ,decide_eq_true_eq,beq_iff_eq,show c > 0 by omega,if_true]
 split<;>omega
theorem Rh{a b c:Int}(h:CY a b c):Nz (b - a) c=false:=by
 obtain⟨h1,h2,h3,h4,h5,h6⟩:=h
 have e0:(c == 0)=false:=by rw[beq_eq_false_iff_ne];omega
 have e1:c.natAbs.log2 < 30:=(Nat.log2_lt (by omega)).mpr (by omega)
 have e2:c.natAbs.log2 / 30=0:=Nat.div_eq_of_lt e1
 simp[Nz,e0,e2]
theorem w_{P:abJ}{w:abM}{A:abG}{E:abL->abK->Prop}{s:abK}{a b c:Int}{t u v:Tok}{Q:abL->abK->Prop}(h:CY a b c)
  (k:Q (.ref s.heap.objs.size) { s with heap:=s.heap.push { cls:=.type "range",data:=.fields #[.int a t,.int b u,.int c v] } }):abY (model P w) A (call (.type "range") [.int a t,.int b u,.int c v]) Q E s:=by
 refine callType_new F.called_range (by decide) (Cc _ _ _) (Cd _ _ _) (λobj=>Vt obj _ _ _) F.entry_range_new (AutoRange.range___new___type_int_int_int_1 a b c t u v F.called_range.sub ?_) ⟨Rh h,⟨_,cJ _ rfl,rfl⟩,k⟩
 have:c≠0:=by have:=h.2.2.2.2.1;omega
 simpa using this
section
variable {X:Cx} {tg:Expr}
def Ri(ta:TA):TI:=λσ H R=>ta σ H λvs H1=>∃a b c:Int,vs=[.int a,.int b,.int c]/\CY a b c/\R (Vu a c (gX a b c)) H1
theorem ints3{a b c:Int}{us:List abL}(r:Vals [.int a,.int b,.int c] us):∃t u v,us=[.int a t,.int b u,.int c v]:=by
 cases r with
 | cons r1 r=>
  cases r with
  | cons r2 r=>
   cases r with
   | cons r3 r=>
    cases r
    obtain⟨t,rfl⟩:=r1
    obtain⟨u,rfl⟩:=r2
    obtain⟨v,rfl⟩:=r3
    exact⟨t,u,v,rfl⟩
theorem Cf{l:Expr}{ls:List Expr}{ta:TA}{p pos:Pos}(hg:Gl X "range")(hm:X.mg "range"=none)(ha:PA X (l::ls) ta)(hst:abX (l::ls) X.env=(false,eval l X.env)::abX ls X.env)(hpl:(backTo pos (abX ls X.env)).any (·.1)=false) :
  PI X tg (.Call (.Name "range" p) (l::ls) [] pos) (Ri ta):=by
 intro pins s σ H R I h
 refine wpAny_Call_Name_kw (nP I hg hm boot_range ?_)
 refine uA (bD (ha pos pins s σ H _ I h) λus s1 ⟨vs,H1,I1,r1,q1⟩=>?_) hst hpl
 obtain⟨a,b,c,rfl,hc,q⟩:=q1
 obtain⟨t,u,v,rfl⟩:=ints3 r1
 refine w_ hc ?_
 refine wpAny_pyIter_range (IsRange.new ..) (y9 hc) ?_
 have I2:Inv X pins σ H1 { s1 with heap:=s1.heap.push { cls:=.type "range",data:=.fields #[.int a t,.int b u,.int c v] } }:=I1.kept (t':=s1.toks) λb o e=>bA _ e
 refine⟨(s1.heap.push { cls:=.type "range",data:=.fields #[.int a t,.int b u,.int c v] }).objs.size,[(s1.heap.push { cls:=.type "range",data:=.fields #[.int a t,.int b u,.int c v] }).objs.size],_,_,H1,rfl,I2.kept (t':=s1.toks) λb o e=>bA _ e,w9 _ a c (gX a b c),?_,λy hy=>?_,q⟩
 ·have e1:a+((0:Nat):Int) * c=a:=by simp
  have e2:((gX a b c:Nat):Int) - ((0:Nat):Int)=uz a b c:=by rw[Ce hc];simp
  show IsRangeIter _ _ (a+((0:Nat):Int) * c) (((gX a b c:Nat):Int) - ((0:Nat):Int)) c
  rw[e1,e2]
  exact cJ _ rfl
 ·have e:y=(s1.heap.push { cls:=.type "range",data:=.fields #[.int a t,.int b u,.int c v] }).objs.size:=by simpa using hy
  subst e
  exact I2.Dg (aC _) (I2.hok.fresh (aC _))
def pq(lo c:Int)(n:Nat):List Wv:=(dh n).map λk:Nat=>Wv.int (lo+k * c)
theorem ng{lo c:Int}{n:Nat}:(pq lo c n).length=n:=by unfold pq;simp
theorem tV{lo c:Int}{n k:Nat}(h:k < n):(pq lo c n)[k]? =some (.int (lo+k * c)):=by
 unfold pq
 rw[fk,List.getElem?_range h]
 rfl
theorem EU{lo c:Int}{n k:Nat}(h:k < (pq lo c n).length):(pq lo c n)[k]= .int (lo+k * c):=by
 have q:=tV (lo:=lo) (c:=c) (n:=n) (k:=k) (by rw[ng] at h;exact h)
 rw[dJ h] at q
 exact Option.some.inj q
def qY(i:Nat)(ga:GA)(gb:GS):GS:=λρ st=>(ga ρ st).bD ρ λws st1=>match ws with
 | [.int a,.int b,.int c]=>if CY a b c then dt i gb (pq a c (gX a b c)) ρ st1 else .bad
 | _=> .bad
theorem EV(i:Nat){x:Str}{l:Expr}{ls:List Expr}{body:List Stmt}{ga:GA}{gb:GS}{pos pos' p q:Pos}(hN:X.N.Nodup)(hp:PassesOwn (model X.prog X.w) X.A X.env X.xe)(hc:X.calm=true)(hg:Gl X "range")(hm:X.mg "range"=none)(ha:JA X (l::ls) ga)(hb:pP X body gb)
  (hx:X.N[i]? =some x)(hlo:Loc X.env.scope x)(MY:X.fn x=true\/X.env.scope.names.lookup x=some .local)(hst:abX (l::ls) X.env=(false,eval l X.env)::abX ls X.env)(hpl:(backTo q (abX ls X.env)).any (·.1)=false) :
  JS X (.For (.Name x pos') (.Call (.Name "range" p) (l::ls) [] q) body [] pos) (qY i ga gb):=by
 refine JS.of (uB hp hc (Cf hg hm jS hst hpl) (mM hN hx hlo MY) ij (λ_=>rfl)) λρ st σ H m D S R p=>?_
 refine ha.go S R (ba.cS R p) λws st1 vs m1 H1 p1 e1 S1 rs=>?_
 split at p1
 ·rename_i a b c
  by_cases cc:CY a b c
  ·rw[if_pos cc] at p1
   obtain⟨w1,w2,w3,v1,v2,v3,e,rfl,r1,r2,r3⟩:=Vr rs rfl
   cases e
   cases aZ r1
   cases aZ r2
   cases aZ r3
   refine⟨a,b,c,rfl,cc,mX (J':=Vu a c (gX a b c)) i hb S1 (R.mono e1) (ba.shift p1 e1) (λk H m' e hk=>by rw[ng] at hk;exact hk) (λk H m' e hk=>by rw[ng] at hk;exact mP hk.symm) λk hk H x H' m' e y=>?_⟩
   obtain⟨y1,y2⟩:=y
   refine⟨y1,?_⟩
   rw[EU,y2]
   exact mkInt
  ·rw[if_neg cc] at p1;exact ae p1
 ·exact ae p1
end
section
variable {X:Cx}
end
section
variable {X:Cx}
end
theorem Jb(l:abF)(items:Array abL)(n:Nat)(b:abF)(items2:Array abL)(n2:Nat)(dd:Option abF)(sl:Array (Option abL))(hs0:¬(!items.isEmpty&&qy (items.size+items2.size))=true)(hs1:items.size<=abW)(hs2:items.size+items2.size<=abW+1) :
  Meets (Builtin.«list.extend» ⟨[.ref l,.ref b],[]⟩) (λ_ R s=>s.heap.get? l=some { cls:=.type "list",dict:=none,data:=.seq items n,slots:=#[] }/\s.heap.get? b=some ⟨.type "tuple",dd,.seq items2 n2,sl⟩/\R (.ok (.ret cH)) { s with heap:=s.heap.update l (mS λx=>x++items2),toks:=s.toks }) :=
 .of_wp λprog w A R s h=>by
  obtain⟨hp,g,d,tk,os⟩:=s;obtain⟨hl,hb,h⟩:=h;have f1:=AutoSeq1.idx_int;have f2:=AutoSeq1.sub_tuple_tuple;have f3:=AutoSeq1.sub_list_list;have f4:=AutoSeq1.sub_tuple_list;have f5:=AutoSeq1.sub_list_tuple;
  have hz':(items++items2).size<=abW+1:=by rw[Ku];exact hs2
  wp_walk using (wpAny_updateSeq hl rfl (hz:=hs1) (_hz':=hz')),wpAny_loadPart' hl,wpAny_loadPart' hb;exact⟨_,rfl,h⟩
def xa(K:PySem.W.Frag):V->List V->Hp->VK->Prop:=λx vs H Q=>∃l b xs zs,x= .ref l/\vs=[.ref b]/\H l=some (.lst xs)/\fT K H b zs/\xs.length+zs.length<=abW/\Q .non (upd H l (.lst (xs++zs)))
section
variable {X:Cx}
theorem y_:UZ X "list.extend" (xa X.K):=by
 intro pins s σ H x vs v us Q I rx rv h
 obtain⟨l,b,xs,zs,rfl,rfl,hH,hB,hz,q⟩:=h
 cases rx
 obtain⟨u,rfl,ru⟩:=rv.one
 cases ru
 obtain⟨z,its,n,r,hl,e⟩:=I.Dz hH
 obtain⟨its2,r2,⟨o,e2,oc,n2,od⟩,z2⟩:=I.tuple hB
 obtain⟨oc',dd,od',sl⟩:=o
 dsimp only at oc od
 subst oc od
 have l1:xs.length=its.length:=r.length
 have l2:zs.length=its2.length:=r2.length
 have hsz:its.toArray.size+its2.toArray.size<=abW:=by rw[a7,a7];omega
 have wu:¬(!its.toArray.isEmpty&&qy (its.toArray.size+its2.toArray.size))=true:=by
  rw[qx hsz,Bool.and_false]
  exact bE
 refine call_meets F.slot_list_extend ⟨_,e,rfl⟩ F.entry_list_extend (F.args_list_extend_2 _ _)
  (Jb l its.toArray n b its2.toArray n2 dd sl wu (by rw[a7];omega) (by omega)) ⟨e,e2,?_⟩
 refine⟨.non,_,I.Mf (its':=its++its2) hH e (by simp) (r.append r2) ?_,rfl,q⟩
 rw[eV]
 omega
def xb(o v:Wv)(st:Hs):Re Wv:=match v with
 | .tup zs=>(match o with
  | .ref l=>(match st[l]? with
   | some (.lst ws)=>if ws.length+zs.length<=lim then .ok .non (st.set l (.lst (ws++zs))) else .bad
   | _=> .bad)
  | _=> .bad)
 | v=>M7 o v st
theorem Jc:Tu X "list.extend" xb:=by
 obtain⟨r0,m0,h0⟩:=M8 (X:=X)
 refine⟨λx vs H Q=>r0 x vs H Q\/xa X.K x vs H Q,?_,λo w x v st H m Q S ro rw' p=>?_⟩
 ·intro pins s σ H x vs v us Q I rx rv h
  rcases h with h | h
  ·exact m0 pins s σ H x vs v us Q I rx rv h
  ·exact y_ pins s σ H x vs v us Q I rx rv h
 ·cases w with
  | tup zs=>
   refine .inr ?_
   cases o with
   | ref l=>
    unfold ao at ro rw'
    obtain⟨a,rfl,ha⟩:=ro
    obtain⟨b,ys,rfl,hb,g2⟩:=rw'
    have p':dH X.K m H (match st[l]? with | some (.lst ws)=>if ws.length+zs.length<=lim then .ok .non (st.set l (.lst (ws++zs))) else .bad | _=> .bad) Q:=p
    cases e:st[l]? with
    | none=>rw[e] at p';exact ae p'
    | some ob=>
     cases ob with
     | dct kvs=>rw[e] at p';exact ae p'
     | nL kvs=>rw[e] at p';exact ae p'
     | Am kvs=>rw[e] at p';exact ae p'
     | CW kvs=>rw[e] at p';exact ae p'
     | nM kvs=>rw[e] at p';exact ae p'
     | ins _ _=>rw[e] at p';exact ae p'
     | sh ns=>rw[e] at p';exact ae p'
     | lst ws=>
      rw[e] at p'
      dsimp only at p'
      by_cases c:ws.length+zs.length<=lim
      ·rw[if_pos c] at p'
       obtain⟨xs,h1,h2⟩:=S.qB ha e
       have e4:Ext X.K m H m (upd H a (.lst (xs++ys))):=Ext.upd (.inr ⟨xs,h1⟩)
       exact⟨a,b,xs,ys,rfl,rfl,h1,fT.of hb,by rw[<-h2.length,<-g2.length];exact eL c,p' _ m _ e4 (S.write ha e (h2.append g2)) Aq⟩
      ·rw[if_neg c] at p';exact ae p'
   | _=>exact ae p
  | _=>exact .inl (h0 o _ x v st H m Q S ro rw' p)
end
def kr(neg:Bool):gT:=λx y st=>match bj st 20 y,bj st 20 x with
 | some (.list ds),some d=> .ok (.bl ((ds.any λz=>a4 z d) != neg)) st
 | some (.tuple ds),some d=> .ok (.bl ((ds.any λz=>a4 z d) != neg)) st
 | _,_=> .bad
section
variable {X:Cx}
def NA(K:PySem.W.Frag)(neg:Bool):R2:=λa b H Q=>∃m st x y d ds c,bZ K m st H/\ao K m H x a/\ao K m H y b/\bj st 20 y=some c/\(c= .list ds\/c= .tuple ds)/\bj st 20 x=some d/\Q (.bl ((ds.any λz=>a4 z d) != neg)) H
theorem AL{ds:List PyData}{c:PyData}(h:c= .list ds\/c= .tuple ds)(k:c.canLay0=true):pF ds=true:=by
 rcases h with rfl | rfl<;>exact k
theorem NB(hu:X.A.units+64 < cLine):fh X (abS .In) (NA X.K false):=by
 intro pins s σ H a b v u Q I rx ry h
 obtain⟨m,st,x,y,d,ds,c,S,h1,h2,e1,hc,e2,q⟩:=h
 obtain⟨as,q1,q2,q3⟩:=fU I S 20 x a v d h1 rx e2
 obtain⟨bs,p1,p2,p3⟩:=fU I S 20 y b u c h2 ry e1
 have hd:X.A.units+1+min (i7 ds) d.depth < cLine:=by
  have:=Ab (i7 ds) d.depth
  omega
 have e:∀t:Bool,(t != false)=t:=by decide
 rw[e] at q
 have ca:=AL hc p2
 rcases hc with rfl | rfl
 ·exact SeqAt.in_list_reads p1 q1 ca q2 hd ⟨.bl _,H,I,rfl,q⟩
 ·exact SeqAt.in_tuple_reads p1 q1 ca q2 hd ⟨.bl _,H,I,rfl,q⟩
theorem Cg(hu:X.A.units+64 < cLine):fh X (abS .NotIn) (NA X.K true):=by
 intro pins s σ H a b v u Q I rx ry h
 obtain⟨m,st,x,y,d,ds,c,S,h1,h2,e1,hc,e2,q⟩:=h
 obtain⟨as,q1,q2,q3⟩:=fU I S 20 x a v d h1 rx e2
 obtain⟨bs,p1,p2,p3⟩:=fU I S 20 y b u c h2 ry e1
 have hd:X.A.units+1+min (i7 ds) d.depth < cLine:=by
  have:=Ab (i7 ds) d.depth
  omega
 have e:∀t:Bool,(t != true)= !t:=by decide
 rw[e] at q
 have ca:=AL hc p2
 rcases hc with rfl | rfl
 ·exact SeqAt.notIn_list_reads p1 q1 ca q2 hd ⟨.bl _,H,I,rfl,q⟩
 ·exact SeqAt.notIn_tuple_reads p1 q1 ca q2 hd ⟨.bl _,H,I,rfl,q⟩
theorem EW{neg:Bool}{x y:Wv}{a b:V}{st:Hs}{H:Hp}{m:Mp}{Q:VK}(S:bZ X.K m st H)(rx:ao X.K m H x a)(ry:ao X.K m H y b)(p:dH X.K m H (kr neg x y st) Q):NA X.K neg a b H Q:=by
 unfold kr at p
 split at p
 ·rename_i ds d e1 e2
  exact⟨m,st,x,y,d,ds,_,S,rx,ry,e1,.inl rfl,e2,p _ m H Ext.refl S jg⟩
 ·rename_i ds d e1 e2
  exact⟨m,st,x,y,d,ds,_,S,rx,ry,e1,.inr rfl,e2,p _ m H Ext.refl S jg⟩
 ·exact ae p
theorem za(hu:X.A.units+64 < cLine):jY X (abS .In) (kr false):=⟨_,NB hu,λx y a b st H m Q S rx ry p=>EW S rx ry p⟩
theorem tW(hu:X.A.units+64 < cLine):jY X (abS .NotIn) (kr true):=⟨_,Cg hu,λx y a b st H m Q S rx ry p=>EW S rx ry p⟩
end
section
variable {prog:abJ} {w:abM} {A:abG} {E:abL->abK->Prop} {s:abK}
end
section
variable {X:Cx} {tg:Expr}
end
section
variable {X:Cx} {a b c d:Expr} {pos:Pos}
end
section
variable {X:Cx} {pins:List (abF×Obj)} {σ:St} {E:abL->abK->Prop} {p:abF}
end
section
variable {X:Cx} {pos:Pos}
end
def getD(d k:Wv)(st:Hs):Option Wv:=match d with
 | .ref l=>(match st[l]? with
  | some (.dct kvs)=>(match keyOf k with | some kk=>kq kvs kk | none=>none)
  | some (.nL kvs)=>(match n6 k with | some kk=>kq kvs kk | none=>none)
  | some (.Am kvs)=>(match n6 k with | some kk=>kq kvs kk | none=>none)
  | _=>none)
 | _=>none
section
variable {X:Cx}
end
section
variable {X:Cx} {pins:List (abF×Obj)} {σ:St} {H:Hp} {s:abK} {a:abF} {xs:List (List L2.Key×V)}
end
section
variable {K:PySem.W.Frag} {m:Mp} {st:Hs} {H:Hp}
end
section
variable {X:Cx}
end
section
variable {X:Cx} {tg:Expr}
end
section
variable {prog:abJ} {w:abM} {A:abG} {E:abL->abK->Prop} {s:abK} {d:abF} {es:Array DictEntry} {ep:Nat}
end
section
variable {prog:abJ} {w:abM} {K:Type} [DecidableEq K] {knd:HeapKind prog w K} {A:abG} {E:abL->abK->Prop} {s:abK} {d a:abF} {xs:List (K×abF×abL)} {k:K}
end
section
variable {prog:abJ} {w:abM} {A:abG} {E:abL->abK->Prop} {s:abK}
end
section
variable {prog:abJ} {w:abM} {A:abG} {E:abL->abK->Prop} {s:abK} {d it:abF} {i:Nat} {es:Array DictEntry} {ep:Nat} {ok ov:abL}
end
section
variable {X:Cx}
def nh:Option Ob->Option (List (List L2.Key×Wv))
 | some (.nL kvs)=>some kvs
 | some (.Am kvs)=>some kvs
 | _=>none
theorem pU{m:Mp}{st:Hs}{H:Hp}{l:Nat}{a:abF}{kvs:List (List L2.Key×Wv)}(S:bZ X.K m st H)(ha:m[l]? =some a)(h:nh st[l]? =some kvs):∃xs,Rd H a (.dT xs)/\RelK X.K m H kvs xs:=by
 unfold nh at h
 split at h
 ·rename_i k' e
  cases h
  obtain⟨xs,h1,h2⟩:=(show ∃ys,H a=some (.dT ys)/\RelK X.K m H kvs ys from S.obj _ _ _ ha e)
  exact⟨xs,.inl h1,h2⟩
 ·rename_i k' e
  cases h
  obtain⟨o,xs,h1,h2⟩:=(show ∃o ys,H a=some (.nO o (.dT ys))/\RelK X.K m H kvs ys from S.obj _ _ _ ha e)
  exact⟨xs,.inr ⟨o,h1⟩,h2⟩
 ·cases h
end
section
variable {X:Cx} {o e f:Expr} {apos cpos:Pos} {td ty tx:TE}
end
section
variable {X:Cx} {es':List Expr} {kt:Nat} {pt:Pos}
end
section
variable {X:Cx}
end
section
variable {prog:abJ} {w:abM} {K:Type} [DecidableEq K] {knd:HeapKind prog w K} {A:abG} {E:abL->abK->Prop} {s:abK} {a b:abF} {xs ys:List (K×abF×abL)}
end
section
variable {prog:abJ} {w:abM} {K:Type} [DecidableEq K] {knd:HeapKind prog w K} {A:abG} {E:abL->abK->Prop} {s:abK} {a b:abF} {xs ys:List (K×abF×abL)}
end
section
variable {X:Cx}
end
section
variable {X:Cx}
end
section
variable {prog:abJ} {w:abM} {K:Type} [DecidableEq K] {knd:HeapKind prog w K} {A:abG} {E:abL->abK->Prop} {s:abK} {d:abF} {xs:List (K×abF×abL)}
end
section
variable {X:Cx}
end
def mh(gd gk:GE):GE:=λρ st=>(gd ρ st).bind λd st1=>match d with
 | .ref l=>if(nh st1[l]?).isSome=true then(gk ρ st1).bind λk st2=>(match n6 k,nh st2[l]? with
  | some kk,some kvs=> .ok ((kq kvs kk).getD .non) st2
  | _,_=> .bad) else .bad
 | _=> .bad
section
variable {X:Cx}
theorem xf{o e:Expr}{gd gk:GE}{apos cpos:Pos}(hu:X.A.units+1 < cLine)(ho:JE X o gd)(he:JE X e gk)(M:M1 X o "get" apos e cpos):JE X (.Call (.Attribute o "get" apos) [e] [] cpos) (mh gd gk) :=
 JE.of (DE hu a6 a6 M) λρ st σ H m Q S R p=>by
  refine ho.go S R (aK.bind p) λd st1 v m1 H1 p1 e1 S1 r1=>?_
  cases d with
  | ref l=>
   dsimp only at p1
   by_cases hd:(nh st1[l]?).isSome=true
   ·rw[if_pos hd] at p1
    unfold ao at r1
    obtain⟨a,rfl,ha⟩:=r1
    obtain⟨ZI,hk1⟩:=Option.isSome_iff_exists.mp hd
    obtain⟨Vv,Vw,_⟩:=pU S1 ha hk1
    refine⟨a,rfl,.inr ⟨Vv,Vw⟩,?_⟩
    refine he.go S1 (R.mono e1) ((aK.bind p1).imp e1 λ_ _ q=>q) λk st2 y m2 H2 p2 e2 S2 r2=>?_
    cases q1:n6 k with
    | none=>rw[q1] at p2;exact ae p2
    | some kk=>
     cases q2:nh st2[l]? with
     | none=>rw[q1,q2] at p2;exact ae p2
     | some kvs=>
      rw[q1,q2] at p2
      have ha2:m2[l]? =some a:=e2.pre _ _ ha
      obtain⟨xs,y1,y2⟩:=pU S2 ha2 q2
      obtain⟨b,rfl,hb⟩:=qV r2 q1
      dsimp only at p2
      refine⟨_,.inr ⟨xs,kk,b,y1,rfl,hb,rfl⟩,?_⟩
      obtain⟨i1,i2⟩:=y2.val kk
      cases q3:kq kvs kk with
      | none=>
       rw[i1 q3]
       rw[q3] at p2
       exact p2 .non m2 H2 (e1.trans e2) S2 (by unfold ao;rfl)
      | some w=>
       obtain⟨u,j1,j2⟩:=i2 w q3
       rw[j1]
       rw[q3] at p2
       exact p2 u m2 H2 (e1.trans e2) S2 j2
   ·rw[if_neg hd] at p1;exact ae p1
  | _=>exact ae p1
end
section
variable {X:Cx}
open Classical in
end
section
variable {X:Cx}
end
section
variable {prog:abJ} {w:abM} {K:Type} [DecidableEq K] {knd:HeapKind prog w K} {A:abG} {E:abL->abK->Prop} {s:abK} {d a:abF} {k:K} {xs:List (K×abF×abL)}
end
section
variable {X:Cx} {o e:Expr} {apos cpos:Pos} {td ty:TE}
end
section
variable {X:Cx} {o e f:Expr} {apos cpos:Pos} {to te tf:TE}
end
section
variable {X:Cx}
end
section
variable {prog:abJ} {w:abM} {A:abG} {E:abL->abK->Prop} {s:abK}
end
section
variable {X:Cx}
end
section
variable {X:Cx}
def KC(ws:List Wv)(st:Hs):Re Wk:=match ws with
 | [.int a,.int b,.int c]=>if CY a b c then .ok (none,pq a c (gX a b c)) st else .bad
 | _=> .bad
def Vx(g:GA):GI:=λρ st=>(g ρ st).bind KC
end
section
variable {prog:abJ} {w:abM} {A:abG} {R:Result->abK->Prop} {I:abF} {fp wr:List abF} {n:Nat} {P:Nat->abL->Prop} {St:Nat->Heap->Prop}
end
section
variable {prog:abJ} {w:abM} {A:abG} {E:abL->abK->Prop} {s:abK}
end
section
variable {X:Cx}
end
section
variable {lt:Nat->Nat->Bool} {N:Nat}
end
section
variable {P:abJ} {w:abM} {K:PySem.W.Frag} {mg:Str->Option abL} {base:Heap} {p:Lm} {scope:Scope} {x y:Str} {cy:abF}
end
abbrev Kw:=Int×(Int ⊕ Str)
section
variable {prog:abJ} {w:abM} {A:abG} {E:abL->abK->Prop} {s:abK}
end
section
variable {X:Cx} {pins:List (abF×Obj)} {σ:L2.St} {H:Hp} {s:abK} {m:Mp}
end
def kd:Kw:=(0,.inl 0)
section
variable {X:Cx} {pins:List (abF×Obj)} {σ:L2.St} {base:Heap} {m0 m m':Mp} {H0 H H':Hp} {st:Hs} {D kS:abF} {e1:Nat} {s s':abK}
end
section
variable {X:Cx} {pins:List (abF×Obj)} {σ:L2.St} {base:Heap} {m0 m m':Mp} {H0 H H':Hp} {st:Hs} {D kS:abF} {e1:Nat} {s s':abK}
end
section
variable {X:Cx} {pins:List (abF×Obj)} {σ:L2.St} {base:Heap} {m:Mp} {H:Hp} {st:Hs} {s:abK}
end
open Classical in
section
variable {X:Cx}
end
section
variable {X:Cx}
end
section
variable {X:Cx}
end
section
variable {prog:abJ} {w:abM} {A:abG} {E:abL->abK->Prop} {s:abK}
end
section
variable {X:Cx}
end
section
variable {X:Cx}
end
section
open PySem.SeqAt PySem.MeetsSeq PySem.MeetsSeq2 PySem.MeetsSeq3
end
variable {X:Cx}
def oLt:gT:=λx y st=>Rf x y st
theorem NC(hu:X.A.units+64 < cLine):jY X (abS .Lt) oLt:=Nw hu
section
variable {X:Cx}
theorem Jd:fh X (abS .IsNot) (λx y H Q=>∃a b,x= .bl a/\y= .bl b/\Q (.bl (a != b)) H):=by
 intro pins s σ H x y v u Q I rx ry h
 obtain⟨a,b,rfl,rfl,q⟩:=h
 cases rx
 cases ry
 exact isnot_bool ⟨.bl (a != b),H,I,rfl,q⟩
def oZ:gT:=λx y st=>match x,y with
 | .bl a,.bl b=> .ok (.bl (a != b)) st
 | x,y=>qG x y st
theorem Je:jY X (abS .IsNot) oZ:=by
 obtain⟨r,h1,h2⟩:=DT (X:=X)
 refine⟨_,fh.or h1 Jd,λx y a b st H m Q S rx ry p=>?_⟩
 cases x with
 | bl c=>
  cases y with
  | bl d=>
   have e1:a= .bl c:=by unfold ao at rx;exact rx
   have e2:b= .bl d:=by unfold ao at ry;exact ry
   exact .inr ⟨c,d,e1,e2,p _ m H Ext.refl S jg⟩
  | _=>exact .inl (h2 _ _ _ _ st H m Q S rx ry p)
 | _=>exact .inl (h2 _ _ _ _ st H m Q S rx ry p)
theorem ND{x:Wv}{st:Hs}:oZ x .non st=qG x .non st:=by cases x<;>rfl
end
section
variable {X:Cx} {o e f:Expr} {apos cpos:Pos} {td ty tx:TE}
end
section
variable {X:Cx} {pins:List (abF×Obj)} {σ:L2.St} {m:Mp} {H:Hp} {st:Hs} {s:abK}
end
section
variable {X:Cx}
end
section
variable {X:Cx} {es':List Expr} {kt:Nat} {pt:Pos}
end
section
variable {prog:abJ} {w:abM} {A:abG}
end
section
variable {X:Cx}
end
section
variable {X:Cx}
end
section
variable {X:Cx}
end
section
variable {prog:abJ} {w:abM} {A:abG} {E:abL->abK->Prop} {s:abK} {d it:abF} {es:Array DictEntry} {ep i:Nat}
end
abbrev KN(H:Hp):List (NK.KD×V)->List (NK.KD×abF×abL)->Prop:=Paired λp q=>p.1=q.1/\KA H 8 (.ref q.2.1) p.1.1/\RelV p.2 q.2.2
theorem KN.val{H:Hp}{kvs:List (NK.KD×V)}{xs:List (NK.KD×abF×abL)}(r:KN H kvs xs)(k:NK.KD):jZ (mU kvs k) ((atKey xs k).map (·.2)):=by
 induction r with
 | nil=>exact gB
 | @cons p q ps qs h t ih=>
  obtain⟨h1,_,h2⟩:=h
  by_cases e:p.1=k
  ·have e':q.1=k:=h1.symm.trans e
   have b:atKey (q::qs) k=some q.2:=by simp[atKey,j8,e']
   rw[j7 e,b];exact h2
  ·have e':¬q.1=k:=λz=>e (h1.trans z)
   have b:atKey (q::qs) k=atKey qs k:=by simp[atKey,j8,e']
   rw[j9 e,b];exact ih
theorem KN.keeps{H H':Hp}{kvs:List (NK.KD×V)}{xs:List (NK.KD×abF×abL)}(r:KN H kvs xs)(ht:∀b ys,H b=some (.tup ys)->H' b=some (.tup ys)):KN H' kvs xs :=
 Paired.Br r λ_ _ z=>⟨z.1,KA.stay ht _ _ _ z.2.1,z.2.2⟩
theorem KG{P:abJ}{w:abM}{H:Hp}{h:Heap}{a:abF}{kvs:List (NK.KD×V)}(ok:jX P w H h)(e:H a=some (.dN kvs)):kvs.length<=abW/\(a == sysModules)=false/\∃xs,KN H kvs xs/\h.DictOfH (NK.iK P w) a xs:=by
 obtain⟨z,y,xs,r,o,es,ep,h1,h2,h3,h4,h5⟩:=(show dn P w H h a (.dN kvs) from ok a _ e)
 refine⟨z,y,xs,r,o,es,ep,h1,h2,h3,h4,λx hx=>?_,h5⟩
 have all:∀{l:List (NK.KD×V)}{m:List (NK.KD×abF×abL)},KN H l m->∀x∈m,(NK.iK P w).is h x.1 x.2.1:=by
  intro l m q
  induction q with
  | nil=>intro x hx;exact nomatch hx
  | @cons p q ps qs hq t ih=>
   intro x hx
   rcases List.mem_cons.mp hx with e | hx
   ·subst e
    exact KA.rd ok 8 (.ref x.2.1) _ _ (by rw[<-hq.1];exact hq.2.1) rfl
   ·exact ih x hx
 exact all r x hx
def NF:TE:=λ_ H Q=>∀p,H p=none->Q (.ref p) (upd H p (.dN []))
section
variable {X:Cx} {o e f:Expr} {pos apos cpos:Pos} {td ty tx:TE}
theorem EY:PE X (.Dict [] [] pos) NF:=λpins s σ H Q I h=>
 wpAny_Dict_empty ⟨.ref s.heap.objs.size,_,I.laid (a:=s.heap.objs.size) (o:=.dN []) (t':=s.toks) (λ_ _ q=>bA _ q) (aC _) ⟨cL _,beq_eq_false_iff_ne.mpr (bo (bN I.big)),[],.nil,_,#[],0,cJ _ rfl,⟨rfl,rfl,rfl⟩,rfl,rfl,List.nodup_nil⟩,rfl,h _ (I.hok.fresh (aC _))⟩
end
section
variable {X:Cx}
end
def qZ:Nat->Wv->Option PyData
 | _,.non=>some .none
 | _,.int i=>some (.int i)
 | _,.str x=>some (.str x)
 | n+1,.tup ws=>(ws.mapM (qZ n)).map lq
 | _,_=>none
def zb(w:Wv):Option NK.KD:=match qZ 8 w with
 | some d=>if h:NK.kd 8 d=true/\NK.J_ d=true then some ⟨d,h⟩ else none
 | none=>none
theorem EZ{K:PySem.W.Frag}{m:Mp}{H:Hp}:∀(n:Nat)(w:Wv)(v:V)(d:PyData),ao K m H w v->qZ n w=some d->KA H n v d:=by
 intro n
 induction n with
 | zero=>
  intro w v d r e
  cases w with
  | non=>cases e;unfold ao at r;subst r;exact gB
  | int i=>cases e;unfold ao at r;subst r;exact rfl
  | str x=>cases e;unfold ao at r;rw[r.1];exact rfl
  | _=>cases e
 | succ n ih=>
  intro w v d r e
  cases w with
  | non=>cases e;unfold ao at r;subst r;exact gB
  | int i=>cases e;unfold ao at r;subst r;exact rfl
  | str x=>cases e;unfold ao at r;rw[r.1];exact rfl
  | tup ws=>
   unfold ao at r
   obtain⟨a,xs,rfl,ha,rs⟩:=r
   have e':(ws.mapM (qZ n)).map lq=some d:=e
   cases q:ws.mapM (qZ n) with
   | none=>rw[q] at e';cases e'
   | some ds=>
    rw[q] at e'
    cases e'
    refine⟨xs,ha,?_⟩
    have key:∀(ws:List Wv)(xs:List V)(ds:List PyData),aq K m H ws xs->ws.mapM (qZ n)=some ds->Paired (KA H n) xs ds:=by
     intro ws
     induction ws with
     | nil=>intro xs ds r e;unfold aq at r;subst r;cases e;exact .nil
     | cons w ws ZJ=>
      intro xs ds r e
      unfold aq at r
      obtain⟨y,t,rfl,r1,r2⟩:=r
      rw[List.mapM_cons] at e
      cases e1:qZ n w with
      | none=>rw[e1] at e;cases e
      | some d1=>
       cases e2:ws.mapM (qZ n) with
       | none=>rw[e1,e2] at e;cases e
       | some dr=>
        rw[e1,e2] at e
        cases e
        exact .cons (ih _ _ _ r1 e1) (ZJ _ _ r2 e2)
    exact key ws xs ds rs q
  | _=>cases e
theorem E0{K:PySem.W.Frag}{m:Mp}{H:Hp}{w:Wv}{v:V}{k:NK.KD}(r:ao K m H w v)(e:zb w=some k):∃b,v= .ref b/\KA H 8 (.ref b) k.1:=by
 unfold zb at e
 cases q:qZ 8 w with
 | none=>rw[q] at e;cases e
 | some d=>
  rw[q] at e
  dsimp only at e
  by_cases h:NK.kd 8 d=true/\NK.J_ d=true
  ·rw[dif_pos h] at e
   cases e
   have ka:=EZ 8 w v d r q
   cases v with
   | ref b=>exact⟨b,rfl,ka⟩
   | _=>cases d<;>first | exact ae ka | exact(bE h.2).elim
  ·rw[dif_neg h] at e;cases e
def AM:GE:=λ_ st=> .ok (.ref st.length) (st++[.nM []])
section
variable {X:Cx} {o e f:Expr} {apos cpos:Pos}
theorem Jf{pos:Pos}:JE X (.Dict [] [] pos) AM:=JE.of EY λρ st σ H m Q S R p=>λq hq=>
 p (.ref q) (m++[q]) _ (Ext.more.trans (Ext.iD (.inl hq))) (S.uU hq ⟨[],bC,RelK.nil⟩) (S.newest q _)
end
section
variable {X:Cx}
end
end J
namespace TB
open PySem PySem.SetTable
def stp(M i:Nat):Nat:=(i * 5+1) % M
def Lp(mask:Nat):Nat->Nat->Nat->Nat×Nat
 | 0,i,p=>(i,p)
 | n+1,i,p=>Lp mask n (leap mask i p).1 (leap mask i p).2
section
variable {t:SetTable} {hashAt:Nat->Int} {h:Int}
end
def Ht(h:Heap)(a:abF)(l:List (Int×abL)):Prop:=∃o es ep t,h.get? a=some o/\o.ExactSet/\o.data= .set es ep t/\es.toList.Perm l/\t.place.size=es.size/\t.dummies=#[]/\(t.mask=7\/t.mask=31\/t.mask=127\/t.mask=511)/\es.size * 5 < t.mask * 3
section
variable {prog:abJ} {w:abM} {A:abG} {E:abL->abK->Prop} {s:abK}
end
end TB
namespace J
open PySem PySem.Spec PyProof.Rows L2 TB
section
variable {prog:abJ} {w:abM} {A:abG} {R:Result->abK->Prop} {I:abF} {fp wr:List abF} {n:Nat} {P:Nat->abL->Prop} {St:Nat->Heap->Prop}
end
section
variable {prog:abJ} {w:abM} {A:abG} {E:abL->abK->Prop} {s:abK}
end
section
variable {prog:abJ} {w:abM} {A:abG} {E:abL->abK->Prop} {s:abK}
end
section
variable {X:Cx}
end
end J
namespace JT
open PySem PyProof.Rows
class Od where
 kd:SortKind
 ik:ab6->Prop
 kn:ab6->Int
abbrev Kd[Od]:SortKind:=Od.kd
abbrev Ik[Od](p:ab6):Prop:=Od.ik p
def kn[Od](p:ab6):Int:=Od.kn p
def K[Od](xs:Array ab6)(i:Nat):Int:=match xs[i]? with
 | some p=>kn p
 | none=>0
class Oa [Od] (prog:abJ) (w:abM) (A:abG) (E:abL->abK->Prop) (s:abK):Prop where
 lt:∀{st:SortSt}{x y:ab6}{Q:Option Bool->SortSt->Prop},kindOf st=Kd->Ik x->Ik y->Q (some (decide (kn x < kn y))) st->wpS (model prog w) A E s (lt' x y) Q st
section
variable [Od] {prog:abJ} {w:abM} {A:abG} {E:abL->abK->Prop} {s:abK} [Oa prog w A E s]
def gp(left:Bool)(key:ab6)(arr:Array ab6)(base i:Nat):Bool:=if left then decide (K arr (base+i) < kn key) else !decide (kn key < K arr (base+i))
end
section
variable {α:Type} {f:α->Int} {A B:List α}
end
section
variable [Od]
section
variable [Od] {prog:abJ} {w:abM} {A:abG} {E:abL->abK->Prop} {s:abK} [Oa prog w A E s]
end
section
variable {α:Type} {f:α->Int} {A B:List α}
theorem drop_take{i n:Nat}(h:i<=n):A.drop i=(A.take n).drop i++A.drop n:=by
 have h1:=IL n A
 have h2:=congrArg (List.drop i) h1
 rw[List.drop_append] at h2
 rw[<-h2]
 by_cases c:n<=A.length
 ·rw[ql,Nat.min_eq_left c,IM h,Ey]
 ·rw[Ng (show A.length<=n by exact Nat.le_of_not_le ‹_›),List.drop_nil]
end
theorem vc{a:Array ab6}(i n:Nat):(a.extract i n).toList=(a.toList.take n).drop i:=by
 rw[Q8,Nh,List.drop_take]
section
variable [Od] {prog:abJ} {w:abM} {A:abG} {E:abL->abK->Prop} {s:abK} [Oa prog w A E s]
end
section
variable [Od] {prog:abJ} {w:abM} {A₀:abG} {E:abL->abK->Prop} {s:abK} [Oa prog w A₀ E s]
end
section
variable [Od] {prog:abJ} {w:abM} {A:abG} {E:abL->abK->Prop} {s:abK} [Oa prog w A E s] {P:Array (Nat×Nat×Nat)} {g:Nat}
end
section
variable [Od] {prog:abJ} {w:abM} {A:abG} {E:abL->abK->Prop} {s:abK} [Oa prog w A E s] {P:Array (Nat×Nat×Nat)} {g:Nat}
end
section
variable [Od] {prog:abJ} {w:abM} {A₀:abG} {E:abL->abK->Prop} {s:abK} [Oa prog w A₀ E s]
end
section
variable [Od] {prog:abJ} {w:abM} {A₀:abG} {E:abL->abK->Prop} {s:abK} [Oa prog w A₀ E s]
end
end
section
variable {prog:abJ} {w:abM} {A:abG} {E:abL->abK->Prop} {s:abK}
end
end JT
namespace J
open PySem PySem.Spec PyProof.Rows PySem.W L2
section
variable {prog:abJ} {w:abM} {A:abG} {E:abL->abK->Prop} {s:abK}
end
section
variable {X:Cx}
end
open PySem PySem.Spec PyProof.Rows L2
section
variable {X:Cx}
end
section
variable {prog:abJ} {w:abM} {A:abG} {E:abL->abK->Prop} {s:abK}
end
section
variable {X:Cx}
end
theorem n8:fillsNumberSlot (.type "tuple") "mul"=pure false :=
 PySem.fillsNumberSlot_seq (id:="tuple.__mul__") (r:=some (.builtin "tuple.__rmul__")) F.slot_tuple_mul.lookup (by decide+kernel) F.slot_tuple_rmul.lookup (by decide+kernel)
theorem vh:seqRepeat? (.type "tuple")=pure (some (.builtin "tuple.__mul__")):=by
 unfold seqRepeat?
 rw[PySem.seqSlot_of (T:="tuple") (name:="__mul__") (id:="tuple.__mul__") F.slot_tuple_mul.lookup (by decide+kernel),PySem.seqSlot_of (T:="tuple") (name:="__rmul__") (id:="tuple.__rmul__") F.slot_tuple_rmul.lookup (by decide+kernel)]
 rfl
theorem vi(a:Int)(t:Tok)(l:abF)(o:Obj)(its:Array abL)(n:Nat) :
  Meets (Builtin.«int.__rmul__» ⟨[.int a t,.ref l],[]⟩) (λ_ R s=>s.heap.get? l=some o/\o.cls= .type "tuple"/\o.data= .seq its n/\R (.ok (.ret Value.notImplemented)) s) :=
 .of_wp λprog w A R s h=>by
  obtain⟨hp,g,d,tk,os⟩:=s;obtain⟨hl,hc,hd,h⟩:=h
  have hT:(⟨hp,g,d,tk,os⟩:abK).TypeIs (.ref l) "tuple":=⟨o,hl,hc⟩
  wp_walk
  rw[hd]
  refine ab4 ?_
  wp_walk
  exact⟨_,rfl,h⟩
theorem Ci(l:abF)(o:Obj)(its:Array abL)(n:Nat)(x:Int)(u:Tok)(h0:its.isEmpty=false)(h1:2<=x)(h2:x < 2 ^ 63)(h3:its.size * x.toNat<=abW) :
  Meets (Builtin.«tuple.__mul__» ⟨[.ref l,.int x u],[]⟩) (λ_ R s=>s.heap.get? l=some o/\o.cls= .type "tuple"/\o.data= .seq its n/\R (.ok (.ret (aO s.heap.objs.size))) { s with heap:=s.heap.push { cls:=pG "tuple",data:=Data.seq (qv (λx1 x2=>x1++x2) #[] (aS x.toNat its)) } }) :=
 .of_wp λprog w A R s h=>by
  obtain⟨hl,hc,hd,h⟩:=h
  show abY _ _ (asIndex (.int x u) >>= _) _ _ _
  have hT:s.TypeIs (.ref l) "tuple":=⟨o,hl,hc⟩
  have c1:(decide (x < -(2 ^ 63))||decide (x >= 2 ^ 63))=false:=by simp;omega
  have c2:(decide (x<=0)||its.isEmpty)=false:=by rw[h0];simp;omega
  have c3:(its.isEmpty||x == 1)=false:=by rw[h0];simp;omega
  have hm:(its.size:Int) * x<=abW:=by
   have e:x=(x.toNat:Int):=by omega
   rw[e]
   exact_mod_cast h3
  have c4:¬(its.size:Int) * x > (2 ^ 63 - 1) / 8:=by
   have:(abW:Int)<=(2 ^ 63 - 1) / 8:=by decide
   omega
  have c5:Builtin.Tuple.tupleTooMany ((its.size:Int) * x)=false:=decide_eq_false (by omega)
  refine abZ (show abY _ _ (asIndex (.int x u)) _ _ _ from ab4 ?_)
  rw[c1]
  refine(show abY _ _ (yh (.ref l) >>= _) _ _ _ from abZ (wpAny_tupleItemsOf hl hd ?_))
  rw[c3]
  simp only[oK,if_false]
  rw[c2]
  simp only[oK,if_false]
  rw[if_neg c4,c5]
  simp only[oK,if_false]
  refine abZ (show abY _ _ (newObj (.type "tuple") (.seq _)) _ _ _ from ab3 (ab4 ⟨_,rfl,h⟩) ?_)
  show(qv (λx1 x2=>x1++x2) #[] (aS x.toNat its)).size<=abW
  have f0:=foldl_rep its.toList x.toNat []
  rw[k9] at f0
  have f1:its.toList.toArray=its:=by simp
  rw[f1] at f0
  rw[f0,a7,len_rep,C7,Ag]
  exact h3
section
variable {X:Cx}
def Rj(K:PySem.W.Frag):R2:=λx y H Q=>∃a k xs,x= .ref a/\y= .int k/\fT K H a xs/\xs≠[]/\2<=k/\k < 2 ^ 63/\xs.length * k.toNat<=abW/\∀p,H p=none->Q (.ref p) (upd H p (.tup (aS k.toNat xs).flatten))
theorem Jg:fh X (abO .Mult) (Rj X.K):=by
 intro pins s σ H x y v u Q I rx ry h
 obtain⟨a,k,xs,rfl,rfl,hH,h0,h1,h2,hz,q⟩:=h
 cases rx
 obtain⟨t,rfl⟩:=ry
 obtain⟨its,r,⟨o,g1,g2,n,g3⟩,_⟩:=I.tuple hH
 have hl:=r.length
 have hlen:its.toArray.size * k.toNat<=abW:=by rw[a7,<-hl];exact hz
 have hne:its.toArray.isEmpty=false:=by
  cases r with
  | nil=>exact absurd rfl h0
  | cons _ _=>rfl
 have hnew:qv (λx1 x2=>x1++x2) #[] (aS k.toNat its.toArray)=(aS k.toNat its).flatten.toArray:=by
  have:=foldl_rep its k.toNat []
  rw[k9] at this
  exact this
 refine wpAny_binaryOp_repeat_ref (T:="tuple") (U:="int") (by decide) ⟨o,g1,g2⟩ (λs'=>typeIs_int s' k t) n8 F.fills_int_mul yJ vh F.slot_int_index.lookup
  (call_meets yJ (typeIs_int s k t) F.entry_int_rmul (F.args_int_rmul_2 _ _) (vi k t a o its.toArray n)
   ⟨g1,g2,g3,rfl,⟨o,g1,g2⟩,call_meets F.slot_tuple_mul ⟨o,g1,g2⟩ F.entry_tuple_mul (F.args_tuple_mul_2 _ _) (Ci a o its.toArray n k t hne h1 h2 hlen) ⟨g1,g2,g3,?_⟩⟩)
 rw[hnew]
 refine⟨.ref s.heap.objs.size,_,I.laid (t':=s.toks) (o:=.tup (aS k.toNat xs).flatten) (λb ob q=>bA _ q) (aC _) ?_,rfl,q _ (I.hok.fresh (aC _))⟩
 exact⟨by rw[len_rep,Ag];exact hz,_,r.rep k.toNat,uG _ _,uq.new _ _⟩
def dy:gT:=λx y st=>match x,y with
 | .tup ws,.int n=>if ws≠[]/\2<=n/\n < 2 ^ 62/\ws.length * n.toNat<=lim then .ok (.tup (aS n.toNat ws).flatten) st else .bad
 | x,y=>Ky x y st
theorem E1:jY X (abO .Mult) dy:=by
 obtain⟨r,h1,h2⟩:=Ja (X:=X)
 refine⟨_,fh.or Jg h1,λx y a b st H m Q S rx ry p=>?_⟩
 cases x with
 | tup ws=>
  cases y with
  | int n=>
   have p':dH X.K m H (if ws≠[]/\2<=n/\n < 2 ^ 62/\ws.length * n.toNat<=lim then .ok (.tup (aS n.toNat ws).flatten) st else .bad) Q:=p
   by_cases c:ws≠[]/\2<=n/\n < 2 ^ 62/\ws.length * n.toNat<=lim
   ·rw[if_pos c] at p'
    cases aZ ry
    unfold ao at rx
    obtain⟨d,xs,rfl,hd,rs⟩:=rx
    refine .inl ⟨d,n,xs,rfl,rfl,fT.of hd,λe=>?_,c.2.1,by have:=c.2.2.1;omega,by rw[<-rs.length];exact eL c.2.2.2,λq hq=>?_⟩
    ·subst e
     exact c.1 (yR rs.length)
    ·have eY:Ext X.K m H m (upd H q (.tup (aS n.toNat xs).flatten)):=Ext.iD (.inl hq)
     refine p' (.ref q) m _ eY (S.fresh hq) ?_
     unfold ao
     exact⟨q,_,rfl,bC,(nX rs n.toNat).mono eY⟩
   ·rw[if_neg c] at p';exact ae p'
  | _=>exact .inr (h2 _ _ _ _ st H m Q S rx ry p)
 | _=>exact .inr (h2 _ _ _ _ st H m Q S rx ry p)
end
def E2(f:PySem.Str)(v:Wv):List (PySem.Str×Wv)->List (PySem.Str×Wv)
 | []=>[(f,v)]
 | (g,x)::r=>if g=f then(g,v)::r else(g,x)::E2 f v r
section
variable {K:PySem.W.Frag} {m:Mp} {H:Hp}
theorem tX{f:PySem.Str}{w:Wv}:∀{fs:List (PySem.Str×Wv)}{xs:List (PySem.Str×V)},RelK K m H fs xs->fs.lookup f=some w->∃v,xs.lookup f=some v/\ao K m H w v
 | [],xs,r,e=>by cases e
 | (g,x)::t,xs,r,e=>by
  obtain⟨v,ys,rfl,r1,r2⟩:=r.cons_inv
  rw[fu] at e ⊢
  cases b:f == g with
  | true=>rw[b] at e;cases e;exact⟨v,rfl,r1⟩
  | false=>rw[b] at e;exact tX r2 e
theorem tY{f:PySem.Str}:∀{fs:List (PySem.Str×Wv)}{xs:List (PySem.Str×V)},RelK K m H fs xs->fs.lookup f=none->xs.lookup f=none
 | [],xs,r,e=>by rw[r.nil_inv];rfl
 | (g,x)::t,xs,r,e=>by
  obtain⟨v,ys,rfl,r1,r2⟩:=r.cons_inv
  rw[fu] at e ⊢
  cases b:f == g with
  | true=>rw[b] at e;cases e
  | false=>rw[b] at e;exact tY r2 e
theorem xg{f:PySem.Str}{w:Wv}{v:V}(h:ao K m H w v):∀{fs:List (PySem.Str×Wv)}{xs:List (PySem.Str×V)},RelK K m H fs xs->RelK K m H (E2 f w fs) (jb f v xs)
 | [],xs,r=>by rw[r.nil_inv];exact RelK.nil.snoc f h
 | (g,x)::t,xs,r=>by
  obtain⟨y,ys,rfl,r1,r2⟩:=r.cons_inv
  unfold E2 jb
  by_cases e:g=f
  ·rw[if_pos e,if_pos e];exact RelK.cons h r2
  ·rw[if_neg e,if_neg e];exact RelK.cons r1 (xg h r2)
theorem zc{c:PySem.Str}{C D:abF}(h:ClsAt K c C)(k:ClsAt K c D):C=D:=by
 unfold ClsAt at h k
 rw[h] at k
 cases k
 rfl
end
def Own(K:PySem.W.Frag)(c f:PySem.Str):Prop:=∃C,ClsAt K c C/\CV K C/\l5 K C f
def fV(st:Hs)(c:PySem.Str):Wv->Option (List (PySem.Str×Wv))
 | .ref l=>match st[l]? with
  | some (.ins c' fs)=>if c'=c then some fs else none
  | _=>none
 | _=>none
theorem n9{K:PySem.W.Frag}{m:Mp}{H:Hp}{st:Hs}{c:PySem.Str}{o:Wv}{v:V}{fs:List (PySem.Str×Wv)}(S:bZ K m st H)(r:ao K m H o v)(e:fV st c o=some fs) :
  ∃l a C dx xs,o= .ref l/\st[l]? =some (.ins c fs)/\v= .ref a/\m[l]? =some a/\H a=some (.ins C dx xs)/\ClsAt K c C/\RelK K m H fs xs:=by
 cases o with
 | ref l=>
  unfold fV at e
  cases e1:st[l]? with
  | none=>simp only[e1] at e;cases e
  | some ob=>
   simp only[e1] at e
   cases ob with
   | ins c' gs=>
    dsimp only at e
    by_cases ec:c'=c
    ·rw[if_pos ec] at e
     cases e
     subst ec
     unfold ao at r
     obtain⟨a,rfl,ha⟩:=r
     obtain⟨C,dx,xs,h1,h2,h3⟩:=S.obj l a _ ha e1
     exact⟨l,a,C,dx,xs,rfl,e1,rfl,ha,h1,h2,h3⟩
    ·rw[if_neg ec] at e;cases e
   | _=>cases e
 | _=>cases e
def iR(c f:PySem.Str)(g:GE):GE:=λρ st=>(g ρ st).bind λo st1=>match(fV st1 c o).bind (·.lookup f) with
 | some w=> .ok w st1
 | none=> .bad
def E3(c f:PySem.Str)(o v:Wv)(st:Hs):Option Hs:=match fV st c o,o with
 | some fs,.ref l=>if fs.length < 900 then some (st.set l (.ins c (E2 f v fs))) else none
 | _,_=>none
def lS(c f:PySem.Str)(gv go:GE):GS:=λρ st=>(gv ρ st).bD ρ λv st1=>(go ρ st1).bD ρ λo st2=>match E3 c f o v st2 with
 | some st3=> .nx ρ st3
 | none=> .bad
def lM(c f:PySem.Str)(n:Nat)(F:List Wv->Hs->Re Wv)(go:GE)(ga:GA):GE:=λρ st=>(go ρ st).bind λo st1=>match(fV st1 c o).map (·.lookup f) with
 | some none=>(ga ρ st1).bind λws st2=>if ws.length+1=n then F (o::ws) st2 else .bad
 | _=> .bad
def TJ(c:PySem.Str)(F:List Wv->Hs->Re Wv)(ws:List Wv)(st:Hs):Re Wv:=match F (.ref st.length::ws) (st++[.ins c []]) with
 | .ok .non st2=> .ok (.ref st.length) st2
 | _=> .bad
def AN(c:PySem.Str)(n:Nat)(F:List Wv->Hs->Re Wv)(ga:GA):GE:=λρ st=>(ga ρ st).bind λws st1=>if ws.length+1=n then TJ c F ws st1 else .bad
def sG(P:abJ)(w:abM)(K:PySem.W.Frag)(mg:Str->Option abL)(base:Heap)(k:Nat)(c f:Str)(n:Nat)(F:List Wv->Hs->Re Wv):Prop :=
 ∃C a fd ps,FnOk P w K mg base (CXJ P w) k a fd ps (spW K n F)/\ClsAt K c C/\CV K C/\Meth K C f a/\Binds K fd ps []
def xh(P:abJ)(w:abM)(K:PySem.W.Frag)(mg:Str->Option abL)(base:Heap)(k:Nat)(c:Str)(n:Nat)(F:List Wv->Hs->Re Wv):Prop :=
 ∃C a fd ps j,j+1<=k/\FnOk P w K mg base (CXJ P w) j a fd ps (spW K n F)/\ClsAt K c C/\mg c=some (.ref C)/\Mk K C a/\Binds K fd ps []
section
variable {X:Cx}
theorem NG{o:Expr}{c f:Str}{g:GE}{pos:Pos}(ho:JE X o g)(hb:attributeBase o f X.env (eval o X.env)=eval o X.env)(hc:Own X.K c f):JE X (.Attribute o f pos) (iR c f g) :=
 JE.of (LX a6 hb) λρ st σ H m Q S R p=>ho.go S R (aK.bind p) λw st1 v m1 H1 p1 e1 S1 r1=>by
  cases e:fV st1 c w with
  | none=>rw[e] at p1;exact ae p1
  | some fs=>
   rw[e] at p1
   dsimp only[Option.bind] at p1
   obtain⟨l,a,C,dx,xs,rfl,h1,rfl,ha,h2,h3,h4⟩:=n9 S1 r1 e
   obtain⟨C',k1,k2,k3⟩:=hc
   cases zc h3 k1
   cases e2:fs.lookup f with
   | none=>rw[e2] at p1;exact ae p1
   | some u=>
    rw[e2] at p1
    obtain⟨y,l1,l2⟩:=tX h4 e2
    exact⟨a,C,dx,xs,y,rfl,h2,k2,k3,l1,p1 y m1 H1 e1 S1 l2⟩
theorem E4{o e:Expr}{c f:Str}{go ge:GE}{pos pos':Pos}(ho:JE X o go)(he:JE X e ge)(hs:swapsWith e (some (.Attribute o f pos')) pos.line X.env=pure false)(hc:Own X.K c f):JS X (.Assign [.Attribute o f pos'] e pos) (lS c f ge go) :=
 JS.of (LY a6 a6 hs) λρ st σ H m D S R p=>by
  refine he.go S R (ba.cS R p) λv st1 vv m1 H1 p1 e1 S1 rv=>?_
  refine ho.go S1 (R.mono e1) ((ba.cS (m:=m) (H:=H) R p1).imp e1 λ_ _ q=>q) λd st2 vd m2 H2 p2 e2 S2 rd=>?_
  cases e3:fV st2 c d with
  | none=>unfold E3 at p2;rw[e3] at p2;exact ae p2
  | some fs=>
   obtain⟨l,a,C,dx,xs,rfl,h1,rfl,ha,h2,h3,h4⟩:=n9 S2 rd e3
   unfold E3 at p2
   rw[e3] at p2
   dsimp only at p2
   obtain⟨C',k1,k2,k3⟩:=hc
   cases zc h3 k1
   by_cases hl:fs.length < 900
   ·rw[if_pos hl] at p2
    have wr:Wr (H2 a):=.inr (.inr (.inr (.inr (.inr ⟨_,_,_,h2⟩))))
    have ex:Ext X.K m2 H2 m2 (upd H2 a (.ins C dx (jb f vv xs))):=Ext.iD wr
    have Rk:=e1.trans e2
    refine⟨a,C,dx,xs,rfl,h2,k2,k3,(by have:=h4.length;omega),p2 σ m2 _ (Rk.trans ex) ?_ (R.mono (Rk.trans ex))⟩
    exact S2.qC ha h1 rfl ⟨C,dx,_,bC,h3,(xg (ao.mono e2 _ _ rv) h4).mono ex⟩
   ·rw[if_neg hl] at p2;exact ae p2
theorem E5{prog:abJ}{w:abM}{A:abG}{E:abL->abK->Prop}{s:abK}{env:Env}{o:Expr}{name:Str}{apos pos:Pos}{args:List Expr}{Q:abL->abK->Prop}(hbase:attributeBase o name env (eval o env)=eval o env)
  (hfew:((backTo pos (abX args env)).all (λx=> !x.1)&&(backToKw pos (keywordEach [] env)).all (λx=>x.1.isSome)&&decide (args.length+([]:List Keyword).length+(if([]:List Keyword).isEmpty then 0 else 1) < 30))=true)(hline:(apos.endLine == pos.line)=true)
  (h:abY (model prog w) A (eval o env) (λov s₁=>∀pl,abY (model prog w) A (getMethod ov name pl) (λfx s₂=>abY (model prog w) A (callWith pos fx.1 fx.2 (backTo pos (abX args env)) (backToKw pos (keywordEach [] env))) Q E s₂) E s₁) E s) :
  abY (model prog w) A (eval (.Call (.Attribute o name apos) args [] pos) env) Q E s:=by
 rw[arm_eval_Call,hbase]
 refine abZ (ab2 h (λov s₁ h₁=>?_) λ_ _ e=>e)
 refine abZ (wpAny_standAt ?_)
 have Rl:methodCallForm (args.length+([]:List Keyword).length) (backTo pos (abX args env)) (backToKw pos (keywordEach [] env))=true:=hfew
 have hpos:methodCallPos true o env apos pos=pure pos:=by unfold methodCallPos;simp[hline]
 unfold methodCall
 rw[Rl]
 refine abZ (ab1 ?_)
 unfold calleeOf
 rw[if_pos rfl]
 exact ab2 (h₁ _) (λfx s₂ h₂=>abZ (wpAny_of_eq hpos h₂)) λ_ _ e=>e
theorem NH{k n:Nat}{c f:Str}{F:List Wv->Hs->Re Wv}{o e:Expr}{es:List Expr}{go:GE}{g:GA}{apos pos:Pos}
  (G:sG X.prog X.w X.K X.mg X.base k c f n F)(hr:gD k X.A)(ho:JE X o go)(ha:JA X (e::es) g)
  (hst:abX (e::es) X.env=(false,eval e X.env)::abX es X.env)(hpl:(backTo pos (abX es X.env)).any (·.1)=false)
  (hbase:attributeBase o f X.env (eval o X.env)=eval o X.env)
  (hfew:((backTo pos (abX (e::es) X.env)).all (λx=> !x.1)&&(backToKw pos (keywordEach [] X.env)).all (λx=>x.1.isSome)&&decide ((e::es).length+([]:List Keyword).length+(if([]:List Keyword).isEmpty then 0 else 1) < 30))=true)(hline:(apos.endLine == pos.line)=true) :
  JE X (.Call (.Attribute o f apos) (e::es) [] pos) (lM c f n F go g):=by
 obtain⟨C,fa,fd,ps,G,k1,k2,k3,hb⟩:=G
 intro ρ st σ H m Q S R p pins s I
 have ob:=ho.go (T:=λv H1=>∃w st1 m1,eO X σ m H (match(fV st1 c w).map (·.lookup f) with
   | some none=>(g ρ st1).bind λws st2=>if ws.length+1=n then F (w::ws) st2 else .bad
   | _=> .bad) Q/\Ext X.K m H m1 H1/\bZ X.K m1 st1 H1/\ao X.K m1 H1 w v) S R (aK.bind p)
  λw st1 v m1 H1 p1 e1 S1 r1=>⟨w,st1,m1,p1,e1,S1,r1⟩
 refine E5 hbase hfew hline (bD (ob pins s I) λu s1 ⟨x,H1,I1,rx,w,st1,m1,p1,e1,S1,r1⟩ pl=>?_)
 cases e3:fV st1 c w with
 | none=>rw[e3] at p1;exact ae p1
 | some fs=>
  obtain⟨l,a,C',dx,xs,rfl,h1,rfl,hla,h2,h3,h4⟩:=n9 S1 r1 e3
  rw[e3] at p1
  dsimp only[Option.map] at p1
  cases zc h3 k1
  cases e4:fs.lookup f with
  | some z=>rw[e4] at p1;exact ae p1
  | none=>
   rw[e4] at p1
   dsimp only at p1
   obtain rfl:u=aO a:=rx
   refine yu I1 h2 k2 k3 (tY h4 e4) ?_
   have args:=ha.go (T:=λvs H2=>∃ws st2 m2,eO X σ m H (if ws.length+1=n then F (.ref l::ws) st2 else .bad) Q/\Ext X.K m H m2 H2/\Ext X.K m1 H1 m2 H2/\bZ X.K m2 st2 H2/\aq X.K m2 H2 ws vs) S1 (R.mono e1) ((aK.bind p1).imp e1 λ_ _ q=>q)
    λws st2 vs m2 H2 p2 e2 S2 rs=>⟨ws,st2,m2,p2,e1.trans e2,e2,S2,rs⟩
   refine PySem.W.callWith_K (first:=[.ref a]) (h₀:=X.base) I.ok.mod.Pm k3.kp (bD (args pos pins s1 I1) λus s2 ⟨vs,H2,I2,r,ws,st2,m2,p2,Rk,e2,S2,rs⟩=>⟨I2.sY,?_⟩) hst hpl
   by_cases cn:ws.length+1=n
   ·rw[if_pos cn] at p2
    let E:XK:=λcl _ H3=>∃c' st3 m3 C,cl= .ref C/\ClsAt X.K c' C/\F (.ref l::ws) st2= .err c' st3/\Ext X.K m2 H2 m3 H3/\bZ X.K m3 st3 H3
    have sp:spW X.K n F (V.ref a::vs) H2 Q E:=by
     refine⟨m2,st2,.ref l::ws,S2,aq.cons (ao.mono e2 _ _ r1) rs,cn,?_⟩
     cases er:F (.ref l::ws) st2 with
     | ok w st3=>rw[er] at p2;exact eO.shift (r:=.ok w st3) p2 Rk
     | err c' st3=>exact λm3 H3 C e3 S3 hC=>⟨c',st3,m3,C,rfl,hC,er,e3,S3⟩
     | bad=>rw[er] at p2;exact ae p2
    have r':Vals (V.ref a::vs) (aO a::us):=.cons rfl r
    have hl:(aO a::us).length=ps.length:=by rw[<-r'.length];exact G.len _ _ _ _ sp
    have bd:=hb s2 (aO a::us) I2.sY (by rw[jc];exact hl)
    rw[jc] at bd
    refine wpAny_call (codeAny_mono (G.run X.A X.stack s2 H2 ⟨aO a::us,[]⟩ (aO a::us) (V.ref a::vs) Q E hr I2.L4 bd r' sp) λrr s3 hq=>?_)
    cases rr with
    | error x=>
     obtain⟨H3,C,fl,c',st3,m3,C',ec,hC,er,e3,S3⟩:=hq
     cases ec
     rw[er] at p2
     exact p2 m3 H3 x s3 (Rk.trans e3) S3 ⟨C,pins,H2,s2,hC,I2,.inl fl.any⟩
    | ok fw=>
     cases fw with
     | ret u=>exact I2.after hq
     | next=>exact ae hq
     | brk=>exact ae hq
     | cont=>exact ae hq
   ·rw[if_neg cn] at p2;exact ae p2
theorem Jh{k n:Nat}{c:Str}{F:List Wv->Hs->Re Wv}{e:Expr}{es:List Expr}{g:GA}{p pos:Pos}(G:xh X.prog X.w X.K X.mg X.base k c n F)(hr:gD k X.A)(hg:Gl X c)(ha:JA X (e::es) g)
  (hdb:(c == ("__debug__":Str))=false:=by decide)(he:abX (e::es) X.env=(false,eval e X.env)::abX es X.env:=by rfl)(hpl:(backTo pos (abX es X.env)).any (·.1)=false:=by rfl) :
  JE X (.Call (.Name c p) (e::es) [] pos) (AN c n F g):=by
 obtain⟨C,fa,fd,ps,j,hj,G,k1,k2,k3,hb⟩:=G
 refine JE.of (HB (E:=λ_ _ _=>False) k3 G (hr.mono hj) hg k2 hb .nil (λpins σ H s x s' I z=>let ⟨_,_,_,y⟩:=z;y.elim) jS hdb he hpl) λρ st σ H m Q S R p=>?_
 refine ha.go S R (aK.bind p) λws st1 vs m1 H1 p1 e1 S1 rs=>?_
 intro x dx hx hdx ne
 by_cases cn:ws.length+1=n
 ·rw[if_pos cn] at p1
  unfold TJ at p1
  have X6:(upd H1 dx (.own x)) x=none:=by rw[a9 (bo ne)];exact hx
  have S2:=S1.fresh (o:=.own x) hdx
  have S3:bZ X.K (m1++[x]) (st1++[.ins c []]) (upd (upd H1 dx (.own x)) x (.ins C dx [])):=S2.uU X6 ⟨C,dx,[],bC,k1,RelK.nil⟩
  have ex:Ext X.K m1 H1 (m1++[x]) (upd (upd H1 dx (.own x)) x (.ins C dx [])):=(Ext.iD (.inl hdx)).trans (Ext.more.trans (Ext.iD (.inl X6)))
  have new:(m1++[x])[st1.length]? =some x:=by rw[<-S1.len,l9 (aC _),pN];rfl
  cases er:F (.ref st1.length::ws) (st1++[.ins c []]) with
  | ok w st2=>
   rw[er] at p1
   cases w with
   | non=>
    dsimp only at p1
    rw[jc]
    refine⟨m1++[x],st1++[.ins c []],.ref st1.length::ws,S3,aq.cons (by unfold ao;exact⟨x,rfl,new⟩) (aq.mono ex _ _ rs),cn,?_⟩
    rw[er]
    intro v m2 H2 e2 T2 rv
    unfold ao at rv
    refine⟨rv,p1 (.ref x) m2 H2 ((e1.trans ex).trans e2) T2 ?_⟩
    unfold ao
    exact⟨x,rfl,e2.pre _ _ new⟩
   | _=>exact ae p1
  | err c' st2=>rw[er] at p1;exact ae p1
  | bad=>rw[er] at p1;exact ae p1
 ·rw[if_neg cn] at p1;exact ae p1
end
section
variable {prog:abJ} {w:abM} {A:abG} {E:abL->abK->Prop} {s:abK} {T:String} {r d:abF} {n:Nat} {P:Nat->abL->Prop} {OK:Heap->Prop}
theorem xi{Q:List abL->abK->Prop}(K:KdlSrc prog w T r d n P OK)(hh:A.handled=none)(hok:OK s.heap)(hn:n<=abW)
  (hQ:∀h' tk acc,(∀b o,s.heap.get? b=some o->h'.get? b=some o)->ItemsOf P acc n->Q acc.toList { s with heap:=h',toks:=tk }):abY (model prog w) A (collect (.ref r)) Q E s:=by
 unfold collect
 refine abZ (wpAny_runValue (codeAny_builtin F.entry_proto_collect ?_))
 rw[KH F.plain_proto_collect _]
 show abY _ A.in1 (newList [] >>= λl=>again (.builtin "list.__iadd__" ⟨[l,.ref r],[]⟩)) _ _ s
 refine abZ (ab3 ?_)
 refine ab4 ⟨plainId_quiet F.plain_list_iadd _,codeAny_builtin F.entry_list_iadd ?_⟩
 rw[KH F.plain_list_iadd _]
 show abY _ A.in1 (Builtin.List.listExtendWith (.ref s.heap.objs.size) (.ref r) (.ref s.heap.objs.size)) _ _ _
 have hS:(s.heap.push { cls:=.type "list",data:=.seq ([]:List abL).toArray }).get? s.heap.objs.size=some { cls:=.type "list",data:=.seq #[] 0 }:=cJ _ rfl
 have hlt:=K.there _ hok
 have fin':∀h' tk acc c',(∀b o,b≠s.heap.objs.size->(s.heap.push { cls:=.type "list",data:=.seq ([]:List abL).toArray }).get? b=some o->h'.get? b=some o)->h'.get? s.heap.objs.size=some { cls:=.type "list",dict:=none,data:=.seq acc c',slots:=#[] }->ItemsOf P acc n->
   abY (model prog w) A (match aO s.heap.objs.size with
   | aO a=>do
    match(<-load a).data with
     | Data.seq xs _=>pure xs.toList
     | _=>unsupported "internal:collect"
   | _=>unsupported "internal:collect") Q E { s with heap:=h',toks:=tk }:=by
  intro h' tk acc c' hk hS' hacc
  show abY _ A (load s.heap.objs.size >>= _) _ _ _
  refine abZ (wpAny_load hS' ?_)
  refine ab4 ?_
  exact hQ h' tk acc (λb o e=>hk b o (bN (bc e)) (bA _ e)) hacc
 refine ab2 (kdl_extend (A:=A) (R:=λr s'=>r= .ok (.ret (.ref s.heap.objs.size))/\∃h' tk acc c',s'={ s with heap:=h',toks:=tk }/\(∀b o,b≠s.heap.objs.size->(s.heap.push { cls:=.type "list",data:=.seq ([]:List abL).toArray }).get? b=some o->h'.get? b=some o)/\h'.get? s.heap.objs.size=some { cls:=.type "list",dict:=none,data:=.seq acc c',slots:=#[] }/\ItemsOf P acc n)
  (s:={ s with heap:=s.heap.push { cls:=.type "list",data:=.seq ([]:List abL).toArray } }) K hh (K.keep _ _ hok λb _ o e=>bA _ e) _ (pH hlt.1) (pH hlt.2) _ 0 hS (λh' tk acc c' a1 a2 a3=>⟨rfl,h',tk,acc,c',rfl,a1,a2,a3⟩) hn) (λfin s' h=>?_) (λe s' h=>?_)
 ·cases fin with
  | done f=>
   obtain⟨e,h',tk,acc,c',rfl,a1,a2,a3⟩:=h
   cases e
   exact fin' h' tk acc c' a1 a2 a3
  | again c'=>exact⟨h.1,codeAny_mono h.2 λr s'' hr=>by obtain⟨rfl,h',tk,acc,c'',rfl,a1,a2,a3⟩:=hr;exact fin' h' tk acc c'' a1 a2 a3⟩
 ·exact absurd h.1 (by simp)
theorem xj{Q₁:abL->abK->Prop}(K:KdlSrc prog w T r d n P OK)(hh:A.handled=none)(hok:OK s.heap)(hn:n<=abW)
  (h:∀(h':Heap)(tk:Nat)(acc:Array abL),(∀b o,s.heap.get? b=some o->h'.get? b=some o)->ItemsOf P acc n->Q₁ (.ref h'.objs.size) { s with heap:=h'.push { cls:=.type "tuple",data:=.seq acc },toks:=tk }) :
  abQ (model prog w) A (.call (.builtin "tuple.__new__") ⟨[.type "tuple",.ref r],[]⟩) (wants Q₁ E) s:=by
 refine codeAny_of_tree ?_
 show abY _ A.in1 (do checkBuiltinCall "tuple.__new__" ⟨[.type "tuple",.ref r],[]⟩;again (.builtin "tuple.__new__" ⟨[.type "tuple",.ref r],[]⟩)) _ _ s
 refine abZ (wpAny_of_eq (F.newCall_tuple_1 _) (ab4 ⟨plainId_quiet F.plain_tuple_new _,codeAny_builtin F.entry_tuple_new ?_⟩))
 rw[KH F.plain_tuple_new _]
 have hsub:=sub_tuple_self
 have X7:=init_tuple_lookup
 have hmh:=madeHere_tuple
 have hTI:=K.type s hok
 have nt:=K.notTuple
 wp_walk using wpAny_typeOf hTI,xi (A:=A.in1) K (show A.in1.handled=none from hh) hok hn
 intro h' tk acc kp hacc
 show abY _ _ (qo acc.toList.toArray >>= λv=>ret v) _ _ _
 unfold qo
 refine abZ (ab3 ?_ (by show acc.toList.toArray.size<=abW;simp only[Array.toArray_toList];rw[hacc.1];exact hn))
 refine ab4 ?_
 have e:acc.toList.toArray=acc:=by simp
 rw[e]
 exact h h' tk acc kp hacc
theorem xk{Q:abL->abK->Prop}(K:KdlSrc prog w T r d n P OK)(hh:A.handled=none)(hok:OK s.heap)(hn:n<=abW)
  (hQ:∀(h':Heap)(tk:Nat)(acc:Array abL),(∀b o,s.heap.get? b=some o->h'.get? b=some o)->ItemsOf P acc n->Q (.ref h'.objs.size) { s with heap:=h'.push { cls:=.type "tuple",data:=.seq acc },toks:=tk }) :
  abY (model prog w) A (call (.type "tuple") [.ref r]) Q E s:=by
 refine callType_codes (Q₁:=λobj s₁=>s₁.TypeIs obj "tuple"/\Q obj s₁) F.called_tuple (F.typeCall_tuple_1 _) F.entry_object_init
  (xj (A:=A.in1) K hh hok hn λh' tk acc kp hacc=>⟨⟨_,cJ _ rfl,rfl⟩,hQ h' tk acc kp hacc⟩) λobj s₁ h₁=>?_
 exact⟨h₁.1,F.args_object_init_2 obj _,object_init_meets F.called_tuple.init.lookup F.called_tuple.made (by decide) prog w A.in1 _ s₁ ⟨h₁.1,rfl,h₁.2⟩⟩
end
section
variable {X:Cx}
theorem xl(hc:X.calm=true):dq X (.type "tuple") (λxs H Q=>∃(p:abF)(kvs:List (NK.KD×V)),xs=[.ref p]/\H p=some (.dN kvs)/\∀l vs',H l=none->Paired (λv (k:NK.KD×V)=>KA H 8 v k.1.1) vs' kvs->Q (.ref l) (upd H l (.tup vs'))):=by
 intro pins s σ H xs us Q I r h
 obtain⟨p,kvs,rfl,hp,q⟩:=h
 obtain⟨u,rfl,rx⟩:=vals1 r
 cases rx
 obtain⟨z,lo,ys,kt,o,es,ep,g1,g2,g3,g4,g5,g6⟩:=KG I.hok hp
 have len:es.size=ys.length:=by have:=congrArg l8 g4;simpa using this
 have sF:kvs.length=ys.length:=Paired.length kt
 have raw:vg s.heap p es ep:=⟨o,g1,g2.1,g3⟩
 refine xk (AH lo) (I.ok.hd hc) raw (by rw[len,<-sF];exact z) λh' tk acc kp hacc=>?_
 have Vq:acc.toList=ys.map λx=>aO x.2.1:=by
  refine EN λj=>?_
  cases e:acc.toList[j]? with
  | none=>
   have hj:acc.toList.length<=j:=by simpa using e
   have ha:=hacc.1
   rw[Nu]
   simp at hj ⊢
   omega
  | some v=>
   obtain⟨hj,ev⟩:=hacc.2 j v (by rw[<-Array.getElem?_toList];exact e)
   have hj':j < ys.length:=by omega
   have q1:es.toList[j]'(by simpa using hj)=entryOfKey (NK.iK X.prog X.w) ys[j]:=by
    have:es.toList[j]? =(ys.map (entryOfKey (NK.iK X.prog X.w)))[j]?:=by rw[g4]
    rw[dJ (by simpa using hj),fk,dJ hj'] at this
    simpa using this
   rw[fk,dJ hj',ev]
   have q2:es[j]=es.toList[j]'(by simpa using hj):=by simp
   rw[q2,q1]
   rfl
 have I1:Inv X pins σ H { s with heap:=h',toks:=tk }:=I.kept (t':=tk) kp
 have vals:∀{kvs:List (NK.KD×V)}{ys:List (NK.KD×abF×abL)},KN H kvs ys->Vals (ys.map λx=>V.ref x.2.1) (ys.map λx=>aO x.2.1)/\Paired (λv (k:NK.KD×V)=>KA H 8 v k.1.1) (ys.map λx=>V.ref x.2.1) kvs:=by
  intro kvs ys h
  induction h with
  | nil=>exact⟨.nil,.nil⟩
  | cons h t ih=>exact⟨.cons rfl ih.1,.cons h.2.1 ih.2⟩
 have I2:Inv X pins σ (upd H h'.objs.size (.tup (ys.map λx=>V.ref x.2.1))) { s with heap:=h'.push { cls:=.type "tuple",data:=.seq acc },toks:=tk }:=by
  refine I1.laid (t':=tk) (λb o e=>bA _ e) (aC _) (show dn X.prog X.w _ _ _ (.tup _) from⟨?_,acc.toList,by rw[Vq];exact(vals kt).1,?_,uq.new _ _⟩)
  ·rw[bU,<-sF];exact z
  ·have:=uG h' acc
   simpa using this
 exact⟨.ref h'.objs.size,_,I2,rfl,q _ _ (I1.hok.fresh (aC _)) (vals kt).2⟩
theorem KN.repl{H:Hp}{kvs:List (NK.KD×V)}{xs:List (NK.KD×abF×abL)}(r:KN H kvs xs)(k:NK.KD){y:V}{u:abL}(ry:RelV y u) :
  KN H (kvs.map λkv=>if kv.1=k then(kv.1,y) else kv) (xs.map λx=>if x.1=k then(x.1,x.2.1,u) else x):=by
 induction r with
 | nil=>exact .nil
 | @cons p q ps qs h t ih=>
  obtain⟨h1,h2,h3⟩:=h
  refine .cons ?_ ih
  dsimp only
  by_cases e:p.1=k
  ·rw[if_pos e,if_pos (h1.symm.trans e)];exact⟨h1,h2,ry⟩
  ·rw[if_neg e,if_neg (λz=>e (h1.trans z))];exact⟨h1,h2,h3⟩
theorem KN.put{H:Hp}{kvs:List (NK.KD×V)}{xs:List (NK.KD×abF×abL)}(r:KN H kvs xs)(k:NK.KD){b:abF}{y:V}{u:abL}(hb:KA H 8 (.ref b) k.1)(ry:RelV y u):KN H (putK kvs k y) (storedH xs k b u):=by
 have e:(kvs.any λkv=>decide (kv.1=k))=(atKey xs k).isSome:=by
  rw[qz,(r.val k).tF,Option.isSome_map]
 unfold putK storedH
 rw[e]
 by_cases q:(atKey xs k).isSome=true
 ·rw[if_pos q,if_pos q];exact r.repl k ry
 ·rw[if_neg q,if_neg q];exact Paired.snoc r ⟨rfl,hb,ry⟩
def Rm(td ty tv:TE):TS:=λD σ H=>tv σ H λv H1=>td σ H1 λx H2=>ty σ H2 λy H3=>∃a b kvs k,x= .ref a/\H3 a=some (.dN kvs)/\y= .ref b/\KA H3 8 (.ref b) k.1/\kvs.length < abW/\D.nx σ (upd H3 a (.dN (putK kvs k v)))
theorem E6{o i value:Expr}{td ty tv:TE}{pos pos':Pos}(hu:X.A.units+9 < cLine)(ho:PE X o td)(hi:PE X i ty)(hv:PE X value tv)(hs:swapsWith value (some (.Subscript o i pos')) pos.line X.env=pure false) :
  PS X (.Assign [.Subscript o i pos'] value pos) (Rm td ty tv):=by
 intro pins s σ H D I h
 refine wpAny_Assign_Subscript (bD (hv pins s σ H _ I h) λr s1 ⟨v,H1,I1,rv,q1⟩=>bD (ho pins s1 σ H1 _ I1 q1) λu s2 ⟨x,H2,I2,rx,q2⟩=>bD (hi pins s2 σ H2 _ I2 q2) λiv s3 ⟨y,H3,I3,ry,a,b,kvs,k,ex,ea,ey,eb,l,q3⟩=>?_) hs
 subst ex ey
 obtain rfl:u=aO a:=rx
 cases (show iv=aO b from ry)
 obtain⟨z,hd,xs,rel,dd⟩:=KG I3.hok ea
 have hz:xs.length<=abW:=by rw[<-Paired.length rel];exact z
 have hl:(putK kvs k v).length<=abW:=by have:=j_ kvs k v;omega
 refine wpAny_setItem_heap (knd:=NK.iK X.prog X.w) (hsz:=hz) (by show X.A.in1.units+8 < cLine;simp only[Around.in1_units];omega) (KA.rd I3.hok 8 (.ref b) _ _ eb rfl) dd λh' Mn hs=>?_
 obtain⟨q,es,ep,hq,h2,h3,h4,_,h5⟩:=Mn
 refine⟨σ,_,uS (ob:=.dN (putK kvs k v)) I3 (by rw[ea];exact gB) hs ⟨q,hq⟩ ⟨hl,hd,_,(rel.put k eb rv).keeps λc ys ec=>?_,q,es,ep,hq,h2,h3,h4,h5⟩,q3⟩
 rw[a9 (Ka ec ea (λz=>nomatch z))]
 exact ec
end
def wD:Nat->PyData->Option Wv
 | _,.none=>some .non
 | _,.int i=>some (.int i)
 | _,.str x=>if aY x=true then some (.str x) else none
 | n+1,.tuple ds=>(ds.mapM (wD n)).map Wv.tup
 | _,_=>none
theorem NI{K:PySem.W.Frag}{m:Mp}{H:Hp}:∀(n:Nat)(d:PyData)(v:V)(w:Wv),KA H n v d->wD n d=some w->ao K m H w v:=by
 intro n
 induction n with
 | zero=>
  intro d v w r e
  cases d with
  | none=>cases e;cases v<;>first | exact ae r | (unfold ao;rfl)
  | int i=>cases e;cases v<;>first | exact ae r | (unfold ao;rw[show _=i from r])
  | str x=>
   unfold wD at e
   by_cases h:aY x=true
   ·rw[if_pos h] at e;cases e;cases v<;>first | exact ae r | (unfold ao;rw[show _=x from r];exact⟨rfl,h⟩)
   ·rw[if_neg h] at e;cases e
  | _=>cases e
 | succ n ih=>
  intro d v w r e
  cases d with
  | none=>cases e;cases v<;>first | exact ae r | (unfold ao;rfl)
  | int i=>cases e;cases v<;>first | exact ae r | (unfold ao;rw[show _=i from r])
  | str x=>
   unfold wD at e
   by_cases h:aY x=true
   ·rw[if_pos h] at e;cases e;cases v<;>first | exact ae r | (unfold ao;rw[show _=x from r];exact⟨rfl,h⟩)
   ·rw[if_neg h] at e;cases e
  | tuple ds=>
   have e':(ds.mapM (wD n)).map Wv.tup=some w:=e
   cases q:ds.mapM (wD n) with
   | none=>rw[q] at e';cases e'
   | some ws=>
    rw[q] at e'
    cases e'
    cases v with
    | ref a=>
     obtain⟨vs,h1,h2⟩:=(show ∃vs,H a=some (.tup vs)/\Paired (KA H n) vs ds from r)
     unfold ao
     refine⟨a,vs,rfl,h1,?_⟩
     clear e r h1
     induction h2 generalizing ws with
     | nil=>cases q;exact aq.nil
     | @cons x d xs ds h t ZK=>
      rw[List.mapM_cons] at q
      cases e1:wD n d with
      | none=>rw[e1] at q;cases q
      | some w1=>
       cases e2:ds.mapM (wD n) with
       | none=>rw[e1,e2] at q;cases q
       | some wr=>
        rw[e1,e2] at q
        cases q
        exact aq.cons (ih _ _ _ h e1) (ZK _ e2)
    | _=>exact ae r
  | _=>cases e
def n_(kvs:List (NK.KD×Wv)):Option (List Wv):=eW (λp=>wD 8 p.1.1) kvs
theorem tZ{K:PySem.W.Frag}{m:Mp}{H:Hp}:∀{kvs:List (NK.KD×Wv)}{xs:List (NK.KD×V)}{vs:List V}{ws:List Wv},kvs.map (·.1)=xs.map (·.1)->Paired (λv (k:NK.KD×V)=>KA H 8 v k.1.1) vs xs->n_ kvs=some ws->aq K m H ws vs
 | [],[],vs,ws,e,h,q=>by cases h;cases q;exact aq.nil
 | [],x::xs,vs,ws,e,h,q=>by cases e
 | p::kvs,[],vs,ws,e,h,q=>by cases e
 | p::kvs,x::xs,vs,ws,e,h,q=>by
  cases h with
  | @cons v _ vt _ h t=>
   unfold n_ eW at q
   cases e1:wD 8 p.1.1 with
   | none=>rw[e1] at q;cases q
   | some w1=>
    cases e2:eW (λp:NK.KD×Wv=>wD 8 p.1.1) kvs with
    | none=>rw[e1,e2] at q;cases q
    | some wr=>
     rw[e1,e2] at q
     cases q
     have e':p.1=x.1/\kvs.map (·.1)=xs.map (·.1):=by simpa using e
     exact aq.cons (NI 8 _ _ _ (by rw[<-e'.1] at h;exact h) e1) (tZ e'.2 t e2)
def lx(gd gk gx:GE):GE:=λρ st=>(gd ρ st).bind λd st1=>match d with
 | .ref l=>if(nh st1[l]?).isSome=true then(gk ρ st1).bind λk st2=>(gx ρ st2).bind λx st3=>(match n6 k,nh st3[l]? with
  | some kk,some kvs=> .ok ((kq kvs kk).getD x) st3
  | _,_=> .bad) else .bad
 | _=> .bad
def t8:List Wv->Hs->Re Wv
 | [.ref l],st=>match st[l]? with
  | some (.nM kvs)=>(match n_ kvs with | some ws=> .ok (.tup ws) st | none=> .bad)
  | _=> .bad
 | _,_=> .bad
def putN(d k v:Wv)(st:Hs):Option Hs:=match d with
 | .ref l=>(match zb k,st[l]? with
  | some kk,some (.nM kvs)=>if kvs.length < lim then some (st.set l (.nM (pk kvs kk v))) else none
  | _,_=>none)
 | _=>none
def lT(gv gd gk:GE):GS:=λρ st=>(gv ρ st).bD ρ λv st1=>(gd ρ st1).bD ρ λd st2=>(gk ρ st2).bD ρ λk st3=>match putN d k v st3 with
 | some yd=> .nx ρ yd
 | none=> .bad
section
variable {X:Cx}
theorem Ji(hc:X.calm=true):dc X (.type "tuple") t8:=⟨_,xl hc,λws vs st H m Q S rs p=>by
 match ws,rs,p with
 | [],rs,p=>exact ae p
 | x::y::t,rs,p=>cases x<;>exact ae p
 | [x],rs,p=>
  cases x with
  | ref l=>
   obtain⟨v,rfl,r1⟩:=me rs
   unfold t8 at p
   unfold ao at r1
   obtain⟨a,rfl,ha⟩:=r1
   cases e:st[l]? with
   | none=>simp only[e] at p;exact ae p
   | some ob=>
    simp only[e] at p
    cases ob with
    | nM kvs=>
     dsimp only at p
     cases e2:n_ kvs with
     | none=>rw[e2] at p;exact ae p
     | some ks=>
      rw[e2] at p
      obtain⟨xs,y1,y2⟩:=(show ∃ys,H a=some (.dN ys)/\RelK X.K m H kvs ys from S.obj _ _ _ ha e)
      refine⟨a,xs,rfl,y1,λq vs' hq hv=>?_⟩
      have ex:Ext X.K m H m (upd H q (.tup vs')):=Ext.iD (.inl hq)
      refine p (.ref q) m _ ex (S.fresh hq) ?_
      unfold ao
      exact⟨q,vs',rfl,bC,aq.mono ex _ _ (tZ y2.1 hv e2)⟩
    | _=>exact ae p
  | _=>exact ae p⟩
theorem E7{o i e:Expr}{go gi ge:GE}{pos pos':Pos}(hu:X.A.units+9 < cLine)(he:JE X e ge)(ho:JE X o go)(hi:JE X i gi)(hs:swapsWith e (some (.Subscript o i pos')) pos.line X.env=pure false):JS X (.Assign [.Subscript o i pos'] e pos) (lT ge go gi) :=
 JS.of (E6 hu a6 a6 a6 hs) λρ st σ H m D S R p=>by
  refine he.go S R (ba.cS R p) λv st1 vv m1 H1 p1 e1 S1 rv=>?_
  refine ho.go S1 (R.mono e1) ((ba.cS (m:=m) (H:=H) R p1).imp e1 λ_ _ q=>q) λd st2 vd m2 H2 p2 e2 S2 rd=>?_
  refine hi.go S2 (R.mono (e1.trans e2)) ((ba.cS (m:=m) (H:=H) R p2).imp (e1.trans e2) λ_ _ q=>q) λk st3 vk m3 H3 p3 e3 S3 rk=>?_
  have yf:=e1.trans (e2.trans e3)
  have X8:=ao.mono e3 _ _ rd
  have U9:=ao.mono (e2.trans e3) _ _ rv
  unfold putN at p3
  cases d with
  | ref l=>
   dsimp only at p3
   unfold ao at X8
   obtain⟨a,rfl,ha⟩:=X8
   cases q1:zb k with
   | none=>rw[q1] at p3;exact ae p3
   | some kk=>
    cases q2:st3[l]? with
    | none=>rw[q1,q2] at p3;exact ae p3
    | some ob=>
     rw[q1,q2] at p3
     cases ob with
     | nM kvs=>
      dsimp only at p3
      by_cases c:kvs.length < lim
      ·rw[if_pos c] at p3
       obtain⟨xs,y1,y2⟩:=(show ∃ys,H3 a=some (.dN ys)/\RelK X.K m3 H3 kvs ys from S3.obj _ _ _ ha q2)
       obtain⟨b,rfl,hb⟩:=E0 rk q1
       have ex:Ext X.K m3 H3 m3 (upd H3 a (.dN (putK xs kk vv))):=Ext.iD (.inr (.inr (.inr (.inr (.inl ⟨_,y1⟩)))))
       exact⟨a,b,xs,kk,rfl,y1,rfl,hb,by rw[<-y2.length];exact uV c,p3 σ m3 _ (yf.trans ex) (S3.qC ha q2 rfl ⟨_,bC,(y2.put kk U9).mono ex⟩) (R.mono (yf.trans ex))⟩
      ·rw[if_neg c] at p3;exact ae p3
     | _=>exact ae p3
  | _=>exact ae p3
theorem Cj{o e f:Expr}{gd gk gx:GE}{apos cpos:Pos}(hu:X.A.units+1 < cLine)(ho:JE X o gd)(he:JE X e gk)(hf:JE X f gx)(M:M2 X o "get" apos e f cpos):JE X (.Call (.Attribute o "get" apos) [e,f] [] cpos) (lx gd gk gx) :=
 JE.of (wy hu a6 a6 a6 M) λρ st σ H m Q S R p=>by
  refine ho.go S R (aK.bind p) λd st1 v m1 H1 p1 e1 S1 r1=>?_
  cases d with
  | ref l=>
   dsimp only at p1
   by_cases hd:(nh st1[l]?).isSome=true
   ·rw[if_pos hd] at p1
    unfold ao at r1
    obtain⟨a,rfl,ha⟩:=r1
    obtain⟨ZI,hk1⟩:=Option.isSome_iff_exists.mp hd
    obtain⟨Vv,Vw,_⟩:=pU S1 ha hk1
    refine⟨a,rfl,.inr ⟨Vv,Vw⟩,?_⟩
    refine he.go S1 (R.mono e1) ((aK.bind p1).imp e1 λ_ _ q=>q) λk st2 y m2 H2 p2 e2 S2 r2=>?_
    refine hf.go S2 (R.mono (e1.trans e2)) ((aK.bind p2).imp (e1.trans e2) λ_ _ q=>q) λx st3 z m3 H3 p3 e3 S3 r3=>?_
    cases q1:n6 k with
    | none=>rw[q1] at p3;exact ae p3
    | some kk=>
     cases q2:nh st3[l]? with
     | none=>rw[q1,q2] at p3;exact ae p3
     | some kvs=>
      rw[q1,q2] at p3
      have Vo:m3[l]? =some a:=(e2.trans e3).pre _ _ ha
      obtain⟨xs,y1,y2⟩:=pU S3 Vo q2
      obtain⟨b,rfl,hb⟩:=qV (ao.mono e3 _ _ r2) q1
      dsimp only at p3
      refine⟨_,.inr ⟨xs,kk,b,y1,rfl,hb,rfl⟩,?_⟩
      obtain⟨i1,i2⟩:=y2.val kk
      cases q3:kq kvs kk with
      | none=>
       rw[i1 q3]
       rw[q3] at p3
       exact p3 z m3 H3 (e1.trans (e2.trans e3)) S3 r3
      | some w=>
       obtain⟨u,j1,j2⟩:=i2 w q3
       rw[j1]
       rw[q3] at p3
       exact p3 u m3 H3 (e1.trans (e2.trans e3)) S3 j2
   ·rw[if_neg hd] at p1;exact ae p1
  | _=>exact ae p1
end
structure Vy where
 c:Str:=""
 AO:List (Str×Nat×(List Wv->Hs->Re Wv)):=[]
 ini:List (Str×Nat×(List Wv->Hs->Re Wv)):=[]
 own:List Str:=[]
structure zd(t:Vy)(k:Nat)(P:abJ)(w:abM)(K:PySem.W.Frag)(mg:Str->Option abL)(base:Heap):Prop where
 AO:∀f n F,t.AO.lookup f=some (n,F)->sG P w K mg base k t.c f n F
 ini:∀x n F,t.ini.lookup x=some (n,F)->xh P w K mg base k x n F
 own:∀f,t.own.contains f=true->Own K t.c f
theorem zd.no{k:Nat}{P:abJ}{w:abM}{K:PySem.W.Frag}{mg:Str->Option abL}{base:Heap}:zd {} k P w K mg base:=⟨(λ_ _ _ e=>by cases e),(λ_ _ _ e=>by cases e),λ_ e=>by cases e⟩
structure Ct where
 N:List Str
 names:List (Str×abI)
 consts:List (Str×Wv)
 bl:List Str
 fns:List (Str×Nat×(List Wv->Hs->Re Wv))
 tb:Tab:=[]
 tt:yX:=[]
 clss:List Str:=[]
 AQ:List Str:=[]
 tc:Tab:=[]
 AR:List (Str×Dc):=[]
 CZ:List Str:=[]
 ZL:List Str:=[]
 KI:List Str:=[]
 Ck:List Str:=[]
 E8:List Str:=[]
 loop:Bool:=true
 free:Bool:=true
 top:Bool:=true
 lam:Option (Lm×LF):=none
 GZ:List (Str×X4):=[]
 Vz:List Str:=[]
 lj:Nat:=0
 sk:Nat:=0
 VA:List Str:=[]
 self:Str:=""
 it:Vy:={}
def oe(x:Str):List Str->Option Nat
 | []=>none
 | y::r=>if x=y then some 0 else match oe x r with
  | some i=>some (i+1)
  | none=>none
theorem iS{x:Str}:∀{N:List Str}{i:Nat},oe x N=some i->N[i]? =some x
 | [],i,h=>by cases h
 | y::r,i,h=>by
  unfold oe at h
  by_cases e:x=y
  ·rw[if_pos e] at h;cases h;subst e;rfl
  ·rw[if_neg e] at h
   cases q:oe x r with
   | none=>rw[q] at h;cases h
   | some j=>rw[q] at h;cases h;simpa using iS q
def okN(x:Str):Bool:=!(x == ("__debug__":Str))&& !(x == ("__classdict__":Str))&& !(decide (x="__name__"))
theorem il{x:Str}(h:okN x=true):(x == ("__debug__":Str))=false:=by unfold okN at h;revert h;cases (x == ("__debug__":Str))<;>simp
theorem E9{x:Str}(h:okN x=true):(x == ("__classdict__":Str))=false:=by unfold okN at h;revert h;cases (x == ("__classdict__":Str))<;>simp
theorem E_{x:Str}(h:okN x=true):x≠"__name__":=by
 intro e
 subst e
 unfold okN at h
 simp at h
def xm:List Wv->List V->Prop
 | [],[]=>True
 | .int i::r,.int j::t=>i=j/\xm r t
 | .str x::r,.str y::t=>(x=y/\aY x=true)/\xm r t
 | _,_=>False
theorem xm.rel{K:PySem.W.Frag}{m:Mp}{H:Hp}:∀{ws:List Wv}{vs:List V},xm ws vs->aq K m H ws vs
 | [],[],_=>aq.nil
 | .int i::r,.int j::t,h=>by
  obtain⟨rfl,h⟩:=h
  exact aq.cons (by unfold ao;rfl) h.rel
 | .str x::r,.str y::t,h=>by
  obtain⟨⟨rfl,hx⟩,h⟩:=h
  exact aq.cons (by unfold ao;exact⟨rfl,hx⟩) h.rel
 | [],_::_,h=>ae h
 | .int i::r,[],h=>ae h
 | .str i::r,[],h=>ae h
 | .int i::r,.str _::_,h=>ae h
 | .str i::r,.int _::_,h=>ae h
def AS(K:PySem.W.Frag)(mg:Str->Option abL)(x:Str):Wv->Prop
 | .int i=>∃t,mg x=some (.int i t)
 | .str y=>(∃t,mg x=some (.str y t))/\aY y=true
 | .qA ws=>∃(a:abF)(vs:List V)(o:Obj)(its:Array abL)(n:Nat),mg x=some (.ref a)/\K.lookup a=some o/\o.cls= .type "tuple"/\o.data= .seq its n/\its.size<=abW/\Vals vs its.toList/\xm ws vs
 | _=>False
structure Rn(c:Ct)(k:Nat)(X:Cx):Prop where
 lam:∀p L,c.lam=some (p,L)->Nx X.prog X.w X.K X.mg X.base k p 3 L
 GZ:∀x F,c.GZ.lookup x=some F->X5 X.prog X.w X.K X.mg k c.lj x F
 PD:∀x n F,c.fns.lookup x=some (n,F)->c.Vz.contains x=true->∀base,Cb X.K X.mg base->dE X.prog X.w X.K X.mg base c.lj x n F
 at':c.top=true->c.self∈cI->∃P,Kz X c.self P
 sk:c.sk<=k
 PF:∀x n F,c.fns.lookup x=some (n,F)->c.VA.contains x=true->dE X.prog X.w X.K X.mg X.base c.lj x n F
 ins:zd c.it k X.prog X.w X.K X.mg X.base
structure Good(c:Ct)(k:Nat)(X:Cx):Prop where
 N:X.N=c.N
 sc:X.env.scope.names=c.names
 nd:c.N.Nodup
 un:X.A.units+64 < cLine
 free:c.free=true->gD k X.A/\X.calm=true
 loop:c.loop=true->X.calm=true/\PassesOwn (model X.prog X.w) X.A X.env X.xe
 cst:∀x w,c.consts.lookup x=some w->AS X.K X.mg x w
 bl:∀x,c.bl.contains x=true->X.mg x=none
 fns:∀x n F,c.fns.lookup x=some (n,F)->dE X.prog X.w X.K X.mg X.base k x n F
 stk:c.top=true->Zm X
 fn:c.top=true->∀x,X.fn x=true
 kind:X.env.scope.kind= .function
 tab:TabOk X.K c.tb c.tt c.tc
 cls:∀x,c.clss.contains x=true->∃C,X.mg x=some (.ref C)/\Iz X.K x C
 AQ:∀x,c.AQ.contains x=true->∃C,X.mg x=some (.ref C)/\ClsAt X.K x C
 AR:∀x kvs,c.AR.lookup x=some kvs->wZ X.K X.w X.mg x kvs
 rm:oY k X.A
 E8:∀x n F,c.E8.contains x=true->c.fns.lookup x=some (n,F)->I_ X.prog X.w X.K X.mg X.base k x n F
 x:Rn c k X
 fr:Ew X
 hd:M4 X
theorem pV{k:Nat}{A:abG}(hr:gD k A):A.units+64 < cLine:=by have:=hr.un;omega
theorem Fb:abP "ValueError"=some (.type "ValueError"):=by decide+kernel
theorem Fc:abP "dict"=some (.type "dict"):=by decide+kernel
def Jj(x:Str):Option String :=
 if x="int" then some "int" else if x="str" then some "str" else if x="bool" then some "bool" else if x="tuple" then some "tuple" else if x="list" then some "list" else if x="ValueError" then some "ValueError" else if x="dict" then some "dict" else none
theorem Jk{x:Str}{T:String}(h:Jj x=some T):abP x=some (.type T):=by
 unfold Jj at h
 by_cases e:x="int"
 ·rw[if_pos e] at h;cases h;subst e;exact D_
 rw[if_neg e] at h
 by_cases e:x="str"
 ·rw[if_pos e] at h;cases h;subst e;exact wJ
 rw[if_neg e] at h
 by_cases e:x="bool"
 ·rw[if_pos e] at h;cases h;subst e;exact Ea
 rw[if_neg e] at h
 by_cases e:x="tuple"
 ·rw[if_pos e] at h;cases h;subst e;exact qK
 rw[if_neg e] at h
 by_cases e:x="list"
 ·rw[if_pos e] at h;cases h;subst e;exact wK
 rw[if_neg e] at h
 by_cases e:x="ValueError"
 ·rw[if_pos e] at h;cases h;subst e;exact Fb
 rw[if_neg e] at h
 by_cases e:x="dict"
 ·rw[if_pos e] at h;cases h;subst e;exact Fc
 rw[if_neg e] at h
 cases h
section
variable {X:Cx}
def NJ:gT:=λ_ _ _=> .bad
theorem Fd{f:abL->abL->Sem abL}:jY X f NJ:=⟨λ_ _ _ _=>False,λ_ _ _ _ _ _ _ _ _ _ _ _ h=>h.elim,λ_ _ _ _ _ _ _ _ _ _ _ p=>p⟩
def Rp:Operator->gT
 | .Add=>c_
 | .Sub=>ke
 | .Mult=>dy
 | .FloorDiv=>fi
 | .Mod=>oMod
 | .Pow=>jf
 | _=>NJ
theorem Jl(o:Operator):jY X (abO o) (Rp o):=by
 cases o<;>first | exact MP | exact MM | exact E1 | exact HZ | exact MN | exact MO | exact Fd
def ze:CmpOp->gT
 | .Eq=>oEq
 | .NotEq=>uZ
 | .Lt=>oLt
 | .LtE=>oLe
 | .Gt=>QJ
 | .GtE=>NJ
 | .Is=>GX
 | .IsNot=>oZ
 | .In=>m7
 | .NotIn=>m8
theorem ly(hu:X.A.units+64 < cLine)(o:CmpOp):jY X (abS o) (ze o):=by
 cases o<;>first | exact QR hu | exact QS hu | exact NC hu | exact Nv hu | exact QM | exact QN | exact Je | exact Nl | exact B9 | exact Fd
def Fe(c:Ct)(x:Str):GE:=if okN x=true then
  match c.names.lookup x with
  | some .local=>(match oe x c.N with | some i=>af i | none=>cN)
  | some .cell=>(match oe x c.N with | some i=>af i | none=>cN)
  | some .free=>(match oe x c.N with | some i=>af i | none=>cN)
  | some .globalImplicit=>(match c.consts.lookup x with
   | some w=>gC w
   | none=>if c.clss.contains x=true then gC (.cls x) else if c.AQ.contains x=true then gC (.cls x) else if c.bl.contains x=true then(match Jj x with | some T=>gC (.ty T) | none=>cN) else cN)
  | _=>cN
 else cN
theorem Ff{c:Ct}{k:Nat}(G:Good c k X)(x:Str)(pos:Pos):JE X (.Name x pos) (Fe c x):=by
 unfold Fe
 by_cases hx:okN x=true
 ·rw[if_pos hx]
  cases e:c.names.lookup x with
  | none=>exact aW
  | some kd=>
   have el:X.env.scope.names.lookup x=some kd:=by rw[G.sc];exact e
   cases kd with
   | «local»=>
    dsimp only
    cases e2:oe x c.N with
    | none=>exact aW
    | some i=>exact yP i (by rw[G.N];exact iS e2) (Or.inl el) (il hx) (E9 hx)
   | cell=>
    dsimp only
    cases e2:oe x c.N with
    | none=>exact aW
    | some i=>exact yP i (by rw[G.N];exact iS e2) (lh (Or.inl el)) (il hx) (E9 hx)
   | free=>
    dsimp only
    cases e2:oe x c.N with
    | none=>exact aW
    | some i=>exact yP i (by rw[G.N];exact iS e2) (lh (lh el)) (il hx) (E9 hx)
   | globalImplicit=>
    dsimp only
    have hg:Gl X x:=el
    cases e2:c.consts.lookup x with
    | some w=>
     have q:=G.cst x w e2
     cases w with
     | int i=>obtain⟨t,q⟩:=q;exact DN hg q (il hx)
     | str y=>obtain⟨⟨t,q⟩,z⟩:=q;exact DO hg q z (il hx)
     | qA ws=>
      obtain⟨a,vs,o,its,n,q1,q2,q3,q4,q5,q6,q7⟩:=q
      exact JE.of (i9 (v:=.ref a) hg q1 rfl (il hx)) λρ st σ H m Q S R p=>p (.ref a) m H Ext.refl S (by unfold ao;exact⟨a,vs,rfl,⟨o,its,n,q2,q3,q4,q5,q6⟩,q7.rel⟩)
     | _=>exact ae q
    | none=>
     dsimp only
     by_cases e5:c.clss.contains x=true
     ·rw[if_pos e5]
      obtain⟨C,q1,q2⟩:=G.cls x e5
      exact JE.of (i9 (v:=.ref C) hg q1 rfl (il hx)) λρ st σ H m Q S R p=>p (.ref C) m H Ext.refl S (by unfold ao;exact⟨C,rfl,q2.cls⟩)
     rw[if_neg e5]
     by_cases e6:c.AQ.contains x=true
     ·rw[if_pos e6]
      obtain⟨C,q1,q2⟩:=G.AQ x e6
      exact JE.of (i9 (v:=.ref C) hg q1 rfl (il hx)) λρ st σ H m Q S R p=>p (.ref C) m H Ext.refl S (by unfold ao;exact⟨C,rfl,q2⟩)
     rw[if_neg e6]
     by_cases e3:c.bl.contains x=true
     ·rw[if_pos e3]
      cases e4:Jj x with
      | none=>exact aW
      | some T=>exact QE hg (G.bl x e3) (Jk e4) (E_ hx) (il hx)
     ·rw[if_neg e3];exact aW
   | _=>exact aW
 ·rw[if_neg hx];exact aW
def Fg:Const->GE
 | .none=>gC .non
 | .bool b=>gC (.bl b)
 | .int i=>gC (.int i)
 | .str x=>if aY x=true then gC (.str x) else cN
 | _=>cN
theorem Cm(k:Const)(j:Nat)(pos:Pos):JE X (.Constant k j pos) (Fg k):=by
 cases k with
 | none=>exact MB
 | bool b=>exact QD
 | int i=>exact MA
 | str x=>
  show JE X _ (if aY x=true then gC (.str x) else cN)
  by_cases h:aY x=true
  ·rw[if_pos h];exact MC h
  ·rw[if_neg h];exact aW
 | _=>exact aW
def plain:Expr->Bool
 | .Starred .. =>false
 | _=>true
theorem aN{e:Expr}{es:List Expr}{env:Env}(h:plain e=true):abX (e::es) env=(false,eval e env)::abX es env:=by
 cases e<;>first | rfl | cases h
theorem eP{pos:Pos}{env:Env}:∀{es:List Expr},es.all plain=true->(backTo pos (abX es env)).any (·.1)=false
 | [],_=>rfl
 | e::es,h=>by
  rw[dG,dm] at h
  rw[aN h.1]
  have q:=eP (pos:=pos) (env:=env) h.2
  unfold backTo at q ⊢
  rw[bw,fm,q]
  rfl
def iT(f:Expr->GE):List Expr->GA
 | []=>aj
 | e::es=>aa (f e) (iT f es)
theorem eE{f:Expr->GE}(h:∀e,JE X e (f e)):∀es:List Expr,es.all plain=true->JA X es (iT f es)
 | [],_=>DR
 | e::es,g=>by
  rw[dG,dm] at g
  exact Ap (h e) (eE h es g.2) (aN g.1)
def TK(c:Ct)(x:Str):Option (abL×(List Wv->Hs->Re Wv)) :=
 if x="len" then some (.builtin "len",lL) else if x="abs" then some (.builtin "abs",Ij) else if x="isinstance" then some (.builtin "isinstance",cU c.tb c.tt) else if x="str" then some (.type "str",tM) else if x="list"/\c.free=true then some (.type "list",qX) else if x="tuple" then some (.type "tuple",qS) else if x="max"/\c.free=true then some (.builtin "max",oV) else if x="min"/\c.free=true then some (.builtin "min",oW) else if x="sum"/\c.free=true then some (.builtin "sum",B1) else none
theorem Cn:abP "max"=some (.builtin "max"):=by decide+kernel
theorem Co:abP "min"=some (.builtin "min"):=by decide+kernel
theorem Cp:abP "sum"=some (.builtin "sum"):=by decide+kernel
theorem NL{c:Ct}{x:Str}{v:abL}{op:List Wv->Hs->Re Wv}(O:TabOk X.K c.tb c.tt c.tc)(hc:c.free=true->X.calm=true)(h:TK c x=some (v,op)):abP x=some v/\dc X v op/\((∃id,v= .builtin id)\/∃T,v= .type T):=by
 unfold TK at h
 by_cases e:x="len"
 ·rw[if_pos e] at h;cases h;subst e;exact⟨BU,MT,.inl ⟨_,rfl⟩⟩
 rw[if_neg e] at h
 by_cases e:x="abs"
 ·rw[if_pos e] at h;cases h;subst e;exact⟨BS,MU,.inl ⟨_,rfl⟩⟩
 rw[if_neg e] at h
 by_cases e:x="isinstance"
 ·rw[if_pos e] at h;cases h;subst e;exact⟨D9,M3 O,.inl ⟨_,rfl⟩⟩
 rw[if_neg e] at h
 by_cases e:x="str"
 ·rw[if_pos e] at h;cases h;subst e;exact⟨wJ,IB,.inr ⟨_,rfl⟩⟩
 rw[if_neg e] at h
 by_cases e:x="list"/\c.free=true
 ·rw[if_pos e] at h;cases h;obtain⟨rfl,e2⟩:=e;exact⟨wK,EO (hc e2),.inr ⟨_,rfl⟩⟩
 rw[if_neg e] at h
 by_cases e:x="tuple"
 ·rw[if_pos e] at h;cases h;subst e;exact⟨qK,Nf,.inr ⟨_,rfl⟩⟩
 rw[if_neg e] at h
 by_cases e:x="max"/\c.free=true
 ·rw[if_pos e] at h;cases h;obtain⟨rfl,e2⟩:=e;exact⟨Cn,IT (hc e2),.inl ⟨_,rfl⟩⟩
 rw[if_neg e] at h
 by_cases e:x="min"/\c.free=true
 ·rw[if_pos e] at h;cases h;obtain⟨rfl,e2⟩:=e;exact⟨Co,IU (hc e2),.inl ⟨_,rfl⟩⟩
 rw[if_neg e] at h
 by_cases e:x="sum"/\c.free=true
 ·rw[if_pos e] at h;cases h;obtain⟨rfl,e2⟩:=e;exact⟨Cp,Ni (hc e2),.inl ⟨_,rfl⟩⟩
 rw[if_neg e] at h
 cases h
def zf(c:Ct)(fE:Expr->GE)(x:Str)(es:List Expr):GE:=if okN x=true/\es.all plain=true/\c.names.lookup x=some .globalImplicit then
   (match c.fns.lookup x with
   | some (n,F)=>if c.free=true then az n F (iT fE es) else cN
   | none=>if c.bl.contains x=true then(match TK c x with | some (_,op)=>aR op (iT fE es) | none=>cN) else cN)
  else cN
def Fh(fE:Expr->GE)(o:Expr)(name:Str)(e:Expr)(apos cpos:Pos):GE:=if plain e=true/\(apos.endLine == cpos.line)=true then
   (if name="append" then lR ji (fE o) (fE e) else if name="extend" then lR xb (fE o) (fE e) else cN)
  else cN
def vj(fE:Expr->GE)(o:Expr)(name:Str)(es:List Expr)(apos cpos:Pos):GE:=cN
theorem all_plain{pos:Pos}{env:Env}:∀{es:List Expr},es.all plain=true->(backTo pos (abX es env)).all (λx=> !x.1)=true
 | [],_=>rfl
 | e::es,h=>by
  rw[dG,dm] at h
  rw[aN h.1]
  have q:=all_plain (pos:=pos) (env:=env) h.2
  unfold backTo at q ⊢
  rw[bw,dG,q]
  rfl
theorem og{fE:Expr->GE}(h:∀e,JE X e (fE e))(o:Expr)(name:Str)(e:Expr)(es:List Expr)(apos cpos:Pos):JE X (.Call (.Attribute o name apos) (e::es) [] cpos) (vj fE o name (e::es) apos cpos):=by
 exact aW
def Fi(fE:Expr->GE)(o:Expr)(e f:Expr)(apos cpos:Pos):GE:=if plain e=true/\plain f=true/\(apos.endLine == cpos.line)=true then EI (fE o) (fE e) (fE f) else cN
theorem Fj{c:Ct}{k:Nat}(G:Good c k X){fE:Expr->GE}(h:∀e,JE X e (fE e))(o:Expr)(ho:attributeBase o "get" X.env (eval o X.env)=eval o X.env)(e f:Expr)(apos cpos:Pos):JE X (.Call (.Attribute o "get" apos) [e,f] [] cpos) (Fi fE o e f apos cpos):=by
 unfold Fi
 by_cases g:plain e=true/\plain f=true/\(apos.endLine == cpos.line)=true
 ·rw[if_pos g]
  obtain⟨g1,g2,g3⟩:=g
  refine EK (by have:=G.un;omega) (h _) (h e) (h f) ⟨ho,?_,g3,?_⟩
  ·rw[all_plain (es:=[e,f]) (by simp[g1,g2])]
   rfl
  ·rw[aN g1,aN g2]
   rfl
 ·rw[if_neg g];exact aW
def Cq(c:Ct)(x:Str):Option Dc:=if okN x=true/\c.names.lookup x=some .globalImplicit then c.AR.lookup x else none
theorem AU{c:Ct}{k:Nat}(G:Good c k X){x:Str}{kvs:Dc}(h:Cq c x=some kvs):Gl X x/\(x == ("__debug__":Str))=false/\wZ X.K X.w X.mg x kvs:=by
 unfold Cq at h
 by_cases g:okN x=true/\c.names.lookup x=some .globalImplicit
 ·rw[if_pos g] at h
  refine⟨?_,il g.1,G.AR x kvs h⟩
  show X.env.scope.names.lookup x=_
  rw[G.sc];exact g.2
 ·rw[if_neg g] at h;cases h
def Fl(c:Ct)(fE:Expr->GE)(x:Str)(p:Pos)(e:Expr)(apos cpos:Pos):GE:=if c.CZ.contains x=true/\plain e=true/\(apos.endLine == cpos.line)=true then mh (fE (.Name x p)) (fE e) else cN
theorem Fn{c:Ct}{k:Nat}(G:Good c k X){fE:Expr->GE}(h:∀e,JE X e (fE e))(x:Str)(p:Pos)(e:Expr)(apos cpos:Pos):JE X (.Call (.Attribute (.Name x p) "get" apos) [e] [] cpos) (Fl c fE x p e apos cpos):=by
 unfold Fl
 by_cases g:c.CZ.contains x=true/\plain e=true/\(apos.endLine == cpos.line)=true
 ·rw[if_pos g]
  obtain⟨_,g1,g3⟩:=g
  refine xf (by have:=G.un;omega) (h _) (h e) ⟨rfl,?_,g3,?_⟩
  ·rw[all_plain (es:=[e]) (by simp[g1])]
   rfl
  ·rw[aN g1]
   rfl
 ·rw[if_neg g];exact aW
def Fo(c:Ct)(fE:Expr->GE)(cpos:Pos):Expr->List Expr->List Keyword->GE
 | .Name x _,e::es,[]=>zf c fE x (e::es)
 | .Attribute (.Name x p) name apos,[e],[]=>if name="get" then Fl c fE x p e apos cpos else if name="append"\/name="extend" then Fh fE (.Name x p) name e apos cpos else vj fE (.Name x p) name [e] apos cpos
 | .Attribute (.Name x p) name apos,[e,f],[]=>if name="get" then(match Cq c x with | some kvs=>(if plain e=true/\plain f=true/\(apos.endLine == cpos.line)=true then ER kvs (fE e) (fE f) else cN) | none=>Fi fE (.Name x p) e f apos cpos) else vj fE (.Name x p) name [e,f] apos cpos
 | .Attribute o name apos,e::es,[]=>vj fE o name (e::es) apos cpos
 | _,_,_=>cN
theorem Cr{c:Ct}{k:Nat}(G:Good c k X){fE:Expr->GE}(h:∀e,JE X e (fE e))(x:Str)(e:Expr)(es:List Expr)(p pos:Pos):JE X (.Call (.Name x p) (e::es) [] pos) (zf c fE x (e::es)):=by
 unfold zf
 by_cases g:okN x=true/\(e::es).all plain=true/\c.names.lookup x=some .globalImplicit
 ·rw[if_pos g]
  obtain⟨g1,g2,g3⟩:=g
  have hg:Gl X x:=by
   show X.env.scope.names.lookup x=_
   rw[G.sc];exact g3
  have gp:plain e=true/\es.all plain=true:=by rw[dG,dm] at g2;exact g2
  have ha:=eE h (e::es) g2
  cases e1:c.fns.lookup x with
  | some nF=>
   obtain⟨n,F⟩:=nF
   dsimp only
   by_cases cf:c.free=true
   ·rw[if_pos cf]
    obtain⟨a,fd,ps,G1,G2,G3,G4⟩:=G.fns x n F e1
    exact Ir G1 (G.free cf).1 G2 G3 G4 ha hg (il g1) (aN gp.1) (eP gp.2)
   ·rw[if_neg cf]
    exact aW
  | none=>
   dsimp only
   by_cases e3:c.bl.contains x=true
   ·rw[if_pos e3]
    cases e4:TK c x with
    | none=>exact aW
    | some io=>
     obtain⟨v,op⟩:=io
     obtain⟨b1,b2,b3⟩:=NL (X:=X) G.tab (λz=>(G.free z).2) e4
     rcases b3 with ⟨id,rfl⟩ | ⟨T,rfl⟩
     ·exact DV b2 hg (G.bl x e3) b1 ha (E_ g1) (il g1) (aN gp.1) (eP gp.2)
     ·exact tJ b2 hg (G.bl x e3) b1 ha (E_ g1) (il g1) (aN gp.1) (eP gp.2)
   ·rw[if_neg e3]
    exact aW
 ·rw[if_neg g];exact aW
theorem Fp{fE:Expr->GE}(h:∀e,JE X e (fE e))(x name:Str)(e:Expr)(p apos cpos:Pos):JE X (.Call (.Attribute (.Name x p) name apos) [e] [] cpos) (Fh fE (.Name x p) name e apos cpos):=by
 unfold Fh
 by_cases g:plain e=true/\(apos.endLine == cpos.line)=true
 ·rw[if_pos g]
  by_cases n1:name="append"
  ·rw[if_pos n1]
   subst n1
   exact Aw En PySem.F.slot_list_append PySem.F.type_list_append (h _) (h e) (aN g.1) g.2
  rw[if_neg n1]
  by_cases n2:name="extend"
  ·rw[if_pos n2]
   subst n2
   exact Aw Jc PySem.F.slot_list_extend PySem.F.type_list_extend (h _) (h e) (aN g.1) g.2
  rw[if_neg n2]
  exact aW
 ·rw[if_neg g];exact aW
theorem Fq{c:Ct}{k:Nat}(G:Good c k X){fE:Expr->GE}(h:∀e,JE X e (fE e))(f:Expr)(as:List Expr)(ks:List Keyword)(pos:Pos):JE X (.Call f as ks pos) (Fo c fE pos f as ks):=by
 unfold Fo
 split
 ·exact Cr G h _ _ _ _ _
 ·rename_i x p name apos e
  by_cases gg:name="get"
  ·rw[if_pos gg];subst gg;exact Fn G h _ _ _ _ _
  rw[if_neg gg]
  by_cases g:name="append"\/name="extend"
  ·rw[if_pos g];exact Fp h _ _ _ _ _ _
  ·rw[if_neg g]
   exact og h _ _ _ _ _ _
 ·rename_i x p name apos e f
  by_cases g:name="get"
  ·rw[if_pos g]
   subst g
   cases ed:Cq c x with
   | none=>exact Fj G h _ rfl _ _ _ _
   | some kvs=>
    dsimp only
    by_cases g:plain e=true/\plain f=true/\(apos.endLine == pos.line)=true
    ·rw[if_pos g]
     obtain⟨g1,g2,g3⟩:=g
     obtain⟨q1,q2,q3⟩:=AU G ed
     refine ES (h e) (h f) ⟨rfl,?_,g3,?_⟩ q1 q2 q3
     ·rw[all_plain (es:=[e,f]) (by simp[g1,g2])]
      rfl
     ·rw[aN g1,aN g2]
      rfl
    ·rw[if_neg g];exact aW
  ·rw[if_neg g]
   exact og h _ _ _ _ _ _
 ·exact og h _ _ _ _ _ _
 ·exact aW
def Jm:Expr->Bool
 | .Slice .. =>true
 | _=>false
def Fs(f:Expr->GE):Option Expr->GO
 | none=>jh
 | some e=>mV (f e)
theorem AV{f:Expr->GE}(h:∀e,JE X e (f e))(o:Option Expr):JO X o (Fs f o):=by
 cases o with
 | none=>exact Ih
 | some e=>exact Ii (h e)
def Jn(f:Expr->GE)(a:Expr):Expr->GE
 | .Slice lo hi none _=>gE (f a) (Fs f lo) (Fs f hi)
 | .Slice .. =>cN
 | b=>ag aP (f a) (f b)
theorem Ft{f:Expr->GE}(h:∀e,JE X e (f e))(a b:Expr)(pos:Pos):JE X (.Subscript a b pos) (Jn f a b):=by
 unfold Jn
 split
 ·exact B8 (h a) (AV h _) (AV h _)
 ·exact aW
 ·rename_i n1 n2
  refine QU (h a) (h b) ?_
  intro o i
  cases b<;>first | rfl | (rename_i lo hi st p;exact(n2 _ _ _ _ rfl).elim)
def Fv(f:Expr->GE)(a:Expr):List CmpOp->List Expr->GE
 | [o],[b]=>if abN o b=false then ag (ze o) (f a) (f b) else cN
 | [o,o'],[b,b']=>if lastMarks [o,o'] [b,b']=false then qF (ze o) (ze o') (f a) (f b) (f b') else cN
 | _,_=>cN
theorem zg(hu:X.A.units+64 < cLine){f:Expr->GE}(h:∀e,JE X e (f e))(a:Expr)(os:List CmpOp)(bs:List Expr)(pos:Pos):JE X (.Compare a os bs pos) (Fv f a os bs):=by
 unfold Fv
 split
 ·rename_i o b
  by_cases g:abN o b=false
  ·rw[if_pos g];exact yQ (ly hu o) (h a) (h b) g
  ·rw[if_neg g];exact aW
 ·rename_i o o' b b'
  by_cases g:lastMarks [o,o'] [b,b']=false
  ·rw[if_pos g];exact DP (ly hu o) (ly hu o') (h a) (h b) (h b') g
  ·rw[if_neg g];exact aW
 ·exact aW
def Cs(f:Expr->GE)(a:Expr):List CmpOp->List Expr->GT
 | [o],[b]=>if abN o b=false then a_ (ag (ze o) (f a) (f b)) else kg
 | [o,o'],[b,b']=>if lastMarks [o,o'] [b,b']=false then a_ (qF (ze o) (ze o') (f a) (f b) (f b')) else kg
 | _,_=>kg
theorem pW(hu:X.A.units+64 < cLine){f:Expr->GE}(h:∀e,JE X e (f e))(a:Expr)(os:List CmpOp)(bs:List Expr)(pos:Pos):JT X (.Compare a os bs pos) (Cs f a os bs):=by
 unfold Cs
 split
 ·rename_i o b
  by_cases g:abN o b=false
  ·rw[if_pos g];exact uW (ly hu o) (h a) (h b) g
  ·rw[if_neg g];exact kj
 ·rename_i o o' b b'
  by_cases g:lastMarks [o,o'] [b,b']=false
  ·rw[if_pos g];exact DQ (ly hu o) (ly hu o') (h a) (h b) (h b') g
  ·rw[if_neg g];exact kj
 ·exact kj
def NM(c:Ct)(f:Expr->GE)(a:Expr):List CmpOp->List Expr->GE
 | [.In],[.Name x p]=>if c.Ck.contains x=true then(if abN .In (.Name x p)=false then ag (kr false) (f a) (f (.Name x p)) else cN) else Fv f a [.In] [.Name x p]
 | [.NotIn],[.Name x p]=>if c.Ck.contains x=true then(if abN .NotIn (.Name x p)=false then ag (kr true) (f a) (f (.Name x p)) else cN) else Fv f a [.NotIn] [.Name x p]
 | os,bs=>Fv f a os bs
theorem Jo{c:Ct}{k:Nat}(G:Good c k X){f:Expr->GE}(h:∀e,JE X e (f e))(a:Expr)(os:List CmpOp)(bs:List Expr)(pos:Pos):JE X (.Compare a os bs pos) (NM c f a os bs):=by
 unfold NM
 split
 ·rename_i x p
  ·by_cases gd:c.Ck.contains x=true
   ·rw[if_pos gd]
    by_cases gm:abN .In (.Name x p)=false
    ·rw[if_pos gm];exact yQ (za G.un) (h a) (h _) gm
    ·rw[if_neg gm];exact aW
   ·rw[if_neg gd];exact zg G.un h a _ _ pos
 ·rename_i x p
  ·by_cases gd:c.Ck.contains x=true
   ·rw[if_pos gd]
    by_cases gm:abN .NotIn (.Name x p)=false
    ·rw[if_pos gm];exact yQ (tW G.un) (h a) (h _) gm
    ·rw[if_neg gm];exact aW
   ·rw[if_neg gd];exact zg G.un h a _ _ pos
 ·exact zg G.un h a _ _ pos
def Fw(c:Ct)(f:Expr->GE)(a:Expr):List CmpOp->List Expr->GT
 | [.In],[.Name x p]=>if c.Ck.contains x=true then(if abN .In (.Name x p)=false then a_ (ag (kr false) (f a) (f (.Name x p))) else kg) else Cs f a [.In] [.Name x p]
 | [.NotIn],[.Name x p]=>if c.Ck.contains x=true then(if abN .NotIn (.Name x p)=false then a_ (ag (kr true) (f a) (f (.Name x p))) else kg) else Cs f a [.NotIn] [.Name x p]
 | [.In],[.Attribute o fl p]=>if c.Ck.contains fl=true/\abN .In (.Attribute o fl p)=false then a_ (ag (kr false) (f a) (f (.Attribute o fl p))) else Cs f a [.In] [.Attribute o fl p]
 | os,bs=>Cs f a os bs
theorem Fx{c:Ct}{k:Nat}(G:Good c k X){f:Expr->GE}(h:∀e,JE X e (f e))(a:Expr)(os:List CmpOp)(bs:List Expr)(pos:Pos):JT X (.Compare a os bs pos) (Fw c f a os bs):=by
 unfold Fw
 split
 ·rename_i x p
  ·by_cases gd:c.Ck.contains x=true
   ·rw[if_pos gd]
    by_cases gm:abN .In (.Name x p)=false
    ·rw[if_pos gm];exact uW (za G.un) (h a) (h _) gm
    ·rw[if_neg gm];exact kj
   ·rw[if_neg gd];exact pW G.un h a _ _ pos
 ·rename_i x p
  ·by_cases gd:c.Ck.contains x=true
   ·rw[if_pos gd]
    by_cases gm:abN .NotIn (.Name x p)=false
    ·rw[if_pos gm];exact uW (tW G.un) (h a) (h _) gm
    ·rw[if_neg gm];exact kj
   ·rw[if_neg gd];exact pW G.un h a _ _ pos
 ·rename_i o fl p
  by_cases gd:c.Ck.contains fl=true/\abN .In (.Attribute o fl p)=false
  ·rw[if_pos gd];exact uW (za G.un) (h a) (h _) gd.2
  ·rw[if_neg gd];exact pW G.un h a _ _ pos
 ·exact pW G.un h a _ _ pos
def Rq(c:Ct):Expr->Bool
 | .Name x _=>c.CZ.contains x||c.ZL.contains x
 | _=>false
def NN(c:Ct)(f:Expr->GE):Expr->Expr->GE
 | .Name x p,b=>(match Cq c x with | some kvs=>if Jm b=false then AG kvs (f b) else cN | none=>Jn f (.Name x p) b)
 | a,b=>Jn f a b
theorem Jp{c:Ct}{k:Nat}(G:Good c k X){f:Expr->GE}(h:∀e,JE X e (f e))(a b:Expr)(pos:Pos):JE X (.Subscript a b pos) (NN c f a b):=by
 unfold NN
 split
 ·rename_i x p
  cases e:Cq c x with
  | none=>
   dsimp only
   exact Ft h _ b pos
  | some kvs=>
   dsimp only
   by_cases g:Jm b=false
   ·rw[if_pos g]
    obtain⟨g1,g2,g3⟩:=AU G e
    refine IW (h b) ?_ g1 g2 g3
    intro o i
    cases b<;>first | rfl | cases g
   ·rw[if_neg g];exact aW
 ·exact Ft h _ b pos
def NO(f:Expr->GE):List Expr->GE
 | []=>cN
 | [a]=>f a
 | a::b::r=>oS (f a) (NO f (b::r))
theorem AX{f:Expr->GE}(h:∀e,JE X e (f e))(pos:Pos):∀es,JE X (.BoolOp .And es pos) (NO f es)
 | []=>aW
 | [a]=>MI (h a)
 | a::b::r=>MJ (h a) (AX h pos (b::r))
def NP(f:Expr->GT):List Expr->GT
 | []=>kg
 | [a]=>f a
 | a::b::r=>BN (f a) (NP f (b::r))
def VB(f:Expr->GT):List Expr->GT
 | []=>kg
 | [a]=>f a
 | a::b::r=>uX (f a) (VB f (b::r))
theorem Fy{e:Expr}:JW X e kg:=λρ st σ H m Q S R p=>ae p
theorem AY{f:Expr->GT}(h:∀e,JT X e (f e))(pos:Pos):∀es,JW X (.BoolOp .And es pos) (NP f es)
 | []=>Fy
 | [a]=>HW (h a)
 | a::b::r=>MG (h a) (AY h pos (b::r))
theorem Fz{f:Expr->GT}(h:∀e,JT X e (f e))(pos:Pos):∀es,JW X (.BoolOp .Or es pos) (VB f es)
 | []=>Fy
 | [a]=>MF (h a)
 | a::b::r=>QF (h a) (Fz h pos (b::r))
def ZM(f:Expr->GE):UnaryOp->Expr->GE
 | .USub,a=>ye gq (f a)
 | _,_=>cN
def Cu(f:Expr->GE)(g:GA->GE)(es:List Expr):GE:=if es.all plain=true then g (iT f es) else cN
def isSet:Expr->Bool
 | .Set .. =>true
 | _=>false
theorem lz{e:Expr}{env:Env}(h:isSet e=false)(x:abL):abT e env x=pure x:=by
 cases e<;>first | rfl | cases h
def eF(c:Ct)(x:Str):Bool:=decide (x="range")&&decide (c.names.lookup x=some .globalImplicit)&&c.bl.contains x&&(match c.fns.lookup x with | some _=>false | none=>true)
theorem q_{c:Ct}{k:Nat}(G:Good c k X)(y:Str)(hy:eF c y=true):y="range"/\Gl X y/\X.mg y=none:=by
 unfold eF at hy
 simp only[dm,decide_eq_true_eq] at hy
 refine⟨hy.1.1.1,?_,G.bl y hy.1.2⟩
 show X.env.scope.names.lookup y=_
 rw[G.sc];exact hy.1.1.2
def FA(c:Ct)(f:Expr->GE):Expr->GI
 | .Call (.Name x p) [a] [] q=>if eF c x=true then(if plain a=true then IH (iT f [a]) else Az) else gW (f (.Call (.Name x p) [a] [] q))
 | .Call (.Name x p) [a,b] [] q=>if eF c x=true then(if plain a=true/\plain b=true then EB (iT f [a,b]) else Az) else gW (f (.Call (.Name x p) [a,b] [] q))
 | e=>if isSet e=false then gW (f e) else Az
theorem AZ{c:Ct}{k:Nat}(G:Good c k X){f:Expr->GE}(h:∀e,JE X e (f e))(tg e:Expr):JI X tg e (FA c f e):=by
 unfold FA
 split
 ·rename_i y p a q
  by_cases g:eF c y=true
  ·rw[if_pos g]
   obtain⟨rfl,g2,g3⟩:=q_ G y g
   by_cases ga:plain a=true
   ·rw[if_pos ga]
    exact Q5 g2 g3 (eE h [a] (by simp[ga])) (aN ga)
   ·rw[if_neg ga];exact y3
  ·rw[if_neg g];exact ve (h _)
 ·rename_i y p a b q
  by_cases g:eF c y=true
  ·rw[if_pos g]
   obtain⟨rfl,g2,g3⟩:=q_ G y g
   by_cases ga:plain a=true/\plain b=true
   ·rw[if_pos ga]
    exact Q6 g2 g3 (eE h [a,b] (by simp[ga])) (by rw[aN ga.1,aN ga.2];rfl) (by rw[aN ga.2];rfl)
   ·rw[if_neg ga];exact y3
  ·rw[if_neg g];exact ve (h _)
 ·by_cases g:isSet e=false
  ·rw[if_pos g];exact ve (h _)
  ·rw[if_neg g];exact y3
def o8(c:Ct):List (Str×abI)->Option gU
 | []=>some []
 | (n,.free)::r=>if c.names.lookup n=some .cell\/c.names.lookup n=some .free then(match oe n c.N,o8 c r with | some i,some l=>some ((n,i)::l) | _,_=>none) else none
 | _::r=>o8 c r
theorem rf{c:Ct}:∀{ns:List (Str×abI)}{cs:gU},o8 c ns=some cs->(∀y∈ns,y.2= .free->c.names.lookup y.1=some .cell\/c.names.lookup y.1=some .free)/\∀p∈cs,(p.1,eC)∈ns/\c.N[p.2]? =some p.1
 | [],cs,h=>by cases h;exact⟨(λ_ z=>by cases z),(λ_ z=>by cases z)⟩
 | (n,k)::r,cs,h=>by
  unfold o8 at h
  split at h
  ·cases ‹_::_=[]›
  ·rename_i n' r' he
   cases he
   by_cases g:c.names.lookup n=some .cell\/c.names.lookup n=some .free
   ·rw[if_pos g] at h
    cases e1:oe n c.N with
    | none=>rw[e1] at h;cases h
    | some i=>
     cases e2:o8 c r with
     | none=>rw[e1,e2] at h;cases h
     | some l=>
      rw[e1,e2] at h
      cases h
      obtain⟨q1,q2⟩:=rf e2
      refine⟨λy hy e=>?_,λp hp=>?_⟩
      ·rcases List.mem_cons.mp hy with z | z
       ·subst z;exact g
       ·exact q1 y z e
      ·rcases List.mem_cons.mp hp with z | z
       ·subst z;exact⟨bS,iS e1⟩
       ·exact⟨bq _ (q2 p z).1,(q2 p z).2⟩
   ·rw[if_neg g] at h;cases h
  ·rename_i kk r' hk he
   cases he
   obtain⟨q1,q2⟩:=rf h
   refine⟨λy hy e=>?_,λp hp=>⟨bq _ (q2 p hp).1,(q2 p hp).2⟩⟩
   rcases List.mem_cons.mp hy with z | z
   ·subst z
    have e':k= .free:=e
    subst e'
    exact(hk n rfl).elim
   ·exact q1 y z e
def zh(c:Ct)(ns:List (Str×abI)):List (Str×abI):=ns.map λ(n,k)=>if(k == .free&&c.names.lookup n == some .cell) then(n,.cell) else(n,k)
def FC:ScopeKind->Bool
 | .function=>true
 | _=>false
def lA(scope:Scope)(x:Str):Bool:=FC scope.kind&&scope.names.all (λy=>decide (scope.names.lookup y.1=some y.2))&&scope.names.all (λy=>decide (y.2≠.cell))&&decide (scope.names.lookup x=some .local)
def Ct.block(c:Ct)(scope:Scope)(x:Str)(cs:gU):Ct:={ c with N:=x::cs.map (·.1),names:=zh c scope.names,loop:=false,top:=false }
def xn(c:Ct)(sub:Ct->(Expr->GE)×(Expr->GT))(f:Expr->GE)(elt:Expr)(x:Str)(iter:Expr)(NQ:Ct->GT)(scope:Scope):GE :=
 if lA scope x=true/\c.free=true/\isSet iter=false then(match o8 c scope.names with
  | some cs=>if(x::cs.map (·.1)).Nodup then iQ cs (FA c f iter) (NQ (c.block scope x cs)) ((sub (c.block scope x cs)).1 elt) else cN
  | none=>cN) else cN
def TL(c:Ct)(sub:Ct->(Expr->GE)×(Expr->GT))(f:Expr->GE)(elt:Expr)(scope:Scope):List Comprehension->GE
 | [⟨.Name x _,iter,[],0⟩]=>xn c sub f elt x iter (λ_=>λ_ st=> .ok true st) scope
 | [⟨.Name x _,iter,[q],0⟩]=>xn c sub f elt x iter (λc'=>(sub c').2 q) scope
 | _=>cN
theorem rh{c:Ct}{k:Nat}(G:Good c k X){scope:Scope}{x:Str}{cs:gU}(hs:lA scope x=true)(nd:(x::cs.map (·.1)).Nodup)(C:abF)(s0:abK)(H0:Hp)(fp:List abF)(pn:List (abF×Obj))(E:abL->abK->Prop)(hA:BX X.A H0) :
  Good (c.block scope x cs) k (gw X scope x cs C s0 H0 fp pn E):=by
 have hk:scope.kind= .function:=by
  have:FC scope.kind=true:=by
   unfold lA at hs
   simp only[dm] at hs
   exact hs.1.1.1
  revert this
  cases scope.kind<;>intro z<;>first | rfl | cases z
 refine⟨rfl,?_,nd,G.un,G.free,(λz=>by cases z),G.cst,G.bl,G.fns,(λz=>by cases z),(λz=>by cases z),hk,G.tab,G.cls,G.AQ,G.AR,⟨G.rm.d,G.rm.u⟩,G.E8,⟨G.x.lam,G.x.GZ,G.x.PD,(λz=>by cases z),G.x.sk,G.x.PF,G.x.ins⟩,G.fr,hA⟩
 show(relabel scope X.env).names=zh c scope.names
 unfold relabel zh Env.kindOf
 rw[G.kind,G.sc]
 simp
theorem FD{c:Ct}{k:Nat}(G:Good c k X){scope:Scope}{x:Str}{cs:gU}(hs:lA scope x=true)(hcs:o8 c scope.names=some cs)(nd:(x::cs.map (·.1)).Nodup):dB X scope x cs:=by
 have hs:(FC scope.kind=true/\∀y∈scope.names,scope.names.lookup y.1=some y.2)/\((scope.names.filter λy=>y.2 == .cell)=[]\/(scope.names.filter λy=>y.2 == .cell)=[(x,.cell)])/\(scope.names.lookup x=some .local\/scope.names.lookup x=some .cell):=by
  unfold lA at hs
  simp only[dm,decide_eq_true_eq,FE] at hs
  exact⟨hs.1.1,.inl (List.filter_eq_nil_iff.mpr λy hy=>by simpa using hs.1.2 y hy),.inl hs.2⟩
 obtain⟨⟨h1,h2⟩,h3,h4⟩:=hs
 have hk:scope.kind= .function:=by
  revert h1
  cases scope.kind<;>intro z<;>first | rfl | cases z
 obtain⟨q1,q2⟩:=rf hcs
 refine⟨hk,h2,h3,h4,λy hy e=>?_,λp hp=>⟨by rw[G.N];exact(q2 p hp).2,h2 _ (q2 p hp).1⟩,nd⟩
 show X.env.scope.names.lookup y.1=_\/X.env.scope.names.lookup y.1=_
 rw[G.sc];exact q1 y hy e
def NR(X:Cx)(e:Expr)(g:GE):Prop:=∀(i:Nat)(y:Str)(py spos:Pos),X.N.Nodup->X.N[i]? =some y->Loc X.env.scope y->(X.fn y=true\/X.env.scope.names.lookup y=some .local)->JS X (.Assign [.Name y py] e spos) (bB i g)
theorem Cv{i:Nat}{s:Stmt}:JS X s (bB i cN):=λρ st σ H m D S R p=>ae p
theorem ip{e:Expr}:NR X e cN:=λi y py spos _ _ _ _=>Cv
theorem A0{c:Ct}{k:Nat}(G:Good c k X){sub:Ct->(Expr->GE)×(Expr->GT)}(hb:∀c X,Good c k X->(∀e,JE X e ((sub c).1 e))/\∀e,JT X e ((sub c).2 e)){f:Expr->GE}(h:∀e,JE X e (f e))(elt:Expr)(scope:Scope)(gens:List Comprehension)(pos:Pos) :
  JE X (.ListComp elt gens scope pos) (TL c sub f elt scope gens)/\NR X (.ListComp elt gens scope pos) (TL c sub f elt scope gens):=by
 have core:∀(x:Str)(px:Pos)(iter:Expr)(ifs:List Expr)(NQ:Ct->GT),(∀c X,Good c k X->Kx X ifs (NQ c))->
   JE X (.ListComp elt [⟨.Name x px,iter,ifs,0⟩] scope pos) (xn c sub f elt x iter NQ scope)/\NR X (.ListComp elt [⟨.Name x px,iter,ifs,0⟩] scope pos) (xn c sub f elt x iter NQ scope):=by
  intro x px iter ifs NQ hg
  unfold xn
  by_cases g:lA scope x=true/\c.free=true/\isSet iter=false
  ·rw[if_pos g]
   obtain⟨g1,g2,g3⟩:=g
   cases ec:o8 c scope.names with
   | none=>exact⟨aW,ip⟩
   | some cs=>
    dsimp only
    by_cases nd:(x::cs.map (·.1)).Nodup
    ·rw[if_pos nd]
     have CS:=FD G g1 ec nd
     have hE:∀C s0 H0 fp pn E,BX X.A H0->JE (gw X scope x cs C s0 H0 fp pn E) elt ((sub (c.block scope x cs)).1 elt):=λC s0 H0 fp pn E z=>(hb _ _ (rh G g1 nd C s0 H0 fp pn E z)).1 elt
     have hT:∀C s0 H0 fp pn E,BX X.A H0->Kx (gw X scope x cs C s0 H0 fp pn E) ifs (NQ (c.block scope x cs)):=λC s0 H0 fp pn E z=>hg _ _ (rh G g1 nd C s0 H0 fp pn E z)
     exact⟨AB G.fr CS (wV (G.free g2).2) G.hd (AZ G h _ iter).y hE hT (lz g3),λi y py spos hN hi hl hf=>II i hN G.fr CS (wV (G.free g2).2) G.hd (AZ G h _ iter).y hE hT (lz g3) hi hl hf⟩
    ·rw[if_neg nd];exact⟨aW,ip⟩
  ·rw[if_neg g];exact⟨aW,ip⟩
 unfold TL
 split
 ·exact core _ _ _ _ _ λ_ _ _=>IF
 ·exact core _ _ _ _ _ λc X G'=>IG ((hb c X G').2 _)
 ·exact⟨aW,ip⟩
def NT(c:Ct)(x:Str):List Expr->Bool
 | [.Attribute _ fl _]=>decide (x="tuple")&&c.KI.contains fl&&decide (c.names.lookup x=some .globalImplicit)&&c.bl.contains x&&c.free
 | _=>false
def VC(c:Ct)(fE:Expr->GE)(d:GE)(x:Str)(e:Expr)(es:List Expr):GE:=match c.it.ini.lookup x with
 | some nF=>if okN x=true/\(e::es).all plain=true/\c.names.lookup x=some .globalImplicit/\c.free=true then AN x nF.1 nF.2 (iT fE (e::es)) else cN
 | none=>if NT c x (e::es)=true/\(e::es).all plain=true then aR t8 (iT fE (e::es)) else d
def VD(c:Ct)(fE:Expr->GE)(d:GE)(pos:Pos)(x:Str)(p:Pos)(name:Str)(apos:Pos)(e:Expr)(es:List Expr):GE:=match es with
 | [f]=>if name="get"/\c.CZ.contains x=true/\plain e=true/\plain f=true/\(apos.endLine == pos.line)=true then lx (fE (.Name x p)) (fE e) (fE f) else d
 | _=>d
theorem NU{c:Ct}{k:Nat}(G:Good c k X){fE:Expr->GE}(h:∀e,JE X e (fE e)){d:GE}(x:Str)(p:Pos)(name:Str)(apos:Pos)(e:Expr)(es:List Expr)(pos:Pos)(hd:JE X (.Call (.Attribute (.Name x p) name apos) (e::es) [] pos) d):JE X (.Call (.Attribute (.Name x p) name apos) (e::es) [] pos) (VD c fE d pos x p name apos e es):=by
 unfold VD
 split
 ·rename_i f
  by_cases g:name="get"/\c.CZ.contains x=true/\plain e=true/\plain f=true/\(apos.endLine == pos.line)=true
  ·rw[if_pos g]
   obtain⟨rfl,_,g1,g2,g3⟩:=g
   refine Cj (by have:=G.un;omega) (h _) (h e) (h f) ⟨rfl,?_,g3,?_⟩
   ·rw[all_plain (es:=[e,f]) (by simp[g1,g2])]
    rfl
   ·rw[aN g1,aN g2]
    rfl
  ·rw[if_neg g];exact hd
 ·exact hd
def VE(c:Ct)(fE:Expr->GE)(d:GE)(pos:Pos)(o:Expr)(name:Str)(apos:Pos)(e:Expr)(es:List Expr):GE:=match o with
 | .Name x p=>(match c.it.AO.lookup name with
  | some nF=>if(e::es).all plain=true/\c.free=true/\(e::es).length < 20/\(apos.endLine == pos.line)=true then lM c.it.c name nF.1 nF.2 (fE (.Name x p)) (iT fE (e::es)) else cN
  | none=>VD c fE d pos x p name apos e es)
 | .Attribute o2 fl r=>(match es with
  | []=>if name="get"/\c.CZ.contains fl=true/\plain e=true/\(apos.endLine == pos.line)=true then mh (fE (.Attribute o2 fl r)) (fE e) else d
  | _=>d)
 | _=>d
def VF(c:Ct)(fE:Expr->GE)(d:GE)(pos:Pos)(f:Expr)(as:List Expr)(ks:List Keyword):GE:=match ks with
 | []=>(match as with
  | e::es=>(match f with
   | .Attribute o name apos=>VE c fE d pos o name apos e es
   | .Name x _=>VC c fE d x e es
   | _=>d)
  | []=>d)
 | _=>d
theorem NV{c:Ct}{k:Nat}(G:Good c k X){fE:Expr->GE}(h:∀e,JE X e (fE e)){d:GE}(x:Str)(p:Pos)(e:Expr)(es:List Expr)(pos:Pos)(hd:JE X (.Call (.Name x p) (e::es) [] pos) d):JE X (.Call (.Name x p) (e::es) [] pos) (VC c fE d x e es):=by
 unfold VC
 cases q:c.it.ini.lookup x with
 | some nF=>
  obtain⟨n,F⟩:=nF
  dsimp only
  by_cases g:okN x=true/\(e::es).all plain=true/\c.names.lookup x=some .globalImplicit/\c.free=true
  ·rw[if_pos g]
   obtain⟨g1,g2,g3,g4⟩:=g
   have gp:plain e=true/\es.all plain=true:=by rw[dG,dm] at g2;exact g2
   exact Jh (G.x.ins.ini x n F q) (G.free g4).1 (by show X.env.scope.names.lookup x=_;rw[G.sc];exact g3) (eE h (e::es) g2) (il g1) (aN gp.1) (eP gp.2)
  ·rw[if_neg g];exact aW
 | none=>
  dsimp only
  by_cases g:NT c x (e::es)=true/\(e::es).all plain=true
  ·rw[if_pos g]
   obtain⟨g,g0⟩:=g
   have gp:plain e=true/\es.all plain=true:=by rw[dG,dm] at g0;exact g0
   unfold NT at g
   split at g
   ·simp only[dm,decide_eq_true_eq] at g
    obtain⟨⟨⟨⟨rfl,g2⟩,g3⟩,g4⟩,g5⟩:=g
    exact tJ (Ji (G.free g5).2) (by show X.env.scope.names.lookup _=_;rw[G.sc];exact g3) (G.bl _ g4) qK (eE h _ g0) (by decide) (by decide) (aN gp.1) (eP gp.2)
   ·cases g
  ·rw[if_neg g];exact hd
theorem NW{c:Ct}{k:Nat}(G:Good c k X){fE:Expr->GE}(h:∀e,JE X e (fE e)){d:GE}(o:Expr)(name:Str)(apos:Pos)(e:Expr)(es:List Expr)(pos:Pos)(hd:JE X (.Call (.Attribute o name apos) (e::es) [] pos) d):JE X (.Call (.Attribute o name apos) (e::es) [] pos) (VE c fE d pos o name apos e es):=by
 unfold VE
 cases o with
 | Name x p=>
  dsimp only
  cases q:c.it.AO.lookup name with
  | some nF=>
   obtain⟨n,F⟩:=nF
   dsimp only
   by_cases g:(e::es).all plain=true/\c.free=true/\(e::es).length < 20/\(apos.endLine == pos.line)=true
   ·rw[if_pos g]
    obtain⟨g2,g4,g5,g6⟩:=g
    have gp:plain e=true/\es.all plain=true:=by rw[dG,dm] at g2;exact g2
    refine NH (G.x.ins.AO name n F q) (G.free g4).1 (h _) (eE h (e::es) g2) (aN gp.1) (eP gp.2) rfl ?_ g6
    rw[all_plain g2]
    show(true&&true&&decide ((e::es).length+0+0 < 30))=true
    rw[decide_eq_true (by omega)]
    rfl
   ·rw[if_neg g];exact aW
  | none=>exact NU G h x p name apos e es pos hd
 | Attribute o2 fl r=>
  dsimp only
  cases es with
  | cons _ _=>exact hd
  | nil=>
   dsimp only
   by_cases g:name="get"/\c.CZ.contains fl=true/\plain e=true/\(apos.endLine == pos.line)=true
   ·rw[if_pos g]
    obtain⟨rfl,_,g1,g3⟩:=g
    refine xf (by have:=G.un;omega) (h _) (h e) ⟨rfl,?_,g3,?_⟩
    ·rw[all_plain (es:=[e]) (by simp[g1])]
     rfl
    ·rw[aN g1]
     rfl
   ·rw[if_neg g];exact hd
 | _=>exact hd
theorem NX{c:Ct}{k:Nat}(G:Good c k X){fE:Expr->GE}(h:∀e,JE X e (fE e)){d:GE}(f:Expr)(as:List Expr)(ks:List Keyword)(pos:Pos)(hd:JE X (.Call f as ks pos) d):JE X (.Call f as ks pos) (VF c fE d pos f as ks):=by
 unfold VF
 cases ks with
 | cons _ _=>exact hd
 | nil=>
  cases as with
  | nil=>exact hd
  | cons e es=>
   cases f with
   | Attribute o name apos=>exact NW G h o name apos e es pos hd
   | Name x p=>exact NV G h x p e es pos hd
   | _=>exact hd
def NY(c:Ct)(f:Expr->GE)(o:Expr)(fl:Str):GE:=match o with
 | .Name x p=>if c.it.own.contains fl=true then iR c.it.c fl (f (.Name x p)) else cN
 | _=>cN
theorem Jq{c:Ct}{k:Nat}(G:Good c k X){f:Expr->GE}(h:∀e,JE X e (f e))(o:Expr)(fl:Str)(p:Pos):JE X (.Attribute o fl p) (NY c f o fl):=by
 unfold NY
 cases o with
 | Name x q=>
  dsimp only
  by_cases g:c.it.own.contains fl=true
  ·rw[if_pos g];exact NG (h _) rfl (G.x.ins.own fl g)
  ·rw[if_neg g];exact aW
 | _=>exact aW
def FF(c:Ct)(sub:Ct->(Expr->GE)×(Expr->GT))(f:Expr->GE)(t:Expr->GT):Expr->GE
 | .Name x _=>Fe c x
 | .Constant k _ _=>Fg k
 | .BinOp a o b _=>ag (Rp o) (f a) (f b)
 | .UnaryOp o a _=>ZM f o a
 | .BoolOp .And es _=>NO f es
 | .Compare a os bs _=>NM c f a os bs
 | .IfExp q a b _=>lK (t q) (f a) (f b)
 | .Tuple es _ _=>Cu f bI es
 | .List es _=>Cu f fq es
 | .Subscript a b _=>NN c f a b
 | .Call g as ks p=>VF c f (Fo c f p g as ks) p g as ks
 | .Attribute o fl _=>NY c f o fl
 | .ListComp elt gens scope _=>TL c sub f elt scope gens
 | _=>cN
def stepT(c:Ct)(f:Expr->GE)(t:Expr->GT):Expr->GT
 | .UnaryOp .Not a _=>sC (t a)
 | .BoolOp .And es _=>NP t es
 | .BoolOp .Or es _=>VB t es
 | .Compare a os bs _=>Fw c f a os bs
 | .Name x p=>cb (f (.Name x p))
 | .Call g as ks p=>cb (f (.Call g as ks p))
 | .Subscript a b p=>cb (f (.Subscript a b p))
 | .Constant k j p=>cb (f (.Constant k j p))
 | .BinOp a o b p=>cb (f (.BinOp a o b p))
 | _=>kg
theorem xo{c:Ct}{k:Nat}(G:Good c k X){sub:Ct->(Expr->GE)×(Expr->GT)}(hb:∀k c X,Good c k X->(∀e,JE X e ((sub c).1 e))/\∀e,JT X e ((sub c).2 e)){f:Expr->GE}{t:Expr->GT}(h:∀e,JE X e (f e))(ht:∀e,JT X e (t e))(e:Expr):JE X e (FF c sub f t e):=by
 have hu:X.A.units+64 < cLine:=G.un
 cases e with
 | Name x p=>exact Ff G x p
 | Constant v j p=>exact Cm v j p
 | BinOp a o b p=>exact MD (Jl o) (h a) (h b)
 | UnaryOp o a p=>
  cases o with
  | USub=>exact ME (h a)
  | _=>exact aW
 | BoolOp o es p=>
  cases o with
  | And=>exact AX h p es
  | Or=>exact aW
 | Compare a os bs p=>exact Jo G h a os bs p
 | IfExp q a b p=>exact QG (ht q) (h a) (h b)
 | Tuple es j p=>
  show JE X _ (Cu f bI es)
  unfold Cu
  by_cases g:es.all plain=true
  ·rw[if_pos g];exact MK (eE h es g)
  ·rw[if_neg g];exact aW
 | List es p=>
  show JE X _ (Cu f fq es)
  unfold Cu
  by_cases g:es.all plain=true
  ·rw[if_pos g];exact ML (eE h es g)
  ·rw[if_neg g];exact aW
 | Subscript a b p=>exact Jp G h a b p
 | Call g as ks p=>exact NX G h g as ks p (Fq G h g as ks p)
 | Attribute o fl p=>exact Jq G h o fl p
 | ListComp elt gens scope p=>exact(A0 G (hb k) h elt scope gens p).1
 | _=>exact aW
def Cw:Expr->Bool
 | .ListComp .. =>true
 | .SetComp .. =>true
 | .DictComp .. =>true
 | .Set .. =>true
 | _=>false
theorem vm{e:Expr}{t:Option Expr}{n:Nat}{env:Env}(h:Cw e=false):swapsWith e t n env=pure false:=by
 cases e<;>first | rfl | cases h
theorem rj{e o i:Expr}{p:Pos}{n:Nat}{env:Env}:swapsWith e (some (.Subscript o i p)) n env=pure false:=by
 cases e<;>rfl
theorem FG{c:Ct}{k:Nat}(G:Good c k X){sub:Ct->(Expr->GE)×(Expr->GT)}(hb:∀k c X,Good c k X->(∀e,JE X e ((sub c).1 e))/\∀e,JT X e ((sub c).2 e)){f:Expr->GE}{t:Expr->GT}(h:∀e,JE X e (f e))(ht:∀e,JT X e (t e))(e:Expr):NR X e (FF c sub f t e):=by
 by_cases g:Cw e=false
 ·exact λi y py spos hN hi hl hf=>yU i hN (xo G hb h ht e) hi hl (vm g) hf
 ·cases e with
  | ListComp elt gens scope p=>exact(A0 G (hb k) h elt scope gens p).2
  | SetComp=>exact ip
  | DictComp=>exact ip
  | Set=>exact ip
  | _=>exact absurd rfl g
theorem FH{c:Ct}{k:Nat}(G:Good c k X){f:Expr->GE}{t:Expr->GT}(h:∀e,JE X e (f e))(ht:∀e,JT X e (t e))(e:Expr):JT X e (stepT c f t e):=by
 have hu:X.A.units+64 < cLine:=G.un
 cases e with
 | UnaryOp o a p=>
  cases o with
  | Not=>exact MH (ht a)
  | _=>exact kj
 | BoolOp o es p=>
  cases o with
  | And=>exact(AY ht p es).jt
  | Or=>exact(Fz ht p es).jt
 | Compare a os bs p=>exact Fx G h a os bs p
 | Name x p=>exact qI (h _) (λ_=>rfl)
 | Call g as ks p=>exact qI (h _) (λ_=>rfl)
 | Subscript a b p=>exact qI (h _) (λ_=>rfl)
 | Constant v j p=>exact qI (h _) (λ_=>rfl)
 | BinOp a o b p=>exact qI (h _) (λ_=>rfl)
 | _=>exact kj
end
def lU:Nat->Ct->(Expr->GE)×(Expr->GT)
 | 0,_=>(λ_=>cN,λ_=>kg)
 | n+1,c=>(FF c (lU n) (lU n c).1 (lU n c).2,stepT c (lU n c).1 (lU n c).2)
section
variable {X:Cx}
theorem eo:∀(n:Nat)(k:Nat)(c:Ct)(X:Cx),Good c k X->(∀e,JE X e ((lU n c).1 e))/\∀e,JT X e ((lU n c).2 e)
 | 0,_,_,_,_=>⟨λ_=>aW,λ_=>kj⟩
 | n+1,k,c,X,G=>⟨λe=>xo G (λk c X G=>eo n k c X G) (eo n k c X G).1 (eo n k c X G).2 e,λe=>FH G (eo n k c X G).1 (eo n k c X G).2 e⟩
theorem FI{k:Nat}:∀(n:Nat)(c:Ct)(X:Cx),Good c k X->∀e,NR X e ((lU n c).1 e)
 | 0,_,_,_,_=>ip
 | n+1,c,X,G,e=>FG G (λk c X G=>eo n k c X G) (eo n k c X G).1 (eo n k c X G).2 e
def slot(c:Ct)(x:Str):Option Nat:=if c.names.lookup x=some .local\/(c.names.lookup x=some .cell/\c.top=true) then oe x c.N else none
theorem vn{c:Ct}{k:Nat}(G:Good c k X){x:Str}{i:Nat}(h:slot c x=some i):X.N[i]? =some x/\(Loc X.env.scope x/\(X.fn x=true\/X.env.scope.names.lookup x=some .local)):=by
 unfold slot at h
 by_cases e:c.names.lookup x=some .local\/(c.names.lookup x=some .cell/\c.top=true)
 ·rw[if_pos e] at h
  refine⟨by rw[G.N];exact iS h,?_⟩
  rcases e with e | ⟨e,e2⟩
  ·have q:X.env.scope.names.lookup x=some .local:=by rw[G.sc];exact e
   exact⟨.inl q,.inr q⟩
  ·have q:X.env.scope.names.lookup x=some .cell:=by rw[G.sc];exact e
   exact⟨.inr q,.inl (G.fn e2 x)⟩
 ·rw[if_neg e] at h;cases h
def slots(c:Ct):List Expr->Option (List Nat)
 | []=>some []
 | .Name x _::es=>(match slot c x,slots c es with | some i,some is=>some (i::is) | _,_=>none)
 | _=>none
theorem xp{c:Ct}{k:Nat}(G:Good c k X):∀{es:List Expr}{is:List Nat},slots c es=some is->Slots X es is
 | [],is,h=>by cases h;exact .nil
 | e::es,is,h=>by
  cases e with
  | Name x p=>
   have h:(match slot c x,slots c es with | some i,some is=>some (i::is) | _,_=>none)=some is:=h
   cases e1:slot c x with
   | none=>rw[e1] at h;cases h
   | some i=>
    cases e2:slots c es with
    | none=>rw[e1,e2] at h;cases h
    | some js=>
     rw[e1,e2] at h
     cases h
     obtain⟨q1,q2⟩:=vn G e1
     exact .cons q1 q2 (xp G e2)
  | _=>cases h
def Rr:Expr->Bool
 | .Tuple .. =>true
 | _=>false
def Jr(es:List Expr)(v:Expr):Bool:=!Rr v||decide (4<=es.length)
def Cy:Expr->Bool
 | .Dict [] [] _=>true
 | _=>false
theorem Cz{es:List Expr}{k:Nat}{p:Pos}{v:Expr}(h:Jr es v=true):swappedStores [.Tuple es k p] v X.env=pure none:=by
 cases v with
 | Tuple vs k2 p2=>
  have h4:4<=es.length:=by simpa [Jr,Rr] using h
  unfold swappedStores
  have:(!(es.length == 2||es.length == 3)||vs.length != es.length||X.env.blockKind != .function)=true:=by
   have h2:(es.length == 2)=false:=by simp;omega
   have h3:(es.length == 3)=false:=by simp;omega
   rw[h2,h3];rfl
  dsimp only
  rw[if_pos this]
 | _=>rfl
def Rt(c:Ct):Expr->Bool
 | .Attribute _ fl _=>c.KI.contains fl
 | _=>false
theorem A1{e o:Expr}{f:Str}{p:Pos}{n:Nat}{env:Env}:swapsWith e (some (.Attribute o f p)) n env=pure false:=by
 cases e<;>rfl
def NZ(c:Ct)(f:Expr->GE)(v o:Expr)(fl:Str):GS:=if c.it.own.contains fl=true then lS c.it.c fl (if Cy v=true/\c.KI.contains fl=true then AM else f v) (f o) else dI
theorem Js{c:Ct}{k:Nat}(G:Good c k X){f:Expr->GE}(h:∀e,JE X e (f e))(v o:Expr)(fl:Str)(p pos:Pos):JS X (.Assign [.Attribute o fl p] v pos) (NZ c f v o fl):=by
 unfold NZ
 by_cases g:c.it.own.contains fl=true
 ·rw[if_pos g]
  by_cases g2:Cy v=true/\c.KI.contains fl=true
  ·rw[if_pos g2]
   have gv:=g2.1
   unfold Cy at gv
   split at gv
   ·exact E4 (h o) Jf A1 (G.x.ins.own fl g)
   ·cases gv
  ·rw[if_neg g2];exact E4 (h o) (h v) A1 (G.x.ins.own fl g)
 ·rw[if_neg g];exact cM
def N0(c:Ct)(f:Expr->GE)(v:Expr):List Expr->GS
 | [.Name x _]=>(match slot c x with | some i=>if Cy v=true/\c.CZ.contains x=true then bB i w5 else bB i (f v) | none=>dI)
 | [.Attribute o fl _]=>NZ c f v o fl
 | [.Subscript o i _]=>if Jm i=false then(if Rt c o=true then lT (f v) (f o) (f i) else if Rq c o=true then qW (f v) (f o) (f i) else As (f v) (f o) (f i)) else dI
 | [.Tuple es _ _]=>if Cw v=false/\Jr es v=true/\c.free=true then(match slots c es with | some is=>qM is (f v) | none=>dI) else dI
 | _=>dI
theorem N1{c:Ct}{k:Nat}(G:Good c k X){f:Expr->GE}(h:∀e,JE X e (f e))(ha:∀e,NR X e (f e))(v:Expr)(ts:List Expr)(pos:Pos):JS X (.Assign ts v pos) (N0 c f v ts):=by
 unfold N0
 split
 ·rename_i x p
  cases e:slot c x with
  | none=>exact cM
  | some i=>
   obtain⟨e1,e2⟩:=vn G e
   dsimp only
   by_cases g:Cy v=true/\c.CZ.contains x=true
   ·rw[if_pos g]
    have gv:=g.1
    unfold Cy at gv
    split at gv
    ·exact yU i (by rw[G.N];exact G.nd) IX e1 e2.1 rfl e2.2
    ·cases gv
   ·rw[if_neg g];exact ha v i x _ _ (by rw[G.N];exact G.nd) e1 e2.1 e2.2
 ·exact Js G h v _ _ _ _
 ·rename_i o i p
  by_cases g2:Jm i=false
  ·rw[if_pos g2]
   by_cases gn:Rt c o=true
   ·rw[if_pos gn];exact E7 (by have:=G.un;omega) (h v) (h o) (h i) rj
   rw[if_neg gn]
   by_cases gd:Rq c o=true
   ·rw[if_pos gd];exact IZ (by have:=G.un;omega) (h v) (h o) (h i) rj
   rw[if_neg gd]
   refine Ip (h v) (h o) (h i) (by unfold swapsWithSole;exact rj) ?_ rfl ?_
   ·cases v<;>rfl
   ·intro _
    cases i<;>first | rfl | cases g2
  ·rw[if_neg g2];exact cM
 ·rename_i es kk p
  by_cases g:Cw v=false/\Jr es v=true/\c.free=true
  ·rw[if_pos g]
   cases e1:slots c es with
   | none=>exact cM
   | some is=>
    have g2:=g.2.1
    refine IC (by rw[G.N];exact G.nd) (G.free g.2.2).2 (xp G e1) (h v) (vm g.1) ?_
    exact Cz g2
  ·rw[if_neg g];exact cM
 ·exact cM
def N2(c:Ct)(f:Expr->GE)(i:Nat)(gb:GS):Expr->GS
 | .Call (.Name x p) [a] [] q=>if eF c x=true then(if plain a=true then nU i (iT f [a]) gb else dI) else qL i (f (.Call (.Name x p) [a] [] q)) gb
 | .Call (.Name x p) [a,b] [] q=>if eF c x=true then(if plain a=true/\plain b=true then u9 i (iT f [a,b]) gb else dI) else qL i (f (.Call (.Name x p) [a,b] [] q)) gb
 | .Call (.Name x p) [a,b,d] [] q=>if eF c x=true then(if[a,b,d].all plain=true then qY i (iT f [a,b,d]) gb else dI) else qL i (f (.Call (.Name x p) [a,b,d] [] q)) gb
 | e=>if isSet e=false then qL i (f e) gb else dI
theorem N3{c:Ct}{k:Nat}(G:Good c k X)(hl:c.loop=true){f:Expr->GE}(h:∀e,JE X e (f e)){x:Str}{i:Nat}(hx:slot c x=some i){body:List Stmt}{gb:GS}(hb:pP X body gb)(e:Expr)(pos pos':Pos):JS X (.For (.Name x pos') e body [] pos) (N2 c f i gb e):=by
 have nd:X.N.Nodup:=by rw[G.N];exact G.nd
 obtain⟨e1,e2⟩:=vn G hx
 have rg:=q_ G
 unfold N2
 split
 ·rename_i y p a q
  by_cases g:eF c y=true
  ·rw[if_pos g]
   obtain⟨rfl,g2,g3⟩:=rg y g
   by_cases ga:plain a=true
   ·rw[if_pos ga]
    exact Ef i nd (G.loop hl).2 (G.loop hl).1 g2 g3 (eE h [a] (by simp[ga])) hb e1 e2.1 e2.2 (aN ga)
   ·rw[if_neg ga];exact cM
  ·rw[if_neg g];exact u7 i nd (G.loop hl).2 (G.loop hl).1 (h _) hb e1 e2.1 e2.2 (lz rfl)
 ·rename_i y p a b q
  by_cases g:eF c y=true
  ·rw[if_pos g]
   obtain⟨rfl,g2,g3⟩:=rg y g
   by_cases ga:plain a=true/\plain b=true
   ·rw[if_pos ga]
    exact Eg i nd (G.loop hl).2 (G.loop hl).1 g2 g3 (eE h [a,b] (by simp[ga])) hb e1 e2.1 e2.2 (by rw[aN ga.1,aN ga.2];rfl) (by rw[aN ga.2];rfl)
   ·rw[if_neg ga];exact cM
  ·rw[if_neg g];exact u7 i nd (G.loop hl).2 (G.loop hl).1 (h _) hb e1 e2.1 e2.2 (lz rfl)
 ·rename_i y p a b d q
  by_cases g:eF c y=true
  ·rw[if_pos g]
   obtain⟨rfl,g2,g3⟩:=rg y g
   by_cases ga:[a,b,d].all plain=true
   ·rw[if_pos ga]
    have gp:plain a=true/\[b,d].all plain=true:=by rw[dG,dm] at ga;exact ga
    exact EV i nd (G.loop hl).2 (G.loop hl).1 g2 g3 (eE h [a,b,d] ga) hb e1 e2.1 e2.2 (aN gp.1) (eP gp.2)
   ·rw[if_neg ga];exact cM
  ·rw[if_neg g];exact u7 i nd (G.loop hl).2 (G.loop hl).1 (h _) hb e1 e2.1 e2.2 (lz rfl)
 ·by_cases g:isSet e=false
  ·rw[if_pos g];exact u7 i nd (G.loop hl).2 (G.loop hl).1 (h _) hb e1 e2.1 e2.2 (lz g)
  ·rw[if_neg g];exact cM
def FJ(c:Ct)(f:Expr->GE)(t:Expr->GT)(b:Ct->List Stmt->GS):Stmt->GS
 | .Return (some e) _=>aJ (f e)
 | .Return none _=>aJ (gC .non)
 | .Expr e _=>if Cw e=false then mW (f e) else dI
 | .If q x y _=>c9 (t q) (b c x) (b c y)
 | .Assign ts v _=>N0 c f v ts
 | .For (.Name x _) e body [] _=>if c.loop=true then(match slot c x with | some i=>N2 c f i (b c body) e | none=>dI) else dI
 | _=>dI
theorem FK{c:Ct}{k:Nat}(G:Good c k X){f:Expr->GE}{t:Expr->GT}{b:Ct->List Stmt->GS}(h:∀e,JE X e (f e))(ha:∀e,NR X e (f e))(ht:∀e,JT X e (t e))(hb:∀c X,Good c k X->∀s,pP X s (b c s))(s:Stmt):JS X s (FJ c f t b s):=by
 unfold FJ
 split
 ·exact MW (h _)
 ·exact Iw
 ·rename_i e p
  by_cases g:Cw e=false
  ·rw[if_pos g];exact Io (h _) (vm g)
  ·rw[if_neg g];exact cM
 ·exact QW (ht _) (hb c X G _) (hb c X G _)
 ·exact N1 G h ha _ _ _
 ·rename_i x p e body q
  by_cases g:c.loop=true
  ·rw[if_pos g]
   cases e1:slot c x with
   | none=>exact cM
   | some i=>exact N3 G g h e1 (hb c X G body) e _ _
  ·rw[if_neg g];exact cM
 ·exact cM
end
def zi(f:Stmt->GS):List Stmt->GS
 | []=>aL
 | [s]=>f s
 | s::s'::r=>aI (f s) (zi f (s'::r))
theorem xq{X:Cx}{f:Stmt->GS}(h:∀s,JS X s (f s)):∀ss,pP X ss (zi f ss)
 | []=>Il
 | [s]=>Im (h s)
 | s::s'::r=>D0 (h s) (xq h (s'::r))
def aU:Nat->Ct->List Stmt->GS
 | 0,_=>λ_=>dI
 | n+1,c=>zi (FJ c (lU 40 c).1 (lU 40 c).2 (aU n))
theorem ku{k:Nat}:∀(n:Nat)(c:Ct)(X:Cx),Good c k X->∀ss:List Stmt,pP X ss (aU n c ss)
 | 0,_,_,_,_=>BP
 | n+1,c,X,G,ss=>xq (λs=>FK G (eo 40 k c X G).1 (FI 40 c X G) (eo 40 k c X G).2 (ku n) s) ss
structure Jt(K:PySem.W.Frag)(mg:Str->Option abL)(q:Str)(P:abF):Prop where
 tab:je K q=some P
 code:∃c o vs file tf flags tg VG text tt,PySem.W.tabIn K q=some (c,P)/\K.lookup c=some o/\o.cls= .type "code"/\o.data= .fields vs/\vs[11]? =some (.ref P)/\vs.getD 11 .none= .ref P/\vs.getD 18 .none= .str file tf/\
  vs.getD 7 .none= .int flags tg/\vs.getD 9 .none= .bool VG/\vs.getD 10 .none= .int text tt/\c≠P
 mem:q∈cI
 uniq:∀q',q'∈cI->je K q'=some P->q'=q
theorem Jt.at'{X:Cx}{q:Str}{P f:abF}{cdv:abL}(h:Jt X.K X.mg q P)(M:Cb X.K X.mg X.base)(hn:PySem.W.nsIn X.K abV q=some (some (.ref f)))(hc:D6 X.K f cdv)(e1:X.env.code=cdv)(e2:X.env.qual=q++".<locals>."):Kz X q P:=by
 obtain⟨c,o,vs,file,tf,flags,tg,VG,text,tt,t,l,r⟩:=h.code
 refine⟨⟨c,?_,o,vs,file,tf,flags,tg,VG,text,tt,M.1.Pm _ _ l,r⟩,e2,h.tab,h.mem,h.uniq,M.2⟩
 ·obtain⟨of,lf,fd,d,cd⟩:=hc
  rw[e1,<-cd]
  unfold PySem.W.tabIn at t
  rw[hn] at t
  dsimp only at t
  rw[lf] at t
  obtain⟨oc,od,da,sl⟩:=of
  dsimp only at d
  subst d
  dsimp only at t
  cases q1:fd.code with
  | ref c2=>
   rw[q1] at t
   dsimp only at t
   split at t
   ·split at t
    ·cases t;rfl
    ·cases t
   ·cases t
  | _=>rw[q1] at t;cases t
structure mi(c:Ct)(k:Nat)(P:abJ)(w:abM)(K:PySem.W.Frag)(mg:Str->Option abL)(base:Heap):Prop where
 lam:∀p L,c.lam=some (p,L)->Nx P w K mg base k p 3 L
 GZ:∀x F,c.GZ.lookup x=some F->X5 P w K mg k c.lj x F
 PD:∀x n F,c.fns.lookup x=some (n,F)->c.Vz.contains x=true->∀base,Cb K mg base->dE P w K mg base c.lj x n F
 at':c.self∈cI->∃P,Jt K mg c.self P
 sk:c.sk<=k
 PF:∀x n F,c.fns.lookup x=some (n,F)->c.VA.contains x=true->dE P w K mg base c.lj x n F
 ins:zd c.it k P w K mg base
theorem mi.no{c:Ct}{k:Nat}{P:abJ}{w:abM}{K:PySem.W.Frag}{mg:Str->Option abL}{base:Heap}(h1:c.lam=none)(h2:c.GZ=[])(h3:c.Vz=[])(h4:c.self="")(h5:c.sk=0:=by rfl)(h6:c.VA=[]:=by rfl)(h7:zd c.it k P w K mg base:=by exact zd.no):mi c k P w K mg base :=
 ⟨(λp L e=>by rw[h1] at e;cases e),(λx F e=>by rw[h2] at e;cases e),(λx n F _ e=>by rw[h3] at e;cases e),(λe=>by rw[h4] at e;exact absurd e (by decide)),by rw[h5];exact cL _,(λx n F _ e=>by rw[h6] at e;cases e),h7⟩
structure rl(c:Ct)(k:Nat)(P:abJ)(w:abM)(K:PySem.W.Frag)(mg:Str->Option abL)(base:Heap):Prop where
 cst:∀x w,c.consts.lookup x=some w->AS K mg x w
 bl:∀x,c.bl.contains x=true->mg x=none
 fns:∀x n F,c.fns.lookup x=some (n,F)->dE P w K mg base k x n F
 tab:TabOk K c.tb c.tt c.tc
 cls:∀x,c.clss.contains x=true->∃C,mg x=some (.ref C)/\Iz K x C
 AQ:∀x,c.AQ.contains x=true->∃C,mg x=some (.ref C)/\ClsAt K x C
 AR:∀x kvs,c.AR.lookup x=some kvs->wZ K w mg x kvs
 E8:∀x n F,c.E8.contains x=true->c.fns.lookup x=some (n,F)->I_ P w K mg base k x n F
 x:mi c k P w K mg base
theorem aM{P:abJ}{w:abM}{K:PySem.W.Frag}{mg:Str->Option abL}{base:Heap}{h:Heap}{k:Nat}{c:Ct}{x:Str}{st:Stmt}{ps:List Str}{g:GS}(KX:K.In h)(NS:h.Ns abV mg)(D:bb K x st)(T:rl c k P w K mg base)
  (S:FnScope c.N ps (defScope st))(hn:(defScope st).names=c.names)(hg:aU 30 c (defBody st)=g)
  (hb:∀(kV doc pm:abL)(an:Option abF)(cdv ct:abL)(us:List abL),us.length=ps.length->bindArgs (PySem.W.fnOf x x (defArgs st) (defBody st) (defScope st) .none kV doc pm an cdv ct) ⟨us,[]⟩=pure (ps.zip us))(hM:c.self∈cI->Cb K mg base/\c.self=x:=by exact λz=>absurd (show("":Str)∈cI from z) (by decide)) :
  dE P w K mg base (k+1) x ps.length (bh c.N.length g):=by
 obtain⟨f,fd,a,F⟩:=D
 refine⟨f,fd,ps,?_,PySem.W.mg_of KX NS a,F.kp,F.binds hb⟩
 subst hg
 refine Au F S λcdv VH A outer s H E hr=>?_
 refine ku (k:=k) 30 c _ ⟨rfl,hn,S.nd,pV hr,λ_=>⟨hr,rfl⟩,λ_=>⟨rfl,vo⟩,T.cst,T.bl,T.fns,λ_=>⟨rfl,rfl,rfl⟩,λ_ _=>rfl,S.kind,T.tab,T.cls,T.AQ,T.AR,oY.of hr,T.E8,⟨T.x.lam,T.x.GZ,T.x.PD,λ_ z=>?_,T.x.sk,T.x.PF,T.x.ins⟩,⟨_,_,_,rfl,rfl,rfl⟩,.inl hr.hd⟩ _
 obtain⟨P',L⟩:=T.x.at' z
 obtain⟨M,e⟩:=hM z
 exact⟨P',Jt.at' L M (by rw[e];exact a) VH rfl (by rw[e];rfl)⟩
theorem Ju{P:abJ}{w:abM}{K:PySem.W.Frag}{mg:Str->Option abL}{h:Heap}{k:Nat}{F:List Wv->Hs->Re Wv}{fa:abF}{st:Stmt}(KX:K.In h)(NS:h.Ns abV mg)(hmg:mg "law"=some (.ref fa))(D:bb K "law" st)
  (hp:∀(kV doc pm:abL)(an:Option abF)(cdv ct:abL)(s:abK)(u:abL),BindsTo s (PySem.W.fnOf "law" "law" (defArgs st) (defBody st) (defScope st) .none kV doc pm an cdv ct) ⟨[u],[]⟩ [("script",u)])
  (FN:∀(f:abF)(fd:abH),HQ K "law" "law" st f fd->∀base:Heap,K.In base->base.Ns abV mg->FnOk P w K mg base (CXJ P w) k f fd ["script"] (spW K 1 F)) :
  ∃fd:abH,(∀(s:abK)(u:abL),BindsTo s fd ⟨[u],[]⟩ [("script",u)])/\∀base:Heap,K.In base->base.Ns abV mg->FnOk P w K mg base (CXJ P w) k fa fd ["script"] (spW K 1 F):=by
 obtain⟨f,fd,a,Fu⟩:=D
 have e:=hmg.symm.trans (PySem.W.mg_of KX NS a)
 cases e
 refine⟨fd,λs u=>?_,FN fa fd Fu⟩
 obtain⟨oc,od,kV,doc,pm,an,cdv,ct,osl,rfl,lk,hcd⟩:=Fu.ex
 exact hp kV doc pm an cdv ct s u
theorem N4{P:abJ}{w:abM}{K:PySem.W.Frag}{mg:Str->Option abL}{base:Heap}{k:Nat}{c:Ct}{x:Str}{st:Stmt}{ps:List Str}{g:GS}{f:abF}{fd:abH}(F:HQ K x x st f fd)(T:rl c k P w K mg base)
  (S:FnScope c.N ps (defScope st))(hn:(defScope st).names=c.names)(hg:aU 30 c (defBody st)=g)(hs:c.self∉cI:=by exact(show("":Str)∉cI by decide)):FnOk P w K mg base (CXJ P w) (k+1) f fd ps (spW K ps.length (bh c.N.length g)):=by
 subst hg
 refine Au F S λcdv _ A outer s H E hr=>?_
 exact ku (k:=k) 30 c _ ⟨rfl,hn,S.nd,pV hr,λ_=>⟨hr,rfl⟩,λ_=>⟨rfl,vo⟩,T.cst,T.bl,T.fns,λ_=>⟨rfl,rfl,rfl⟩,λ_ _=>rfl,S.kind,T.tab,T.cls,T.AQ,T.AR,oY.of hr,T.E8,⟨T.x.lam,T.x.GZ,T.x.PD,λ_ z=>absurd z hs,T.x.sk,T.x.PF,T.x.ins⟩,⟨_,_,_,rfl,rfl,rfl⟩,.inl hr.hd⟩ _
def xt(K:PySem.W.Frag)(cl x qual:Str)(st:Stmt):Prop:=∃C f fd,ClsAt K cl C/\CV K C/\Meth K C x f/\HQ K x qual st f fd
def FO(K:PySem.W.Frag)(cl qual:Str)(st:Stmt):Prop:=∃C f fd,ClsAt K cl C/\Mk K C f/\HQ K "__init__" qual st f fd
theorem zj{K:PySem.W.Frag}{cl x qual:Str}{st:Stmt}{C f:abF}{oc:abL}{od an:Option abF}{osl:Array (Option abL)}{kV doc pm cdv ct:abL}(a:PySem.W.nsIn K abV cl=some (some (.ref C)))(b:CV K C)(i:PySem.W.findIn K (.ref C) x=some (some (.ref f)))
  (l:K.lookup f=some ⟨oc,od,.func (PySem.W.fnOf x qual (defArgs st) (defBody st) (defScope st) .none kV doc pm an cdv ct),osl⟩)(c:PySem.W.codeIn K cdv qual=true)(k:PySem.W.keepIn K (.ref f)=true)(n:PySem.W.isFn K (.ref f)=true):xt K cl x qual st:=⟨C,f,_,a,b,⟨i,n,k⟩,yK l c k⟩
theorem N5{K:PySem.W.Frag}{cl qual:Str}{st:Stmt}{C f:abF}{oc:abL}{od an:Option abF}{osl:Array (Option abL)}{kV doc pm cdv ct:abL}(a:PySem.W.nsIn K abV cl=some (some (.ref C)))(b:PySem.W.makesIn K C=true)(kc:PySem.W.keepIn K (.ref C)=true)(i:PySem.W.findIn K (.ref C) "__init__"=some (some (.ref f)))
  (l:K.lookup f=some ⟨oc,od,.func (PySem.W.fnOf "__init__" qual (defArgs st) (defBody st) (defScope st) .none kV doc pm an cdv ct),osl⟩)(c:PySem.W.codeIn K cdv qual=true)(k:PySem.W.keepIn K (.ref f)=true)(n:PySem.W.isFn K (.ref f)=true):FO K cl qual st:=⟨C,f,_,a,⟨b,i,n,kc⟩,yK l c k⟩
theorem N6{K:PySem.W.Frag}{cl f:Str}{C:abF}(a:PySem.W.nsIn K abV cl=some (some (.ref C)))(b:CV K C)(n:PySem.W.findIn K (.ref C) f=some none):Own K cl f:=⟨C,a,b,n⟩
theorem vp{P:abJ}{w:abM}{K:PySem.W.Frag}{mg:Str->Option abL}{base:Heap}{k:Nat}{c:Ct}{cl x qual:Str}{st:Stmt}{ps:List Str}{g:GS}(D:xt K cl x qual st)(T:rl c k P w K mg base)
  (S:FnScope c.N ps (defScope st))(hn:(defScope st).names=c.names)(hg:aU 30 c (defBody st)=g)
  (hb:∀(kV doc pm:abL)(an:Option abF)(cdv ct:abL)(us:List abL),us.length=ps.length->bindArgs (PySem.W.fnOf x qual (defArgs st) (defBody st) (defScope st) .none kV doc pm an cdv ct) ⟨us,[]⟩=pure (ps.zip us))(hs:c.self∉cI:=by exact(show("":Str)∉cI by decide)) :
  sG P w K mg base (k+1) cl x ps.length (bh c.N.length g):=by
 obtain⟨C,f,fd,a,b,d,F⟩:=D
 refine⟨C,f,fd,ps,?_,a,b,d,F.binds hb⟩
 subst hg
 refine Au F S λcdv _ A outer s H E hr=>?_
 exact ku (k:=k) 30 c _ ⟨rfl,hn,S.nd,pV hr,λ_=>⟨hr,rfl⟩,λ_=>⟨rfl,vo⟩,T.cst,T.bl,T.fns,λ_=>⟨rfl,rfl,rfl⟩,λ_ _=>rfl,S.kind,T.tab,T.cls,T.AQ,T.AR,oY.of hr,T.E8,⟨T.x.lam,T.x.GZ,T.x.PD,λ_ z=>absurd z hs,T.x.sk,T.x.PF,T.x.ins⟩,⟨_,_,_,rfl,rfl,rfl⟩,.inl hr.hd⟩ _
theorem Jv{P:abJ}{w:abM}{K:PySem.W.Frag}{mg:Str->Option abL}{base h:Heap}{k:Nat}{c:Ct}{cl qual:Str}{st:Stmt}{ps:List Str}{g:GS}(KX:K.In h)(NS:h.Ns abV mg)(D:FO K cl qual st)(T:rl c k P w K mg base)
  (S:FnScope c.N ps (defScope st))(hn:(defScope st).names=c.names)(hg:aU 30 c (defBody st)=g)
  (hb:∀(kV doc pm:abL)(an:Option abF)(cdv ct:abL)(us:List abL),us.length=ps.length->bindArgs (PySem.W.fnOf "__init__" qual (defArgs st) (defBody st) (defScope st) .none kV doc pm an cdv ct) ⟨us,[]⟩=pure (ps.zip us))(hs:c.self∉cI:=by exact(show("":Str)∉cI by decide)) :
  xh P w K mg base (k+2) cl ps.length (bh c.N.length g):=by
 obtain⟨C,f,fd,a,b,F⟩:=D
 refine⟨C,f,fd,ps,k+1,aC _,?_,a,PySem.W.mg_of KX NS a,b,F.binds hb⟩
 subst hg
 refine Au F S λcdv _ A outer s H E hr=>?_
 exact ku (k:=k) 30 c _ ⟨rfl,hn,S.nd,pV hr,λ_=>⟨hr,rfl⟩,λ_=>⟨rfl,vo⟩,T.cst,T.bl,T.fns,λ_=>⟨rfl,rfl,rfl⟩,λ_ _=>rfl,S.kind,T.tab,T.cls,T.AQ,T.AR,oY.of hr,T.E8,⟨T.x.lam,T.x.GZ,T.x.PD,λ_ z=>absurd z hs,T.x.sk,T.x.PF,T.x.ins⟩,⟨_,_,_,rfl,rfl,rfl⟩,.inl hr.hd⟩ _
theorem sG.mono{P:abJ}{w:abM}{K:PySem.W.Frag}{mg:Str->Option abL}{base:Heap}{j k:Nat}{c x:Str}{n:Nat}{F:List Wv->Hs->Re Wv}(h:sG P w K mg base j c x n F)(l:j<=k):sG P w K mg base k c x n F:=by
 obtain⟨C,f,fd,ps,G,r⟩:=h
 exact⟨C,f,fd,ps,G.mono l,r⟩
theorem xh.mono{P:abJ}{w:abM}{K:PySem.W.Frag}{mg:Str->Option abL}{base:Heap}{j k:Nat}{c:Str}{n:Nat}{F:List Wv->Hs->Re Wv}(h:xh P w K mg base j c n F)(l:j<=k):xh P w K mg base k c n F:=by
 obtain⟨C,f,fd,ps,i,hi,r⟩:=h
 exact⟨C,f,fd,ps,i,bf hi l,r⟩
def AllP{α:Type}(P:α->Prop):List α->Prop
 | []=>True
 | a::l=>P a/\AllP P l
theorem AllP.look{κ β:Type}[BEq κ][LawfulBEq κ]{P:κ×β->Prop}:∀{l:List (κ×β)}{x:κ}{b:β},AllP P l->l.lookup x=some b->P (x,b)
 | [],_,_,_,h=>by cases h
 | (y,c)::l,x,b,a,h=>by
  rw[fu] at h
  cases e:x == y with
  | true=>
   rw[e] at h
   cases h
   have e':=eq_of_beq e
   subst e'
   exact a.1
  | false=>rw[e] at h;exact AllP.look a.2 h
theorem AllP.mem{P:Str->Prop}:∀{l:List Str}{x:Str},AllP P l->l.contains x=true->P x
 | [],_,_,h=>by cases h
 | y::l,x,a,h=>by
  rw[Ei,DZ] at h
  rcases h with e | h
  ·have e':=eq_of_beq e
   subst e'
   exact a.1
  ·exact AllP.mem a.2 h
theorem nj{K:PySem.W.Frag}{c:PySem.Str}{C D:abF}(h:ClsAt K c C)(k:ClsAt K c D):C=D:=by
 unfold ClsAt at h k
 rw[h] at k
 cases k
 rfl
theorem N7{K:PySem.W.Frag}{tb:Tab}{tt:yX}{tc:Tab}(h:AllP (λp=>∃C D,ClsAt K p.1.1 C/\ClsAt K p.1.2 D/\nV K C/\PySem.W.kitOne K (.ref C) (.ref D)=some p.2) tb)
  (g:AllP (λp=>∃C,ClsAt K p.1.1 C/\nV K C/\PySem.W.kitOne K (.ref C) (.type p.1.2)=some p.2) tt)
  (f:AllP (λp=>∃C D,ClsAt K p.1.1 C/\ClsAt K p.1.2 D/\PySem.W.excIn K C Kv Iy=true/\PySem.W.excIn K D Kv Iy=true/\PySem.W.mroIn K C (.ref D)=some p.2) tc):TabOk K tb tt tc :=
 ⟨λc d b C D e hC hD=>by
  obtain⟨C',D',q1,q2,r⟩:=AllP.look h e
  cases nj hC q1
  cases nj hD q2
  exact r,λc d b C D e hC hD=>by
  obtain⟨C',D',q1,q2,r⟩:=AllP.look f e
  cases nj hC q1
  cases nj hD q2
  exact r,λc T b C e hC=>by
  obtain⟨C',q1,r⟩:=AllP.look g e
  cases nj hC q1
  exact r⟩
theorem aH{c:Ct}{k:Nat}{P:abJ}{w:abM}{K:PySem.W.Frag}{mg:Str->Option abL}{base:Heap}(hc:AllP (λp=>AS K mg p.1 p.2) c.consts)(hb:AllP (λx=>mg x=none) c.bl)(hf:AllP (λp=>dE P w K mg base k p.1 p.2.1 p.2.2) c.fns)
  (ht:TabOk K c.tb c.tt c.tc)(hk:AllP (λx=>∃C,mg x=some (.ref C)/\Iz K x C) c.clss)(hn:AllP (λx=>∃C,mg x=some (.ref C)/\ClsAt K x C) c.AQ)(hd:AllP (λp=>wZ K w mg p.1 p.2) c.AR)
  (hu:AllP (λx=>∀n F,c.fns.lookup x=some (n,F)->I_ P w K mg base k x n F) c.E8:=by exact trivial)(hx:mi c k P w K mg base:=by exact mi.no rfl rfl rfl rfl):rl c k P w K mg base :=
 ⟨λ_ _ h=>hc.look h,λ_ h=>hb.mem h,λx n F h=>hf.look (b:=(n,F)) h,ht,λ_ h=>hk.mem h,λ_ h=>hn.mem h,λx kvs h=>hd.look (b:=kvs) h,λx n F h k=>hu.mem h n F k,hx⟩
theorem kx{t:Vy}{k:Nat}{P:abJ}{w:abM}{K:PySem.W.Frag}{mg:Str->Option abL}{base:Heap}(h1:AllP (λp=>sG P w K mg base k t.c p.1 p.2.1 p.2.2) t.AO)(h2:AllP (λp=>xh P w K mg base k p.1 p.2.1 p.2.2) t.ini)(h3:AllP (λf=>Own K t.c f) t.own):zd t k P w K mg base :=
 ⟨λx n F h=>h1.look (b:=(n,F)) h,λx n F h=>h2.look (b:=(n,F)) h,λ_ h=>h3.mem h⟩
def Rs.sq(r:Rs)(h:GS):Rs:=match r with
 | .nx ρ st=>h ρ st
 | r=>r
section
variable {α β:Type} {ρ ρ':bY} {st:Hs} {h g ga' gb':GS} {ga gb gc:GE} {gt gu:GT} {w:Wv} {c:PySem.Str} {f:α->Hs->Re β} {k:α->Hs->Rs} {a:α} {i:Nat}
@[simp] theorem X9:(Rs.nx ρ st).sq h=h ρ st:=rfl
@[simp] theorem X_:(Rs.rt w st).sq h= .rt w st:=rfl
@[simp] theorem X':(Rs.bk ρ st).sq h= .bk ρ st:=rfl
@[simp] theorem Ya:(Rs.ct ρ st).sq h= .ct ρ st:=rfl
@[simp] theorem VI:(Rs.err c ρ st).sq h= .err c ρ st:=rfl
@[simp] theorem VJ:Rs.bad.sq h= .bad:=rfl
@[simp] theorem lB:(Re.ok a st).bind f=f a st:=rfl
@[simp] theorem Ru:(Re.err c st).bind f= .err c st:=rfl
@[simp] theorem Rv:(Re.bad:Re α).bind f= .bad:=rfl
@[simp] theorem zk:(Re.ok a st).bD ρ k=k a st:=rfl
@[simp] theorem TM:(Re.err c st:Re α).bD ρ k= .err c ρ st:=rfl
@[simp] theorem FP:(Re.ok a st).pO= .ok a st:=rfl
@[simp] theorem TN:(Re.bad:Re α).pO= .bad:=rfl
@[simp] theorem TQ:(Re.bad:Re α).bD ρ k= .bad:=rfl
@[simp] theorem A2:aI g h ρ st=(g ρ st).sq h:=by unfold aI Rs.sq;cases g ρ st<;>rfl
@[simp] theorem e_next:aL ρ st= .nx ρ st:=rfl
@[simp] theorem Yb:aJ ga ρ st=(ga ρ st).bD ρ λw st'=> .rt w st':=rfl
@[simp] theorem e_expr:mW ga ρ st=(ga ρ st).bD ρ λ_ st'=> .nx ρ st':=rfl
@[simp] theorem t9:bB i ga ρ st=(ga ρ st).bD ρ λw st'=> .nx (ρ.set i (some w)) st':=rfl
def VL(ga gb:GS)(ρ:bY):Bool->Hs->Rs:=λb st'=>if b=true then ga ρ st' else gb ρ st'
@[simp] theorem Yc:VL g h ρ true st=g ρ st:=rfl
@[simp] theorem Yd:VL g h ρ false st=h ρ st:=rfl
@[simp] theorem Rw:c9 gt g h ρ st=(gt ρ st).bD ρ (VL g h ρ):=rfl
def Ye(o:Option (Option Wv))(st:Hs):Re Wv:=match o with
 | some (some w)=> .ok w st
 | _=> .bad
@[simp] theorem t_:Ye (some (some w)) st= .ok w st:=rfl
@[simp] theorem rn:af i ρ st=Ye ρ[i]? st:=rfl
@[simp] theorem e_c:gC w ρ st= .ok w st:=rfl
def kB(op:gT)(gb:GE)(ρ:bY):Wv->Hs->Re Wv:=λx st1=>(gb ρ st1).bind λy st2=>(op x y st2).pO
@[simp] theorem N8{op:gT}{x:Wv}:kB op gb ρ x st=(gb ρ st).bind λy st2=>(op x y st2).pO:=rfl
@[simp] theorem ua{op:gT}:ag op ga gb ρ st=(ga ρ st).bind (kB op gb ρ):=rfl
@[simp] theorem Yf:a_ ga ρ st=(ga ρ st).bind Pw:=rfl
@[simp] theorem Yg{b:Bool}:Pw (.bl b) st= .ok b st:=rfl
@[simp] theorem Yh:cb ga ρ st=(ga ρ st).bind pj:=rfl
@[simp] theorem VM{b:Bool}:pj (.bl b) st= .ok b st:=rfl
@[simp] theorem Yi:sC gt ρ st=(gt ρ st).bind λb st1=> .ok (!b) st1:=rfl
def N9(gb:GT)(ρ:bY):Bool->Hs->Re Bool:=λb st1=>if b=true then gb ρ st1 else .ok false st1
@[simp] theorem VN:N9 gu ρ true st=gu ρ st:=rfl
@[simp] theorem VO:N9 gu ρ false st= .ok false st:=rfl
@[simp] theorem Yj:BN gt gu ρ st=(gt ρ st).bind (N9 gu ρ):=rfl
def VP(gb:GT)(ρ:bY):Bool->Hs->Re Bool:=λb st1=>if b=true then .ok true st1 else gb ρ st1
@[simp] theorem Yk:VP gu ρ true st= .ok true st:=rfl
@[simp] theorem Yl:VP gu ρ false st=gu ρ st:=rfl
@[simp] theorem ZN:uX gt gu ρ st=(gt ρ st).bind (VP gu ρ):=rfl
def FQ(gb:GE)(ρ:bY):Wv->Hs->Re Wv:=λw st1=>match w with
 | .bl true=>gb ρ st1
 | .bl false=> .ok (.bl false) st1
 | _=> .bad
@[simp] theorem TR:FQ gb ρ (.bl true) st=gb ρ st:=rfl
@[simp] theorem TU:FQ gb ρ (.bl false) st= .ok (.bl false) st:=rfl
@[simp] theorem VQ:oS ga gb ρ st=(ga ρ st).bind (FQ gb ρ):=rfl
def Rx:Wv->Hs->Re Wv:=λw st1=>match w with
 | .bl b=> .ok (.bl (!b)) st1
 | _=> .bad
@[simp] theorem TV{b:Bool}:Rx (.bl b) st= .ok (.bl (!b)) st:=rfl
def N_(ga gb:GE)(ρ:bY):Bool->Hs->Re Wv:=λb st1=>if b=true then ga ρ st1 else gb ρ st1
@[simp] theorem VR:N_ ga gb ρ true st=ga ρ st:=rfl
@[simp] theorem VS:N_ ga gb ρ false st=gb ρ st:=rfl
@[simp] theorem Ym:lK gt ga gb ρ st=(gt ρ st).bind (N_ ga gb ρ):=rfl
@[simp] theorem xu:aj ρ st= .ok [] st:=rfl
def KJ(gr:GA)(ρ:bY):Wv->Hs->Re (List Wv):=λx st1=>(gr ρ st1).bind λxs st2=> .ok (x::xs) st2
@[simp] theorem TX{gr:GA}{x:Wv}:KJ gr ρ x st=(gr ρ st).bind λxs st2=> .ok (x::xs) st2:=rfl
@[simp] theorem rp{gr:GA}:aa ga gr ρ st=(ga ρ st).bind (KJ gr ρ):=rfl
def zl:List Wv->Hs->Re Wv:=λws st1=>if ws.length<=lim then .ok (.tup ws) st1 else .bad
theorem rA{ws:List Wv}(hl:ws.length<=lim):zl ws st= .ok (.tup ws) st:=if_pos hl
@[simp] theorem Yn{gr:GA}:bI gr ρ st=(gr ρ st).bind zl:=rfl
def oh:List Wv->Hs->Re Wv:=λws st1=>if ws.length<=lim then .ok (.ref st1.length) (st1++[.lst ws]) else .bad
theorem gY{ws:List Wv}(hl:ws.length<=lim):oh ws st= .ok (.ref st.length) (st++[.lst ws]):=if_pos hl
@[simp] theorem FR{gr:GA}:fq gr ρ st=(gr ρ st).bind oh:=rfl
section
variable {x x0 x1 x2 x3 x4 x5 x6 x7:Wv}
@[simp] theorem VT:zl [] st= .ok (.tup []) st:=rA (by simp[lim])
@[simp] theorem VU:zl [x0] st= .ok (.tup [x0]) st:=rA (by simp[lim])
@[simp] theorem VV:zl [x0,x1] st= .ok (.tup [x0,x1]) st:=rA (by simp[lim])
@[simp] theorem VW:zl [x0,x1,x2] st= .ok (.tup [x0,x1,x2]) st:=rA (by simp[lim])
@[simp] theorem VX:zl [x0,x1,x2,x3] st= .ok (.tup [x0,x1,x2,x3]) st:=rA (by simp[lim])
@[simp] theorem VY:oh [] st= .ok (.ref st.length) (st++[.lst []]):=gY (by simp[lim])
@[simp] theorem VZ:oh [x0] st= .ok (.ref st.length) (st++[.lst [x0]]):=gY (by simp[lim])
@[simp] theorem V1:oh [x0,x1] st= .ok (.ref st.length) (st++[.lst [x0,x1]]):=gY (by simp[lim])
@[simp] theorem V2:oh [x0,x1,x2,x3] st= .ok (.ref st.length) (st++[.lst [x0,x1,x2,x3]]):=gY (by simp[lim])
@[simp] theorem V3:oh [x0,x1,x2,x3,x4] st= .ok (.ref st.length) (st++[.lst [x0,x1,x2,x3,x4]]):=gY (by simp[lim])
@[simp] theorem V4:oh [x0,x1,x2,x3,x4,x5] st= .ok (.ref st.length) (st++[.lst [x0,x1,x2,x3,x4,x5]]):=gY (by simp[lim])
@[simp] theorem V5:oh [x0,x1,x2,x3,x4,x5,x6] st= .ok (.ref st.length) (st++[.lst [x0,x1,x2,x3,x4,x5,x6]]):=gY (by simp[lim])
end
def ub(n:Nat)(F:List Wv->Hs->Re Wv):List Wv->Hs->Re Wv:=λws st1=>if ws.length=n then F ws st1 else .bad
section
variable {F:List Wv->Hs->Re Wv} {x0 x1 x2 x3:Wv} {gr:GA}
@[simp] theorem TY:ub 1 F [x0] st=F [x0] st:=rfl
@[simp] theorem TZ:ub 2 F [x0,x1] st=F [x0,x1] st:=rfl
@[simp] theorem T1:ub 3 F [x0,x1,x2] st=F [x0,x1,x2] st:=rfl
@[simp] theorem T3:ub 4 F [x0,x1,x2,x3] st=F [x0,x1,x2,x3] st:=rfl
@[simp] theorem vq{n:Nat}:az n F gr ρ st=(gr ρ st).bind (ub n F):=rfl
@[simp] theorem Jw{op:List Wv->Hs->Re Wv}:aR op gr ρ st=(gr ρ st).bind λws st1=>(op ws st1).pO:=rfl
end
@[simp] theorem ZO{op:Wv->Hs->Re Wv}:ye op ga ρ st=(ga ρ st).bind op:=rfl
@[simp] theorem Yo{i:Int}:gq (.int i) st= .ok (.int (-i)) st:=rfl
@[simp] theorem Ry{i j:Int}:c_ (.int i) (.int j) st= .ok (.int (i+j)) st:=rfl
@[simp] theorem Yp{i j:Int}:ke (.int i) (.int j) st= .ok (.int (i - j)) st:=rfl
@[simp] theorem V6{x:Wv}:oZ x .non st=qG x .non st:=ND
@[simp] theorem ZP{i j:Int}:oLt (.int i) (.int j) st= .ok (.bl (decide (i < j))) st:=rfl
@[simp] theorem ZQ{i j:Int}:oLe (.int i) (.int j) st= .ok (.bl (decide (i<=j))) st:=rfl
@[simp] theorem ZR{i j:Int}:QJ (.int i) (.int j) st= .ok (.bl (decide (j < i))) st:=rfl
@[simp] theorem ZS{i j:Int}:Zh (.int i) (.int j) st= .ok (.bl (decide (j<=i))) st:=rfl
@[simp] theorem ZT{i j:Int}:oEq (.int i) (.int j) st= .ok (.bl (i == j)) st:=rfl
@[simp] theorem ZU{i j:Int}:uZ (.int i) (.int j) st= .ok (.bl (!(i == j))) st:=rfl
@[simp] theorem ZV{i j:PySem.Str}:oEq (.str i) (.str j) st= .ok (.bl (i == j)) st:=rfl
@[simp] theorem ZW{i j:PySem.Str}:uZ (.str i) (.str j) st= .ok (.bl (!(i == j))) st:=rfl
@[simp] theorem ZX{i j:Bool}:oEq (.bl i) (.bl j) st= .ok (.bl (i == j)) st:=by cases i<;>cases j<;>rfl
@[simp] theorem ZY{i j:Bool}:uZ (.bl i) (.bl j) st= .ok (.bl (!(i == j))) st:=by cases i<;>cases j<;>rfl
theorem mj{i j:Int}(h:j≠0/\j.natAbs.log2 < 9000):fi (.int i) (.int j) st= .ok (.int (i.fdiv j)) st:=by show(if _ then _ else _)=_;rw[if_pos h]
theorem ky{i j:Int}(h:j≠0):oMod (.int i) (.int j) st= .ok (.int (i.fmod j)) st:=by show(if _ then _ else _)=_;rw[if_pos h]
theorem xv{i j:Int}(h:IntMulOk i j):dy (.int i) (.int j) st= .ok (.int (i * j)) st:=by show(if _ then _ else _)=_;rw[if_pos h]
theorem FT{i j:Int}(h1:-(2 ^ 64) < i)(h2:i < 2 ^ 64):dy (.int i) (.int j) st= .ok (.int (i * j)) st:=xv (IntMulOk.of_left (intBits_le_64 h1 h2))
theorem mul_r{i j:Int}(h1:-(2 ^ 64) < j)(h2:j < 2 ^ 64):dy (.int i) (.int j) st= .ok (.int (i * j)) st:=xv (IntMulOk.of_right (intBits_le_64 h1 h2))
theorem FU{i j:Int}(h:0<=j/\j<=1000000/\i.natAbs < 2 ^ 64):jf (.int i) (.int j) st= .ok (.int (i ^ j.toNat)) st:=by show(if _ then _ else _)=_;rw[if_pos h]
theorem fW{l:Nat}{i:Int}{ws:List Wv}{v:Wv}(h:aB st l=some ws)(h2:nK ws i=some v):aP (.ref l) (.int i) st= .ok v st:=by
 show(match aB st l with | some ws=>(match nK ws i with | some w=>Re.ok w st | none=> .bad) | none=> .bad)=_
 rw[h]
 dsimp only
 rw[h2]
theorem add_l{l k:Nat}{xs ys:List Wv}(h1:aB st l=some xs)(h2:aB st k=some ys)(hl:xs.length+ys.length<=lim):c_ (.ref l) (.ref k) st= .ok (.ref st.length) (st++[.lst (xs++ys)]):=by
 show(match aB st l,aB st k with | some i,some j=>if i.length+j.length<=lim then Re.ok (Wv.ref st.length) (st++[Ob.lst (i++j)]) else .bad | _,_=> .bad)=_
 rw[h1,h2]
 exact if_pos hl
theorem Jx{i:Int}{ws:List Wv}{v:Wv}(h2:nK ws i=some v):aP (.tup ws) (.int i) st= .ok v st:=by
 show(match nK ws i with | some w=>Re.ok w st | none=> .bad)=_
 rw[h2]
end
theorem A3{n:Nat}{g:GS}{ws:List Wv}{st st':Hs}{w:Wv}(h:g (ws.map some++aS (n - ws.length) none) st= .rt w st'):bh n g ws st= .ok w st':=by unfold bh;rw[h]
section
variable {ρ:bY} {st:Hs} {ga gb gc:GE} {gl gh:GO}
def Yq(gl gh:GO)(ρ:bY):Wv->Hs->Re Wv:=λx st1=>(gl ρ st1).bind λlo st2=>(gh ρ st2).bind λhi st3=>B7 x lo hi st3
@[simp] theorem T4:gE ga gl gh ρ st=(ga ρ st).bind (Yq gl gh ρ):=rfl
@[simp] theorem Yr{x:Wv}:Yq gl gh ρ x st=(gl ρ st).bind λlo st2=>(gh ρ st2).bind λhi st3=>B7 x lo hi st3:=rfl
@[simp] theorem Rz:jh ρ st= .ok none st:=rfl
def KL:Wv->Hs->Re (Option Int):=λw st1=>match w with
 | .int i=> .ok (some i) st1
 | _=> .bad
@[simp] theorem V7:mV ga ρ st=(ga ρ st).bind KL:=rfl
@[simp] theorem T5{i:Int}:KL (.int i) st= .ok (some i) st:=rfl
theorem ud{l:Nat}{ws:List Wv}(h:aB st l=some ws):lL [.ref l] st= .ok (.int ws.length) st:=by
 show(match aB st l with | some ws=>Re.ok (Wv.int ws.length) st | none=> .bad)=_
 rw[h]
def V8(op':gT)(gc:GE)(y:Wv)(ρ:bY):Wv->Hs->Re Wv:=λz st3=>match z with
 | .bl true=>(gc ρ st3).bind λu yd=>(op' y u yd).pO
 | .bl false=> .ok (.bl false) st3
 | _=> .bad
def V9(op' N':gT)(gc gd:GE)(y:Wv)(ρ:bY):Wv->Hs->Re Wv:=λz st3=>match z with
 | .bl true=>(gc ρ st3).bind λu yd=>(op' y u yd).pO.bind (V8 N' gd u ρ)
 | .bl false=> .ok (.bl false) st3
 | _=> .bad
@[simp] theorem V_{op' N':gT}{gd:GE}{y:Wv}:V9 op' N' gc gd y ρ (.bl false) st= .ok (.bl false) st:=rfl
def KO(cat:PySem.Str->Option Bool)(gs:GS)(r:Rs):Rs:=match r with
 | .err c ρ' st'=>(match cat c with
  | some true=>(match gs ρ' st' with
   | .nx ρ2 st2=> .nx ρ2 st2
   | .rt w st2=> .rt w st2
   | _=> .bad)
  | _=> .bad)
 | r=>r
@[simp] theorem RA{cat:PySem.Str->Option Bool}{gs:GS}:KO cat gs (.nx ρ st)= .nx ρ st:=rfl
@[simp] theorem RB{cat:PySem.Str->Option Bool}{gs:GS}{w:Wv}:KO cat gs (.rt w st)= .rt w st:=rfl
end
theorem bK{st:Hs}{ws:List Wv}:aB (st++[.lst ws]) st.length=some ws:=by unfold aB;simp
theorem xw{st:Hs}{l:Nat}{ws:List Wv}(h:aB st l=some ws):l < st.length:=by
 unfold aB at h
 cases e:st[l]? with
 | none=>rw[e] at h;cases h
 | some o=>exact(List.getElem?_eq_some_iff.mp e).1
def bM(l:Nat)(st st':Hs):Prop:=st.length<=st'.length/\∀k,k < st.length->k≠l->st'[k]? =st[k]?
theorem bM.refl{l:Nat}{st:Hs}:bM l st st:=⟨aC _,λ_ _ _=>rfl⟩
theorem bM.trans{l:Nat}{a b c:Hs}(h:bM l a b)(k:bM l b c):bM l a c:=⟨bf h.1 k.1,λj h1 h2=>(k.2 j (br h1 h.1) h2).trans (h.2 j h1 h2)⟩
theorem bM.push{l:Nat}{st:Hs}{o:Ob}:bM l st (st++[o]):=⟨by simp,λk h _=>f9 h⟩
theorem bM.set{l:Nat}{st:Hs}{o:Ob}:bM l st (st.set l o):=⟨by simp,λk _ h=>cK (λz=>h z.symm)⟩
theorem bM.lst{l:Nat}{st st':Hs}(k:bM l st st'){j:Nat}{ws:List Wv}(h:aB st j=some ws)(hj:j≠l):aB st' j=some ws:=by
 unfold aB at h ⊢
 rw[k.2 j (xw (st:=st) (ws:=ws) (by unfold aB;exact h)) hj]
 exact h
@[simp] theorem T6{i:Nat}{ga:GA}{gb:GS}{ρ:bY}{st:Hs}:nU i ga gb ρ st=(ga ρ st).bD ρ λws st1=>match ws with
 | [.int j]=>if dA j then dt i gb (cO 0 j.toNat) ρ st1 else .bad
 | _=> .bad:=rfl
@[simp] theorem T7{i:Nat}{ga:GA}{gb:GS}{ρ:bY}{st:Hs}:u9 i ga gb ρ st=(ga ρ st).bD ρ λws st1=>match ws with
 | [.int a,.int j]=>if dA a/\dA j then dt i gb (cO a (j - a).toNat) ρ st1 else .bad
 | _=> .bad:=rfl
def KP(mt:Wv->Wv->Hs->Re Wv)(ga:GE)(ρ:bY):Wv->Hs->Re Wv:=λo st1=>match o with
 | .ref l=>(match aB st1 l with
  | some _=>(ga ρ st1).bind λv st2=>(mt o v st2).pO
  | none=> .bad)
 | _=> .bad
@[simp] theorem Oc{mt:Wv->Wv->Hs->Re Wv}{go ga:GE}{ρ:bY}{st:Hs}:lR mt go ga ρ st=(go ρ st).bind (KP mt ga ρ):=rfl
theorem lC{mt:Wv->Wv->Hs->Re Wv}{ga:GE}{ρ:bY}{st:Hs}{l:Nat}{ws:List Wv}(h:aB st l=some ws):KP mt ga ρ (.ref l) st=(ga ρ st).bind λv st2=>(mt (.ref l) v st2).pO:=by
 show(match aB st l with | some _=>(ga ρ st).bind λv st2=>(mt (.ref l) v st2).pO | none=> .bad)=_
 rw[h]
theorem o9{st:Hs}{l:Nat}{v:Wv}{ws:List Wv}(h:st[l]? =some (.lst ws))(hl:ws.length < lim):ji (.ref l) v st= .ok .non (st.set l (.lst (ws++[v]))):=by
 show(match st[l]? with | some (.lst ws)=>if ws.length < lim then Re.ok Wv.non (st.set l (.lst (ws++[v]))) else .bad | _=> .bad)=_
 rw[h]
 exact if_pos hl
def kFor(i:Nat)(gb:GS)(ρ:bY):Wv->Hs->Rs:=λw st1=>match w with
 | .ref l=>(match aB st1 l with | some ws=>forL i gb l ws ws ρ st1 | none=> .bad)
 | .tup ws=>dt i gb ws ρ st1
 | .qA ws=>dt i gb ws ρ st1
 | _=> .bad
@[simp] theorem Ys{i:Nat}{ga:GE}{gb:GS}{ρ:bY}{st:Hs}:qL i ga gb ρ st=(ga ρ st).bD ρ (kFor i gb ρ):=rfl
theorem rB{i:Nat}{gb:GS}{ρ:bY}{st:Hs}{l:Nat}{ws:List Wv}(h:aB st l=some ws):kFor i gb ρ (.ref l) st=forL i gb l ws ws ρ st:=by
 show(match aB st l with | some ws=>forL i gb l ws ws ρ st | none=> .bad)=_
 rw[h]
@[simp] theorem V'{i:Nat}{gb:GS}{ρ:bY}{st:Hs}{ws:List Wv}:kFor i gb ρ (.tup ws) st=dt i gb ws ρ st:=rfl
theorem xx{i:Nat}{gb:GS}{l:Nat}{all:List Wv}(P:bY->Hs->Prop):∀(ws:List Wv)(ρ:bY)(st:Hs),P ρ st->aB st l=some all->
  (∀w∈ws,∀ρ st,P ρ st->aB st l=some all->∃ρ' st',gb (ρ.set i (some w)) st= .nx ρ' st'/\aB st' l=some all/\P ρ' st')->
  ∃ρ' st',forL i gb l all ws ρ st= .nx ρ' st'/\P ρ' st'/\aB st' l=some all
 | [],ρ,st,h,hl,_=>⟨ρ,st,rfl,h,hl⟩
 | w::r,ρ,st,h,hl,step=>by
  obtain⟨ρ1,st1,e1,l1,p1⟩:=step w bS ρ st h hl
  obtain⟨ρ2,st2,e2,p2,l2⟩:=xx P r ρ1 st1 p1 l1 λw hw=>step w (bq _ hw)
  refine⟨ρ2,st2,?_,p2,l2⟩
  unfold forL
  rw[e1]
  simp only[if_pos l1]
  exact e2
theorem nk{i:Nat}{gb:GS}(P:Nat->bY->Hs->Prop):∀(ws:List Wv)(k:Nat)(ρ:bY)(st:Hs),P k ρ st->
  (∀(j:Nat)(w:Wv),ws[j]? =some w->∀ρ st,P (k+j) ρ st->∃ρ' st',gb (ρ.set i (some w)) st= .nx ρ' st'/\P (k+j+1) ρ' st')->∃ρ' st',dt i gb ws ρ st= .nx ρ' st'/\P (k+ws.length) ρ' st'
 | [],k,ρ,st,h,_=>⟨ρ,st,rfl,h⟩
 | w::r,k,ρ,st,h,step=>by
  obtain⟨ρ1,st1,e1,p1⟩:=step 0 w rfl ρ st h
  obtain⟨ρ2,st2,e2,p2⟩:=nk P r (k+1) ρ1 st1 p1 λj w hw ρ st hp=>by
   have e:k+(j+1)=k+1+j:=by omega
   have q:=step (j+1) w hw ρ st (by rw[e];exact hp)
   rw[e] at q
   exact q
  refine⟨ρ2,st2,?_,?_⟩
  ·unfold dt
   rw[e1]
   exact e2
  ·have e:k+(w::r).length=k+1+r.length:=by simp;omega
   rw[e]
   exact p2
theorem xy{i:Nat}{gb:GS}(P:bY->Hs->Prop):∀(ws:List Wv)(ρ:bY)(st:Hs),P ρ st->
  (∀w∈ws,∀ρ st,P ρ st->∃ρ' st',gb (ρ.set i (some w)) st= .nx ρ' st'/\P ρ' st')->∃ρ' st',dt i gb ws ρ st= .nx ρ' st'/\P ρ' st'
 | [],ρ,st,h,_=>⟨ρ,st,rfl,h⟩
 | w::r,ρ,st,h,step=>by
  obtain⟨ρ1,st1,e1,p1⟩:=step w bS ρ st h
  obtain⟨ρ2,st2,e2,p2⟩:=xy P r ρ1 st1 p1 λw hw=>step w (bq _ hw)
  refine⟨ρ2,st2,?_,p2⟩
  unfold dt
  rw[e1]
  exact e2
@[simp] theorem FV{i:Int}{st:Hs}:tM [.int i] st=M5 [.int i] st:=rfl
@[simp] theorem Wa{cs:gU}{gi:GI}{gt:GT}{ge:GE}{ρ:bY}{st:Hs}:iQ cs gi gt ge ρ st=(gi ρ st).bind (dQ cs gt ge ρ):=rfl
@[simp] theorem T8{g:GE}{ρ:bY}{st:Hs}:gW g ρ st=(g ρ st).bind oX:=rfl
@[simp] theorem Wb{g:GA}{ρ:bY}{st:Hs}:IH g ρ st=(g ρ st).bind wX:=rfl
@[simp] theorem Wc{g:GA}{ρ:bY}{st:Hs}:EB g ρ st=(g ρ st).bind Ay:=rfl
@[simp] theorem Wd{g:GA}{ρ:bY}{st:Hs}:Vx g ρ st=(g ρ st).bind KC:=rfl
theorem Oe{j:Int}{st:Hs}(h:dA j):wX [.int j] st= .ok (none,cO 0 j.toNat) st:=if_pos h
theorem Of{i j:Int}{st:Hs}(h:dA i)(k:dA j):Ay [.int i,.int j] st= .ok (none,cO i (j - i).toNat) st:=if_pos ⟨h,k⟩
theorem oj{l:Nat}{st:Hs}{ws:List Wv}(h:aB st l=some ws):oX (.ref l) st= .ok (some l,ws) st:=by
 show(match aB st l with | some ws=>Re.ok (some l,ws) st | none=> .bad)=_
 rw[h]
@[simp] theorem We{st:Hs}{z:PySem.Str}:oX (.str z) st= .ok (none,iE z) st:=rfl
@[simp] theorem Wf{st:Hs}{ws:List Wv}:oX (.tup ws) st= .ok (none,ws) st:=rfl
theorem Jy{st:Hs}{acc:List Wv}{v:Wv}(h:acc.length < lim):ji (.ref st.length) v (st++[.lst acc])= .ok .non (st++[.lst (acc++[v])]):=by
 rw[o9 (ws:=acc) (by simp) h]
 congr 1
 simp
theorem mn{w:Wk}{gt:Wv->Hs->Re Bool}{ge:Wv->Hs->Re Wv}{st:Hs}{t:Wv->Bool}{f:Wv->Wv}(ck:ko w st):∀(ws acc:List Wv),(∀v∈ws,∀acc,gt v (st++[.lst acc])= .ok (t v) (st++[.lst acc]))->
  (∀v∈ws,t v=true->∀acc,ge v (st++[.lst acc])= .ok (f v) (st++[.lst acc]))->acc.length+ws.length < lim->iO (ko w) gt ge st.length ws (st++[.lst acc])=some (st++[.lst (acc++(ws.filter t).map f)])
 | [],acc,_,_,_=>by simp[iO]
 | v::r,acc,h1,h2,hl=>by
  have hl':acc.length+(r.length+1) < lim:=hl
  unfold iO
  rw[h1 v bS acc]
  cases e:t v with
  | false=>
   dsimp only
   rw[if_pos (qP ck),mn ck r acc (λv hv=>h1 v (bq _ hv)) (λv hv=>h2 v (bq _ hv)) (by omega),Ep (by simp[e])]
  | true=>
   dsimp only
   rw[h2 v bS e acc]
   dsimp only
   rw[Jy (by omega)]
   dsimp only
   rw[if_pos (qP ck),mn ck r (acc++[f v]) (λv hv=>h1 v (bq _ hv)) (λv hv=>h2 v (bq _ hv)) (by simp;omega),Eo e]
   simp
theorem iU{cs:gU}{gt:GT}{ge:GE}{ρ:bY}{w:Wk}{st:Hs}{t:Wv->Bool}{f:Wv->Wv}(ck:ko w st)(h1:∀v∈w.2,∀acc,gt (some v::f_ cs ρ) (st++[.lst acc])= .ok (t v) (st++[.lst acc]))
  (h2:∀v∈w.2,t v=true->∀acc,ge (some v::f_ cs ρ) (st++[.lst acc])= .ok (f v) (st++[.lst acc]))(hl:w.2.length < lim):dQ cs gt ge ρ w st= .ok (.ref st.length) (st++[.lst ((w.2.filter t).map f)]):=by
 unfold dQ
 rw[mn ck w.2 [] h1 h2 (by simpa using hl)]
 simp
theorem rC{α:Type}{ws:List α}{d:Int}(h0:0<=d)(h1:d < ws.length):∃v,L2.nK ws d=some v/\v∈ws:=by
 have hk:d.toNat < ws.length:=by omega
 have ek:d=((d.toNat:Nat):Int):=by omega
 refine⟨ws[d.toNat],?_,List.getElem_mem hk⟩
 have q:=L2.mR (dJ hk)
 rw[<-ek] at q
 exact q
theorem cP{st:Hs}{l:Nat}{o o':Ob}(h:st[l]? =some o):(st.set l o')[l]? =some o':=qh (List.getElem?_eq_some_iff.mp h).1
theorem rD{st:Hs}{l:Nat}{o o':Ob}(h:st[l]? =some o):(st++[o'])[l]? =some o:=by rw[f9 (List.getElem?_eq_some_iff.mp h).1];exact h
theorem b5{st:Hs}{l:Nat}{ws:List Wv}(h:st[l]? =some (.lst ws)):aB st l=some ws:=by unfold aB;rw[h]
theorem cT{st:Hs}{l:Nat}{o:Ob}(h:st[l]? =some o):l < st.length:=(List.getElem?_eq_some_iff.mp h).1
theorem iq{st:Hs}{o:Ob}:(st++[o])[st.length]? =some o:=by simp
theorem RC{x y:PySem.Str}{st:Hs}(h:x.length+y.length<=lim):c_ (.str x) (.str y) st= .ok (.str (x++y)) st:=by
 show(if x.length+y.length<=lim then Re.ok (Wv.str (x++y)) st else .bad)=_
 rw[if_pos h]
theorem RD{z:PySem.Str}{st:Hs}(h:z.length<=lim):lL [.str z] st= .ok (.int z.length) st:=by
 show(if z.length<=lim then Re.ok (Wv.int z.length) st else .bad)=_
 rw[if_pos h]
@[simp] theorem Yt{i:Int}{st:Hs}:Ij [.int i] st= .ok (.int (if i < 0 then -i else i)) st:=rfl
@[simp] theorem KQ{l:Nat}{st:Hs}{ns:List Int}(h:aB st l=some (ns.map Wv.int)):B1 [.ref l] st= .ok (.int ns.sum) st:=by
 show(match aB st l with | some ws=>(match intsOf ws with | some ns=>Re.ok (Wv.int ns.sum) st | none=> .bad) | none=> .bad)=_
 rw[h]
 dsimp only
 rw[jj]
theorem Jz{lo:Int}{n:Nat}{w:Wv}(h:w∈cO lo n):∃k:Int,w= .int k/\lo<=k/\k < lo+n:=by
 unfold cO at h
 obtain⟨k,hk,rfl⟩:=List.mem_map.mp h
 have:=List.mem_range.mp hk
 exact⟨lo+k,rfl,by omega,by omega⟩
theorem JB{i:Int}(h1:-1000000<=i)(h2:i<=1000000):dA i:=⟨by omega,by omega⟩
@[simp] theorem T9{F:List Wv->Hs->Re Wv}{st:Hs}:ub 0 F [] st=F [] st:=rfl
theorem ue{w:Wk}{gt:Wv->Hs->Re Bool}{ge:Wv->Hs->Re Wv}{rr:Nat}(P:Hs->Prop)(E:Wv->Prop)(hP:∀st acc,P st->P (st.set rr (.lst acc)))(hck:∀st,P st->ko w st) :
  ∀(ws:List Wv),(∀v∈ws,∀st acc,P st->st[rr]? =some (.lst acc)->∃st1,gt v st= .ok true st1/\P st1/\st1[rr]? =some (.lst acc)/\∃u st2,ge v st1= .ok u st2/\E u/\P st2/\st2[rr]? =some (.lst acc))->
   ∀(acc:List Wv)(st:Hs),P st->st[rr]? =some (.lst acc)->acc.length+ws.length < lim->(∀a∈acc,E a)->∃st' acc',iO (ko w) gt ge rr ws st=some st'/\P st'/\st'[rr]? =some (.lst acc')/\(∀a∈acc',E a)/\acc'.length=acc.length+ws.length
 | [],_,acc,st,hp,hg,_,ha=>⟨st,acc,rfl,hp,hg,ha,rfl⟩
 | v::r,step,acc,st,hp,hg,hl,ha=>by
  obtain⟨st1,e1,p1,g1,u,st2,e2,hu,p2,g2⟩:=step v bS st acc hp hg
  have hl':acc.length+(r.length+1) < lim:=hl
  obtain⟨st3,Wg,f1,f2,f3,f4,f5⟩:=ue P E hP hck r (λv hv=>step v (bq _ hv)) (acc++[u]) (st2.set rr (.lst (acc++[u]))) (hP _ _ p2) (cP g2) (by simp;omega) (by
   intro a h
   rcases List.mem_append.mp h with z | z
   ·exact ha a z
   ·simp at z;rw[z];exact hu)
  refine⟨st3,Wg,?_,f2,f3,f4,?_⟩
  ·unfold iO
   rw[e1]
   dsimp only
   rw[e2]
   dsimp only
   rw[o9 g2 (by omega)]
   dsimp only
   rw[if_pos (hck _ (hP _ _ p2)),f1]
  ·rw[f5];simp;omega
def Gr(st st':Hs):Prop:=st.length<=st'.length/\∀k,k < st.length->st'[k]? =st[k]?
theorem Gr.refl{st:Hs}:Gr st st:=⟨aC _,λ_ _=>rfl⟩
theorem Gr.trans{a b c:Hs}(h:Gr a b)(k:Gr b c):Gr a c:=⟨bf h.1 k.1,λj h1=>(k.2 j (br h1 h.1)).trans (h.2 j h1)⟩
theorem Gr.push{st:Hs}{o:Ob}:Gr st (st++[o]):=⟨by simp,λk h=>f9 h⟩
theorem Gr.app{st xs:Hs}:Gr st (st++xs):=⟨by simp,λk h=>f9 h⟩
theorem Gr.lst{st st':Hs}(k:Gr st st'){j:Nat}{ws:List Wv}(h:aB st j=some ws):aB st' j=some ws:=by
 unfold aB at h ⊢
 rw[k.2 j (xw (st:=st) (ws:=ws) (by unfold aB;exact h))]
 exact h
theorem Gr.get{st st':Hs}(k:Gr st st'){j:Nat}{o:Ob}(h:st[j]? =some o):st'[j]? =some o:=by rw[k.2 j (cT h)];exact h
theorem Gr.keep{st st':Hs}{l:Nat}(k:Gr st st'):bM l st st':=⟨k.1,λj h _=>k.2 j h⟩
theorem Gr.rE{st s1 s2:Hs}{l:Nat}(h:st.length<=l)(g:Gr st s1)(k:bM l s1 s2):Gr st s2:=⟨bf g.1 k.1,λj h1=>(k.2 j (br h1 g.1) (by omega)).trans (g.2 j h1)⟩
theorem xA{α:Type}(f:α->Wv){i:Nat}{gb:GS}{l:Nat}{all:List Wv}(full:List α)(P:List α->bY->Hs->Prop)
  (step:∀a pre post ρ st,full=pre++a::post->P pre ρ st->aB st l=some all->∃ρ' st',gb (ρ.set i (some (f a))) st= .nx ρ' st'/\aB st' l=some all/\P (pre++[a]) ρ' st') :
  ∀(post pre:List α)(ρ:bY)(st:Hs),full=pre++post->P pre ρ st->aB st l=some all->∃ρ' st',forL i gb l all (post.map f) ρ st= .nx ρ' st'/\P full ρ' st'/\aB st' l=some all
 | [],pre,ρ,st,hf,h,hl=>⟨ρ,st,rfl,by rw[hf];simpa using h,hl⟩
 | a::r,pre,ρ,st,hf,h,hl=>by
  obtain⟨ρ1,st1,e1,l1,p1⟩:=step a pre r ρ st hf h hl
  obtain⟨ρ2,st2,e2,p2,l2⟩:=xA f full P step r (pre++[a]) ρ1 st1 (by rw[hf];simp) p1 l1
  refine⟨ρ2,st2,?_,p2,l2⟩
  rw[bw]
  unfold forL
  rw[e1]
  simp only[if_pos l1]
  exact e2
theorem KR{i:Int}:a4 (.int i) (.int i)=true:=by simp[a4]
theorem KS{x:PySem.Str}:a4 (.str x) (.str x)=true:=by simp[a4]
theorem FW{x y:PySem.Str}:a4 (.tuple [.str x,.str y]) (.tuple [.str x,.str y])=true:=by simp[a4,fM]
theorem Og{st:Hs}{x y:Wv}{d:PyData}(h1:bj st 20 x=some d)(h2:bj st 20 y=some d)(h:a4 d d=true):uZ x y st= .ok (.bl false) st:=by
 unfold uZ
 rw[h1,h2]
 show Re.ok (Wv.bl (!PyData.eqv d d)) st=_
 rw[h]
 rfl
theorem rF{st:Hs}{x y:Wv}{d:PyData}(h1:bj st 20 x=some d)(h2:bj st 20 y=some d)(h:a4 d d=true):oEq x y st= .ok (.bl true) st:=by
 unfold oEq
 rw[h1,h2]
 show Re.ok (Wv.bl (a4 d d)) st=_
 rw[h]
theorem RE{l:Nat}{st:Hs}{n:Int}{ns:List Int}(h:aB st l=some ((n::ns).map Wv.int)):oV [.ref l] st= .ok (.int (B2 n ns)) st:=by
 unfold oV
 simp only[h,jj]
theorem RF{l:Nat}{st:Hs}{n:Int}{ns:List Int}(h:aB st l=some ((n::ns).map Wv.int)):oW [.ref l] st= .ok (.int (B3 n ns)) st:=by
 unfold oW
 simp only[h,jj]
@[simp] theorem Yu{i j:Int}{st:Hs}:oV [.int i,.int j] st= .ok (.int (if j > i then j else i)) st:=rfl
@[simp] theorem Yv{i j:Int}{st:Hs}:oW [.int i,.int j] st= .ok (.int (if j < i then j else i)) st:=rfl
theorem RG{α:Type}{a:α}{r:List α}:L2.nK (a::r) 0=some a:=L2.mR (j:=0) rfl
theorem kz{α:Type}{t:List α}{a:α}:L2.nK (t++[a]) (-1)=some a:=by
 unfold L2.nK L2.BG
 simp
 rw[if_pos (by omega)]
 have e:(-1+((t.length:Int)+1)).toNat=t.length:=by omega
 simp[e]
def KU(kvs:Dc):Wv->Hs->Re Wv:=λa st1=>match a with
 | .str k=>(match kvs.lookup k with | some w=> .ok w st1 | none=> .bad)
 | _=> .bad
@[simp] theorem Wh{kvs:Dc}{ga:GE}{ρ:bY}{st:Hs}:AG kvs ga ρ st=(ga ρ st).bind (KU kvs):=rfl
theorem JC{kvs:Dc}{k:PySem.Str}{w:Wv}{st:Hs}(h:kvs.lookup k=some w):KU kvs (.str k) st= .ok w st:=by
 show(match kvs.lookup k with | some w=>Re.ok w st | none=> .bad)=_
 rw[h]
theorem A4{st:Hs}{o o':Ob}:(st++[o]).set st.length o'=st++[o']:=by simp
open PySem L2
theorem tb_none{K:PySem.W.Frag}{H:Hp}(h1:PySem.W.nsIn K abV "form_of"=some none)(h2:PySem.W.nsIn K abV "formula_by"=some none)(h3:PySem.W.nsIn K abV "turned"=some none)(h4:PySem.W.nsIn K abV "readied_content"=some none)(h5:PySem.W.nsIn K abV "ordered"=some none):uT K H:=λq P hq e=>by
 have no:∀q,PySem.W.nsIn K abV q=some none->je K q=none:=λq h=>by
  unfold je PySem.W.tabIn
  rw[h]
 simp only[cI,di,dC,or_false] at hq
 rcases hq with rfl | rfl | rfl | rfl | rfl
 ·rw[no _ h1] at e;cases e
 ·rw[no _ h2] at e;cases e
 ·rw[no _ h3] at e;cases e
 ·rw[no _ h4] at e;cases e
 ·rw[no _ h5] at e;cases e
theorem si{fd:abH}{ps:List Str}(us:List abL)(hl:us.length=1)(h:∀a0:abL,bindArgs fd { pos:=[a0] }=pure (ps.zip [a0])):bindArgs fd { pos:=us }=pure (ps.zip us):=match us,hl with | [a0],_=>h a0
theorem ln2{fd:abH}{ps:List Str}(us:List abL)(hl:us.length=2)(h:∀a0 a1:abL,bindArgs fd { pos:=[a0,a1] }=pure (ps.zip [a0,a1])):bindArgs fd { pos:=us }=pure (ps.zip us):=match us,hl with | [a0,a1],_=>h a0 a1
theorem CA{fd:abH}{ps:List Str}(us:List abL)(hl:us.length=3)(h:∀a0 a1 a2:abL,bindArgs fd { pos:=[a0,a1,a2] }=pure (ps.zip [a0,a1,a2])):bindArgs fd { pos:=us }=pure (ps.zip us):=match us,hl with | [a0,a1,a2],_=>h a0 a1 a2
theorem dE.mo{P:abJ}{w:abM}{K:PySem.W.Frag}{mg:Str->Option abL}{base:Heap}{j k:Nat}{x:Str}{n:Nat}{F:List Wv->Hs->Re Wv}(h:dE P w K mg base j x n F)(l:j<=k:=by first | decide | omega):dE P w K mg base k x n F:=h.mono l
theorem hdf{P:abJ}{w:abM}{K:PySem.W.Frag}{mg:Str->Option abL}{base:Heap}{h:Heap}{k:Nat}{c:Ct}{x:Str}{st:Stmt}{ps:List Str}{g:GS}(KX:K.In h)(NS:h.Ns abV mg)(D:bb K x st)(T:rl c k P w K mg base)
  (S:FnScope c.N ps (defScope st))(hg:aU 30 c (defBody st)=g)(hM:c.self∈cI->Cb K mg base/\c.self=x:=by exact λz=>absurd (show("":Str)∈cI from z) (by decide))(hn:(defScope st).names=c.names:=by exact rfl)
  (hb:∀(kV doc pm:abL)(an:Option abF)(cdv ct:abL)(us:List abL),us.length=ps.length->bindArgs (PySem.W.fnOf x x (defArgs st) (defBody st) (defScope st) .none kV doc pm an cdv ct) ⟨us,[]⟩=pure (ps.zip us):=by intro _ _ _ _ _ _ us hl;first | exact si us hl λ_=>rfl | exact ln2 us hl λ_ _=>rfl | exact CA us hl λ_ _ _=>rfl | exact ln4 us hl λ_ _ _ _=>rfl | exact ln5 us hl λ_ _ _ _ _=>rfl | exact ln6 us hl λ_ _ _ _ _ _=>rfl | exact ln7 us hl λ_ _ _ _ _ _ _=>rfl) :
  dE P w K mg base (k+1) x ps.length (bh c.N.length g):=aM KX NS D T S hn hg hb hM
theorem tk{c:Ct}{k:Nat}{P:abJ}{w:abM}{K:PySem.W.Frag}{mg:Str->Option abL}{base:Heap}(ht:TabOk K c.tb c.tt c.tc)(hf:AllP (λp=>dE P w K mg base k p.1 p.2.1 p.2.2) c.fns:=by exact trivial)(hc:AllP (λp=>AS K mg p.1 p.2) c.consts:=by exact trivial)(hb:AllP (λx=>mg x=none) c.bl:=by exact trivial)
  (hk:AllP (λx=>∃C,mg x=some (.ref C)/\Iz K x C) c.clss:=by exact trivial)(hn:AllP (λx=>∃C,mg x=some (.ref C)/\ClsAt K x C) c.AQ:=by exact trivial)(hd:AllP (λp=>wZ K w mg p.1 p.2) c.AR:=by exact trivial)
  (hu:AllP (λx=>∀n F,c.fns.lookup x=some (n,F)->I_ P w K mg base k x n F) c.E8:=by exact trivial)(hx:mi c k P w K mg base:=by exact mi.no rfl rfl rfl rfl):rl c k P w K mg base:=aH hc hb hf ht hk hn hd hu hx
end J
namespace K18
open PySem J
open L2 (defScope defBody defArgs FnScope CX0 FnOk XK Hp)
def top (i:Nat):Stmt:=PySem.Challenge.pw_onelook_k18_whole_looks_by_parts.main.body.getD i (.Pass ⟨0,0,0,0⟩)
def eT:Tab:=[]
def cA:yX:=[]
def fN:Dc:=[("num",.int 0),("text",.int 0),("lost",.int 0),("at",.int 0),("minus",.int 1),("not",.int 1),("+",.int 2),("-",.int 2),("*",.int 2),("/",.int 2),("&",.int 2),("<",.int 2),("=",.int 2),("rest",.int 2),("if",.int 3),("else",.int 2),("sum",.int 0),("count",.int 0),("least",.int 0),("greatest",.int 0),("find",.int 1)]
def vw:Tab:=[]
def cB(s:Stmt)(n b:List Str)(f:List (Str×Nat×(List Wv->Hs->Re Wv))):Ct:={ N:=n,names:=(defScope s).names,consts:=[],bl:=b,fns:=f,tb:=eT,tt:=cA,tc:=vw }
theorem f7{N P:List Str}{sc:Scope}(h:sc.kind= .function/\sc.isCoroutine=false/\sc.isGenerator=false/\N.take P.length=P)(k:N.Nodup/\(∀x∈P,sc.names.lookup x=some .local\/sc.names.lookup x=some .cell)/\∀y∈sc.names,y.2≠.free):FnScope N P sc:=⟨h.1,h.2.1,h.2.2.1,k.1,h.2.2.2,k.2.1,k.2.2⟩
abbrev eX:Stmt:=top 33
def gZ:GS:=(aI (c9 (a_ (ag oLt (af 1) (aR lL (aa (af 0) aj)))) (aJ (ag aP (af 0) (af 1))) aL)
  (aJ (gC (.int 0))))
def bJ:List Wv->Hs->Re Wv:=bh 2 gZ
def g_:Ct:=cB eX ["script","k"] ["len"] []
theorem rG:aU 30 (g_) (defBody eX)=gZ:=by kernel_rfl
theorem pv:FnScope (g_).N ["script","k"] (defScope eX):=f7 ⟨rfl,rfl,rfl,rfl⟩ (by decide+kernel)
abbrev ir:Stmt:=top 44
def kA:GS:=(aI (bB 1 (ag fi (az 2 bJ (aa (af 0) (aa (gC (.int 0)) aj))) (gC (.int 2))))
  (aI (bB 2 (ag aP (fq (aa (gC (.int 0)) (aa (ag oMod (ag fi (af 1) (gC (.int 4))) (gC (.int 97))) aj))) (ag oMod (af 1) (gC (.int 2)))))
  (aJ (bI (aa (af 2) (aa (ag aP (fq (aa (gC (.int 0)) (aa (ag oMod (ag fi (af 1) (gC (.int 400))) (gC (.int 23))) aj))) (ag oMod (ag fi (af 1) (gC (.int 2))) (gC (.int 2)))) aj))))))
def fX:List Wv->Hs->Re Wv:=bh 3 kA
def kC:Ct:=cB ir ["script","first","down"] [] [("_law_cell_at",2,bJ)]
theorem xB:aU 30 (kC) (defBody ir)=kA:=by kernel_rfl
theorem vx:FnScope (kC).N ["script"] (defScope ir):=f7 ⟨rfl,rfl,rfl,rfl⟩ (by decide+kernel)
abbrev gF:Stmt:=top 36
def jm:GS:=(aI (bB 2 (ag oMod (ag aP (af 0) (gC (.int 0))) (af 1)))
  (aI (As (ag fi (ag aP (af 0) (gC (.int 0))) (af 1)) (af 0) (gC (.int 0)))
  (aJ (af 2))))
def aE:List Wv->Hs->Re Wv:=bh 3 jm
def jo:Ct:=cB gF ["row","many","digit"] [] []
theorem vy:aU 30 (jo) (defBody gF)=jm:=by kernel_rfl
theorem sH:FnScope (jo).N ["row","many"] (defScope gF):=f7 ⟨rfl,rfl,rfl,rfl⟩ (by decide+kernel)
abbrev gG:Stmt:=top 46
def jq:GS:=(aI (bB 1 (az 2 aE (aa (af 0) (aa (gC (.int 8)) aj))))
  (aI (c9 (a_ (ag oEq (af 1) (gC (.int 0)))) (aJ (gC .non)) aL)
  (aI (c9 (a_ (ag oEq (af 1) (gC (.int 1)))) (aJ (bI (aa (gC (.str "fault")) (aa (ag aP (fq (aa (gC (.str "kind")) (aa (gC (.str "great")) (aa (gC (.str "nought")) (aa (gC (.str "none")) (aa (gC (.str "lost")) aj)))))) (az 2 aE (aa (af 0) (aa (gC (.int 5)) aj)))) aj)))) aL)
  (aI (c9 (a_ (ag oEq (af 1) (gC (.int 2)))) (aJ (ag aP (fq (aa (gC (.str "")) (aa (gC (.str "a")) (aa (gC (.str "b7")) (aa (gC (.str "no")) (aa (ag dy (gC (.str "a")) (gC (.int 199))) (aa (gC (.str "-1")) aj))))))) (az 2 aE (aa (af 0) (aa (gC (.int 6)) aj))))) aL)
  (aI (c9 (a_ (ag oEq (af 1) (gC (.int 3)))) (aJ (ag ke (az 2 aE (aa (af 0) (aa (ag c_ (ag dy (gC (.int 2)) (ag jf (gC (.int 10)) (gC (.int 60)))) (gC (.int 1))) aj))) (ag jf (gC (.int 10)) (gC (.int 60))))) aL)
  (aI (c9 (a_ (ag oEq (af 1) (gC (.int 4)))) (aJ (ag aP (fq (aa (ag jf (gC (.int 10)) (gC (.int 60))) (aa (ye gq (ag jf (gC (.int 10)) (gC (.int 60)))) (aa (ag jf (gC (.int 10)) (gC (.int 30))) (aa (ag ke (gC (.int 1)) (ag jf (gC (.int 10)) (gC (.int 60)))) aj))))) (az 2 aE (aa (af 0) (aa (gC (.int 4)) aj))))) aL)
  (aJ (ag ke (az 2 aE (aa (af 0) (aa (gC (.int 7)) aj))) (gC (.int 3))))))))))
def eZ:List Wv->Hs->Re Wv:=bh 2 jq
def jr:Ct:=cB gG ["row","way"] [] [("_law_digit",2,aE)]
theorem vz:aU 30 (jr) (defBody gG)=jq:=by kernel_rfl
theorem sI:FnScope (jr).N ["row"] (defScope gG):=f7 ⟨rfl,rfl,rfl,rfl⟩ (by decide+kernel)
abbrev gH:Stmt:=top 34
def ju:GS:=(aI (bB 2 (ag oMod (ag dy (ag c_ (ag c_ (ag oMod (af 0) (gC (.int 1000000007))) (ag dy (gC (.int 7919)) (af 1))) (gC (.int 1))) (gC (.int 48271))) (gC (.int 2147483647))))
  (aJ (ag oMod (ag dy (ag oMod (ag dy (af 2) (af 2)) (gC (.int 2147483629))) (gC (.int 69621))) (gC (.int 2147483647)))))
def e_:List Wv->Hs->Re Wv:=bh 3 ju
def jv:Ct:=cB gH ["cell","k","stir"] [] []
theorem vA:aU 30 (jv) (defBody gH)=ju:=by kernel_rfl
theorem sJ:FnScope (jv).N ["cell","k"] (defScope gH):=f7 ⟨rfl,rfl,rfl,rfl⟩ (by decide+kernel)
abbrev fO:Stmt:=top 35
def dR:GS:=(aI (bB 5 (az 2 e_ (aa (ag c_ (af 2) (aR B1 (aa (af 0) aj))) (aa (ag c_ (ag dy (gC (.int 8)) (af 1)) (af 3)) aj))))
  (bB 4 (ag c_ (ag dy (af 4) (gC (.int 2147483647))) (af 5))))
def cC:GS:=(bB 2 (ag c_ (ag dy (af 2) (ag jf (gC (.int 10)) (gC (.int 60)))) (ag oMod (ag aP (af 0) (af 3)) (ag jf (gC (.int 10)) (gC (.int 60))))))
def iF:GS:=(aI (bB 2 (gC (.int 0)))
  (aI (qY 3 (aa (ag c_ (af 1) (gC (.int 1))) (aa (aR lL (aa (af 0) aj)) (aa (gC (.int 13)) aj))) cC)
  (aI (c9 (a_ (ag oEq (ag oMod (az 2 bJ (aa (af 0) (aa (gC (.int 0)) aj))) (gC (.int 2))) (gC (.int 1)))) (aJ (fq (aa (af 2) aj))) aL)
  (aI (bB 4 (gC (.int 0)))
  (aI (nU 3 (aa (gC (.int 8)) aj) dR)
  (aJ (fq (aa (ag fi (af 4) (gC (.int 8))) aj))))))))
def cq:List Wv->Hs->Re Wv:=bh 6 iF
def iG:Ct:=cB fO ["script","k","cell","j","found","drawn"] ["range","len","sum"] [("_law_mixed",2,e_),("_law_cell_at",2,bJ)]
theorem sL:aU 30 (iG) (defBody fO)=iF:=by kernel_rfl
theorem rH:FnScope (iG).N ["script","k"] (defScope fO):=f7 ⟨rfl,rfl,rfl,rfl⟩ (by decide+kernel)
abbrev gI:Stmt:=top 47
def b8:GS:=(aI (bB 6 (bI (aa (ag c_ (ag aP (af 1) (gC (.int 0))) (ag fi (af 5) (gC (.int 4)))) (aa (ag c_ (ag aP (af 1) (gC (.int 1))) (ag oMod (af 5) (gC (.int 4)))) aj))))
  (aI (bB 7 (az 1 eZ (aa (af 2) aj)))
  (c9 (a_ (ag oEq (az 2 aE (aa (af 2) (aa (gC (.int 6)) aj))) (gC (.int 0)))) (mW (lR ji (af 4) (af 6))) (c9 (uX (a_ (ag oZ (af 7) (gC .non))) (a_ (ag oEq (az 2 aE (aa (af 2) (aa (gC (.int 2)) aj))) (gC (.int 0))))) (qW (af 7) (af 3) (af 6)) aL))))
def jw:GS:=(aI (bB 2 (fq (aa (ag c_ (ag aP (az 2 cq (aa (af 0) (aa (gC (.int 40)) aj))) (gC (.int 0))) (ag oMod (az 2 bJ (aa (af 0) (aa (gC (.int 2)) aj))) (ag jf (gC (.int 10)) (gC (.int 60))))) aj)))
  (aI (bB 3 w5)
  (aI (bB 4 (fq aj))
  (aI (nU 5 (aa (gC (.int 12)) aj) b8)
  (aJ (bI (aa (af 3) (aa (af 4) aj))))))))
def dj:List Wv->Hs->Re Wv:=bh 8 jw
def jy:Ct:={ cB gI ["script","spot","row","worths","waiting","k","place","worth"] ["range"] [("_law_worth",1,eZ),("_law_digit",2,aE),("_law_stream",2,cq),("_law_cell_at",2,bJ)] with CZ:=["worths"] }
theorem vB:aU 30 (jy) (defBody gI)=jw:=by kernel_rfl
theorem sM:FnScope (jy).N ["script","spot"] (defScope gI):=f7 ⟨rfl,rfl,rfl,rfl⟩ (by decide+kernel)
abbrev iu:Stmt:=top 38
def kD:GS:=(aI (bB 2 (az 2 aE (aa (af 0) (aa (gC (.int 3)) aj))))
  (aI (bB 3 (az 2 aE (aa (af 0) (aa (gC (.int 4)) aj))))
  (aI (bB 4 (ag c_ (af 2) (az 2 aE (aa (af 0) (aa (ag ke (gC (.int 3)) (af 2)) aj)))))
  (aI (bB 5 (ag c_ (af 3) (az 2 aE (aa (af 0) (aa (ag ke (gC (.int 4)) (af 3)) aj)))))
  (aI (qM [6,7] (af 1))
  (aJ (bI (aa (ag c_ (af 6) (af 2)) (aa (ag c_ (af 7) (af 3)) (aa (ag c_ (af 6) (af 4)) (aa (ag c_ (af 7) (af 5)) aj)))))))))))
def de:List Wv->Hs->Re Wv:=bh 8 kD
def kE:Ct:=cB iu ["row","spot","top","left","bottom","right","down","across"] [] [("_law_digit",2,aE)]
theorem xC:aU 30 (kE) (defBody iu)=kD:=by kernel_rfl
theorem vC:FnScope (kE).N ["row","spot"] (defScope iu):=f7 ⟨rfl,rfl,rfl,rfl⟩ (by decide+kernel)
abbrev iw:Stmt:=top 39
def f':GT:=(λ_ st=> .ok true st)
def eG:GE:=(az 2 aE (aa (af 1) (aa (gC (.int 2)) aj)))
def kF:GS:=(aJ (aR qS (aa (iQ [("row",0)] (IH (aa (af 1) aj)) f' eG) aj)))
def bV:List Wv->Hs->Re Wv:=bh 2 kF
def kG:Ct:=cB iw ["row","many"] ["tuple","range"] [("_law_digit",2,aE)]
theorem xD:aU 30 (kG) (defBody iw)=kF:=by kernel_rfl
theorem vD:FnScope (kG).N ["row","many"] (defScope iw):=f7 ⟨rfl,rfl,rfl,rfl⟩ (by decide+kernel)
abbrev fP:Stmt:=top 40
def iH:GS:=(aI (c9 (a_ (ag oEq (az 2 aE (aa (af 0) (aa (gC (.int 5)) aj))) (gC (.int 0)))) (aJ (ag ke (ag jf (gC (.int 10)) (gC (.int 60))) (az 2 aE (aa (af 0) (aa (gC (.int 3)) aj))))) aL)
  (aJ (az 2 aE (aa (af 0) (aa (gC (.int 6)) aj)))))
def et:List Wv->Hs->Re Wv:=bh 1 iH
def iI:Ct:=cB fP ["row"] [] [("_law_digit",2,aE)]
theorem sN:aU 30 (iI) (defBody fP)=iH:=by kernel_rfl
theorem rJ:FnScope (iI).N ["row"] (defScope fP):=f7 ⟨rfl,rfl,rfl,rfl⟩ (by decide+kernel)
abbrev gJ:Stmt:=top 37
def jz:GS:=(aJ (bI (aa (ag c_ (ag aP (af 1) (gC (.int 0))) (az 2 aE (aa (af 0) (aa (gC (.int 3)) aj)))) (aa (ag c_ (ag aP (af 1) (gC (.int 1))) (az 2 aE (aa (af 0) (aa (gC (.int 4)) aj)))) aj))))
def cg:List Wv->Hs->Re Wv:=bh 2 jz
def jA:Ct:=cB gJ ["row","spot"] [] [("_law_digit",2,aE)]
theorem vE:aU 30 (jA) (defBody gJ)=jz:=by kernel_rfl
theorem sO:FnScope (jA).N ["row","spot"] (defScope gJ):=f7 ⟨rfl,rfl,rfl,rfl⟩ (by decide+kernel)
abbrev iy:Stmt:=top 41
def kH:GS:=(aI (bB 2 (az 2 aE (aa (af 0) (aa (gC (.int 8)) aj))))
  (aI (c9 (a_ (ag oEq (af 2) (gC (.int 0)))) (aJ (bI (aa (gC (.str "num")) (aa (az 1 et (aa (af 0) aj)) aj)))) aL)
  (aI (c9 (a_ (ag oEq (af 2) (gC (.int 1)))) (aJ (bI (aa (gC (.str "text")) (aa (ag aP (fq (aa (gC (.str "")) (aa (gC (.str "a")) (aa (gC (.str "b7")) (aa (gC (.str "no")) aj))))) (az 2 aE (aa (af 0) (aa (gC (.int 4)) aj)))) aj)))) aL)
  (aI (c9 (BN (a_ (ag oEq (af 2) (gC (.int 2)))) (a_ (ag oEq (az 2 aE (aa (af 0) (aa (gC (.int 3)) aj))) (gC (.int 0))))) (aJ (bI (aa (gC (.str "lost")) aj))) aL)
  (aI (c9 (a_ (ag oLt (af 2) (gC (.int 6)))) (aJ (bI (aa (gC (.str "at")) (aa (az 2 cg (aa (af 0) (aa (af 1) aj))) (aa (az 2 bV (aa (af 0) (aa (gC (.int 2)) aj))) aj))))) aL)
  (aI (bB 3 (ag aP (fq (aa (gC (.str "sum")) (aa (gC (.str "count")) (aa (gC (.str "least")) (aa (gC (.str "greatest")) aj))))) (az 2 aE (aa (af 0) (aa (gC (.int 4)) aj)))))
  (aI (bB 4 (az 2 de (aa (af 0) (aa (af 1) aj))))
  (aJ (bI (aa (af 3) (aa (af 4) (aa (az 2 bV (aa (af 0) (aa (gC (.int 4)) aj))) aj))))))))))))
def df:List Wv->Hs->Re Wv:=bh 5 kH
def kI:Ct:=cB iy ["row","spot","way","word","area"] [] [("_law_digit",2,aE),("_law_area",2,de),("_law_pins",2,bV),("_law_number",1,et),("_law_place",2,cg)]
theorem xE:aU 30 (kI) (defBody iy)=kH:=by kernel_rfl
theorem vF:FnScope (kI).N ["row","spot"] (defScope iy):=f7 ⟨rfl,rfl,rfl,rfl⟩ (by decide+kernel)
abbrev fc:Stmt:=top 42
def fe(aV:List Wv->Hs->Re Wv):GS:=(aI (c9 (a_ (ag oEq (af 2) (gC (.int 0)))) (aJ (az 2 df (aa (af 0) (aa (af 1) aj)))) aL)
  (aI (bB 3 (az 2 aE (aa (af 0) (aa (gC (.int 16)) aj))))
  (aI (c9 (a_ (ag oLt (af 3) (gC (.int 3)))) (aJ (az 2 df (aa (af 0) (aa (af 1) aj)))) aL)
  (aI (bB 4 (az 3 aV (aa (af 0) (aa (af 1) (aa (ag ke (af 2) (gC (.int 1))) aj)))))
  (aI (c9 (a_ (ag oLt (af 3) (gC (.int 5)))) (aJ (bI (aa (ag aP (fq (aa (gC (.str "minus")) (aa (gC (.str "not")) aj))) (ag ke (af 3) (gC (.int 3)))) (aa (af 4) aj)))) aL)
  (aI (c9 (a_ (ag oEq (af 3) (gC (.int 5)))) (aJ (bI (aa (gC (.str "find")) (aa (af 4) (aa (az 2 de (aa (af 0) (aa (af 1) aj))) (aa (az 2 bV (aa (af 0) (aa (gC (.int 4)) aj))) aj)))))) aL)
  (aI (bB 5 (az 3 aV (aa (af 0) (aa (af 1) (aa (ag ke (af 2) (gC (.int 1))) aj)))))
  (aI (c9 (a_ (ag oLt (af 3) (gC (.int 8)))) (aJ (bI (aa (gC (.str "if")) (aa (af 4) (aa (af 5) (aa (az 3 aV (aa (af 0) (aa (af 1) (aa (ag ke (af 2) (gC (.int 1))) aj)))) aj)))))) aL)
  (aI (c9 (a_ (ag oEq (af 3) (gC (.int 15)))) (aJ (bI (aa (ag aP (fq (aa (gC (.str "=")) (aa (gC (.str "&")) aj))) (az 2 aE (aa (af 0) (aa (gC (.int 2)) aj)))) (aa (af 4) (aa (af 5) aj))))) aL)
  (aJ (bI (aa (ag aP (fq (aa (gC (.str "else")) (aa (gC (.str "rest")) (aa (gC (.str "+")) (aa (gC (.str "-")) (aa (gC (.str "*")) (aa (gC (.str "/")) (aa (gC (.str "<")) aj)))))))) (ag ke (af 3) (gC (.int 8)))) (aa (af 4) (aa (af 5) aj))))))))))))))
def kJ(aV:List Wv->Hs->Re Wv):Ct where
  N:=["row","spot","deep","way","one","other"]
  names:=(defScope fc).names
  consts:=[]
  bl:=[]
  fns:=[("_law_digit",2,aE),("_law_formula",3,aV),("_law_leaf",2,df),("_law_area",2,de),("_law_pins",2,bV)]
  tb:=eT
  tt:=cA
  tc:=vw
theorem rK(aV:List Wv->Hs->Re Wv):aU 30 (kJ aV) (defBody fc)=fe aV:=by kernel_rfl
theorem pz(aV:List Wv->Hs->Re Wv):FnScope ["row","spot","deep","way","one","other"] ["row","spot","deep"] (defScope fc):=f7 ⟨rfl,rfl,rfl,rfl⟩ (by decide+kernel)
def jT:Nat->(List Wv->Hs->Re Wv)
  | 0=>w8
  | n+1=>bh 6 (fe ((jT n)))
def bW(n:Nat):List Wv->Hs->Re Wv:=(jT n)
theorem lN(n:Nat):bW (n+1)=bh 6 (fe (bW n)):=rfl
def aV:List Wv->Hs->Re Wv:=bW 6
abbrev gK:Stmt:=top 48
def fz:GT:=(BN (cb (aR (cU eT cA) (aa (af 0) (aa (gC (.ty "tuple")) aj)))) (cb (aR (cU eT cA) (aa (ag aP (af 0) (gC (.int 0))) (aa (gC (.ty "str")) aj)))))
def iV:GE:=(af 0)
def jB:GS:=(aJ (iQ [] (gW (gE (af 0) (mV (gC (.int 1))) jh)) fz iV))
def cj:List Wv->Hs->Re Wv:=bh 1 jB
def jC:Ct:=cB gK ["formula"] ["isinstance","tuple","str"] []
theorem vG:aU 30 (jC) (defBody gK)=jB:=by kernel_rfl
theorem sP:FnScope (jC).N ["formula"] (defScope gK):=f7 ⟨rfl,rfl,rfl,rfl⟩ (by decide+kernel)
abbrev fQ:Stmt:=top 49
def dS(a8:List Wv->Hs->Re Wv):GS:=(bB 1 (ag c_ (af 1) (az 1 a8 (aa (af 2) aj))))
def fR(a8:List Wv->Hs->Re Wv):GS:=(aI (bB 1 (fq (aa (af 0) aj)))
  (aI (qL 2 (az 1 cj (aa (af 0) aj)) (dS a8))
  (aJ (af 1))))
def lV(a8:List Wv->Hs->Re Wv):Ct where
  N:=["formula","found","part"]
  names:=(defScope fQ).names
  consts:=[]
  bl:=[]
  fns:=[("_law_parts",1,cj),("_law_pieces",1,a8)]
  tb:=eT
  tt:=cA
  tc:=vw
theorem sQ(a8:List Wv->Hs->Re Wv):aU 30 (lV a8) (defBody fQ)=fR a8:=by kernel_rfl
theorem rL(a8:List Wv->Hs->Re Wv):FnScope ["formula","found","part"] ["formula"] (defScope fQ):=f7 ⟨rfl,rfl,rfl,rfl⟩ (by decide+kernel)
def kK:Nat->(List Wv->Hs->Re Wv)
  | 0=>w8
  | n+1=>bh 3 (fR ((kK n)))
def bH(n:Nat):List Wv->Hs->Re Wv:=(kK n)
theorem mq(n:Nat):bH (n+1)=bh 3 (fR (bH n)):=rfl
def a8:List Wv->Hs->Re Wv:=bH 8
abbrev dU:Stmt:=L2.inClass (top 22) 0
def fA:GS:=(aI (lS "Look" "worths" (af 1) (af 0))
  (aI (lS "Look" "waiting" (af 2) (af 0))
  (lS "Look" "met" AM (af 0))))
def bP:List Wv->Hs->Re Wv:=bh 3 fA
def fB:Ct:={ cB dU ["self","worths","waiting"] [] [] with it:={ c:="Look",AO:=[],ini:=[],own:=["worths","waiting","met"] },KI:=["met"] }
theorem om:aU 30 (fB) (defBody dU)=fA:=by kernel_rfl
theorem nq:FnScope (fB).N ["self","worths","waiting"] (defScope dU):=f7 ⟨rfl,rfl,rfl,rfl⟩ (by decide+kernel)
abbrev iz:Stmt:=top 4
def kL:GS:=(aJ (AG fN (af 0)))
def fY:List Wv->Hs->Re Wv:=bh 1 kL
def kM:Ct:={ cB iz ["word"] [] [] with AR:=[("PART_COUNTS",fN)] }
theorem xF:aU 30 (kM) (defBody iz)=kL:=by kernel_rfl
theorem vH:FnScope (kM).N ["word"] (defScope iz):=f7 ⟨rfl,rfl,rfl,rfl⟩ (by decide+kernel)
abbrev jD:Stmt:=top 5
def mr:GS:=(aJ (gE (af 0) (mV (gC (.int 1))) (mV (ag c_ (gC (.int 1)) (az 1 fY (aa (ag aP (af 0) (gC (.int 0))) aj))))))
def b9:List Wv->Hs->Re Wv:=bh 1 mr
def mv:Ct:=cB jD ["formula"] [] [("part_many",1,fY)]
theorem zm:aU 30 (mv) (defBody jD)=mr:=by kernel_rfl
theorem xG:FnScope (mv).N ["formula"] (defScope jD):=f7 ⟨rfl,rfl,rfl,rfl⟩ (by decide+kernel)
abbrev dW:Stmt:=top 1
def dM:GT:=(λ_ st=> .ok true st)
def cQ:GE:=(bI (aa (af 1) (aa (af 0) aj)))
def cV:GS:=(mW (lR xb (af 1) (iQ [("row",2)] (EB (aa (ag aP (af 0) (gC (.int 1))) (aa (ag c_ (ag aP (af 0) (gC (.int 3))) (gC (.int 1))) aj))) dM cQ)))
def dX:GS:=(aI (bB 1 (fq aj))
  (aI (u9 2 (aa (ag aP (af 0) (gC (.int 0))) (aa (ag c_ (ag aP (af 0) (gC (.int 2))) (gC (.int 1))) aj)) cV)
  (aJ (af 1))))
def cZ:List Wv->Hs->Re Wv:=bh 3 dX
def fD:Ct:=cB dW ["area","places","row"] ["range"] []
theorem oo:aU 30 (fD) (defBody dW)=dX:=by kernel_rfl
theorem nr:FnScope (fD).N ["area"] (defScope dW):=f7 ⟨rfl,rfl,rfl,rfl⟩ (by decide+kernel)
abbrev dY:Stmt:=L2.inClass (top 22) 1
def fF:GS:=(aJ (lK (a_ (ag (kr false) (af 1) (iR "Look" "waiting" (af 0)))) (bI (aa (gC (.str "waits")) (aa (af 1) aj))) (mh (iR "Look" "worths" (af 0)) (af 1))))
def bp:List Wv->Hs->Re Wv:=bh 2 fF
def fG:Ct:={ cB dY ["self","place"] [] [] with CZ:=["worths"],it:={ c:="Look",AO:=[],ini:=[],own:=["worths","waiting"] },Ck:=["waiting"] }
theorem oq:aU 30 (fG) (defBody dY)=fF:=by kernel_rfl
theorem nu:FnScope (fG).N ["self","place"] (defScope dY):=f7 ⟨rfl,rfl,rfl,rfl⟩ (by decide+kernel)
abbrev pX:Stmt:=top 23
def A5:GS:=(aJ (aR (cU eT cA) (aa (af 0) (aa (gC (.ty "tuple")) aj))))
def b7:List Wv->Hs->Re Wv:=bh 1 A5
def vI:Ct:=cB pX ["standing"] ["isinstance","tuple"] []
theorem JD:aU 30 (vI) (defBody pX)=A5:=by kernel_rfl
theorem FX:FnScope (vI).N ["standing"] (defScope pX):=f7 ⟨rfl,rfl,rfl,rfl⟩ (by decide+kernel)
abbrev jE:Stmt:=top 9
def rM:GS:=(aJ (oS (aR (cU eT cA) (aa (af 0) (aa (gC (.ty "tuple")) aj))) (ag oEq (gE (af 0) jh (mV (gC (.int 1)))) (bI (aa (gC (.str "fault")) aj)))))
def aX:List Wv->Hs->Re Wv:=bh 1 rM
def mw:Ct:=cB jE ["worth"] ["isinstance","tuple"] []
theorem zo:aU 30 (mw) (defBody jE)=rM:=by kernel_rfl
theorem xH:FnScope (mw).N ["worth"] (defScope jE):=f7 ⟨rfl,rfl,rfl,rfl⟩ (by decide+kernel)
abbrev gL:Stmt:=top 12
def ny:GS:=(aI (c9 (uX (cb (az 1 aX (aa (af 0) aj))) (cb (az 1 aX (aa (af 1) aj)))) (aJ (gC (.bl false))) aL)
  (aI (c9 (a_ (ag GX (af 0) (gC .non))) (aJ (ag m7 (af 1) (bI (aa (gC .non) (aa (gC (.int 0)) (aa (gC (.str "")) aj)))))) aL)
  (aI (c9 (a_ (ag GX (af 1) (gC .non))) (aJ (ag m7 (af 0) (bI (aa (gC (.int 0)) (aa (gC (.str "")) aj))))) aL)
  (aJ (ag oEq (af 0) (af 1))))))
def dZ:List Wv->Hs->Re Wv:=bh 2 ny
def jF:Ct:=cB gL ["one","other"] [] [("is_fault",1,aX)]
theorem vJ:aU 30 (jF) (defBody gL)=ny:=by kernel_rfl
theorem sR:FnScope (jF).N ["one","other"] (defScope gL):=f7 ⟨rfl,rfl,rfl,rfl⟩ (by decide+kernel)
abbrev vK:Stmt:=top 24
def zp:GS:=(aJ (oS (ag oZ (af 1) (gC .non)) (oS (ag oZ (af 0) (gC .non)) (az 2 dZ (aa (af 0) (aa (af 1) aj))))))
def mx:List Wv->Hs->Re Wv:=bh 2 zp
def zq:Ct:=cB vK ["standing","key"] [] [("same_worth",2,dZ)]
theorem Oh:aU 30 (zq) (defBody vK)=zp:=by kernel_rfl
theorem JF:FnScope (zq).N ["standing","key"] (defScope vK):=f7 ⟨rfl,rfl,rfl,rfl⟩ (by decide+kernel)
abbrev eI:Stmt:=L2.inClass (top 22) 3
def cD:GS:=(aI (mW (lR ji (af 3) (lM "Look" "standing" 2 bp (af 0) (aa (af 4) aj))))
  (c9 (uX (cb (az 1 b7 (aa (ag aP (af 3) (ye gq (gC (.int 1)))) aj))) (cb (az 2 mx (aa (ag aP (af 3) (ye gq (gC (.int 1)))) (aa (af 2) aj))))) (aI (lT (gC (.bl true)) (iR "Look" "met" (af 0)) (bI (aa (gC (.str "part")) (aa (af 1) (aa (af 4) aj)))))
    (aJ (af 3))) aL))
def gf:GS:=(aI (bB 3 (fq aj))
  (aI (qL 4 (az 1 cZ (aa (af 1) aj)) cD)
  (aI (lT (gC (.bl true)) (iR "Look" "met" (af 0)) (bI (aa (gC (.str "part")) (aa (af 1) (aa (gE (af 1) (mV (gC (.int 2))) jh) aj)))))
  (aJ (af 3)))))
def bt:List Wv->Hs->Re Wv:=bh 5 gf
def gj:Ct:={ cB eI ["self","area","key","standings","place"] [] [("places_between",1,cZ),("halts",1,b7),("fits",2,mx)] with it:={ c:="Look",AO:=[("standing",2,bp)],ini:=[],own:=["met"] },KI:=["met"] }
theorem pA:aU 30 (gj) (defBody eI)=gf:=by kernel_rfl
theorem ou:FnScope (gj).N ["self","area","key"] (defScope eI):=f7 ⟨rfl,rfl,rfl,rfl⟩ (by decide+kernel)
abbrev jG:Stmt:=top 10
def my:GS:=(aJ (ag QJ (aR Ij (aa (af 0) aj)) (ag jf (gC (.int 10)) (gC (.int 60)))))
def hG:List Wv->Hs->Re Wv:=bh 1 my
def mz:Ct:=cB jG ["number"] ["abs"] []
theorem zr:aU 30 (mz) (defBody jG)=my:=by kernel_rfl
theorem xI:FnScope (mz).N ["number"] (defScope jG):=f7 ⟨rfl,rfl,rfl,rfl⟩ (by decide+kernel)
abbrev pY:Stmt:=top 8
def A6:GS:=(aJ (bI (aa (gC (.str "fault")) (aa (af 0) aj))))
def bG:List Wv->Hs->Re Wv:=bh 1 A6
def vL:Ct:=cB pY ["word"] [] []
theorem JG:aU 30 (vL) (defBody pY)=A6:=by kernel_rfl
theorem FY:FnScope (vL).N ["word"] (defScope pY):=f7 ⟨rfl,rfl,rfl,rfl⟩ (by decide+kernel)
abbrev lD:Stmt:=top 11
def ow:GS:=(aJ (lK (cb (az 1 hG (aa (af 0) aj))) (az 1 bG (aa (gC (.str "great")) aj)) (af 0)))
def bQ:List Wv->Hs->Re Wv:=bh 1 ow
def oy:Ct:=cB lD ["number"] [] [("is_great",1,hG),("fault",1,bG)]
theorem CB:aU 30 (oy) (defBody lD)=ow:=by kernel_rfl
theorem zt:FnScope (oy).N ["number"] (defScope lD):=f7 ⟨rfl,rfl,rfl,rfl⟩ (by decide+kernel)
abbrev jH:Stmt:=top 20
def hI:GT:=(cb (aR (cU eT cA) (aa (af 0) (aa (gC (.ty "int")) aj))))
def kN:GE:=(af 0)
def hJ:GT:=(cb (az 1 aX (aa (af 0) aj)))
def kO:GE:=(af 0)
def jI:GS:=(aI (bB 2 (iQ [] (gW (af 1)) hJ kO))
  (aI (c9 (cb (af 2)) (aJ (ag aP (af 2) (gC (.int 0)))) aL)
  (aI (bB 3 (iQ [] (gW (af 1)) hI kN))
  (aI (c9 (a_ (ag oEq (af 0) (gC (.str "sum")))) (aJ (az 1 bQ (aa (aR B1 (aa (af 3) aj)) aj))) aL)
  (aI (c9 (a_ (ag oEq (af 0) (gC (.str "count")))) (aJ (aR lL (aa (af 3) aj))) aL)
  (aI (c9 (sC (cb (af 3))) (aJ (az 1 bG (aa (gC (.str "none")) aj))) aL)
  (aJ (az 1 bQ (aa (lK (a_ (ag oEq (af 0) (gC (.str "least")))) (aR oW (aa (af 3) aj)) (aR oV (aa (af 3) aj))) aj)))))))))
def fH:List Wv->Hs->Re Wv:=bh 4 jI
def mB:Ct:=cB jH ["word","worths","faults","numbers"] ["len","isinstance","int","sum","min","max"] [("bounded",1,bQ),("fault",1,bG),("is_fault",1,aX)]
theorem zu:aU 30 (mB) (defBody jH)=jI:=by kernel_rfl
theorem xJ:FnScope (mB).N ["word","worths"] (defScope jH):=f7 ⟨rfl,rfl,rfl,rfl⟩ (by decide+kernel)
abbrev cW:Stmt:=top 29
def cX:GS:=(aI (bB 3 (lM "Look" "stretch" 3 bt (af 2) (aa (af 1) (aa (gC .non) aj))))
  (aJ (lK (cb (az 1 b7 (aa (ag aP (af 3) (ye gq (gC (.int 1)))) aj))) (ag aP (af 3) (ye gq (gC (.int 1)))) (az 2 fH (aa (af 0) (aa (af 3) aj))))))
def bL:List Wv->Hs->Re Wv:=bh 4 cX
def ef:Ct:={ cB cW ["word","area","look","standings"] [] [("halts",1,b7),("gathered",2,fH)] with it:={ c:="Look",AO:=[("stretch",3,bt)],ini:=[],own:=[] } }
theorem lO:aU 30 (ef) (defBody cW)=cX:=by kernel_rfl
theorem kP:FnScope (ef).N ["word","area","look"] (defScope cW):=f7 ⟨rfl,rfl,rfl,rfl⟩ (by decide+kernel)
abbrev gM:Stmt:=L2.inClass (top 22) 2
def jJ:GS:=(aI (lT (gC (.bl true)) (iR "Look" "met" (af 0)) (bI (aa (gC (.str "at")) (aa (af 1) aj))))
  (aJ (lM "Look" "standing" 2 bp (af 0) (aa (af 1) aj))))
def cm:List Wv->Hs->Re Wv:=bh 2 jJ
def jK:Ct:={ cB gM ["self","place"] [] [] with it:={ c:="Look",AO:=[("standing",2,bp)],ini:=[],own:=["met"] },KI:=["met"] }
theorem vM:aU 30 (jK) (defBody gM)=jJ:=by kernel_rfl
theorem sS:FnScope (jK).N ["self","place"] (defScope gM):=f7 ⟨rfl,rfl,rfl,rfl⟩ (by decide+kernel)
abbrev iA:Stmt:=top 13
def o_:GS:=(aJ (lK (a_ (ag GX (af 0) (gC .non))) (gC (.int 0)) (af 0)))
def cu:List Wv->Hs->Re Wv:=bh 1 o_
def kQ:Ct:=cB iA ["worth"] [] []
theorem xK:aU 30 (kQ) (defBody iA)=o_:=by kernel_rfl
theorem vN:FnScope (kQ).N ["worth"] (defScope iA):=f7 ⟨rfl,rfl,rfl,rfl⟩ (by decide+kernel)
abbrev nz:Stmt:=top 15
def hR:GS:=(aI (c9 (cb (az 1 aX (aa (af 1) aj))) (aJ (af 1)) aL)
  (aI (c9 (cb (aR (cU eT cA) (aa (af 1) (aa (gC (.ty "str")) aj)))) (aJ (az 1 bG (aa (gC (.str "kind")) aj))) aL)
  (aI (bB 2 (az 1 cu (aa (af 1) aj)))
  (aI (c9 (a_ (ag oEq (af 0) (gC (.str "minus")))) (aJ (az 1 bQ (aa (ye gq (af 2)) aj))) aL)
  (aJ (lK (a_ (ag oEq (af 2) (gC (.int 0)))) (gC (.int 1)) (gC (.int 0))))))))
def cE:List Wv->Hs->Re Wv:=bh 3 hR
def rN:Ct:=cB nz ["word","one","number"] ["isinstance","str"] [("is_fault",1,aX),("number_of",1,cu),("fault",1,bG),("bounded",1,bQ)]
theorem FZ:aU 30 (rN) (defBody nz)=hR:=by kernel_rfl
theorem CC:FnScope (rN).N ["word","one"] (defScope nz):=f7 ⟨rfl,rfl,rfl,rfl⟩ (by decide+kernel)
abbrev jL:Stmt:=top 19
def dk:GS:=(aI (c9 (a_ (ag oEq (af 0) (gC (.str "+")))) (aJ (az 1 bQ (aa (ag c_ (af 1) (af 2)) aj))) aL)
  (aI (c9 (a_ (ag oEq (af 0) (gC (.str "-")))) (aJ (az 1 bQ (aa (ag ke (af 1) (af 2)) aj))) aL)
  (aI (c9 (a_ (ag oEq (af 0) (gC (.str "*")))) (aJ (az 1 bQ (aa (ag dy (af 1) (af 2)) aj))) aL)
  (aI (c9 (a_ (ag oEq (af 2) (gC (.int 0)))) (aJ (az 1 bG (aa (gC (.str "nought")) aj))) aL)
  (aI (c9 (a_ (ag oEq (af 0) (gC (.str "/")))) (aJ (az 1 bQ (aa (ag fi (af 1) (af 2)) aj))) aL)
  (aJ (az 1 bQ (aa (ag oMod (af 1) (af 2)) aj))))))))
def cF:List Wv->Hs->Re Wv:=bh 3 dk
def mC:Ct:=cB jL ["op","number","other"] [] [("bounded",1,bQ),("fault",1,bG)]
theorem zv:aU 30 (mC) (defBody jL)=dk:=by kernel_rfl
theorem xM:FnScope (mC).N ["op","number","other"] (defScope jL):=f7 ⟨rfl,rfl,rfl,rfl⟩ (by decide+kernel)
abbrev lE:Stmt:=top 14
def lF:GS:=(aJ (lK (a_ (ag GX (af 0) (gC .non))) (gC (.str "")) (aR tM (aa (af 0) aj))))
def eQ:List Wv->Hs->Re Wv:=bh 1 lF
def oz:Ct:=cB lE ["worth"] ["str"] []
theorem CD:aU 30 (oz) (defBody lE)=lF:=by kernel_rfl
theorem zw:FnScope (oz).N ["worth"] (defScope lE):=f7 ⟨rfl,rfl,rfl,rfl⟩ (by decide+kernel)
abbrev nA:Stmt:=top 17
def nB:GS:=(aI (bB 2 (ag c_ (az 1 eQ (aa (af 0) aj)) (az 1 eQ (aa (af 1) aj))))
  (aJ (lK (a_ (ag QJ (aR lL (aa (af 2) aj)) (gC (.int 200)))) (az 1 bG (aa (gC (.str "great")) aj)) (af 2))))
def nC:List Wv->Hs->Re Wv:=bh 3 nB
def rO:Ct:={ cB nA ["one","other","text"] ["len"] [("text_of",1,eQ),("fault",1,bG)] with consts:=[("MOST_JOINED",(.int 200))] }
theorem F0:aU 30 (rO) (defBody nA)=nB:=by kernel_rfl
theorem CF:FnScope (rO).N ["one","other"] (defScope nA):=f7 ⟨rfl,rfl,rfl,rfl⟩ (by decide+kernel)
abbrev vO:Stmt:=top 18
def vP:GS:=(aI (c9 (uX (cb (aR (cU eT cA) (aa (af 0) (aa (gC (.ty "str")) aj)))) (cb (aR (cU eT cA) (aa (af 1) (aa (gC (.ty "str")) aj))))) (aI (c9 (uX (cb (aR (cU eT cA) (aa (af 0) (aa (gC (.ty "int")) aj)))) (cb (aR (cU eT cA) (aa (af 1) (aa (gC (.ty "int")) aj))))) (aJ (az 1 bG (aa (gC (.str "kind")) aj))) aL)
    (aJ (lK (a_ (ag oLt (az 1 eQ (aa (af 0) aj)) (az 1 eQ (aa (af 1) aj)))) (gC (.int 1)) (gC (.int 0))))) aL)
  (aJ (lK (a_ (ag oLt (az 1 cu (aa (af 0) aj)) (az 1 cu (aa (af 1) aj)))) (gC (.int 1)) (gC (.int 0)))))
def vQ:List Wv->Hs->Re Wv:=bh 2 vP
def zy:Ct:=cB vO ["one","other"] ["isinstance","str","int"] [("fault",1,bG),("number_of",1,cu),("text_of",1,eQ)]
theorem Oi:aU 30 (zy) (defBody vO)=vP:=by kernel_rfl
theorem JH:FnScope (zy).N ["one","other"] (defScope vO):=f7 ⟨rfl,rfl,rfl,rfl⟩ (by decide+kernel)
abbrev nD:Stmt:=top 16
def dO:GS:=(aI (c9 (cb (az 1 aX (aa (af 1) aj))) (aJ (af 1)) aL)
  (aI (c9 (cb (az 1 aX (aa (af 2) aj))) (aJ (af 2)) aL)
  (aI (c9 (a_ (ag oEq (af 0) (gC (.str "=")))) (aJ (lK (cb (az 2 dZ (aa (af 1) (aa (af 2) aj)))) (gC (.int 1)) (gC (.int 0)))) aL)
  (aI (c9 (a_ (ag oEq (af 0) (gC (.str "&")))) (aJ (az 2 nC (aa (af 1) (aa (af 2) aj)))) aL)
  (aI (c9 (a_ (ag oEq (af 0) (gC (.str "<")))) (aJ (az 2 vQ (aa (af 1) (aa (af 2) aj)))) aL)
  (aI (c9 (uX (cb (aR (cU eT cA) (aa (af 1) (aa (gC (.ty "str")) aj)))) (cb (aR (cU eT cA) (aa (af 2) (aa (gC (.ty "str")) aj))))) (aJ (az 1 bG (aa (gC (.str "kind")) aj))) aL)
  (aJ (az 3 cF (aa (af 0) (aa (az 1 cu (aa (af 1) aj)) (aa (az 1 cu (aa (af 2) aj)) aj)))))))))))
def bX:List Wv->Hs->Re Wv:=bh 3 dO
def rP:Ct:=cB nD ["op","one","other"] ["isinstance","str"] [("is_fault",1,aX),("reckoned",3,cF),("joined",2,nC),("less",2,vQ),("fault",1,bG),("number_of",1,cu),("same_worth",2,dZ)]
theorem F1:aU 30 (rP) (defBody nD)=dO:=by kernel_rfl
theorem CG:FnScope (rP).N ["op","one","other"] (defScope nD):=f7 ⟨rfl,rfl,rfl,rfl⟩ (by decide+kernel)
abbrev fS:Stmt:=top 27
def cz(aD au av ah ak:List Wv->Hs->Re Wv):GS:=(aI (bB 2 (az 2 ak (aa (ag aP (af 0) (gC (.int 1))) (aa (af 1) aj))))
  (aI (c9 (cb (az 1 b7 (aa (af 2) aj))) (aJ (af 2)) aL)
  (aI (bB 3 (az 2 cE (aa (gC (.str "not")) (aa (af 2) aj))))
  (aI (c9 (cb (az 1 aX (aa (af 3) aj))) (aJ (af 3)) aL)
  (aJ (az 2 ak (aa (lK (a_ (ag oEq (af 3) (gC (.int 1)))) (ag aP (af 0) (gC (.int 3))) (ag aP (af 0) (gC (.int 2)))) (aa (af 1) aj))))))))
def lW(aD au av ah ak:List Wv->Hs->Re Wv):Ct where
  N:=["formula","look","asked","denied"]
  names:=(defScope fS).names
  consts:=[]
  bl:=[]
  fns:=[("gone_through",2,ak),("halts",1,b7),("single",2,cE),("is_fault",1,aX)]
  tb:=eT
  tt:=cA
  tc:=vw
theorem sU(aD au av ah ak:List Wv->Hs->Re Wv):aU 30 (lW aD au av ah ak) (defBody fS)=cz aD au av ah ak:=by kernel_rfl
theorem rQ(aD au av ah ak:List Wv->Hs->Re Wv):FnScope ["formula","look","asked","denied"] ["formula","look"] (defScope fS):=f7 ⟨rfl,rfl,rfl,rfl⟩ (by decide+kernel)
abbrev eJ:Stmt:=top 28
def dz(aD au av ah ak:List Wv->Hs->Re Wv):GS:=(aI (bB 2 (az 2 ak (aa (ag aP (af 0) (gC (.int 1))) (aa (af 1) aj))))
  (aJ (lK (cb (az 1 aX (aa (af 2) aj))) (az 2 ak (aa (ag aP (af 0) (gC (.int 2))) (aa (af 1) aj))) (af 2))))
def jU(aD au av ah ak:List Wv->Hs->Re Wv):Ct where
  N:=["formula","look","standing"]
  names:=(defScope eJ).names
  consts:=[]
  bl:=[]
  fns:=[("gone_through",2,ak),("is_fault",1,aX)]
  tb:=eT
  tt:=cA
  tc:=vw
theorem pB(aD au av ah ak:List Wv->Hs->Re Wv):aU 30 (jU aD au av ah ak) (defBody eJ)=dz aD au av ah ak:=by kernel_rfl
theorem oA(aD au av ah ak:List Wv->Hs->Re Wv):FnScope ["formula","look","standing"] ["formula","look"] (defScope eJ):=f7 ⟨rfl,rfl,rfl,rfl⟩ (by decide+kernel)
abbrev eK:Stmt:=top 30
def bu(aD au av ah ak:List Wv->Hs->Re Wv):GS:=(aI (bB 2 (az 2 ak (aa (ag aP (af 0) (gC (.int 1))) (aa (af 1) aj))))
  (aI (c9 (cb (az 1 b7 (aa (af 2) aj))) (aJ (af 2)) aL)
  (aI (c9 (a_ (ag GX (af 2) (gC .non))) (aJ (az 1 bG (aa (gC (.str "none")) aj))) aL)
  (aI (bB 3 (ag aP (af 0) (gC (.int 2))))
  (aI (bB 4 (lM "Look" "stretch" 3 bt (af 1) (aa (bI (aa (ag aP (af 3) (gC (.int 0))) (aa (ag aP (af 3) (gC (.int 1))) (aa (ag aP (af 3) (gC (.int 2))) (aa (ag aP (af 3) (gC (.int 1))) aj))))) (aa (af 2) aj))))
  (aI (c9 (cb (az 1 b7 (aa (ag aP (af 4) (ye gq (gC (.int 1)))) aj))) (aJ (ag aP (af 4) (ye gq (gC (.int 1))))) aL)
  (aI (c9 (sC (cb (az 2 mx (aa (ag aP (af 4) (ye gq (gC (.int 1)))) (aa (af 2) aj))))) (aJ (az 1 bG (aa (gC (.str "none")) aj))) aL)
  (aJ (lM "Look" "cell" 2 cm (af 1) (aa (bI (aa (ag ke (ag c_ (ag aP (af 3) (gC (.int 0))) (aR lL (aa (af 4) aj))) (gC (.int 1))) (aa (ag aP (af 3) (gC (.int 3))) aj))) aj))))))))))
def jV(aD au av ah ak:List Wv->Hs->Re Wv):Ct where
  N:=["formula","look","key","area","standings"]
  names:=(defScope eK).names
  consts:=[]
  bl:=["len"]
  fns:=[("gone_through",2,ak),("halts",1,b7),("fault",1,bG),("fits",2,mx)]
  tb:=eT
  tt:=cA
  tc:=vw
  it:={ c:="Look",AO:=[("stretch",3,bt),("cell",2,cm)],ini:=[],own:=[] }
theorem pC(aD au av ah ak:List Wv->Hs->Re Wv):aU 30 (jV aD au av ah ak) (defBody eK)=bu aD au av ah ak:=by kernel_rfl
theorem oB(aD au av ah ak:List Wv->Hs->Re Wv):FnScope ["formula","look","key","area","standings"] ["formula","look"] (defScope eK):=f7 ⟨rfl,rfl,rfl,rfl⟩ (by decide+kernel)
abbrev cY:Stmt:=top 26
def aQ(aD au av ah ak:List Wv->Hs->Re Wv):GS:=(aI (mW (lR ji (af 2) (az 2 ak (aa (af 3) (aa (af 1) aj)))))
  (c9 (cb (az 1 b7 (aa (ag aP (af 2) (ye gq (gC (.int 1)))) aj))) (aJ (ag aP (af 2) (ye gq (gC (.int 1))))) aL))
def b_(aD au av ah ak:List Wv->Hs->Re Wv):GS:=(aI (bB 2 (fq aj))
  (aI (qL 3 (az 1 b9 (aa (af 0) aj)) (aQ aD au av ah ak))
  (aI (c9 (a_ (ag oEq (aR lL (aa (af 2) aj)) (gC (.int 1)))) (aJ (az 2 cE (aa (ag aP (af 0) (gC (.int 0))) (aa (ag aP (af 2) (gC (.int 0))) aj)))) aL)
  (aJ (az 3 bX (aa (ag aP (af 0) (gC (.int 0))) (aa (ag aP (af 2) (gC (.int 0))) (aa (ag aP (af 2) (gC (.int 1))) aj))))))))
def gy(aD au av ah ak:List Wv->Hs->Re Wv):Ct where
  N:=["formula","look","standings","part"]
  names:=(defScope cY).names
  consts:=[]
  bl:=["len"]
  fns:=[("parts_of",1,b9),("paired",3,bX),("halts",1,b7),("single",2,cE),("gone_through",2,ak)]
  tb:=eT
  tt:=cA
  tc:=vw
theorem lP(aD au av ah ak:List Wv->Hs->Re Wv):aU 30 (gy aD au av ah ak) (defBody cY)=b_ aD au av ah ak:=by kernel_rfl
theorem kR(aD au av ah ak:List Wv->Hs->Re Wv):FnScope ["formula","look","standings","part"] ["formula","look"] (defScope cY):=f7 ⟨rfl,rfl,rfl,rfl⟩ (by decide+kernel)
abbrev ff:Stmt:=top 25
def bg(aD au av ah ak:List Wv->Hs->Re Wv):GS:=(aI (bB 2 (ag aP (af 0) (gC (.int 0))))
  (aI (c9 (uX (a_ (ag oEq (af 2) (gC (.str "num")))) (a_ (ag oEq (af 2) (gC (.str "text"))))) (aJ (ag aP (af 0) (gC (.int 1)))) aL)
  (aI (c9 (a_ (ag oEq (af 2) (gC (.str "lost")))) (aJ (az 1 bG (aa (gC (.str "lost")) aj))) aL)
  (aI (c9 (a_ (ag oEq (af 2) (gC (.str "at")))) (aJ (lM "Look" "cell" 2 cm (af 1) (aa (ag aP (af 0) (gC (.int 1))) aj))) aL)
  (aI (c9 (a_ (ag oEq (af 2) (gC (.str "if")))) (aJ (az 2 aD (aa (af 0) (aa (af 1) aj)))) aL)
  (aI (c9 (a_ (ag oEq (af 2) (gC (.str "else")))) (aJ (az 2 au (aa (af 0) (aa (af 1) aj)))) aL)
  (aI (c9 (a_ (ag oEq (af 2) (gC (.str "find")))) (aJ (az 2 av (aa (af 0) (aa (af 1) aj)))) aL)
  (aI (c9 (cb (az 1 b9 (aa (af 0) aj))) (aJ (az 2 ah (aa (af 0) (aa (af 1) aj)))) aL)
  (aJ (az 3 bL (aa (af 2) (aa (ag aP (af 0) (gC (.int 1))) (aa (af 1) aj)))))))))))))
def kT(aD au av ah ak:List Wv->Hs->Re Wv):Ct where
  N:=["formula","look","word"]
  names:=(defScope ff).names
  consts:=[]
  bl:=[]
  fns:=[("parts_of",1,b9),("gathered_standing",3,bL),("fault",1,bG),("if_standing",2,aD),("else_standing",2,au),("find_standing",2,av),("reckoned_standing",2,ah)]
  tb:=eT
  tt:=cA
  tc:=vw
  it:={ c:="Look",AO:=[("cell",2,cm)],ini:=[],own:=[] }
theorem rR(aD au av ah ak:List Wv->Hs->Re Wv):aU 30 (kT aD au av ah ak) (defBody ff)=bg aD au av ah ak:=by kernel_rfl
theorem pD(aD au av ah ak:List Wv->Hs->Re Wv):FnScope ["formula","look","word"] ["formula","look"] (defScope ff):=f7 ⟨rfl,rfl,rfl,rfl⟩ (by decide+kernel)
def aF:Nat->(List Wv->Hs->Re Wv)×(List Wv->Hs->Re Wv)×(List Wv->Hs->Re Wv)×(List Wv->Hs->Re Wv)×(List Wv->Hs->Re Wv)
  | 0=>(w8,w8,w8,w8,w8)
  | n+1=>(bh 4 (cz ((aF n).1) ((aF n).2.1) ((aF n).2.2.1) ((aF n).2.2.2.1) ((aF n).2.2.2.2)),bh 3 (dz ((aF n).1) ((aF n).2.1) ((aF n).2.2.1) ((aF n).2.2.2.1) ((aF n).2.2.2.2)),bh 5 (bu ((aF n).1) ((aF n).2.1) ((aF n).2.2.1) ((aF n).2.2.2.1) ((aF n).2.2.2.2)),bh 4 (b_ ((aF n).1) ((aF n).2.1) ((aF n).2.2.1) ((aF n).2.2.2.1) ((aF n).2.2.2.2)),bh 3 (bg ((aF n).1) ((aF n).2.1) ((aF n).2.2.1) ((aF n).2.2.2.1) ((aF n).2.2.2.2)))
def aG(n:Nat):List Wv->Hs->Re Wv:=(aF n).1
def ay(n:Nat):List Wv->Hs->Re Wv:=(aF n).2.1
def aA(n:Nat):List Wv->Hs->Re Wv:=(aF n).2.2.1
def ai(n:Nat):List Wv->Hs->Re Wv:=(aF n).2.2.2.1
def ax(n:Nat):List Wv->Hs->Re Wv:=(aF n).2.2.2.2
theorem cG(n:Nat):aG (n+1)=bh 4 (cz (aG n) (ay n) (aA n) (ai n) (ax n)):=rfl
def aD:List Wv->Hs->Re Wv:=aG 10
theorem fZ(n:Nat):ay (n+1)=bh 3 (dz (aG n) (ay n) (aA n) (ai n) (ax n)):=rfl
def au:List Wv->Hs->Re Wv:=ay 10
theorem bF(n:Nat):aA (n+1)=bh 5 (bu (aG n) (ay n) (aA n) (ai n) (ax n)):=rfl
def av:List Wv->Hs->Re Wv:=aA 10
theorem eB(n:Nat):ai (n+1)=bh 4 (b_ (aG n) (ay n) (aA n) (ai n) (ax n)):=rfl
def ah:List Wv->Hs->Re Wv:=ai 10
theorem a5(n:Nat):ax (n+1)=bh 3 (bg (aG n) (ay n) (aA n) (ai n) (ax n)):=rfl
def ak:List Wv->Hs->Re Wv:=ax 10
abbrev lG:Stmt:=top 31
def oC:GS:=(aI (bB 3 (AN "Look" 3 bP (aa (af 1) (aa (af 2) aj))))
  (aI (bB 4 (az 2 ak (aa (af 0) (aa (af 3) aj))))
  (aI (bB 5 (aR t8 (aa (iR "Look" "met" (af 3)) aj)))
  (aI (c9 (BN (cb (az 1 b7 (aa (af 4) aj))) (sC (cb (az 1 aX (aa (af 4) aj))))) (aJ (bI (aa (gC (.str "waits")) (aa (ag aP (af 4) (gC (.int 1))) (aa (af 5) aj))))) aL)
  (aJ (bI (aa (gC (.str "worth")) (aa (af 4) (aa (af 5) aj)))))))))
def eR:List Wv->Hs->Re Wv:=bh 6 oC
def oE:Ct:={ cB lG ["formula","worths","waiting","look","standing","reads"] ["tuple"] [("gone_through",2,ak),("halts",1,b7),("is_fault",1,aX)] with it:={ c:="Look",AO:=[],ini:=[("Look",3,bP)],own:=["met"] },KI:=["met"] }
theorem CH:aU 30 (oE) (defBody lG)=oC:=by kernel_rfl
theorem zz:FnScope (oE).N ["formula","worths","waiting"] (defScope lG):=f7 ⟨rfl,rfl,rfl,rfl⟩ (by decide+kernel)
abbrev gN:Stmt:=top 51
def fI:GT:=(a_ (ag (kr true) (af 0) (af 1)))
def iW:GE:=(af 0)
def jM:GS:=(aI (bB 2 (ag c_ (aR qX (aa (af 0) aj)) (iQ [("first",0)] (gW (ag aP (af 1) (gC (.int 2)))) fI iW)))
  (aJ (bI (aa (ag aP (af 1) (gC (.int 0))) (aa (ag aP (af 1) (gC (.int 1))) (aa (aR qS (aa (af 2) aj)) aj))))))
def bT:List Wv->Hs->Re Wv:=bh 3 jM
def jN:Ct:={ cB gN ["first","second","reads"] ["list","tuple"] [] with Ck:=["first"] }
theorem vR:aU 30 (jN) (defBody gN)=jM:=by kernel_rfl
theorem sV:FnScope (jN).N ["first","second"] (defScope gN):=f7 ⟨rfl,rfl,rfl,rfl⟩ (by decide+kernel)
abbrev jO:Stmt:=top 52
def mD:GS:=(aI (c9 (uX (a_ (ag oEq (ag aP (ag aP (af 1) (gC (.int 0))) (gC (.int 0))) (gC (.str "waits")))) (cb (aR (cU eT cA) (aa (ag aP (ag aP (af 1) (gC (.int 0))) (gC (.int 1))) (aa (gC (.ty "tuple")) aj))))) (aJ (ag aP (af 1) (gC (.int 0)))) aL)
  (aI (bB 2 (az 2 bT (aa (ag aP (ag aP (af 1) (gC (.int 0))) (gC (.int 2))) (aa (ag aP (af 1) (gC (.int 1))) aj))))
  (aI (c9 (a_ (ag oEq (ag aP (af 2) (gC (.int 0))) (gC (.str "waits")))) (aJ (af 2)) aL)
  (aJ (bI (aa (gC (.str "worth")) (aa (az 3 bX (aa (ag aP (af 0) (gC (.int 0))) (aa (ag aP (ag aP (af 1) (gC (.int 0))) (gC (.int 1))) (aa (ag aP (ag aP (af 1) (gC (.int 1))) (gC (.int 1))) aj)))) (aa (ag aP (af 2) (gC (.int 2))) aj))))))))
def fJ:List Wv->Hs->Re Wv:=bh 3 mD
def mE:Ct:=cB jO ["formula","looks","found"] ["isinstance","tuple"] [("_law_after",2,bT),("paired",3,bX)]
theorem zA:aU 30 (mE) (defBody jO)=mD:=by kernel_rfl
theorem xN:FnScope (mE).N ["formula","looks"] (defScope jO):=f7 ⟨rfl,rfl,rfl,rfl⟩ (by decide+kernel)
abbrev d_:Stmt:=top 55
def fK:GS:=(aI (c9 (a_ (ag oEq (ag aP (af 0) (gC (.int 0))) (gC (.str "lost")))) (aJ (bI (aa (gC (.str "worth")) (aa (bI (aa (gC (.str "fault")) (aa (gC (.str "lost")) aj))) (aa (bI aj) aj))))) aL)
  (aI (c9 (a_ (ag uZ (ag aP (af 0) (gC (.int 0))) (gC (.str "at")))) (aJ (bI (aa (gC (.str "worth")) (aa (ag aP (af 0) (gC (.int 1))) (aa (bI aj) aj))))) aL)
  (aI (bB 3 (bI (aa (gC (.str "at")) (aa (ag aP (af 0) (gC (.int 1))) aj))))
  (aI (c9 (a_ (ag (kr false) (ag aP (af 0) (gC (.int 1))) (af 2))) (aJ (bI (aa (gC (.str "waits")) (aa (ag aP (af 0) (gC (.int 1))) (aa (bI (aa (af 3) aj)) aj))))) aL)
  (aJ (bI (aa (gC (.str "worth")) (aa (lx (af 1) (ag aP (af 0) (gC (.int 1))) (gC .non)) (aa (bI (aa (af 3) aj)) aj)))))))))
def c7:List Wv->Hs->Re Wv:=bh 4 fK
def fL:Ct:={ cB d_ ["formula","worths","waiting","item"] [] [] with CZ:=["worths"],Ck:=["waiting"] }
theorem oF:aU 30 (fL) (defBody d_)=fK:=by kernel_rfl
theorem nE:FnScope (fL).N ["formula","worths","waiting"] (defScope d_):=f7 ⟨rfl,rfl,rfl,rfl⟩ (by decide+kernel)
abbrev lH:Stmt:=top 53
def oG:GS:=(aI (bB 1 (ag aP (ag aP (af 0) (gC (.int 0))) (gC (.int 1))))
  (aI (c9 (uX (a_ (ag oEq (ag aP (ag aP (af 0) (gC (.int 0))) (gC (.int 0))) (gC (.str "waits")))) (cb (aR (cU eT cA) (aa (af 1) (aa (gC (.ty "tuple")) aj))))) (aJ (ag aP (af 0) (gC (.int 0)))) aL)
  (aI (c9 (cb (aR (cU eT cA) (aa (af 1) (aa (gC (.ty "str")) aj)))) (aJ (bI (aa (gC (.str "worth")) (aa (bI (aa (gC (.str "fault")) (aa (gC (.str "kind")) aj))) (aa (ag aP (ag aP (af 0) (gC (.int 0))) (gC (.int 2))) aj))))) aL)
  (aI (c9 (uX (a_ (ag GX (af 1) (gC .non))) (a_ (ag oEq (af 1) (gC (.int 0))))) (aJ (az 2 bT (aa (ag aP (ag aP (af 0) (gC (.int 0))) (gC (.int 2))) (aa (ag aP (af 0) (gC (.int 2))) aj)))) aL)
  (aJ (az 2 bT (aa (ag aP (ag aP (af 0) (gC (.int 0))) (gC (.int 2))) (aa (ag aP (af 0) (gC (.int 1))) aj))))))))
def gR:List Wv->Hs->Re Wv:=bh 2 oG
def oH:Ct:=cB lH ["looks","worth"] ["isinstance","str","tuple"] [("_law_after",2,bT)]
theorem CI:aU 30 (oH) (defBody lH)=oG:=by kernel_rfl
theorem zB:FnScope (oH).N ["looks"] (defScope lH):=f7 ⟨rfl,rfl,rfl,rfl⟩ (by decide+kernel)
abbrev iB:Stmt:=top 54
def kU:GS:=(aI (c9 (uX (a_ (ag oEq (ag aP (ag aP (af 0) (gC (.int 0))) (gC (.int 0))) (gC (.str "waits")))) (sC (cb (aR (cU eT cA) (aa (ag aP (ag aP (af 0) (gC (.int 0))) (gC (.int 1))) (aa (gC (.ty "tuple")) aj)))))) (aJ (ag aP (af 0) (gC (.int 0)))) aL)
  (aJ (az 2 bT (aa (ag aP (ag aP (af 0) (gC (.int 0))) (gC (.int 2))) (aa (ag aP (af 0) (gC (.int 1))) aj)))))
def f6:List Wv->Hs->Re Wv:=bh 1 kU
def kW:Ct:=cB iB ["looks"] ["isinstance","tuple"] [("_law_after",2,bT)]
theorem xO:aU 30 (kW) (defBody iB)=kU:=by kernel_rfl
theorem vS:FnScope (kW).N ["looks"] (defScope iB):=f7 ⟨rfl,rfl,rfl,rfl⟩ (by decide+kernel)
abbrev jP:Stmt:=top 56
def kX:GT:=(λ_ st=> .ok true st)
def hU:GE:=(az 3 eR (aa (af 0) (aa (af 1) (aa (af 2) aj))))
def mF:GS:=(aI (bB 3 (iQ [("worths",1),("waiting",2)] (gW (az 1 cj (aa (af 0) aj))) kX hU))
  (aI (c9 (a_ (ag m7 (ag aP (af 0) (gC (.int 0))) (fq (aa (gC (.str "num")) (aa (gC (.str "text")) (aa (gC (.str "lost")) (aa (gC (.str "at")) aj))))))) (aJ (az 3 c7 (aa (af 0) (aa (af 1) (aa (af 2) aj))))) aL)
  (aI (c9 (a_ (ag oEq (ag aP (af 0) (gC (.int 0))) (gC (.str "if")))) (aJ (az 1 gR (aa (af 3) aj))) aL)
  (aI (c9 (a_ (ag oEq (ag aP (af 0) (gC (.int 0))) (gC (.str "else")))) (aJ (az 1 f6 (aa (af 3) aj))) aL)
  (aI (c9 (a_ (ag m7 (ag aP (af 0) (gC (.int 0))) (fq (aa (gC (.str "minus")) (aa (gC (.str "not")) aj))))) (aI (c9 (a_ (ag oEq (ag aP (ag aP (af 3) (gC (.int 0))) (gC (.int 0))) (gC (.str "waits")))) (aJ (ag aP (af 3) (gC (.int 0)))) aL)
    (aJ (bI (aa (gC (.str "worth")) (aa (az 2 cE (aa (ag aP (af 0) (gC (.int 0))) (aa (ag aP (ag aP (af 3) (gC (.int 0))) (gC (.int 1))) aj))) (aa (ag aP (ag aP (af 3) (gC (.int 0))) (gC (.int 2))) aj)))))) aL)
  (aJ (az 2 fJ (aa (af 0) (aa (af 3) aj)))))))))
def hV:List Wv->Hs->Re Wv:=bh 4 mF
def mG:Ct:=cB jP ["formula","worths","waiting","looks"] [] [("_law_two",2,fJ),("look_at",3,eR),("_law_leaf_look",3,c7),("_law_if",1,gR),("_law_else",1,f6),("_law_parts",1,cj),("single",2,cE)]
theorem zC:aU 30 (mG) (defBody jP)=mF:=by kernel_rfl
theorem xP:FnScope (mG).N ["formula","worths","waiting"] (defScope jP):=f7 ⟨rfl,rfl,rfl,rfl⟩ (by decide+kernel)
abbrev iC:Stmt:=top 50
def kY:GS:=(aI (c9 (uX (cb (aR (cU eT cA) (aa (af 0) (aa (gC (.ty "bool")) aj)))) (cb (aR (cU eT cA) (aa (af 1) (aa (gC (.ty "bool")) aj))))) (aJ (gC (.bl false))) aL)
  (aI (c9 (uX (a_ (ag uZ (aR (cU eT cA) (aa (af 0) (aa (gC (.ty "int")) aj))) (aR (cU eT cA) (aa (af 1) (aa (gC (.ty "int")) aj))))) (a_ (ag uZ (aR (cU eT cA) (aa (af 0) (aa (gC (.ty "str")) aj))) (aR (cU eT cA) (aa (af 1) (aa (gC (.ty "str")) aj)))))) (aJ (gC (.bl false))) aL)
  (aJ (oS (ag oEq (aR (cU eT cA) (aa (af 0) (aa (gC (.ty "tuple")) aj))) (aR (cU eT cA) (aa (af 1) (aa (gC (.ty "tuple")) aj)))) (ag oEq (af 0) (af 1))))))
def eS:List Wv->Hs->Re Wv:=bh 2 kY
def kZ:Ct:=cB iC ["one","other"] ["isinstance","bool","int","str","tuple"] []
theorem xQ:aU 30 (kZ) (defBody iC)=kY:=by kernel_rfl
theorem vT:FnScope (kZ).N ["one","other"] (defScope iC):=f7 ⟨rfl,rfl,rfl,rfl⟩ (by decide+kernel)
abbrev A7:Stmt:=top 57
def nG:GS:=(c9 (a_ (ag m8 (ag aP (af 9) (gC (.int 0))) (fq (aa (gC (.str "sum")) (aa (gC (.str "count")) (aa (gC (.str "least")) (aa (gC (.str "greatest")) (aa (gC (.str "find")) aj)))))))) (aI (bB 10 (az 3 eR (aa (af 9) (aa (af 2) (aa (af 3) aj)))))
    (aI (bB 11 (az 3 hV (aa (af 9) (aa (af 2) (aa (af 3) aj)))))
    (aI (c9 (uX (sC (cb (aR (cU eT cA) (aa (af 10) (aa (gC (.ty "tuple")) aj))))) (uX (a_ (ag uZ (aR lL (aa (af 10) aj)) (gC (.int 3)))) (sC (cb (aR (cU eT cA) (aa (ag aP (af 10) (gC (.int 2))) (aa (gC (.ty "tuple")) aj))))))) (aJ (gC (.bl false))) aL)
    (c9 (uX (a_ (ag uZ (af 10) (af 11))) (sC (cb (az 2 eS (aa (ag aP (af 10) (gC (.int 1))) (aa (ag aP (af 11) (gC (.int 1))) aj)))))) (aJ (gC (.bl false))) aL)))) aL)
def nH:GS:=(aI (mW (lR ji (af 6) (bI (aa (af 7) (aa (az 2 df (aa (af 5) (aa (af 1) aj))) (aa (bI (aa (gC (.str "at")) (aa (az 2 cg (aa (af 5) (aa (af 1) aj))) (aa (bI (aa (gC (.int 0)) (aa (gC (.int 0)) aj))) aj)))) aj))))))
  (mW (lR ji (af 6) (bI (aa (af 7) (aa (ag aP (ag aP (af 6) (ye gq (gC (.int 1)))) (gC (.int 2))) (aa (ag aP (ag aP (af 6) (ye gq (gC (.int 1)))) (gC (.int 1))) aj)))))))
def nI:GS:=(nU 8 (aa (gC (.int 2)) aj) nH)
def F2:GS:=(aI (bB 1 (az 1 fX (aa (af 0) aj)))
  (aI (qM [2,3] (az 2 dj (aa (af 0) (aa (af 1) aj))))
  (aI (bB 4 (az 3 aV (aa (az 2 cq (aa (af 0) (aa (gC (.int 0)) aj))) (aa (af 1) (aa (gC (.int 3)) aj)))))
  (aI (bB 5 (az 2 cq (aa (af 0) (aa (gC (.int 1)) aj))))
  (aI (bB 6 (fq aj))
  (aI (qL 7 (fq (aa (gC (.str "+")) (aa (gC (.str "-")) (aa (gC (.str "*")) (aa (gC (.str "/")) (aa (gC (.str "rest")) (aa (gC (.str "&")) (aa (gC (.str "<")) (aa (gC (.str "=")) (aa (gC (.str "&")) aj)))))))))) nI)
  (aI (qL 9 (ag c_ (az 1 a8 (aa (af 4) aj)) (af 6)) nG)
  (aJ (gC (.bl true))))))))))
def F_law:List Wv->Hs->Re Wv:=bh 12 F2
def F3:Ct:=cB A7 ["script","spot","worths","waiting","formula","row","pairs","op","turn","piece","found","due"] ["range","isinstance","tuple","len"] [("_law_spot",1,fX),("_law_known",2,dj),("_law_formula",3,aV),("_law_stream",2,cq),("_law_pieces",1,a8),("look_at",3,eR),("_law_due",3,hV),("_law_leaf",2,df),("_law_same",2,eS),("_law_place",2,cg)]
theorem RH:aU 30 (F3) (defBody A7)=F2:=by kernel_rfl
theorem Oj:FnScope (F3).N ["script"] (defScope A7):=f7 ⟨rfl,rfl,rfl,rfl⟩ (by decide+kernel)
abbrev S:=PySem.Str
def tI(l:List Int):Wv:=.tup (l.map Wv.int)
inductive Fm
 | lit (x:S) (ws:List Wv)
 | pt (x:S) (l p:List Int)
 | fd (a:Fm) (l p:List Int)
 | o1 (x:S) (a:Fm)
 | o2 (x:S) (a b:Fm)
 | o3 (a b c:Fm)
def Fm.v:Fm->S×List Wv
 | .lit x ws=>(x,ws)
 | .pt x l p=>(x,[tI l,tI p])
 | .fd a l p=>("find",[.tup (.str a.v.1::a.v.2),tI l,tI p])
 | .o1 x a=>(x,[.tup (.str a.v.1::a.v.2)])
 | .o2 x a b=>(x,[.tup (.str a.v.1::a.v.2),.tup (.str b.v.1::b.v.2)])
 | .o3 a b c=>("if",[.tup (.str a.v.1::a.v.2),.tup (.str b.v.1::b.v.2),.tup (.str c.v.1::c.v.2)])
def Fm.w(f:Fm):Wv:=.tup (.str f.v.1::f.v.2)
def Fm.dp:Fm->Nat
 | .lit _ _=>1
 | .pt _ _ _=>1
 | .fd a _ _=>a.dp+1
 | .o1 _ a=>a.dp+1
 | .o2 _ a b=>max a.dp b.dp+1
 | .o3 a b c=>max a.dp (max b.dp c.dp)+1
def Fm.sz:Fm->Nat
 | .lit _ _=>1
 | .pt _ _ _=>1
 | .fd a _ _=>a.sz+1
 | .o1 _ a=>a.sz+1
 | .o2 _ a b=>a.sz+b.sz+1
 | .o3 a b c=>a.sz+b.sz+c.sz+1
def ei:Int:=10 ^ 60
def Sg(c:Nat):Prop:=32<=c/\c<=126/\c≠34/\c≠37
def Ol(s:S):Prop:=s.length<=40/\∀c∈s.cps.toList,Sg c
def RI(x:S)(ws:List Wv):Prop:=(x="num"/\∃i,ws=[.int i]/\0<=i/\i<=ei)\/(x="text"/\∃s,ws=[.str s]/\Ol s)\/(x="lost"/\ws=[])
def A8(q:Int):Prop:=q=0\/q=1
def F4(a b:Int):Prop:=0<=a/\a < 99/\0<=b/\b < 26
def hX(a b c d:Int):Prop:=0<=a/\a<=c/\c < 99/\0<=b/\b<=d/\d < 26/\(c - a+1) * (d - b+1)<=300
def ZZ(l p:List Int):Prop:=∃a b q r,l=[a,b]/\p=[q,r]/\F4 a b/\A8 q/\A8 r
def Yw(l p:List Int):Prop:=∃a b c d q r s t,l=[a,b,c,d]/\p=[q,r,s,t]/\hX a b c d/\A8 q/\A8 r/\A8 s/\A8 t
def AW:List S:=["sum","count","least","greatest"]
def W1:List S:=["minus","not"]
def W2:List S:=["else","rest","+","-","*","/","&","<","="]
def Fm.ok:Fm->Prop
 | .lit x ws=>RI x ws
 | .pt x l p=>(x="at"/\ZZ l p)\/(x∈AW/\Yw l p)
 | .fd a l p=>a.ok/\Yw l p
 | .o1 x a=>x∈W1/\a.ok
 | .o2 x a b=>x∈W2/\a.ok/\b.ok
 | .o3 a b c=>a.ok/\b.ok/\c.ok
def Ro(r:Nat)(st:Hs):Prop:=∃v:Int,st[r]? =some (.lst [.int v])
def Dw(r:Nat)(st st':Hs):Prop:=bM r st st'/\Ro r st'
theorem Dw.trans{r:Nat}{a b c:Hs}(h:Dw r a b)(k:Dw r b c):Dw r a c:=⟨h.1.trans k.1,k.2⟩
theorem Ro.push{r:Nat}{st:Hs}{o:Ob}(h:Ro r st):Ro r (st++[o]):=let ⟨v,e⟩:=h;⟨v,rD e⟩
theorem Dw.of{r:Nat}{st:Hs}(h:Ro r st):Dw r st st:=⟨bM.refl,h⟩
theorem digit{st:Hs}{l:Nat}{n many:Int}(h:st[l]? =some (.lst [.int n]))(hm:many≠0/\many.natAbs.log2 < 9000) :
  aE [.ref l,.int many] st= .ok (.int (n.fmod many)) (st.set l (.lst [.int (n.fdiv many)])):=by
 have hl:aB st l=some [.int n]:=by unfold aB;rw[h]
 have h0:L2.nK [Wv.int n] 0=some (.int n):=rfl
 unfold aE bh jm
 simp[fW hl h0,ky hm.1,mj hm,As,QX,h,L2.BG]
theorem dig{r:Nat}{st:Hs}{m:Int}(h:Ro r st)(h0:0 < m)(h1:m < 1000000):∃d st',aE [.ref r,.int m] st= .ok (.int d) st'/\0<=d/\d < m/\Dw r st st':=by
 obtain⟨v,e⟩:=h
 have hl:m.natAbs.log2 < 9000:=uR ((Nat.log2_lt (k:=20) (by omega)).mpr (by omega)) (by decide)
 exact⟨_,_,digit e ⟨by omega,hl⟩,iJ _ h0,jQ _ h0,bM.set,_,cP e⟩
theorem RJ{x y p q:Int}(h0:0<=x)(h1:x<=p)(k0:0<=y)(k1:y<=q):x * y<=p * q:=Int.mul_le_mul h1 k1 k0 (by omega)
theorem Z_{st:Hs}{a b:Wv}:aP (.tup [a,b]) (.int 0) st= .ok a st:=rfl
theorem Z'{st:Hs}{a b:Wv}:aP (.tup [a,b]) (.int 1) st= .ok b st:=rfl
theorem place{r:Nat}{st:Hs}{a b:Int}(h:Ro r st):∃c d st',cg [.ref r,tI [a,b]] st= .ok (tI [a+c,b+d]) st'/\(0<=c/\c < 3/\0<=d/\d < 4)/\Dw r st st':=by
 obtain⟨c,s1,e1,c0,c1,d1⟩:=dig (m:=3) h (by decide) (by decide)
 obtain⟨d,s2,e2,a0,a1,d2⟩:=dig (m:=4) d1.2 (by decide) (by decide)
 unfold cg bh jz
 exact⟨c,d,s2,by simp[e1,e2,tI,Z_,Z'],⟨c0,c1,a0,a1⟩,d1.trans d2⟩
theorem Wi{r:Nat}{st:Hs}{a b:Int}(h:Ro r st):∃t l p q st',de [.ref r,tI [a,b]] st= .ok (tI [a+t,b+l,a+p,b+q]) st'/\(0<=t/\t<=p/\p < 3/\0<=l/\l<=q/\q < 4)/\Dw r st st':=by
 obtain⟨t,s1,e1,t0,t1,d1⟩:=dig (m:=3) h (by decide) (by decide)
 obtain⟨l,s2,e2,l0,l1,d2⟩:=dig (m:=4) d1.2 (by decide) (by decide)
 obtain⟨p,s3,e3,p0,p1,d3⟩:=dig (m:=3 - t) d2.2 (by omega) (by omega)
 obtain⟨q,s4,e4,q0,q1,d4⟩:=dig (m:=4 - l) d3.2 (by omega) (by omega)
 have sT:qM [6,7] (af 1) [some (.ref r),some (tI [a,b]),some (.int t),some (.int l),some (.int (t+p)),some (.int (l+q)),none,none] s4= .nx [some (.ref r),some (tI [a,b]),some (.int t),some (.int l),some (.int (t+p)),some (.int (l+q)),some (.int a),some (.int b)] s4:=rfl
 refine⟨t,l,t+p,l+q,s4,?_,by omega,((d1.trans d2).trans d3).trans d4⟩
 unfold de bh kD
 simp[e1,e2,e3,e4,sT]
 rfl
theorem pins{r:Nat}{st:Hs}(h:Ro r st){n:Nat}(hn:n<=4):∃p st',bV [.ref r,.int n] st= .ok (tI p) st'/\p.length=n/\(∀q∈p,q=0\/q=1)/\Dw r st st':=by
 have hr:r < st.length:=let ⟨v,e⟩:=h;cT e
 have cn:dA (n:Int):=JB (by omega) (by omega)
 obtain⟨st',acc,e,⟨p1,p2⟩,hg,ha,hl⟩:=ue (w:=(none,cO 0 n)) (gt:=λv=>f' (some v::f_ [("row",0)] [some (.ref r),some (.int (n:Int))])) (ge:=λv=>eG (some v::f_ [("row",0)] [some (.ref r),some (.int (n:Int))])) (rr:=st.length)
  (λs=>bM r st s/\Ro r s) (λu=>∃q:Int,u= .int q/\(q=0\/q=1))
  (λs acc ⟨k,v,e⟩=>⟨⟨by simpa using k.1,λj hj hne=>by rw[cK (by omega)];exact k.2 j hj hne⟩,v,by rw[cK (by omega)];exact e⟩) (λ_ _=>trivial) (cO 0 n)
  (λv hv s acc ⟨k,ro⟩ hg=>by
   obtain⟨q,s2,e2,q0,q1,k2,Om⟩:=dig (m:=2) ro (by decide) (by decide)
   refine⟨s,rfl,⟨k,ro⟩,hg,.int q,s2,?_,⟨q,rfl,by omega⟩,⟨k.trans k2,Om⟩,?_⟩
   ·unfold eG
    simp[f_,e2]
   ·rw[k2.2 _ (cT hg) (by omega)];exact hg)
  [] (st++[.lst []]) ⟨bM.push,h.push⟩ iq (by rw[du];simp[lim];omega) (by simp)
 obtain⟨p,hp⟩:∃p:List Int,acc=p.map Wv.int/\∀q∈p,q=0\/q=1:=by
  clear e hg hl
  induction acc with
  | nil=>exact⟨[],rfl,by simp⟩
  | cons a t ih=>
   obtain⟨p,e1,e2⟩:=ih λu hu=>ha u (bq _ hu)
   obtain⟨q,e3,e4⟩:=ha a bS
   exact⟨q::p,by rw[e1,e3];rfl,by simpa using ⟨e4,e2⟩⟩
 obtain⟨rfl,hp⟩:=hp
 refine⟨p,st',?_,by simpa [du] using hl,hp,p1,p2⟩
 have run:dQ [("row",0)] f' eG [some (.ref r),some (.int (n:Int))] (none,cO 0 n) st= .ok (.ref st.length) st':=by
  unfold dQ
  rw[e]
 have tc:qS [.ref st.length] st'= .ok (.tup (p.map Wv.int)) st':=by
  show(match aB st' st.length with | some ws=>Re.ok (Wv.tup ws) st' | none=> .bad)=_
  rw[b5 hg]
 unfold bV bh kF
 have r1:wX [.int (n:Int)] st= .ok (none,cO 0 n) st:=by rw[Oe cn];simp
 simp[r1,run,tc,tI]
inductive Wo where
 | non
 | int (i:Int)
 | txt (x:PySem.Str)
 | i8 (x:PySem.Str)
def Wo.w:Wo->Wv
 | .non=> .non
 | .int i=> .int i
 | .txt x=> .str x
 | .i8 x=> .tup [.str "fault",.str x]
def Wo.f:Wo->Bool
 | .i8 _=>true
 | _=>false
def Wo.n:Wo->Bool
 | .int _=>true
 | _=>false
theorem vU(a:Wo)(st:Hs):aX [a.w] st= .ok (.bl a.f) st:=by cases a<;>rfl
def nums:List Wo->List Int
 | []=>[]
 | .int i::r=>i::nums r
 | _::r=>nums r
def pE:List Wo->List PySem.Str
 | []=>[]
 | .i8 x::r=>x::pE r
 | _::r=>pE r
theorem xR:∀a:List Wo,(nums a).length<=a.length
 | []=>aC _
 | x::r=>by
  have:=xR r
  cases x<;>simp[nums]<;>omega
theorem xS:∀a:List Wo,(a.map Wo.w).filter (λv=>match v with | .int _=>true | _=>false)=(nums a).map Wv.int
 | []=>rfl
 | x::r=>by
  have:=xS r
  cases x<;>simp[nums,Wo.w,this]
theorem xT:∀a:List Wo,(a.map Wo.w).filter (λv=>match v with | .tup _=>true | _=>false)=(pE a).map λx=>Wv.tup [.str "fault",.str x]
 | []=>rfl
 | x::r=>by
  have:=xT r
  cases x<;>simp[pE,Wo.w,this]
theorem T_{st:Hs}:jf (.int 10) (.int 60) st= .ok (.int ei) st:=FU (by decide)
def bnd(i:Int):Wv:=if ei < (if i < 0 then -i else i) then .tup [.str "fault",.str "great"] else .int i
theorem bounded{i:Int}{st:Hs}:bQ [.int i] st= .ok (bnd i) st:=by
 have g:hG [.int i] st= .ok (.bl (decide (ei < (if i < 0 then -i else i)))) st:=by
  unfold hG bh my
  simp[T_]
 have f:bG [.str "great"] st= .ok (.tup [.str "fault",.str "great"]) st:=rfl
 unfold bQ bh ow bnd
 by_cases c:ei < (if i < 0 then -i else i)
 ·simp[g,f,c]
 ·simp[g,f,c]
inductive mH where
 | sum | count | least | k6
def mH.s:mH->PySem.Str
 | .sum=>"sum"
 | .count=>"count"
 | .least=>"least"
 | .k6=>"greatest"
def due(wd:mH)(ws:List Wo):Wv:=match pE ws with
 | x::_=> .tup [.str "fault",.str x]
 | []=>match wd with
  | .sum=>bnd (nums ws).sum
  | .count=> .int (nums ws).length
  | .least=>(match nums ws with | []=> .tup [.str "fault",.str "none"] | n::r=>bnd (B3 n r))
  | .k6=>(match nums ws with | []=> .tup [.str "fault",.str "none"] | n::r=>bnd (B2 n r))
theorem RK:(("sum":PySem.Str) == "sum")=true:=rfl
theorem RL:(("count":PySem.Str) == "sum")=false:=rfl
theorem RM:(("least":PySem.Str) == "sum")=false:=rfl
theorem RN:(("greatest":PySem.Str) == "sum")=false:=rfl
theorem RO:(("count":PySem.Str) == "count")=true:=rfl
theorem RP:(("least":PySem.Str) == "count")=false:=rfl
theorem RQ:(("greatest":PySem.Str) == "count")=false:=rfl
theorem RS:(("least":PySem.Str) == "least")=true:=rfl
theorem RT:(("greatest":PySem.Str) == "least")=false:=rfl
theorem RU(a:Wo)(st:Hs):cU eT cA [a.w,.ty "int"] st= .ok (.bl a.n) st:=by cases a<;>rfl
theorem J_(a:Wo)(st:Hs):cU eT cA [a.w,.ty "tuple"] st= .ok (.bl a.f) st:=by cases a<;>rfl
theorem gather{wd:mH}{ws:List Wo}{l:Nat}{st:Hs}(h:aB st l=some (ws.map Wo.w))(hl:ws.length < 1000):∃st',fH [.str wd.s,.ref l] st= .ok (due wd ws) st'/\Gr st st':=by
 have c1:∀st:Hs,aB st l=some (ws.map Wo.w)->∀ρ,dQ [] hJ kO ρ (some l,ws.map Wo.w) st= .ok (.ref st.length) (st++[.lst ((pE ws).map λx=>Wv.tup [.str "fault",.str x])]):=by
  intro st h ρ
  rw[iU (w:=(some l,ws.map Wo.w)) (t:=λv=>match v with | .tup _=>true | _=>false) (f:=id) h]
  ·rw[zD,xT]
  ·intro v hv acc
   obtain⟨a,_,rfl⟩:=List.mem_map.mp hv
   unfold hJ
   simp[vU]
   cases a<;>rfl
  ·intro v hv _ acc
   rfl
  ·simp;unfold lim;omega
 have c2:∀st:Hs,aB st l=some (ws.map Wo.w)->∀ρ,dQ [] hI kN ρ (some l,ws.map Wo.w) st= .ok (.ref st.length) (st++[.lst ((nums ws).map Wv.int)]):=by
  intro st h ρ
  rw[iU (w:=(some l,ws.map Wo.w)) (t:=λv=>match v with | .int _=>true | _=>false) (f:=id) h]
  ·rw[zD,xS]
  ·intro v hv acc
   obtain⟨a,_,rfl⟩:=List.mem_map.mp hv
   unfold hI
   simp[RU]
   cases a<;>rfl
  ·intro v hv _ acc
   rfl
  ·simp;unfold lim;omega
 have l1:=bK (st:=st) (ws:=(pE ws).map λx=>Wv.tup [.str "fault",.str x])
 cases e2:pE ws with
 | cons x r=>
  have q:due wd ws= .tup [.str "fault",.str x]:=by unfold due;rw[e2]
  rw[e2] at l1
  refine⟨st++[.lst ((pE ws).map λx=>Wv.tup [.str "fault",.str x])],?_,Gr.push⟩
  rw[q]
  have i:=fW (st:=st++[.lst ((pE ws).map λx=>Wv.tup [.str "fault",.str x])]) (l:=st.length) (i:=0) (ws:=(x::r).map λx=>Wv.tup [.str "fault",.str x]) (v:=.tup [.str "fault",.str x]) (by rw[e2];exact l1) (by rw[bw];exact RG)
  have tr:pj (.ref st.length) (st++[.lst ((pE ws).map λx=>Wv.tup [.str "fault",.str x])])= .ok true (st++[.lst ((pE ws).map λx=>Wv.tup [.str "fault",.str x])]):=by
   unfold pj
   simp only[e2,l1]
   rfl
  unfold fH bh jI
  simp[oj h,c1 _ h,tr,i]
 | nil=>
  rw[e2] at l1
  have h2:aB (st++[.lst []]) l=some (ws.map Wo.w):=Gr.push.lst h
  have l3:=bK (st:=st++[.lst []]) (ws:=(nums ws).map Wv.int)
  have RV:=c1 _ h
  rw[e2] at RV
  simp only[k_] at RV
  have T':=c2 _ h2
  have tr:pj (.ref st.length) (st++[.lst []])= .ok false (st++[.lst []]):=by
   unfold pj
   simp only[show aB (st++[.lst []]) st.length=some [] from l1]
   rfl
  refine⟨st++[.lst []]++[.lst ((nums ws).map Wv.int)],?_,Gr.push.trans Gr.push⟩
  generalize st++[.lst []]=s1 at tr h2 l3 T' RV
  generalize hs2:s1++[.lst ((nums ws).map Wv.int)]=s2 at l3 T'
  have f:bG [.str "none"] s2= .ok (.tup [.str "fault",.str "none"]) s2:=rfl
  have sm:=KQ l3
  have ln:lL [.ref s1.length] s2= .ok (.int (nums ws).length) s2:=by
   have:=ud l3
   rwa [bU] at this
  have Ua:pj (.ref s1.length) s2= .ok (!((nums ws).map Wv.int).isEmpty) s2:=by
   unfold pj
   simp only[l3]
  unfold due
  rw[e2]
  unfold fH bh jI
  cases en:nums ws with
  | nil=>
   rw[en] at sm ln Ua
   cases wd<;>simp[oj h,RV,tr,oj h2,T',sm,ln,Ua,f,mH.s,RK,RL,RM,RN,RO,RP,RQ,RS,RT,bounded]
  | cons n r=>
   rw[en] at sm ln Ua l3
   cases wd<;>simp[oj h,RV,tr,oj h2,T',sm,ln,Ua,f,mH.s,RK,RL,RM,RN,RO,RP,RQ,RS,RT,bounded,RE l3,RF l3]
theorem F5{st:Hs}{l:Nat}{n many:Int}{ws:List Wv}(h:st[l]? =some (.lst [.int n]))(hm:many≠0/\many.natAbs.log2 < 9000)(hp:0 < many)(hw:(ws.length:Int)=many) :
  ∃v st',v∈ws/\aE [.ref l,.int many] (st++[.lst ws])= .ok (.int (n.fmod many)) st'/\aP (.ref st.length) (.int (n.fmod many)) st'= .ok v st'/\bM l st st'/\st'[l]? =some (.lst [.int (n.fdiv many)]):=by
 have hl:l < st.length:=(List.getElem?_eq_some_iff.mp h).1
 obtain⟨v,e1,e2⟩:=rC (ws:=ws) (d:=n.fmod many) (iJ _ hp) (by rw[hw];exact jQ _ hp)
 refine⟨v,_,e2,digit (rD h) hm,fW (ws:=ws) ?_ e1,bM.push.trans bM.set,cP (rD h)⟩
 have k:bM l (st++[Ob.lst ws]) ((st++[Ob.lst ws]).set l (.lst [.int (n.fdiv many)])):=bM.set
 exact k.lst bK (by omega)
def Yx:Int:=10 ^ (30:Int).toNat
theorem p30{st:Hs}:jf (.int 10) (.int 30) st= .ok (.int Yx) st:=FU (by decide)
theorem m60{st:Hs}:dy (.int 2) (.int ei) st= .ok (.int (2 * ei)) st:=xv (by decide+kernel)
def RW:PySem.Str:=sD (199:Int).toNat "a"
theorem Wj{st:Hs}:dy (.str "a") (.int 199) st= .ok (.str RW) st:=by
 have c:oT "a" 199:=by decide+kernel
 show(if(199:Int)=0\/(199:Int)=1 then Re.ok (Wv.str (if(199:Int)=0 then PySem.Str.empty else "a")) st else D8 (.str "a") (.int 199) st)=_
 rw[if_neg (by decide)]
 show(if oT "a" 199 then Re.ok (Wv.str (sD (199:Int).toNat "a")) st else .bad)=_
 rw[if_pos c]
 rfl
def Wo.Ok:Wo->Prop
 | .int i=> -ei<=i/\i<=ei
 | .txt x=>x.length<=200
 | _=>True
theorem worth{st:Hs}{l:Nat}{n:Int}(h:st[l]? =some (.lst [.int n])):∃(a:Wo)(st':Hs)(n':Int),eZ [.ref l] st= .ok a.w st'/\bM l st st'/\st'[l]? =some (.lst [.int n'])/\a.Ok:=by
 have d8:=digit (many:=8) h (by decide)
 have h1:=cP (o':=.lst [.int (n.fdiv 8)]) h
 have k1:bM l st (st.set l (.lst [.int (n.fdiv 8)])):=bM.set
 generalize st.set l (.lst [.int (n.fdiv 8)])=st1 at d8 h1 k1
 generalize n.fdiv 8=n1 at h1
 generalize hw:n.fmod 8=way at d8
 unfold eZ bh jq
 by_cases w0:way=0
 ·subst w0
  exact⟨.non,st1,n1,by simp[d8,Wo.w],k1,h1,trivial⟩
 by_cases w1:way=1
 ·subst w1
  obtain⟨v,st2,hv,e1,e2,k2,h2⟩:=F5 (many:=5) (ws:=[.str "kind",.str "great",.str "nought",.str "none",.str "lost"]) h1 (by decide) (by decide) rfl
  obtain⟨x,rfl⟩:∃x,v= .str x:=by simp at hv;rcases hv with rfl | rfl | rfl | rfl | rfl<;>exact⟨_,rfl⟩
  exact⟨.i8 x,st2,_,by simp[d8,e1,e2,Wo.w],k1.trans k2,h2,trivial⟩
 by_cases w2:way=2
 ·subst w2
  obtain⟨v,st2,hv,e1,e2,k2,h2⟩:=F5 (many:=6) (ws:=[.str "",.str "a",.str "b7",.str "no",.str RW,.str "-1"]) h1 (by decide) (by decide) rfl
  obtain⟨x,rfl,hx⟩:∃x,v= .str x/\x.length<=200:=by simp at hv;rcases hv with rfl | rfl | rfl | rfl | rfl | rfl<;>exact⟨_,rfl,by decide+kernel⟩
  exact⟨.txt x,st2,_,by simp[d8,e1,e2,Wj,Wo.w],k1.trans k2,h2,hx⟩
 by_cases w3:way=3
 ·subst w3
  exact⟨.int (n1.fmod (2 * ei+1) - ei),_,n1.fdiv (2 * ei+1),by simp[d8,T_,m60,digit h1 (many:=2 * ei+1) (by decide+kernel),Wo.w],k1.trans bM.set,cP h1,by
   have q1:=iJ n1 (b:=2 * ei+1) (by decide+kernel)
   have q2:=jQ n1 (b:=2 * ei+1) (by decide+kernel)
   exact⟨by omega,by omega⟩⟩
 by_cases w4:way=4
 ·subst w4
  obtain⟨v,st2,hv,e1,e2,k2,h2⟩:=F5 (many:=4) (ws:=[.int ei,.int (-ei),.int Yx,.int (1 - ei)]) h1 (by decide) (by decide) rfl
  obtain⟨x,rfl,hx⟩:∃x,v= .int x/\-ei<=x/\x<=ei:=by simp at hv;rcases hv with rfl | rfl | rfl | rfl<;>exact⟨_,rfl,by decide+kernel,by decide+kernel⟩
  exact⟨.int x,st2,_,by simp[d8,e1,e2,T_,p30,Wo.w],k1.trans k2,h2,hx⟩
 ·have v0:(way == 0)=false:=beq_false_of_ne w0
  have v1:(way == 1)=false:=beq_false_of_ne w1
  have v2:(way == 2)=false:=beq_false_of_ne w2
  have v3:(way == 3)=false:=beq_false_of_ne w3
  have v4:(way == 4)=false:=beq_false_of_ne w4
  exact⟨.int (n1.fmod 7 - 3),_,n1.fdiv 7,by simp[d8,v0,v1,v2,v3,v4,digit h1 (many:=7) (by decide),Wo.w],k1.trans bM.set,cP h1,by
   have q1:=iJ n1 (b:=7) (by decide)
   have q2:=jQ n1 (b:=7) (by decide)
   have q3:(10:Int)<=ei:=by decide+kernel
   exact⟨by omega,by omega⟩⟩
def same:Wo->Wo->Bool
 | .i8 _,_=>false
 | _,.i8 _=>false
 | .non,.non=>true
 | .non,.int j=>((0:Int) == j)||false
 | .non,.txt y=>(("":PySem.Str) == y)||false
 | .int i,.non=>((0:Int) == i)||false
 | .txt x,.non=>(("":PySem.Str) == x)||false
 | .int i,.int j=>i == j
 | .txt x,.txt y=>x == y
 | _,_=>false
theorem sw(a b:Wo)(st:Hs):dZ [a.w,b.w] st= .ok (.bl (same a b)) st:=by
 cases a<;>cases b<;>rfl
theorem mixed{st:Hs}{c k:Int}(h0:0<=k)(h1:k < 1000000):∃v:Int,0<=v/\e_ [.int c,.int k] st= .ok (.int v) st:=by
 have z1:dy (.int 7919) (.int k) st= .ok (.int (7919 * k)) st:=FT (by decide) (by decide)
 have z2:∀i:Int,dy (.int i) (.int 48271) st= .ok (.int (i * 48271)) st:=λi=>mul_r (by decide) (by decide)
 have z3:∀i:Int,dy (.int i) (.int 69621) st= .ok (.int (i * 69621)) st:=λi=>mul_r (by decide) (by decide)
 generalize hs:((c.fmod 1000000007+7919 * k+1) * 48271).fmod 2147483647=s
 have s0:0<=s:=by rw[<-hs];exact iJ _ (by decide)
 have s1:s < 2147483647:=by rw[<-hs];exact jQ _ (by decide)
 have z4:dy (.int s) (.int s) st= .ok (.int (s * s)) st:=FT (by omega) (by omega)
 refine⟨((s * s).fmod 2147483629 * 69621).fmod 2147483647,iJ _ (by decide),?_⟩
 unfold e_ bh ju
 simp[z1,z2,z3,z4,hs,ky]
theorem F6{ns:List Int}{k:Int}(h0:0<=k)(c:k < ns.length):L2.nK (ns.map Wv.int) k=some (.int (ns.getD k.toNat 0)):=by
 have hk:k.toNat < ns.length:=by omega
 have ek:k=((k.toNat:Nat):Int):=by omega
 have q:=L2.mR (xs:=ns.map Wv.int) (j:=k.toNat) (v:=.int (ns.getD k.toNat 0)) (by simp[hk])
 rw[<-ek] at q
 exact q
theorem vV{st:Hs}{l:Nat}{ns:List Int}(h:aB st l=some (ns.map Wv.int)){k:Int}(h0:0<=k):∃v:Int,bJ [.ref l,.int k] st= .ok (.int v) st:=by
 have ln:=ud h
 rw[bU] at ln
 unfold bJ bh gZ
 by_cases c:k < ns.length
 ·exact⟨_,by simp[ln,c,fW h (F6 h0 c)];rfl⟩
 ·exact⟨0,by simp[ln,c]⟩
theorem KW{st:Hs}:jf (.int 10) (.int 60) st= .ok (.int (10 ^ 60)) st:=FU (by decide)
theorem F7{lo c:Int}{n:Nat}{j:Nat}{w:Wv}(h:(pq lo c n)[j]? =some w):w= .int (lo+j * c)/\j < n:=by
 have hj:j < n:=by
  have:=(List.getElem?_eq_some_iff.mp h).1
  rw[ng] at this
  exact this
 rw[tV hj] at h
 exact⟨(Option.some.inj h).symm,hj⟩
theorem Oo{c:Int}{k:Nat}(h0:0<=c)(h1:c < (10 ^ 60) ^ k)(hk:k<=5):IntMulOk c (10 ^ 60):=by
 have b:c.natAbs < 2 ^ 1000:=by
  have e:(10 ^ 60:Int) ^ k < 2 ^ 1000:=by
   have hk':k=0\/k=1\/k=2\/k=3\/k=4\/k=5:=by omega
   rcases hk' with rfl | rfl | rfl | rfl | rfl | rfl<;>decide+kernel
  have e2:((2 ^ 1000:Nat):Int)=2 ^ 1000:=by norm_cast
  omega
 exact Oq (bf (A9 b) (by decide)) (bf (A9 (k:=200) (by decide+kernel)) (by decide))
theorem stream{st:Hs}{l:Nat}{ns:List Int}(h:aB st l=some (ns.map Wv.int))(hn:ns.length<=63){k:Int}(h0:0<=k)(h1:k<=40):∃n:Int,cq [.ref l,.int k] st= .ok (.ref st.length) (st++[.lst [.int n]]):=by
 obtain⟨v0,Yy⟩:=vV h (k:=0) (Int.le_refl _)
 have ln:=ud h
 rw[bU] at ln
 have sm:=KQ h
 have cr:CY (k+1) ns.length 13:=⟨by omega,by omega,by omega,by omega,by decide,by decide⟩
 have sn:gX (k+1) ns.length 13<=5:=by
  unfold gX
  split<;>omega
 have l1:∃(o3:Option Wv)(c:Int),dt 3 cC (pq (k+1) 13 (gX (k+1) ns.length 13)) [some (.ref l),some (.int k),some (.int 0),none,none,none] st= .nx [some (.ref l),some (.int k),some (.int c),o3,none,none] st:=by
  obtain⟨ρ,st',e,o3,c,rfl,rfl,_,_⟩:=nk (i:=3) (gb:=cC) (λi ρ st'=>∃(o3:Option Wv)(c:Int),ρ=[some (.ref l),some (.int k),some (.int c),o3,none,none]/\st'=st/\0<=c/\c < (10 ^ 60) ^ i) (pq (k+1) 13 (gX (k+1) ns.length 13)) 0 [some (.ref l),some (.int k),some (.int 0),none,none,none] st ⟨none,0,rfl,rfl,by decide,by decide⟩ (by
   rintro j w hw _ s ⟨o3,c,rfl,rfl,c0,c1⟩
   obtain⟨rfl,hj⟩:=F7 hw
   have hj5:0+j<=5:=by omega
   have jx:k+1+(j:Int) * 13 < ns.length:=by
    unfold gX at hj
    split at hj<;>omega
   have m1:dy (.int c) (.int (10 ^ 60)) s= .ok (.int (c * 10 ^ 60)) s:=xv (Oo c0 c1 hj5)
   have m2:oMod (.int (ns.getD (k+1+(j:Int) * 13).toNat 0)) (.int (10 ^ 60)) s= .ok (.int ((ns.getD (k+1+(j:Int) * 13).toNat 0).fmod (10 ^ 60))) s:=ky (by decide)
   have x1:=fW h (F6 (k:=k+1+(j:Int) * 13) (by omega) jx)
   have q0:=iJ (ns.getD (k+1+(j:Int) * 13).toNat 0) (b:=10 ^ 60) (by decide)
   have q1:=jQ (ns.getD (k+1+(j:Int) * 13).toNat 0) (b:=10 ^ 60) (by decide)
   generalize (ns.getD (k+1+(j:Int) * 13).toNat 0).fmod (10 ^ 60)=q at m2 q0 q1
   refine⟨_,_,?_,⟨some (.int (k+1+(j:Int) * 13)),c * 10 ^ 60+q,rfl,rfl,?_,?_⟩⟩
   ·unfold cC
    simp only[t9,ua,rn,e_c,rS,rT,vW,vX,t_,lB,N8,KW,FP,m1,x1,m2,Ry,zk]
   ·have:=Int.mul_nonneg c0 (show(0:Int)<=10 ^ 60 by decide)
    omega
   ·have e:(10 ^ 60:Int) ^ (0+j+1)=(10 ^ 60) ^ (0+j) * 10 ^ 60:=Int.pow_succ ..
    rw[e]
    have:(c+1) * 10 ^ 60<=(10 ^ 60) ^ (0+j) * 10 ^ 60:=Int.mul_le_mul_of_nonneg_right (by omega) (by decide)
    rw[Int.add_mul] at this
    omega)
  exact⟨o3,c,e⟩
 obtain⟨o3,c,e1⟩:=l1
 have l2:∃(Ub Uc:Option Wv)(g':Int),dt 3 dR (cO 0 8) [some (.ref l),some (.int k),some (.int c),o3,some (.int 0),none] st= .nx [some (.ref l),some (.int k),some (.int c),Ub,some (.int g'),Uc] st:=by
  obtain⟨ρ,st',e,Ub,Uc,g',rfl,rfl⟩:=xy (i:=3) (gb:=dR) (λρ st'=>∃(o3 o5:Option Wv)(g:Int),ρ=[some (.ref l),some (.int k),some (.int c),o3,some (.int g),o5]/\st'=st) (cO 0 8) [some (.ref l),some (.int k),some (.int c),o3,some (.int 0),none] st ⟨o3,none,0,rfl,rfl⟩ (by
   rintro w hw _ s ⟨o3,o5,g,rfl,rfl⟩
   obtain⟨j,rfl,j0,j1⟩:=Jz hw
   obtain⟨u,_,eu⟩:=mixed (st:=s) (c:=c+ns.sum) (k:=8 * k+j) (by omega) (by omega)
   have z1:dy (.int 8) (.int k) s= .ok (.int (8 * k)) s:=FT (by decide) (by decide)
   have z3:dy (.int g) (.int 2147483647) s= .ok (.int (g * 2147483647)) s:=mul_r (by decide) (by decide)
   refine⟨_,_,?_,⟨some (.int j),some (.int u),g * 2147483647+u,rfl,rfl⟩⟩
   unfold dR
   simp[sm,z1,z3,eu])
  exact⟨Ub,Uc,g',e⟩
 obtain⟨Ub,Uc,g',e2⟩:=l2
 have f8:∀i:Int,fi (.int i) (.int 8) st= .ok (.int (i.fdiv 8)) st:=λi=>mj (by decide)
 have c8:dA 8:=JB (by decide) (by decide)
 have er3:∀(ga:GA)(ρ:bY)(s s1:Hs)(a b c:Int),ga ρ s= .ok [.int a,.int b,.int c] s1->CY a b c->qY 3 ga cC ρ s=dt 3 cC (pq a c (gX a b c)) ρ s1:=λga ρ s s1 a b c h1 h2=>by
  unfold qY
  rw[h1]
  show(if CY a b c then _ else _)=_
  rw[if_pos h2]
 have e3:=er3 (aa (ag c_ (af 1) (gC (.int 1))) (aa (aR lL (aa (af 0) aj)) (aa (gC (.int 13)) aj))) [some (.ref l),some (.int k),some (.int 0),none,none,none] st st (k+1) ns.length 13 (by simp[ln]) cr
 rw[e1] at e3
 unfold cq bh iF
 by_cases b:v0.fmod 2=1
 ·exact⟨c,by simp[e3,Yy,ky,b]⟩
 ·have b':(v0.fmod 2 == 1)=false:=beq_false_of_ne b
  exact⟨g'.fdiv 8,by simp[e3,Yy,ky,b',c8,e2,f8]⟩
def Fits:List Int->Prop
 | [a,b]=>F4 a b
 | [a,b,c,d]=>hX a b c d
 | _=>False
theorem Ot{st:Hs}:jf (.int 10) (.int 60) st= .ok (.int ei) st:=KW
theorem Wl:(1000:Int) < ei:=by unfold ei;decide+kernel
theorem pick{r:Nat}{st:Hs}{ws:List Wv}{m:Int}(h:Ro r st)(hw:(ws.length:Int)=m)(h0:0 < m)(h1:m < 1000000) :
  ∃d v st',aE [.ref r,.int m] (st++[.lst ws])= .ok (.int d) st'/\aP (.ref st.length) (.int d) st'= .ok v st'/\v∈ws/\Dw r st st':=by
 have hr:r < st.length:=let ⟨v,e⟩:=h;cT e
 obtain⟨d,s2,e2,d0,d1,k2,Om⟩:=dig (m:=m) (h.push (o:=.lst ws)) h0 h1
 obtain⟨v,e3,e4⟩:=rC (ws:=ws) (d:=d) d0 (by omega)
 exact⟨d,v,s2,e2,fW (k2.lst bK (by omega)) e3,e4,bM.push.trans k2,Om⟩
theorem RX{r:Nat}{st:Hs}(h:Ro r st):∃q s st',bV [.ref r,.int 2] st= .ok (tI [q,s]) st'/\A8 q/\A8 s/\Dw r st st':=by
 obtain⟨p,st',e,hl,hp,d⟩:=pins h (n:=2) (by decide)
 match p,hl with
 | [q,s],_=>exact⟨q,s,st',e,hp q (by simp),hp s (by simp),d⟩
theorem KY{r:Nat}{st:Hs}(h:Ro r st):∃q s t u st',bV [.ref r,.int 4] st= .ok (tI [q,s,t,u]) st'/\A8 q/\A8 s/\A8 t/\A8 u/\Dw r st st':=by
 obtain⟨p,st',e,hl,hp,d⟩:=pins h (n:=4) (by decide)
 match p,hl with
 | [q,s,t,u],_=>exact⟨q,s,t,u,st',e,hp q (by simp),hp s (by simp),hp t (by simp),hp u (by simp),d⟩
theorem number{r:Nat}{st:Hs}(h:Ro r st):∃n st',et [.ref r] st= .ok (.int n) st'/\0<=n/\n<=ei/\Dw r st st':=by
 have pb:=Wl
 obtain⟨w,s1,e1,w0,w1,d1⟩:=dig (m:=5) h (by decide) (by decide)
 unfold et bh iH
 by_cases c0:w=0
 ·obtain⟨d,s2,e2,a0,a1,d2⟩:=dig (m:=3) d1.2 (by decide) (by decide)
  subst c0
  exact⟨ei - d,s2,by simp[e1,e2,Ot],by omega,by omega,d1.trans d2⟩
 have b0:(w == 0)=false:=beq_false_of_ne c0
 obtain⟨d,s2,e2,a0,a1,d2⟩:=dig (m:=6) d1.2 (by decide) (by decide)
 exact⟨d,s2,by simp[e1,e2,b0],by omega,by omega,d1.trans d2⟩
def sW(a b:Int):Prop:=0<=a/\a<=96/\0<=b/\b<=22
theorem Ou{r:Nat}{st:Hs}{a b:Int}(h:Ro r st)(k:sW a b):∃c d st',cg [.ref r,tI [a,b]] st= .ok (tI [c,d]) st'/\Fits [c,d]/\Dw r st st':=by
 obtain⟨c,d,s1,e,hc,d1⟩:=place (a:=a) (b:=b) h
 exact⟨_,_,s1,e,by unfold sW at k;show F4 _ _;unfold F4;omega,d1⟩
theorem KZ{r:Nat}{st:Hs}{a b:Int}(h:Ro r st)(k:sW a b):∃c d e f st',de [.ref r,tI [a,b]] st= .ok (tI [c,d,e,f]) st'/\Fits [c,d,e,f]/\Dw r st st':=by
 obtain⟨t,l,p,q,s1,e,hc,d1⟩:=Wi (a:=a) (b:=b) h
 refine⟨_,_,_,_,s1,e,?_,d1⟩
 unfold sW at k
 show hX _ _ _ _
 unfold hX
 have:=RJ (x:=a+p - (a+t)+1) (y:=b+q - (b+l)+1) (p:=3) (q:=4) (by omega) (by omega) (by omega) (by omega)
 omega
theorem RY{x:S}(h:(decide (x.length<=40)&&x.cps.toList.all λc=>decide (32<=c/\c<=126/\c≠34/\c≠37))=true):Ol x:=by
 rw[dm,FE] at h
 exact⟨of_decide_eq_true h.1,λc hc=>(show 32<=c/\c<=126/\c≠34/\c≠37 from of_decide_eq_true (h.2 c hc))⟩
theorem JJ{v:Wv}(hv:v∈[Wv.str "",.str "a",.str "b7",.str "no"]):∃i:S,v= .str i/\Ol i:=by
 simp at hv
 rcases hv with rfl | rfl | rfl | rfl<;>exact⟨_,rfl,RY (by decide+kernel)⟩
theorem leaf{r:Nat}{st:Hs}{a b:Int}(h:Ro r st)(hs:sW a b):∃f st',df [.ref r,tI [a,b]] st= .ok (Fm.w f) st'/\f.ok/\f.sz=1/\f.dp=1/\Dw r st st':=by
 obtain⟨w,s1,e1,w0,w1,d1⟩:=dig (m:=8) h (by decide) (by decide)
 unfold df bh kH
 by_cases c0:w=0
 ·subst c0
  obtain⟨i,s2,e2,i0,i1,d2⟩:=number d1.2
  exact⟨.lit "num" [.int i],s2,by simp[e1,e2,Fm.w,Fm.v],.inl ⟨rfl,i,rfl,i0,i1⟩,rfl,rfl,d1.trans d2⟩
 have b0:(w == 0)=false:=beq_false_of_ne c0
 by_cases c1:w=1
 ·subst c1
  obtain⟨d,v,s4,e4,e5,hv,d4⟩:=pick (m:=4) (ws:=[.str "",.str "a",.str "b7",.str "no"]) d1.2 rfl (by decide) (by decide)
  obtain⟨i,rfl,ht⟩:=JJ hv
  exact⟨.lit "text" [.str i],s4,by simp[e1,e4,e5,Fm.w,Fm.v],.inr (.inl ⟨rfl,i,rfl,ht⟩),rfl,rfl,d1.trans d4⟩
 have b1:(w == 1)=false:=beq_false_of_ne c1
 have at':∀s2,Dw r s1 s2->∃(c d q s:Int)(s4 s5:Hs),cg [.ref r,tI [a,b]] s2= .ok (tI [c,d]) s4/\bV [.ref r,.int 2] s4= .ok (tI [q,s]) s5/\Fits [c,d]/\A8 q/\A8 s/\Dw r st s5:=λs2 d2=>by
  obtain⟨c,d,s4,e4,hf,d4⟩:=Ou d2.2 hs
  obtain⟨q,s,s5,e5,q1,q2,d5⟩:=RX d4.2
  exact⟨c,d,q,s,s4,s5,e4,e5,hf,q1,q2,((d1.trans d2).trans d4).trans d5⟩
 by_cases c2:w=2
 ·subst c2
  obtain⟨x,s2,e2,x0,x1,d2⟩:=dig (m:=3) d1.2 (by decide) (by decide)
  by_cases cx:x=0
  ·subst cx
   exact⟨.lit "lost" [],s2,by simp[e1,e2,Fm.w,Fm.v],.inr (.inr ⟨rfl,rfl⟩),rfl,rfl,d1.trans d2⟩
  ·have bx:(x == 0)=false:=beq_false_of_ne cx
   obtain⟨c,d,q,s,s4,s5,e4,e5,hf,q1,q2,d5⟩:=at' s2 d2
   exact⟨.pt "at" [c,d] [q,s],s5,by simp[e1,e2,bx,e4,e5,Fm.w,Fm.v],.inl ⟨rfl,c,d,q,s,rfl,rfl,hf,q1,q2⟩,rfl,rfl,d5⟩
 have b2:(w == 2)=false:=beq_false_of_ne c2
 by_cases c3:w < 6
 ·obtain⟨c,d,q,s,s4,s5,e4,e5,hf,q1,q2,d5⟩:=at' s1 (Dw.of d1.2)
  exact⟨.pt "at" [c,d] [q,s],s5,by simp[e1,b0,b1,b2,c3,e4,e5,Fm.w,Fm.v],.inl ⟨rfl,c,d,q,s,rfl,rfl,hf,q1,q2⟩,rfl,rfl,d5⟩
 ·obtain⟨d,v,s2,e2,e3,hv,d2⟩:=pick (m:=4) (ws:=[.str "sum",.str "count",.str "least",.str "greatest"]) d1.2 rfl (by decide) (by decide)
  obtain⟨x,rfl,hx⟩:∃x:S,v= .str x/\x∈AW:=by simp at hv;rcases hv with rfl | rfl | rfl | rfl<;>exact⟨_,rfl,by decide+kernel⟩
  obtain⟨a',b',c',d',s3,e4,har,d3⟩:=KZ d2.2 hs
  obtain⟨q,s,t,u,s4,e5,q1,q2,q3,q4,d4⟩:=KY d3.2
  exact⟨.pt x [a',b',c',d'] [q,s,t,u],s4,by simp[e1,b0,b1,b2,c3,e2,e3,e4,e5,Fm.w,Fm.v],.inr ⟨hx,a',b',c',d',q,s,t,u,rfl,rfl,har,q1,q2,q3,q4⟩,rfl,rfl,((d1.trans d2).trans d3).trans d4⟩
theorem A_{st:Hs}{ws:List Wv}{d:Int}(h0:0<=d)(h1:d < ws.length):∃v,aP (.ref st.length) (.int d) (st++[.lst ws])= .ok v (st++[.lst ws])/\v∈ws:=by
 obtain⟨v,e3,e4⟩:=rC (ws:=ws) (d:=d) h0 h1
 exact⟨v,fW bK e3,e4⟩
theorem Dw.push{r:Nat}{st:Hs}{o:Ob}(h:Ro r st):Dw r st (st++[o]):=⟨bM.push,h.push⟩
def sq:Nat->Nat
 | 0=>1
 | k+1=>3 * sq k+1
theorem Wm{k:Nat}(h:¬k=0):sq k=3 * sq (k - 1)+1:=by
 obtain⟨j,rfl⟩:∃j,k=j+1:=⟨k - 1,by omega⟩
 rfl
theorem Wn(k:Nat):1<=sq k:=by cases k<;>simp[sq]
theorem pZ{r:Nat}{a b:Int}(hs:sW a b):∀(n:Nat){st:Hs}{k:Nat},Ro r st->k<=n->∃f st',bW (n+1) [.ref r,tI [a,b],.int k] st= .ok (Fm.w f) st'/\f.ok/\f.sz<=sq k/\f.dp<=k+1/\Dw r st st'
 | n,st,k,h,hk=>by
  have q1':=Wn k
  rw[lN]
  unfold bh fe
  by_cases c0:k=0
  ·obtain⟨f,s2,e2,h1,h2,h3,d2⟩:=leaf h hs
   subst c0
   exact⟨f,s2,by simp[e2],h1,by omega,by omega,d2⟩
  have hq:=Wm c0
  obtain⟨w,s1,e1,w0,w1,d1⟩:=dig (m:=16) h (by decide) (by decide)
  have bk:((k:Int) == 0)=false:=beq_false_of_ne (by omega)
  by_cases cw:w < 3
  ·obtain⟨f,s2,e2,h1,h2,h3,d2⟩:=leaf d1.2 hs
   exact⟨f,s2,by simp[e1,e2,bk,cw],h1,by omega,by omega,d1.trans d2⟩
  obtain⟨n',rfl⟩:∃n',n=n'+1:=⟨n - 1,by omega⟩
  have ek:((k:Int) - 1)=((k - 1:Nat):Int):=by omega
  obtain⟨x,s2,e2,a1,a2,a3,d2⟩:=pZ hs n' (k:=k - 1) d1.2 (by omega)
  by_cases c5:w < 5
  ·obtain⟨v,e3,hv⟩:=A_ (st:=s2) (ws:=[.str "minus",.str "not"]) (d:=w - 3) (by omega) (by simp;omega)
   obtain⟨y,rfl,hy⟩:∃y:S,v= .str y/\y∈W1:=by simp at hv;rcases hv with rfl | rfl<;>exact⟨_,rfl,by decide+kernel⟩
   refine⟨.o1 y x,s2++[.lst [.str "minus",.str "not"]],?_,⟨hy,a1⟩,by simp only[Fm.sz];omega,by simp only[Fm.dp];omega,(d1.trans d2).trans (Dw.push d2.2)⟩
   simp[e1,bk,cw,ek,e2,c5,e3]
   rfl
  by_cases c6:w=5
  ·subst c6
   obtain⟨a',b',c',d',s3,e3,har,d3⟩:=KZ d2.2 hs
   obtain⟨q,s,t,u,s4,e4,q1,q2,q3,q4,d4⟩:=KY d3.2
   refine⟨.fd x [a',b',c',d'] [q,s,t,u],s4,?_,⟨a1,a',b',c',d',q,s,t,u,rfl,rfl,har,q1,q2,q3,q4⟩,by simp only[Fm.sz];omega,by simp only[Fm.dp];omega,((d1.trans d2).trans d3).trans d4⟩
   simp[e1,bk,ek,e2,e3,e4]
   rfl
  have b6:(w == 5)=false:=beq_false_of_ne c6
  obtain⟨y,s3,e3,b1,b2,b3,d3⟩:=pZ hs n' (k:=k - 1) d2.2 (by omega)
  by_cases c8:w < 8
  ·obtain⟨z,s4,e4,z1,z2,z3,d4⟩:=pZ hs n' (k:=k - 1) d3.2 (by omega)
   refine⟨.o3 x y z,s4,?_,⟨a1,b1,z1⟩,by simp only[Fm.sz];omega,by simp only[Fm.dp];omega,((d1.trans d2).trans d3).trans d4⟩
   simp[e1,bk,cw,c5,b6,ek,e2,e3,c8,e4]
   rfl
  by_cases Yz:w=15
  ·subst Yz
   obtain⟨d,v,s4,e4,e5,hv,d4⟩:=pick (m:=2) (ws:=[.str "=",.str "&"]) d3.2 rfl (by decide) (by decide)
   obtain⟨o,rfl,ho⟩:∃y:S,v= .str y/\y∈W2:=by simp at hv;rcases hv with rfl | rfl<;>exact⟨_,rfl,by decide+kernel⟩
   refine⟨.o2 o x y,s4,?_,⟨ho,a1,b1⟩,by simp only[Fm.sz];omega,by simp only[Fm.dp];omega,((d1.trans d2).trans d3).trans d4⟩
   simp[e1,bk,ek,e2,e3,e4,e5]
   rfl
  have b15:(w == 15)=false:=beq_false_of_ne Yz
  obtain⟨v,e4,hv⟩:=A_ (st:=s3) (ws:=[.str "else",.str "rest",.str "+",.str "-",.str "*",.str "/",.str "<"]) (d:=w - 8) (by omega) (by simp;omega)
  obtain⟨o,rfl,ho⟩:∃y:S,v= .str y/\y∈W2:=by simp at hv;rcases hv with rfl | rfl | rfl | rfl | rfl | rfl | rfl<;>exact⟨_,rfl,by decide+kernel⟩
  refine⟨.o2 o x y,s3++[.lst [.str "else",.str "rest",.str "+",.str "-",.str "*",.str "/",.str "<"]],?_,⟨ho,a1,b1⟩,by simp only[Fm.sz];omega,by simp only[Fm.dp];omega,((d1.trans d2).trans d3).trans (Dw.push d3.2)⟩
  simp[e1,bk,cw,c5,b6,ek,e2,e3,c8,b15,e4]
  rfl
theorem spot{st:Hs}{l:Nat}{ns:List Int}(h:aB st l=some (ns.map Wv.int)):∃a b st',fX [.ref l] st= .ok (tI [a,b]) st'/\sW a b/\∃more,st'=st++more:=by
 obtain⟨v,e⟩:=vV h (k:=0) (by decide)
 have lg:∀j:Int,(j=2\/j=4\/j=400)->j≠0/\j.natAbs.log2 < 9000:=by rintro j (rfl | rfl | rfl)<;>decide+kernel
 let f:=v.fdiv 2
 let x:=(f.fdiv 4).fmod 97
 let y:=(f.fdiv 400).fmod 23
 have x0:0<=x:=iJ _ (by decide)
 have x1:x < 97:=jQ _ (by decide)
 have y0:0<=y:=iJ _ (by decide)
 have y1:y < 23:=jQ _ (by decide)
 let s1:=st++[.lst [.int 0,.int x]]
 let s2:=s1++[.lst [.int 0,.int y]]
 obtain⟨p,e2,hp⟩:=A_ (st:=st) (ws:=[.int 0,.int x]) (d:=f.fmod 2) (iJ _ (by decide)) (by simpa using jQ f (by decide))
 obtain⟨q,e3,hq⟩:=A_ (st:=s1) (ws:=[.int 0,.int y]) (d:=(f.fdiv 2).fmod 2) (iJ _ (by decide)) (by simpa using jQ (f.fdiv 2) (by decide))
 obtain⟨a,rfl,ha⟩:∃a:Int,p= .int a/\0<=a/\a<=96:=by
  simp at hp
  rcases hp with rfl | rfl
  ·exact⟨0,rfl,by omega⟩
  ·exact⟨x,rfl,by omega⟩
 obtain⟨b,rfl,hb⟩:∃b:Int,q= .int b/\0<=b/\b<=22:=by
  simp at hq
  rcases hq with rfl | rfl
  ·exact⟨0,rfl,by omega⟩
  ·exact⟨y,rfl,by omega⟩
 refine⟨a,b,s2,?_,⟨ha.1,ha.2,hb.1,hb.2⟩,[.lst [.int 0,.int x],.lst [.int 0,.int y]],by simp[s2,s1]⟩
 have m1:∀{i:Int}{s:Hs},oMod (.int i) (.int 97) s= .ok (.int (i.fmod 97)) s:=ky (by decide)
 have m2:∀{i:Int}{s:Hs},oMod (.int i) (.int 23) s= .ok (.int (i.fmod 23)) s:=ky (by decide)
 have m3:∀{i:Int}{s:Hs},oMod (.int i) (.int 2) s= .ok (.int (i.fmod 2)) s:=ky (by decide)
 have f2:∀{i:Int}{s:Hs},fi (.int i) (.int 2) s= .ok (.int (i.fdiv 2)) s:=mj (lg 2 (by simp))
 have f4:∀{i:Int}{s:Hs},fi (.int i) (.int 4) s= .ok (.int (i.fdiv 4)) s:=mj (lg 4 (by simp))
 have Wq:∀{i:Int}{s:Hs},fi (.int i) (.int 400) s= .ok (.int (i.fdiv 400)) s:=mj (lg 400 (by simp))
 unfold fX bh kA
 dsimp only[s1,x,y,f] at e2 e3 ⊢
 simp[e,m1,m2,m3,f2,f4,Wq,e2]
 simp at e3
 simp[e3,tI,s2,s1,x,y,f]
theorem jx4{a b c d:Wv}{st:Hs}:aP (.tup [a,b,c,d]) (.int 0) st= .ok a st/\aP (.tup [a,b,c,d]) (.int 1) st= .ok b st/\aP (.tup [a,b,c,d]) (.int 2) st= .ok c st/\aP (.tup [a,b,c,d]) (.int 3) st= .ok d st:=⟨rfl,rfl,rfl,rfl⟩
theorem uf{st:Hs}{xs:List Ob}{ws:List Wv}:aB (st++ .lst ws::xs) st.length=some ws:=by unfold aB;simp
section
variable {a b c d:Int} {st:Hs}
theorem at1:L2.nK [Wv.int a,.int b,.int c,.int d] 1=some (.int b):=rfl
theorem at3:L2.nK [Wv.int a,.int b,.int c,.int d] 3=some (.int d):=rfl
def oI(r b:Int)(n:Nat):List Wv:=(dh n).map λk:Nat=> .tup [.int r,.int (b+k)]
def hZ(a b:Int)(m n:Nat):List Wv:=((dh m).map λk:Nat=>oI (a+k) b n).flatten
theorem ug{m n:Nat}:(hZ a b m n).length=m * n:=by
 unfold hZ
 rw[List.length_flatten,mI]
 have:(l8 ∘ λk:Nat=>oI (a+k) b n)=λ_=>n:=by funext k;simp[oI]
 rw[this]
 clear this
 induction m with
 | zero=>simp
 | succ m ih=>rw[p_,eh,List.sum_append,ih,Nat.succ_mul];simp
theorem zE{m n:Nat}:hZ a b (m+1) n=hZ a b m n++oI (a+m) b n:=by
 unfold hZ
 rw[p_,eh,F8]
 simp
theorem F9{o:Wv}{r:Int}{st:Hs}(hb:dA b)(hd:dA (d+1))(hn:(d+1 - b).toNat<=300) :
  iQ [("row",2)] (EB (aa (ag aP (af 0) (gC (.int 1))) (aa (ag c_ (ag aP (af 0) (gC (.int 3))) (gC (.int 1))) aj))) dM cQ [some (.tup [.int a,.int b,.int c,.int d]),some o,some (.int r)] st=
   .ok (.ref st.length) (st++[.lst (oI r b (d+1 - b).toNat)]):=by
 have q:=iU (cs:=[("row",2)]) (gt:=dM) (ge:=cQ) (ρ:=[some (.tup [.int a,.int b,.int c,.int d]),some o,some (.int r)]) (w:=(none,cO b (d+1 - b).toNat)) (st:=st) (t:=λ_=>true) (f:=λv=> .tup [.int r,v]) trivial
  (λv _ acc=>rfl) (λv _ _ acc=>by unfold cQ;simp[f_]) (by rw[show((none,cO b (d+1 - b).toNat):Wk).2=cO b (d+1 - b).toNat from rfl,du];unfold lim;omega)
 have e:((cO b (d+1 - b).toNat).filter λ_=>true).map (λv=>Wv.tup [.int r,v])=oI r b (d+1 - b).toNat:=by
  rw[List.filter_eq_self.mpr (λ_ _=>rfl)]
  unfold cO oI
  rw[mI]
  rfl
 rw[show((none,cO b (d+1 - b).toNat):Wk).2=cO b (d+1 - b).toNat from rfl,e] at q
 simp[Jx at1,Jx at3,Of hb hd,q]
theorem vc{st more:Hs}{acc row:List Wv}(h:acc.length+row.length<=lim):M7 (.ref st.length) (.ref (st++ .lst acc::more).length) ((st++ .lst acc::more)++[.lst row])= .ok .non (st++ .lst (acc++row)::(more++[.lst row])):=by
 have g1:((st++Ob.lst acc::more)++[Ob.lst row])[st.length]? =some (.lst acc):=by simp
 have g2:((st++Ob.lst acc::more)++[Ob.lst row])[(st++Ob.lst acc::more).length]? =some (.lst row):=by rw[l9 (aC _),pN];rfl
 show(match((st++Ob.lst acc::more)++[Ob.lst row])[st.length]?,((st++Ob.lst acc::more)++[Ob.lst row])[(st++Ob.lst acc::more).length]? with
  | some (.lst ws),some (.lst zs)=>if ws.length+zs.length<=lim then Re.ok Wv.non (((st++Ob.lst acc::more)++[Ob.lst row]).set st.length (.lst (ws++zs))) else .bad
  | _,_=> .bad)=_
 rw[g1,g2]
 dsimp only
 rw[if_pos h]
 congr 1
 simp
theorem F_{st more:Hs}{acc row:List Wv}(h:acc.length+row.length<=lim):xb (.ref st.length) (.ref (st++ .lst acc::more).length) ((st++ .lst acc::more)++[.lst row])= .ok .non (st++ .lst (acc++row)::(more++[.lst row])):=vc h
theorem CJ(hb:dA b)(hd:dA (d+1))(hn:(d+1 - b).toNat<=300){m:Nat}(hm:m<=100){ρ0:Option Wv}:∃(o:Option Wv)(more:Hs),
  dt 2 cV (cO a m) [some (.tup [.int a,.int b,.int c,.int d]),some (.ref st.length),ρ0] (st++[.lst []])= .nx [some (.tup [.int a,.int b,.int c,.int d]),some (.ref st.length),o] (st++ .lst (hZ a b m (d+1 - b).toNat)::more):=by
 obtain⟨ρ1,st1,e1,o,more,rfl,rfl⟩:=nk (i:=2) (gb:=cV) (λk ρ st'=>∃(o:Option Wv)(more:Hs),ρ=[some (.tup [.int a,.int b,.int c,.int d]),some (.ref st.length),o]/\st'=st++ .lst (hZ a b k (d+1 - b).toNat)::more)
  (cO a m) 0 [some (.tup [.int a,.int b,.int c,.int d]),some (.ref st.length),ρ0] (st++[.lst []]) ⟨ρ0,[],rfl,rfl⟩ (λj w hw ρ st' hP=>by
   obtain⟨o,more,rfl,rfl⟩:=hP
   have hj:j < m:=by
    have q:=(List.getElem?_eq_some_iff.mp hw).1
    rw[du] at q
    exact q
   rw[nT hj] at hw
   cases hw
   have ln:(hZ a b (0+j) (d+1 - b).toNat).length+(oI (a+j) b (d+1 - b).toNat).length<=lim:=by
    rw[ug]
    have z:(oI (a+(j:Int)) b (d+1 - b).toNat).length=(d+1 - b).toNat:=by unfold oI;simp
    rw[z]
    have:(0+j) * (d+1 - b).toNat<=100 * 300:=Nat.mul_le_mul (by omega) hn
    unfold lim
    omega
   refine⟨_,_,?_,some (.int (a+(j:Int))),more++[.lst (oI (a+j) b (d+1 - b).toNat)],rfl,rfl⟩
   have e:hZ a b (0+j+1) (d+1 - b).toNat=hZ a b (0+j) (d+1 - b).toNat++oI (a+j) b (d+1 - b).toNat:=by rw[Nat.zero_add];exact zE
   rw[e]
   have rc:=F9 (a:=a) (c:=c) (o:=.ref st.length) (r:=a+(j:Int)) (st:=st++ .lst (hZ a b (0+j) (d+1 - b).toNat)::more) hb hd hn
   have km:=λga ρ=>lC (mt:=xb) (ga:=ga) (ρ:=ρ) (st:=st++ .lst (hZ a b (0+j) (d+1 - b).toNat)::more) (l:=st.length) uf
   have em:=F_ (st:=st) (more:=more) ln
   unfold cV
   simp only[e_expr,Oc,rn,vX,vW,rT,rS,t_,lB,km,rc,em,FP,zk])
 exact⟨o,more,by rw[e1,du,Nat.zero_add]⟩
theorem rV(h:hX a b c d):∃more:Hs,cZ [tI [a,b,c,d]] st= .ok (.ref st.length) (st++ .lst (hZ a b (c+1 - a).toNat (d+1 - b).toNat)::more):=by
 unfold hX at h
 obtain⟨o,more,e⟩:=CJ (a:=a) (c:=c) (st:=st) (b:=b) (d:=d) (ρ0:=none) (by unfold dA;omega) (by unfold dA;omega) (by omega) (m:=(c+1 - a).toNat) (by omega)
 have ca:dA a:=by unfold dA;omega
 have cc:dA (c+1):=by unfold dA;omega
 refine⟨more,A3 (n:=3) (g:=dX) ?_⟩
 unfold dX
 simp[tI,jx4,ca,cc]
 simp[e]
end
abbrev Pt:=Int×Int
def F'(a b:Int)(m n:Nat):List Pt:=((dh m).map λk:Nat=>(dh n).map λj:Nat=>((a+k,b+j):Pt)).flatten
theorem xU{a b:Int}{m n:Nat}:hZ a b m n=(F' a b m n).map pw:=by
 unfold hZ F' oI
 rw[List.map_flatten,mI]
 congr 1
 refine zF λk _=>?_
 show _=((dh n).map λj:Nat=>((a+k,b+j):Pt)).map pw
 rw[mI]
 rfl
theorem JK{a b:Int}{m n:Nat}{p:Pt}:p∈F' a b m n↔(a<=p.1/\p.1 < a+m)/\b<=p.2/\p.2 < b+n:=by
 unfold F'
 rw[List.mem_flatten]
 constructor
 ·rintro⟨l,hl,hp⟩
  obtain⟨k,hk,rfl⟩:=List.mem_map.mp hl
  obtain⟨j,hj,rfl⟩:=List.mem_map.mp hp
  have:=List.mem_range.mp hk
  have:=List.mem_range.mp hj
  dsimp only
  omega
 ·rintro⟨⟨h1,h2⟩,h3,h4⟩
  refine⟨_,List.mem_map.mpr ⟨(p.1 - a).toNat,List.mem_range.mpr (by omega),rfl⟩,List.mem_map.mpr ⟨(p.2 - b).toNat,List.mem_range.mpr (by omega),?_⟩⟩
  refine pJ ?_ ?_
  ·show a+((p.1 - a).toNat:Int)=p.1
   omega
  ·show b+((p.2 - b).toNat:Int)=p.2
   omega
theorem JM{a b:Int}{m n:Nat}:(F' a b m n).length=m * n:=by
 have:=congrArg l8 (xU (a:=a) (b:=b) (m:=m) (n:=n))
 rw[ug,bU] at this
 exact this.symm
def iZ(a b c d:Int):List Pt:=F' a b (c+1 - a).toNat (d+1 - b).toNat
theorem JN{a b c d:Int}(h:hX a b c d){p:Pt}:p∈iZ a b c d↔(a<=p.1/\p.1<=c)/\b<=p.2/\p.2<=d:=by
 unfold iZ
 rw[JK]
 unfold hX at h
 omega
def dP(p:Pt):PyData:=.tuple [.int p.1,.int p.2]
theorem vY(p q:Pt):a4 (dP p) (dP q)=decide (p=q):=by
 rw[wc]
 simp[dP,a4,fM,Prod.ext_iff]
theorem Ba{st:Hs}{n:Nat}:∀l:List Pt,eW (bj st (n+1)) (l.map pw)=some (l.map dP)
 | []=>rfl
 | p::r=>by
  rw[bw]
  unfold eW
  rw[Ba r]
  have:bj st (n+1) (pw p)=some (dP p):=by cases n<;>rfl
  rw[this]
  rfl
theorem Ov{st:Hs}{l:Nat}{ps:List Pt}(h:aB st l=some (ps.map pw)):bj st 20 (.ref l)=some (.list (ps.map dP)):=by
 show(match aB st l with | some ws=>(eW (bj st 19) ws).map Ar | none=>none)=_
 rw[h]
 dsimp only
 rw[Ba]
 rfl
theorem RZ{st:Hs}{l:Nat}{ps:List Pt}(h:aB st l=some (ps.map pw))(p:Pt):kr false (pw p) (.ref l) st= .ok (.bl (decide (p∈ps))) st:=by
 have d2:bj st 20 (pw p)=some (dP p):=rfl
 have e:((ps.map dP).any λz=>a4 z (dP p))=decide (p∈ps):=by
  rw[wc,zG,decide_eq_true_eq]
  constructor
  ·rintro⟨z,hz,e⟩
   obtain⟨m,hm,rfl⟩:=List.mem_map.mp hz
   rw[vY] at e
   rw[<-of_decide_eq_true e]
   exact hm
  ·intro hm
   exact⟨_,List.mem_map.mpr ⟨p,hm,rfl⟩,by rw[vY];simp⟩
 unfold kr
 rw[Ov h,d2]
 dsimp only
 rw[e]
 simp
theorem Ow{x:Wv}{ws:List Wv}{st:Hs}:aP (.tup (x::ws)) (.int 0) st= .ok x st:=Jx (L2.mR (j:=0) rfl)
theorem ix1{x y:Wv}{ws:List Wv}{st:Hs}:aP (.tup (x::y::ws)) (.int 1) st= .ok y st:=Jx (L2.mR (j:=1) rfl)
theorem Ox{ws us:List Wv}{lo hi:Option Int}{st:Hs}(h:¬mf ws.length lo hi)(h2:ph ws lo hi=us):B7 (.tup ws) lo hi st= .ok (.tup us) st:=by
 show(if mf ws.length lo hi then Re.ok (Wv.tup ws) st else Px (.tup ws) lo hi st)=_
 rw[if_neg h]
 show(if mf ws.length lo hi then Re.bad else Re.ok (Wv.tup (ph ws lo hi)) st)=_
 rw[if_neg h,h2]
theorem CK{x:S}{k:Int}{st:Hs}(h:fN.lookup x=some (.int k)):fY [.str x] st= .ok (.int k) st:=by
 unfold fY bh kL
 simp[JC h]
theorem rW{x:S}{k:Int}{ws us:List Wv}(h:fN.lookup x=some (.int k))(n1:¬mf (ws.length+1) (some 1) (some (1+k)))(hc:ph (.str x::ws) (some 1) (some (1+k))=us)(st:Hs):b9 [.tup (.str x::ws)] st= .ok (.tup us) st:=by
 unfold b9 bh mr
 have s:=Ox (ws:=.str x::ws) (us:=us) (lo:=some 1) (hi:=some (1+k)) (st:=st) n1 hc
 simp[Ow,CK h,s]
def zH(p:Pt):List L2.Key:=[.inl p.1,.inl p.2]
theorem rX{p q:Pt}:zH p=zH q↔p=q:=by
 constructor
 ·intro h
  unfold zH at h
  injection h with h1 h2
  injection h2 with h2 h3
  injection h1 with h1
  injection h2 with h2
  exact pJ h1 h2
 ·rintro rfl;rfl
theorem Oy{p:Pt}:n6 (pw p)=some (zH p):=rfl
abbrev Ws:=List (Pt×Wo)
def xV(W:Ws):List (List L2.Key×Wv):=W.map λq=>(zH q.1,q.2.w)
def wo:Ws->Pt->Wo
 | [],_=> .non
 | q::r,p=>if q.1=p then q.2 else wo r p
theorem zI:∀(W:Ws)(p:Pt),(kq (xV W) (zH p)).getD .non=(wo W p).w
 | [],p=>rfl
 | q::r,p=>by
  have ih:=zI r p
  unfold xV at ih ⊢
  rw[bw]
  unfold kq wo
  dsimp only
  by_cases e:q.1=p
  ·rw[if_pos (rX.mpr e),if_pos e];rfl
  ·rw[if_neg (λz=>e (rX.mp z)),if_neg e];exact ih
structure Kn(W:Ws)(P:List Pt)(d l:Nat)(st:Hs):Prop where
 d:st[d]? =some (.nL (xV W))
 l:st[l]? =some (.lst (P.map pw))
section
variable {W:Ws} {P:List Pt} {d l k m:Nat} {st st':Hs}
theorem Kn.gr(h:Kn W P d l st)(g:Gr st st'):Kn W P d l st':=⟨g.get h.d,g.get h.l⟩
theorem Kn.at'(h:Kn W P d l st){r:Nat}(g:bM r st st')(h1:d≠r)(h2:l≠r):Kn W P d l st':=⟨by rw[g.2 d (cT h.d) h1];exact h.d,by rw[g.2 l (cT h.l) h2];exact h.l⟩
theorem Kn.Oz(h:Kn W P d l st)(p:Pt):kr false (pw p) (.ref l) st= .ok (.bl (decide (p∈P))) st:=RZ (b5 h.l) p
theorem Kn.Wt(h:Kn W P d l st){gd gk:GE}{ρ:bY}{R0:Hs}{p:Pt}(e1:gd ρ R0= .ok (.ref d) st)(e2:gk ρ st= .ok (pw p) st):mh gd gk ρ R0= .ok (wo W p).w st:=by
 have w:nh st[d]? =some (xV W):=by rw[h.d];rfl
 unfold mh
 rw[e1]
 show(if _ then _ else _)=_
 rw[w,if_pos (show(some (xV W)).isSome=true from rfl),e2]
 show(match n6 (pw p),nh st[d]? with | some kk,some kvs=>Re.ok ((kq kvs kk).getD .non) st | _,_=> .bad)=_
 rw[Oy,w]
 dsimp only
 rw[zI]
theorem Kn.Wu(h:Kn W P d l st){gd gk:GE}{ρ:bY}{R0:Hs}{p:Pt}(e1:gd ρ R0= .ok (.ref d) st)(e2:gk ρ st= .ok (pw p) st):lx gd gk (gC .non) ρ R0= .ok (wo W p).w st:=by
 have w:nh st[d]? =some (xV W):=by rw[h.d];rfl
 unfold lx
 rw[e1]
 show(if _ then _ else _)=_
 rw[w,if_pos (show(some (xV W)).isSome=true from rfl),e2]
 show(match n6 (pw p),nh st[d]? with | some kk,some kvs=>Re.ok ((kq kvs kk).getD .non) st | _,_=> .bad)=_
 rw[Oy,w]
 dsimp only
 rw[zI]
end
inductive Sd
 | wt (p:Pt)
 | wo (a:Wo)
def Sd.w:Sd->Wv
 | .wt p=> .tup [.str "waits",pw p]
 | .wo a=>a.w
def Sd.h:Sd->Bool
 | .wt _=>true
 | .wo a=>a.f
def jW(W:Ws)(P:List Pt)(p:Pt):Sd:=if p∈P then .wt p else .wo (wo W p)
def Wo.nn:Wo->Bool
 | .non=>false
 | _=>true
def ft(a b:Wo):Bool:=b.nn&&(a.nn&&same a b)
theorem halts(s:Sd){st:Hs}:b7 [s.w] st= .ok (.bl s.h) st:=by
 cases s with
 | wt p=>rfl
 | wo a=>cases a<;>rfl
theorem Ww(a:Wo){st:Hs}:oZ a.w .non st= .ok (.bl a.nn) st:=by cases a<;>rfl
theorem Wx(a:Wo){st:Hs}:qG a.w .non st= .ok (.bl a.nn) st:=by cases a<;>rfl
theorem YA(a:Wo){st:Hs}:GX a.w .non st= .ok (.bl (!a.nn)) st:=by cases a<;>rfl
theorem fits(a b:Wo){st:Hs}:mx [a.w,b.w] st= .ok (.bl (ft a b)) st:=by
 unfold mx bh zp
 cases hb:b.nn<;>cases ha:a.nn<;>simp[Wx,sw,ft,ha,hb]
def stp(W:Ws)(P:List Pt)(key:Wo)(p:Pt):Bool:=(jW W P p).h||ft (wo W p) key
inductive Rd
 | xW (p:Pt)
 | part (a b c d:Int) (p:Pt)
 deriving DecidableEq
def Rd.d:Rd->PyData
 | .xW p=> .tuple [.str "at",.tuple [.int p.1,.int p.2]]
 | .part a b c d p=> .tuple [.str "part",.tuple [.int a,.int b,.int c,.int d],.tuple [.int p.1,.int p.2]]
def Rd.w:Rd->Wv
 | .xW p=> .tup [.str "at",pw p]
 | .part a b c d p=> .tup [.str "part",tI [a,b,c,d],pw p]
theorem K0:aY "at"=true:=by decide+kernel
theorem Bb:aY "part"=true:=by decide+kernel
theorem Rd.ok(r:Rd):NK.kd 8 r.d=true/\NK.J_ r.d=true:=by cases r<;>exact⟨by simp[NK.kd,Rd.d,K0,Bb],rfl⟩
def Rd.k(r:Rd):NK.KD:=⟨r.d,r.ok⟩
theorem Rd.key(r:Rd):zb r.w=some r.k:=by
 have e:qZ 8 r.w=some r.d:=by cases r<;>simp[qZ,Rd.w,Rd.d,tI,pw]
 unfold zb
 rw[e]
 dsimp only
 rw[dif_pos r.ok]
 rfl
theorem Rd.back(r:Rd):wD 8 r.d=some r.w:=by cases r<;>simp[wD,Rd.w,Rd.d,tI,pw,K0,Bb]
theorem Rd.inj{r s:Rd}:r.k=s.k↔r=s:=by
 constructor
 ·intro h
  have h:r.d=s.d:=congrArg Subtype.val h
  cases r<;>cases s<;>simp[Rd.d] at h
  ·exact congrArg Rd.xW (pJ h.1 h.2)
  ·obtain⟨⟨rfl,rfl,rfl,rfl⟩,h5,h6⟩:=h
   exact congrArg (Rd.part _ _ _ _) (pJ h5 h6)
 ·rintro rfl;rfl
def C0(r:Rd):NK.KD×Wv:=(r.k,.bl true)
def bR(rs:List Rd)(r:Rd):List Rd:=if r∈rs then rs else rs++[r]
theorem OC(rs:List Rd)(r:Rd):pk (rs.map C0) r.k (.bl true)=(bR rs r).map C0:=by
 unfold pk bR
 have e:((rs.map C0).any λkv=>decide (kv.1=r.k))=decide (r∈rs):=by
  rw[wc,zG,decide_eq_true_eq]
  constructor
  ·rintro⟨z,hz,e⟩
   obtain⟨s,hs,rfl⟩:=List.mem_map.mp hz
   rw[<-Rd.inj.mp (of_decide_eq_true e)]
   exact hs
  ·intro h
   exact⟨C0 r,List.mem_map.mpr ⟨r,h,rfl⟩,decide_eq_true rfl⟩
 rw[e]
 by_cases h:r∈rs
 ·rw[if_pos (decide_eq_true h),if_pos h,mI]
  refine zF λs _=>?_
  show(if(C0 s).1=r.k then((C0 s).1,Wv.bl true) else C0 s)=C0 s
  split<;>rfl
 ·rw[if_neg (by simp[h]),if_neg h,eh]
  rfl
theorem Bc:∀rs:List Rd,n_ (rs.map C0)=some (rs.map Rd.w)
 | []=>rfl
 | r::rs=>by
  have ih:=Bc rs
  unfold n_ at ih ⊢
  rw[bw]
  unfold eW
  rw[ih]
  have e:wD 8 (C0 r).1.1=some r.w:=r.back
  rw[e]
  rfl
def lf(d l m:Nat):List (S×Wv):=[("worths",.ref d),("waiting",.ref l),("met",.ref m)]
theorem CL{c f:S}{g:GE}{ρ:bY}{st st1:Hs}{k:Nat}{fs:List (S×Wv)}{w:Wv}(h:g ρ st= .ok (.ref k) st1)(h2:st1[k]? =some (.ins c fs))(h3:fs.lookup f=some w):iR c f g ρ st= .ok w st1:=by
 have e:fV st1 c (.ref k)=some fs:=by unfold fV;simp[h2]
 unfold iR
 rw[h]
 show(match(fV st1 c (.ref k)).bind (·.lookup f) with | some w=>Re.ok w st1 | none=> .bad)=_
 rw[e]
 show(match fs.lookup f with | some w=>Re.ok w st1 | none=> .bad)=_
 rw[h3]
theorem CM{c f:S}{n:Nat}{F:List Wv->Hs->Re Wv}{go:GE}{ga:GA}{ρ:bY}{st st1 st2:Hs}{k:Nat}{fs:List (S×Wv)}{ws:List Wv}(h:go ρ st= .ok (.ref k) st1)(h2:st1[k]? =some (.ins c fs))(h3:fs.lookup f=none)(h4:ga ρ st1= .ok ws st2)(h5:ws.length+1=n) :
  lM c f n F go ga ρ st=F (.ref k::ws) st2:=by
 have e:fV st1 c (.ref k)=some fs:=by unfold fV;simp[h2]
 unfold lM
 rw[h]
 show(match(fV st1 c (.ref k)).map (·.lookup f) with
  | some none=>(ga ρ st1).bind λws st2=>if ws.length+1=n then F (.ref k::ws) st2 else .bad
  | _=> .bad)=_
 rw[e]
 show(match some (fs.lookup f) with
  | some none=>(ga ρ st1).bind λws st2=>if ws.length+1=n then F (.ref k::ws) st2 else .bad
  | _=> .bad)=_
 rw[h3]
 dsimp only
 rw[h4]
 show(if ws.length+1=n then F (.ref k::ws) st2 else .bad)=_
 rw[if_pos h5]
structure Lk(W:Ws)(P:List Pt)(d l k m:Nat)(rs:List Rd)(st:Hs):Prop where
 n:Kn W P d l st
 o:st[k]? =some (.ins "Look" (lf d l m))
 m:st[m]? =some (.nM (rs.map C0))
section
variable {W:Ws} {P:List Pt} {d l k m:Nat} {rs:List Rd} {st st':Hs}
theorem Lk.ne(h:Lk W P d l k m rs st):d≠m/\l≠m/\k≠m:=by
 refine⟨λe=>?_,λe=>?_,λe=>?_⟩
 ·have:=h.n.d;rw[e,h.m] at this;cases this
 ·have:=h.n.l;rw[e,h.m] at this;cases this
 ·have:=h.o;rw[e,h.m] at this;cases this
theorem Lk.gr(h:Lk W P d l k m rs st)(g:Gr st st'):Lk W P d l k m rs st':=⟨h.n.gr g,g.get h.o,g.get h.m⟩
theorem Lk.set(h:Lk W P d l k m rs st){s:Nat}{us vs:List Wv}(hs:st[s]? =some (.lst us))(hl:l≠s):Lk W P d l k m rs (st.set s (.lst vs)):=by
 have q:∀j o,st[j]? =some o->j≠s->(st.set s (.lst vs))[j]? =some o:=λj o e z=>by rw[cK (bo z)];exact e
 refine⟨⟨q _ _ h.n.d λe=>?_,q _ _ h.n.l hl⟩,q _ _ h.o λe=>?_,q _ _ h.m λe=>?_⟩
 ·have:=h.n.d;rw[e,hs] at this;cases this
 ·have:=h.o;rw[e,hs] at this;cases this
 ·have:=h.m;rw[e,hs] at this;cases this
def jR(st:Hs)(m:Nat)(rs:List Rd):Hs:=st.set m (.nM (rs.map C0))
theorem Lk.met(h:Lk W P d l k m rs st){rs':List Rd}:Lk W P d l k m rs' (jR st m rs'):=by
 obtain⟨n1,n2,n3⟩:=h.ne
 have q:∀j o,st[j]? =some o->j≠m->(jR st m rs')[j]? =some o:=λj o e z=>by unfold jR;rw[cK (bo z)];exact e
 exact⟨⟨q _ _ h.n.d n1,q _ _ h.n.l n2⟩,q _ _ h.o n3,cP h.m⟩
theorem oJ{rs':List Rd}:bM m st (jR st m rs'):=bM.set
theorem Lk.OD(h:Lk W P d l k m rs st)(hl:rs.length < 1000){gv gd gk:GE}{ρ:bY}{r:Rd}(e1:gv ρ st= .ok (.bl true) st)(e2:gd ρ st= .ok (.ref m) st)(e3:gk ρ st= .ok r.w st):lT gv gd gk ρ st= .nx ρ (jR st m (bR rs r)):=by
 have e:putN (.ref m) r.w (.bl true) st=some (jR st m (bR rs r)):=by
  show(match zb r.w,st[m]? with | some kk,some (.nM kvs)=>if kvs.length < lim then some (st.set m (.nM (pk kvs kk (.bl true)))) else none | _,_=>none)=_
  rw[r.key,h.m]
  dsimp only
  rw[if_pos (by rw[bU];unfold lim;omega),OC]
  rfl
 unfold lT
 rw[e1]
 show(gd ρ st).bD ρ _=_
 rw[e2]
 show(gk ρ st).bD ρ _=_
 rw[e3]
 show(match putN (.ref m) r.w (.bl true) st with | some yd=>Rs.nx ρ yd | none=> .bad)=_
 rw[e]
theorem Lk.tup(h:Lk W P d l k m rs st):t8 [.ref m] st= .ok (.tup (rs.map Rd.w)) st:=by
 unfold t8
 simp only[h.m]
 rw[Bc]
theorem xX(h:Lk W P d l k m rs st)(p:Pt):bp [.ref k,pw p] st= .ok (jW W P p).w st:=by
 have f1:iR "Look" "waiting" (af 0) [some (.ref k),some (pw p)] st= .ok (.ref l) st:=CL rfl h.o rfl
 have f2:iR "Look" "worths" (af 0) [some (.ref k),some (pw p)] st= .ok (.ref d) st:=CL rfl h.o rfl
 have f3:mh (iR "Look" "worths" (af 0)) (af 1) [some (.ref k),some (pw p)] st= .ok (wo W p).w st:=h.n.Wt f2 rfl
 have f4:=h.n.Oz p
 unfold bp bh fF jW
 by_cases c:p∈P
 ·simp[f1,f4,c,Sd.w]
 ·simp[f1,f4,f3,c,Sd.w]
theorem cell(h:Lk W P d l k m rs st)(hl:rs.length < 1000)(p:Pt):cm [.ref k,pw p] st= .ok (jW W P p).w (jR st m (bR rs (.xW p))):=by
 have f1:iR "Look" "met" (af 0) [some (.ref k),some (pw p)] st= .ok (.ref m) st:=CL rfl h.o rfl
 have f2:lT (gC (.bl true)) (iR "Look" "met" (af 0)) (bI (aa (gC (.str "at")) (aa (af 1) aj))) [some (.ref k),some (pw p)] st= .nx [some (.ref k),some (pw p)] (jR st m (bR rs (.xW p))):=h.OD hl (r:=.xW p) rfl f1 rfl
 have h2:Lk W P d l k m (bR rs (.xW p)) (jR st m (bR rs (.xW p))):=h.met
 have f3:lM "Look" "standing" 2 bp (af 0) (aa (af 1) aj) [some (.ref k),some (pw p)] (jR st m (bR rs (.xW p)))= .ok (jW W P p).w (jR st m (bR rs (.xW p))):=by
  exact(CM (k:=k) (ws:=[pw p]) rfl h2.o rfl rfl rfl).trans (xX h2 p)
 unfold cm bh jJ
 simp[f2,f3]
end
def upto{α:Type}(f:α->Bool):List α->List α
 | []=>[]
 | a::r=>if f a=true then[a] else a::upto f r
theorem xY{α:Type}{f:α->Bool}:∀{ps:List α},ps.any f=true->∃pre x post,ps=pre++x::post/\upto f ps=pre++[x]/\f x=true/\∀y∈pre,f y=false
 | [],h=>by cases h
 | a::r,h=>by
  cases c:f a with
  | true=>exact⟨[],a,r,rfl,by unfold upto;rw[if_pos c];rfl,c,by simp⟩
  | false=>
   rw[fm,c,Bool.false_or] at h
   obtain⟨pre,x,post,e1,e2,e3,e4⟩:=xY h
   exact⟨a::pre,x,post,by rw[e1];rfl,by unfold upto;rw[if_neg (by rw[c];exact bE),e2];rfl,e3,by
    intro y hy
    rcases List.mem_cons.mp hy with rfl | hy
    ·exact c
    ·exact e4 y hy⟩
theorem Bd{α:Type}{f:α->Bool}:∀{ps:List α},ps.any f=false->upto f ps=ps/\∀y∈ps,f y=false
 | [],h=>⟨rfl,by simp⟩
 | a::r,h=>by
  rw[fm,OE] at h
  obtain⟨e1,e2⟩:=Bd h.2
  refine⟨by unfold upto;rw[if_neg (by rw[h.1];exact bE),e1],λy hy=>?_⟩
  rcases List.mem_cons.mp hy with rfl | hy
  ·exact h.1
  ·exact e2 y hy
theorem lI{f:Pt->Bool}{ps:List Pt}(h:ps≠[]):∃pre x,upto f ps=pre++[x]/\(∀y∈pre,f y=false)/\(∃post,ps=pre++x::post)/\(f x=false->ps=pre++[x]):=by
 cases c:ps.any f with
 | true=>
  obtain⟨pre,x,post,e1,e2,e3,e4⟩:=xY c
  exact⟨pre,x,e2,e4,⟨post,e1⟩,λz=>by rw[e3] at z;cases z⟩
 | false=>
  obtain⟨e1,e2⟩:=Bd c
  obtain⟨pre,x,rfl⟩:∃pre x,ps=pre++[x]:=⟨ps.dropLast,ps.getLast h,(List.dropLast_concat_getLast h).symm⟩
  exact⟨pre,x,e1,λy hy=>e2 y (by simp[hy]),⟨[],rfl⟩,λ_=>rfl⟩
section
variable {W:Ws} {P:List Pt} {d l k m:Nat} {rs:List Rd} {st:Hs} {key:Wo} {a b c e:Int}
def i5(W:Ws)(P:List Pt)(p:Pt):Wv:=(jW W P p).w
theorem turn(h:Lk W P d l k m rs st)(hr:rs.length < 1000){s:Nat}{pre:List Pt}(hs:st[s]? =some (.lst (pre.map (i5 W P))))(hl:l≠s)(hp:pre.length < 400)(p:Pt) :
  cD [some (.ref k),some (tI [a,b,c,e]),some key.w,some (.ref s),some (pw p)] st=
   if stp W P key p=true then .rt (.ref s) (jR (st.set s (.lst ((pre++[p]).map (i5 W P)))) m (bR rs (.part a b c e p)))
   else .nx [some (.ref k),some (tI [a,b,c,e]),some key.w,some (.ref s),some (pw p)] (st.set s (.lst ((pre++[p]).map (i5 W P)))):=by
 have km:=λga ρ=>lC (mt:=ji) (ga:=ga) (ρ:=ρ) (st:=st) (l:=s) (b5 hs)
 have f1:lM "Look" "standing" 2 bp (af 0) (aa (af 4) aj) [some (.ref k),some (tI [a,b,c,e]),some key.w,some (.ref s),some (pw p)] st= .ok (i5 W P p) st:=(CM (k:=k) (ws:=[pw p]) rfl h.o rfl rfl rfl).trans (xX h p)
 have ap:=o9 (v:=i5 W P p) hs (by rw[bU];unfold lim;omega)
 have eq:pre.map (i5 W P)++[i5 W P p]=(pre++[p]).map (i5 W P):=by simp
 rw[eq] at ap
 have h1:Lk W P d l k m rs (st.set s (.lst ((pre++[p]).map (i5 W P)))):=h.set hs hl
 have s1:(st.set s (.lst ((pre++[p]).map (i5 W P))))[s]? =some (.lst ((pre++[p]).map (i5 W P))):=cP hs
 generalize hst:st.set s (.lst ((pre++[p]).map (i5 W P)))=st1 at ap h1 s1 ⊢
 have ix:aP (.ref s) (.int (-1)) st1= .ok (i5 W P p) st1:=fW (b5 s1) (by rw[<-eq];exact kz)
 have f2:iR "Look" "met" (af 0) [some (.ref k),some (tI [a,b,c,e]),some key.w,some (.ref s),some (pw p)] st1= .ok (.ref m) st1:=CL rfl h1.o rfl
 have f3:lT (gC (.bl true)) (iR "Look" "met" (af 0)) (bI (aa (gC (.str "part")) (aa (af 1) (aa (af 4) aj)))) [some (.ref k),some (tI [a,b,c,e]),some key.w,some (.ref s),some (pw p)] st1= .nx [some (.ref k),some (tI [a,b,c,e]),some key.w,some (.ref s),some (pw p)] (jR st1 m (bR rs (.part a b c e p))):=h1.OD hr (r:=.part a b c e p) rfl f2 rfl
 have hh:=halts (jW W P p) (st:=st1)
 unfold cD stp
 unfold i5 at ix ap f1
 cases q:(jW W P p).h with
 | true=>
  rw[q] at hh
  simp[km,f1,ap,ix,hh,f3]
 | false=>
  rw[q] at hh
  have e:jW W P p= .wo (wo W p):=by
   unfold jW at q ⊢
   split at q
   ·cases q
   ·rename_i z;rw[if_neg z]
  have hf:=fits (wo W p) key (st:=st1)
  rw[e] at hh ix ap f1
  cases q2:ft (wo W p) key<;>rw[q2] at hf<;>simp[Sd.w] at hh ix ap f1<;>simp[km,f1,ap,ix,hh,hf,f3]
theorem xZ(hr:rs.length < 1000){s q:Nat}{all:List Wv}(hl:l≠s)(hq:q≠s)(PH:q≠m):∀(post pre:List Pt)(st:Hs)(o4:Option Wv),Lk W P d l k m rs st->st[s]? =some (.lst (pre.map (i5 W P)))->aB st q=some all->pre.length+post.length < 400->
  (∀x post',upto (stp W P key) post=post'++[x]->stp W P key x=true->forL 4 cD q all (post.map pw) [some (.ref k),some (tI [a,b,c,e]),some key.w,some (.ref s),o4] st= .rt (.ref s) (jR (st.set s (.lst ((pre++upto (stp W P key) post).map (i5 W P)))) m (bR rs (.part a b c e x))))/\
  (post.any (stp W P key)=false->∃o,forL 4 cD q all (post.map pw) [some (.ref k),some (tI [a,b,c,e]),some key.w,some (.ref s),o4] st= .nx [some (.ref k),some (tI [a,b,c,e]),some key.w,some (.ref s),o] (st.set s (.lst ((pre++post).map (i5 W P)))))
 | [],pre,st,o4,h,hs,hall,hn=>⟨λx post' z=>by simp[upto] at z,λ_=>⟨o4,by
   rw[jc]
   have:st.set s (.lst (pre.map (i5 W P)))=st:=by
    refine EN λj=>?_
    by_cases z:s=j
    ·subst z;rw[cP hs,hs]
    ·rw[cK z]
   rw[this]
   rfl⟩⟩
 | p::post,pre,st,o4,h,hs,hall,hn=>by
  have t:=turn (a:=a) (b:=b) (c:=c) (e:=e) (key:=key) h hr hs hl (by omega) p
  have h1:Lk W P d l k m rs (st.set s (.lst ((pre++[p]).map (i5 W P)))):=h.set hs hl
  have s1:(st.set s (.lst ((pre++[p]).map (i5 W P))))[s]? =some (.lst ((pre++[p]).map (i5 W P))):=cP hs
  have a1:aB (st.set s (.lst ((pre++[p]).map (i5 W P)))) q=some all:=by
   unfold aB at hall ⊢
   rw[cK (bo hq)]
   exact hall
  obtain⟨i1,i2⟩:=xZ hr hl hq PH post (pre++[p]) _ (some (pw p)) h1 s1 a1 (by simp at hn ⊢;omega)
  have e1:∀us:List Wv,(st.set s (.lst ((pre++[p]).map (i5 W P)))).set s (.lst us)=st.set s (.lst us):=λus=>List.set_set ..
  refine⟨λx post' z zx=>?_,λz=>?_⟩
  ·rw[bw]
   unfold forL
   rw[show([some (Wv.ref k),some (tI [a,b,c,e]),some key.w,some (.ref s),o4]:bY).set 4 (some (pw p))=[some (.ref k),some (tI [a,b,c,e]),some key.w,some (.ref s),some (pw p)] from rfl,t]
   unfold upto at z ⊢
   by_cases cp:stp W P key p=true
   ·rw[if_pos cp] at z ⊢
    rw[if_pos cp]
    have:p=x:=by
     cases post' with
     | nil=>cases z;rfl
     | cons _ r=>cases r<;>cases z
    subst this
    rfl
   ·rw[if_neg cp] at z ⊢
    rw[if_neg cp]
    dsimp only
    rw[if_pos a1]
    cases post' with
    | nil=>
     have:x=p:=(List.cons.inj z).1.symm
     subst this
     exact absurd zx cp
    | cons y r=>
     rw[i1 x r (List.cons.inj z).2 zx,e1]
     simp
  ·rw[fm,OE] at z
   obtain⟨o,e2⟩:=i2 z.2
   refine⟨o,?_⟩
   rw[bw]
   unfold forL
   rw[show([some (Wv.ref k),some (tI [a,b,c,e]),some key.w,some (.ref s),o4]:bY).set 4 (some (pw p))=[some (.ref k),some (tI [a,b,c,e]),some key.w,some (.ref s),some (pw p)] from rfl,t,if_neg (by rw[z.1];exact bE)]
   dsimp only
   rw[if_pos a1,e2,e1]
   simp
end
section
variable {W:Ws} {P:List Pt} {d l k m:Nat} {rs:List Rd} {st:Hs} {key:Wo} {a b c e:Int}
theorem places'(h:hX a b c e):∃more:Hs,cZ [tI [a,b,c,e]] st= .ok (.ref st.length) (st++ .lst ((iZ a b c e).map pw)::more):=by
 obtain⟨more,q⟩:=rV (st:=st) h
 rw[xU] at q
 exact⟨more,q⟩
theorem lJ(h:hX a b c e):(iZ a b c e).length<=300/\iZ a b c e≠[]:=by
 have q:(a,b)∈iZ a b c e:=(JN h).mpr (by unfold hX at h;dsimp only;omega)
 refine⟨?_,λz=>by rw[z] at q;cases q⟩
 unfold iZ
 rw[JM]
 unfold hX at h
 have e1:(((c+1 - a).toNat * (e+1 - b).toNat:Nat):Int)=(c - a+1) * (e - b+1):=by
  rw[Int.natCast_mul,show(((c+1 - a).toNat:Nat):Int)=c - a+1 from by omega,show(((e+1 - b).toNat:Nat):Int)=e - b+1 from by omega]
 omega
theorem JP{a b:Int}{m n:Nat}:∃pre,F' a b (m+1) (n+1)=pre++[(a+m,b+n)]:=by
 have e1:F' a b (m+1) (n+1)=F' a b m (n+1)++(dh (n+1)).map λj:Nat=>((a+m,b+j):Pt):=by
  unfold F'
  rw[show dh (m+1)=dh m++[m] from p_,eh,F8]
  simp
 rw[e1,p_,eh]
 exact⟨_,by rw[bw,k_,qw]⟩
theorem JQ(h:hX a b c e):∃pre,iZ a b c e=pre++[(c,e)]:=by
 unfold hX at h
 obtain⟨m,hm⟩:∃m:Nat,(c+1 - a).toNat=m+1:=⟨(c - a).toNat,by omega⟩
 obtain⟨n,hn⟩:∃n:Nat,(e+1 - b).toNat=n+1:=⟨(e - b).toNat,by omega⟩
 obtain⟨pre,q⟩:=JP (a:=a) (b:=b) (m:=m) (n:=n)
 refine⟨pre,?_⟩
 unfold iZ
 rw[hm,hn,q,show a+(m:Int)=c from by omega,show b+(n:Int)=e from by omega]
theorem Be(h:Lk W P d l k m rs st)(hr:rs.length < 1000)(ok:hX a b c e):∃(pre:List Pt)(x:Pt)(st':Hs),upto (stp W P key) (iZ a b c e)=pre++[x]/\
  bt [.ref k,tI [a,b,c,e],key.w] st= .ok (.ref st.length) st'/\st'[st.length]? =some (.lst ((pre++[x]).map (i5 W P)))/\Lk W P d l k m (bR rs (.part a b c e x)) st'/\bM m st st':=by
 obtain⟨few,ne⟩:=lJ ok
 obtain⟨pre,x,u1,u2,⟨post,u3⟩,u4⟩:=lI (f:=stp W P key) ne
 obtain⟨more,ep⟩:=places' (st:=st++[Ob.lst []]) ok
 have g0:Gr st ((st++[Ob.lst []])++Ob.lst ((iZ a b c e).map pw)::more):=Gr.push.trans Gr.app
 have h0:=h.gr g0
 have s0:((st++[Ob.lst []])++Ob.lst ((iZ a b c e).map pw)::more)[st.length]? =some (.lst (([]:List Pt).map (i5 W P))):=by simp
 have q0:aB ((st++[Ob.lst []])++Ob.lst ((iZ a b c e).map pw)::more) (st++[Ob.lst []]).length=some ((iZ a b c e).map pw):=uf
 generalize hst:(st++[Ob.lst []])++Ob.lst ((iZ a b c e).map pw)::more=s1 at ep g0 h0 s0 q0
 have hl:l≠st.length:=bN (cT h.n.l)
 have hm:m < st.length:=cT h.m
 have hq:(st++[Ob.lst []]).length≠st.length:=by simp
 have PH:(st++[Ob.lst []]).length≠m:=by simp;omega
 generalize hq1:(st++[Ob.lst []]).length=q1 at ep q0 hq PH
 obtain⟨i1,i2⟩:=xZ (a:=a) (b:=b) (c:=c) (e:=e) (key:=key) hr hl hq PH (iZ a b c e) [] s1 none h0 s0 q0 (by simp;omega)
 rw[k9] at i1 i2
 have h1:Lk W P d l k m rs (s1.set st.length (.lst ((pre++[x]).map (i5 W P)))):=h0.set s0 hl
 have k1:bM m st (s1.set st.length (.lst ((pre++[x]).map (i5 W P)))):=⟨by rw[qr];exact g0.1,λj hj _=>by rw[cK (by omega)];exact g0.2 j hj⟩
 have s2:(s1.set st.length (.lst ((pre++[x]).map (i5 W P))))[st.length]? =some (.lst ((pre++[x]).map (i5 W P))):=cP s0
 refine⟨pre,x,jR (s1.set st.length (.lst ((pre++[x]).map (i5 W P)))) m (bR rs (.part a b c e x)),u1,?_,?_,h1.met,k1.trans oJ⟩
 ·unfold bt bh gf
  cases cx:stp W P key x with
  | true=>
   have q:=i1 x pre u1 cx
   rw[u1] at q
   generalize s1.set st.length (Ob.lst ((pre++[x]).map (i5 W P)))=s3 at q ⊢
   simp[ep,rB q0,q]
  | false=>
   have e1:=u4 cx
   have an:(iZ a b c e).any (stp W P key)=false:=by
    rw[e1,List.any_append,fm,List.any_nil,cx]
    simp
    intro y1 y2 hy
    exact u2 _ hy
   obtain⟨o,q⟩:=i2 an
   have q':=q
   rw[show(iZ a b c e).map (i5 W P)=(pre++[x]).map (i5 W P) from by rw[e1]] at q'
   have ex:x=(c,e):=by
    obtain⟨pre',e2⟩:=JQ ok
    rw[e1] at e2
    have:=congrArg List.getLast? e2
    simpa using this
   have f2:iR "Look" "met" (af 0) [some (.ref k),some (tI [a,b,c,e]),some key.w,some (.ref st.length),o] (s1.set st.length (.lst ((pre++[x]).map (i5 W P))))= .ok (.ref m) (s1.set st.length (.lst ((pre++[x]).map (i5 W P)))):=CL rfl h1.o rfl
   have sl:∀st:Hs,B7 (tI [a,b,c,e]) (some 2) none st= .ok (pw (c,e)) st:=λst=>Ox (ws:=[.int a,.int b,.int c,.int e]) (by show ¬mf 4 (some 2) none;decide) rfl
   have f3:lT (gC (.bl true)) (iR "Look" "met" (af 0)) (bI (aa (gC (.str "part")) (aa (af 1) (aa (gE (af 1) (mV (gC (.int 2))) jh) aj)))) [some (.ref k),some (tI [a,b,c,e]),some key.w,some (.ref st.length),o] (s1.set st.length (.lst ((pre++[x]).map (i5 W P))))= .nx [some (.ref k),some (tI [a,b,c,e]),some key.w,some (.ref st.length),o] (jR (s1.set st.length (.lst ((pre++[x]).map (i5 W P)))) m (bR rs (.part a b c e x))) :=
    h1.OD hr (r:=.part a b c e x) rfl f2 (by rw[ex];simp[sl,Rd.w])
   generalize s1.set st.length (Ob.lst ((pre++[x]).map (i5 W P)))=s3 at q' f3 ⊢
   simp[ep,rB q0,q',f3]
 ·unfold jR
  rw[cK (by omega)]
  exact s2
end
theorem Ga(wd:mH)(ws:List Wo):∃a:Wo,due wd ws=a.w:=by
 have b:∀i:Int,∃a:Wo,bnd i=a.w:=λi=>by
  unfold bnd
  by_cases c:ei < (if i < 0 then -i else i)
  ·exact⟨.i8 "great",if_pos c⟩
  ·exact⟨.int i,if_neg c⟩
 unfold due
 split
 ·rename_i x _ _;exact⟨.i8 x,rfl⟩
 ·cases wd with
  | sum=>exact b _
  | count=>exact⟨.int _,rfl⟩
  | least=>
   dsimp only
   split
   ·exact⟨.i8 "none",rfl⟩
   ·exact b _
  | k6=>
   dsimp only
   split
   ·exact⟨.i8 "none",rfl⟩
   ·exact b _
def JR(wd:mH)(ws:List Wo):Wo:=OF (Ga wd ws)
theorem Gb(wd:mH)(ws:List Wo):(JR wd ws).w=due wd ws:=(OG (Ga wd ws)).symm
def res:Sd->List Rd->Wv
 | .wt p,rs=> .tup [.str "waits",pw p,.tup (rs.map Rd.w)]
 | .wo a,rs=> .tup [.str "worth",a.w,.tup (rs.map Rd.w)]
def Sd.f:Sd->Bool
 | .wt _=>false
 | .wo a=>a.f
theorem R1(s:Sd){st:Hs}:aX [s.w] st= .ok (.bl s.f) st:=by
 cases s with
 | wt p=>rfl
 | wo a=>exact vU a st
theorem OH{c f:S}{gv go:GE}{ρ:bY}{st st1 st2:Hs}{k:Nat}{fs:List (S×Wv)}{v:Wv}(h1:gv ρ st= .ok v st1)(h2:go ρ st1= .ok (.ref k) st2)(h3:st2[k]? =some (.ins c fs))(h4:fs.length < 900):lS c f gv go ρ st= .nx ρ (st2.set k (.ins c (E2 f v fs))):=by
 have e:fV st2 c (.ref k)=some fs:=by unfold fV;simp[h3]
 unfold lS
 rw[h1]
 show(go ρ st1).bD ρ _=_
 rw[h2]
 show(match E3 c f (.ref k) v st2 with | some st3=>Rs.nx ρ st3 | none=> .bad)=_
 unfold E3
 rw[e]
 dsimp only
 rw[if_pos h4]
theorem init{st:Hs}{d l:Nat}:bP [.ref st.length,.ref d,.ref l] (st++[.ins "Look" []])= .ok .non (st++[.ins "Look" (lf d l (st.length+1)),.nM []]):=by
 have f1:lS "Look" "worths" (af 1) (af 0) [some (.ref st.length),some (.ref d),some (.ref l)] (st++[.ins "Look" []])= .nx [some (.ref st.length),some (.ref d),some (.ref l)] (st++[.ins "Look" [("worths",.ref d)]]):=by
  rw[OH (k:=st.length) (v:=.ref d) rfl rfl iq (by simp),A4]
  rfl
 have f2:lS "Look" "waiting" (af 2) (af 0) [some (.ref st.length),some (.ref d),some (.ref l)] (st++[.ins "Look" [("worths",.ref d)]])= .nx [some (.ref st.length),some (.ref d),some (.ref l)] (st++[.ins "Look" [("worths",.ref d),("waiting",.ref l)]]):=by
  rw[OH (k:=st.length) (v:=.ref l) rfl rfl iq (by simp),A4]
  rfl
 have f3:lS "Look" "met" AM (af 0) [some (.ref st.length),some (.ref d),some (.ref l)] (st++[.ins "Look" [("worths",.ref d),("waiting",.ref l)]])= .nx [some (.ref st.length),some (.ref d),some (.ref l)] (st++[.ins "Look" (lf d l (st.length+1)),.nM []]):=by
  rw[OH (k:=st.length) (v:=.ref (st++[Ob.ins "Look" [("worths",.ref d),("waiting",.ref l)]]).length) (st1:=st++[.ins "Look" [("worths",.ref d),("waiting",.ref l)]]++[.nM []]) (fs:=[("worths",.ref d),("waiting",.ref l)]) rfl rfl (by simp) (by simp)]
  simp
  rfl
 unfold bP bh fA
 simp[f1,f2,f3]
section
variable {W:Ws} {P:List Pt} {d l k m:Nat} {st:Hs}
theorem JU{f:Wv}{s:Sd}{rs:List Rd}(n:Kn W P d l st)(hg:∀(st:Hs)(k m:Nat),Lk W P d l k m [] st->∃st',ak [f,.ref k] st= .ok s.w st'/\Lk W P d l k m rs st'/\bM m st st') :
  ∃st',eR [f,.ref d,.ref l] st= .ok (res s rs) st'/\Gr st st':=by
 have i:=init (st:=st) (d:=d) (l:=l)
 have g:Gr st (st++[.ins "Look" (lf d l (st.length+1)),.nM []]):=Gr.app
 have hk:Lk W P d l st.length (st.length+1) [] (st++[.ins "Look" (lf d l (st.length+1)),.nM []]):=⟨n.gr g,by simp,by simp⟩
 obtain⟨st',e1,h1,k1⟩:=hg _ _ _ hk
 have mk:AN "Look" 3 bP (aa (af 1) (aa (af 2) aj)) [some f,some (.ref d),some (.ref l),none,none,none] st= .ok (.ref st.length) (st++[.ins "Look" (lf d l (st.length+1)),.nM []]):=by
  show(if([Wv.ref d,.ref l]:List Wv).length+1=3 then TJ "Look" bP [.ref d,.ref l] st else .bad)=_
  rw[if_pos (show([Wv.ref d,.ref l]:List Wv).length+1=3 from rfl)]
  unfold TJ
  rw[i]
 have fl:iR "Look" "met" (af 3) [some f,some (.ref d),some (.ref l),some (.ref st.length),some s.w,none] st'= .ok (.ref (st.length+1)) st':=CL rfl h1.o rfl
 have tp:=h1.tup
 have hh:=halts s (st:=st')
 have hf:=R1 s (st:=st')
 refine⟨st',?_,g.rE (by omega) k1⟩
 unfold eR bh oC
 generalize st++[.ins "Look" (lf d l (st.length+1)),.nM []]=s1 at mk e1
 cases s with
 | wt p=>
  have ix:aP (Sd.wt p).w (.int 1) st'= .ok (pw p) st':=rfl
  simp[mk,e1,fl,tp,hh,hf,Sd.h,Sd.f,ix,res]
 | wo a=>
  cases q:a.f<;>simp[Sd.h,Sd.f,q] at hh hf<;>simp[mk,e1,fl,tp,hh,hf,res]<;>rfl
end
section
variable {W:Ws} {P:List Pt} {d l k m:Nat} {rs:List Rd} {st:Hs} {a b c e:Int}
theorem JV(p:Pt):stp W P .non p=(jW W P p).h:=by
 unfold stp ft
 simp[Wo.nn]
theorem K3{p:Pt}(h:(jW W P p).h=false):jW W P p= .wo (wo W p)/\p∉P/\(wo W p).f=false:=by
 unfold jW at h ⊢
 by_cases c:p∈P
 ·rw[if_pos c] at h;cases h
 ·rw[if_neg c] at h ⊢;exact⟨rfl,c,h⟩
theorem OI{ps:List Pt}(h:∀p∈ps,(jW W P p).h=false):ps.map (i5 W P)=(ps.map (wo W)).map Wo.w:=by
 rw[mI]
 refine zF λp hp=>?_
 unfold i5
 rw[(K3 (h p hp)).1]
 rfl
def OJ(W:Ws)(P:List Pt)(wd:mH)(us:List Pt)(x:Pt):Sd:=if(jW W P x).h=true then jW W P x else .wo (JR wd (us.map (wo W)))
theorem Wy{wd:mH}(h:Lk W P d l k m rs st)(hr:rs.length < 1000)(ok:hX a b c e)(hn:(iZ a b c e).length < 1000):∃(pre:List Pt)(x:Pt)(st':Hs),upto (stp W P .non) (iZ a b c e)=pre++[x]/\
  bL [.str wd.s,tI [a,b,c,e],.ref k] st= .ok (OJ W P wd (pre++[x]) x).w st'/\Lk W P d l k m (bR rs (.part a b c e x)) st'/\bM m st st':=by
 obtain⟨pre,x,st',e1,e2,e3,e4,e5⟩:=Be (key:=.non) h hr ok
 obtain⟨pre',x',u1,u2,⟨post,u3⟩,_⟩:=lI (f:=stp W P .non) (lJ ok).2
 have u0:=e1.symm.trans u1
 have ex:pre=pre'/\x=x':=by
  have:=List.append_inj' u0 rfl
  exact⟨this.1,by simpa using this.2⟩
 obtain⟨rfl,rfl⟩:=ex
 have ix:aP (.ref st.length) (.int (-1)) st'= .ok (jW W P x).w st':=fW (b5 e3) (by rw[eh];exact kz)
 have hh:=halts (jW W P x) (st:=st')
 have ms:lM "Look" "stretch" 3 bt (af 2) (aa (af 1) (aa (gC .non) aj)) [some (.str wd.s),some (tI [a,b,c,e]),some (.ref k),none] st= .ok (.ref st.length) st':=(CM (k:=k) (ws:=[tI [a,b,c,e],.non]) rfl h.o rfl rfl rfl).trans e2
 have hlen:(pre++[x]).length<=(iZ a b c e).length:=by rw[u3];simp
 cases q:(jW W P x).h with
 | true=>
  refine⟨pre,x,st',e1,?_,e4,e5⟩
  rw[q] at hh
  unfold bL bh cX OJ
  rw[if_pos q]
  simp[ms,ix,hh]
 | false=>
  have al:∀p∈pre++[x],(jW W P p).h=false:=λp hp=>by
   rcases List.mem_append.mp hp with hp | hp
   ·rw[<-JV];exact u2 p hp
   ·rw[List.mem_singleton.mp hp];exact q
  have lg:aB st' st.length=some (((pre++[x]).map (wo W)).map Wo.w):=by rw[<-OI al];exact b5 e3
  obtain⟨s2,g1,g2⟩:=gather (wd:=wd) lg (by rw[bU];omega)
  refine⟨pre,x,s2,e1,?_,e4.gr g2,e5.trans g2.keep⟩
  rw[q] at hh
  unfold bL bh cX OJ
  rw[if_neg (by rw[q];exact bE),show ∀a:Wo,(Sd.wo a).w=a.w from λ_=>rfl,Gb]
  generalize (pre++[x]).map (wo W)=us at g1
  simp[ms,ix,hh,g1]
end
def h8(f:Pt->Bool)(ps:List Pt):Pt:=(upto f ps).getLast?.getD (0,0)
theorem x8{f:Pt->Bool}{ps pre:List Pt}{x:Pt}(h:upto f ps=pre++[x]):h8 f ps=x:=by
 unfold h8
 rw[h]
 simp
theorem zJ{i:Int}(h:-ei<=i/\i<=ei):i.natAbs.log2 < 1920:=by
 by_cases z:i.natAbs=0
 ·rw[z];decide
 ·rw[Nat.log2_lt z]
  have h2:i.natAbs<=ei.natAbs:=by
   have:(0:Int)<=ei:=by decide+kernel
   omega
  exact Nat.lt_of_le_of_lt h2 (by decide+kernel)
theorem Bf{i:Int}(h:-ei<=i/\i<=ei):Builtin.Int.intBits i<=2 ^ 20:=by
 refine bf (A9 (k:=2000) ?_) (by decide)
 have h2:i.natAbs<=ei.natAbs:=by
  have:(0:Int)<=ei:=by decide+kernel
  omega
 exact Nat.lt_of_le_of_lt h2 (by decide+kernel)
def num:Wo->Int
 | .int i=>i
 | _=>0
def Wo.nm:Wo->Bool
 | .non=>true
 | .int _=>true
 | _=>false
theorem Gd{a:Wo}(h:a.Ok):-ei<=num a/\num a<=ei:=by
 cases a with
 | int i=>exact h
 | _=>exact⟨(by decide+kernel:-ei<=(0:Int)),(by decide+kernel:(0:Int)<=ei)⟩
theorem R4{x:PySem.Str}:(Wo.txt x).w= .str x:=rfl
theorem uh{i:Int}:(Wo.int i).w= .int i:=rfl
theorem R6{a:Wo}{st:Hs}(h:a.nm=true):cu [a.w] st= .ok (.int (num a)) st:=by
 cases a<;>first | rfl | cases h
def text:Wo->PySem.Str
 | .int i=>(toString i:String)
 | .txt x=>x
 | _=>""
theorem FV{i:Int}{st:Hs}(h:i.natAbs.log2 < 1920):tM [.int i] st= .ok (.str (toString i:String)) st:=by
 show(if i.natAbs.log2 < 1920 then Re.ok (Wv.str (toString i:String)) st else .bad)=_
 exact if_pos h
theorem K4{a:Wo}{st:Hs}(h:a.Ok)(hf:a.f=false):eQ [a.w] st= .ok (.str (text a)) st:=by
 cases a with
 | int i=>
  refine A3 (n:=1) (g:=lF) ?_
  unfold lF
  simp[Wo.w,text,FV (zJ h),GX]
 | i8 x=>cases hf
 | _=>rfl
theorem text_len{a:Wo}(h:a.Ok):(text a).length<=1921:=by
 cases a with
 | int i=>exact PyProof.Rows.int_text_len_1921 (zJ h)
 | txt x=>exact bf h (by decide)
 | _=>exact(by decide+kernel:(("":PySem.Str)).length<=1921)
theorem x9{a b:Wo}{st:Hs}(ha:a.Ok)(hb:b.Ok):c_ (.str (text a)) (.str (text b)) st= .ok (.str (text a++text b)) st :=
 RC (by have:=text_len ha;have:=text_len hb;unfold lim;omega)
theorem JX(x y:PySem.Str):(x++y).length=x.length+y.length:=Ku
theorem fg{x:PySem.Str}{st:Hs}:bG [.str x] st= .ok (Wo.i8 x).w st:=rfl
def jn(a b:Wo):Wo:=if 200 < ((text a++text b).length:Int) then .i8 "great" else .txt (text a++text b)
theorem joined{a b:Wo}{st:Hs}(ha:a.Ok)(hb:b.Ok)(fa:a.f=false)(fb:b.f=false):nC [a.w,b.w] st= .ok (jn a b).w st:=by
 have l1:=RD (z:=text a++text b) (st:=st) (by have:=text_len ha;have:=text_len hb;rw[JX];unfold lim;omega)
 refine A3 (n:=3) (g:=nB) ?_
 unfold nB jn
 by_cases c:200 < ((text a++text b).length:Int)
 ·simp[K4 ha fa,K4 hb fb,x9 ha hb,l1,c,fg]
 ·simp[K4 ha fa,K4 hb fb,x9 ha hb,l1,c,R4]
def Wo.t:Wo->Bool
 | .txt _=>true
 | _=>false
theorem CN(a:Wo)(st:Hs):cU eT cA [a.w,.ty "str"] st= .ok (.bl a.t) st:=by cases a<;>rfl
def ls(a b:Wo):Wo:=if a.t||b.t then(if a.n||b.n then .i8 "kind" else .int (if decide ((text a).cps.toList < (text b).cps.toList) then 1 else 0)) else .int (if decide (num a < num b) then 1 else 0)
theorem R7{x y:PySem.Str}{st:Hs}:oLt (.str x) (.str y) st= .ok (.bl (decide (x.cps.toList < y.cps.toList))) st:=rfl
theorem x_{a:Wo}(h:a.f=false)(k:a.t=false):a.nm=true:=by cases a<;>first | rfl | (cases h;done) | (cases k;done)
theorem less{a b:Wo}{st:Hs}(ha:a.Ok)(hb:b.Ok)(fa:a.f=false)(fb:b.f=false):vQ [a.w,b.w] st= .ok (ls a b).w st:=by
 refine A3 (n:=2) (g:=vP) ?_
 unfold vP ls
 cases ta:a.t
 ·cases tb:b.t
  ·by_cases c:num a < num b<;>simp[CN,ta,tb,R6 (x_ fa ta),R6 (x_ fb tb),c,uh]
  ·cases ia:a.n<;>cases ib:b.n<;>first
    | (simp[CN,RU,ta,tb,ia,ib,fg];done)
    | (by_cases c:(text a).cps.toList < (text b).cps.toList<;>simp[CN,RU,ta,tb,ia,ib,K4 ha fa,K4 hb fb,R7,c,uh])
 ·cases ia:a.n<;>cases ib:b.n<;>first
   | (simp[CN,RU,ta,ia,ib,fg];done)
   | (by_cases c:(text a).cps.toList < (text b).cps.toList<;>simp[CN,RU,ta,ia,ib,K4 ha fa,K4 hb fb,R7,c,uh])
def bO(i:Int):Wo:=if ei < (if i < 0 then -i else i) then .i8 "great" else .int i
theorem JY(i:Int):(bO i).w=bnd i:=by
 unfold bO bnd
 by_cases c:ei < (if i < 0 then -i else i)
 ·rw[if_pos c,if_pos c];rfl
 ·rw[if_neg c,if_neg c];rfl
theorem nJ(i:Int):(bO i).Ok:=by
 unfold bO
 by_cases c:ei < (if i < 0 then -i else i)
 ·rw[if_pos c];trivial
 ·rw[if_neg c]
  show -ei<=i/\i<=ei
  by_cases z:i < 0
  ·rw[if_pos z] at c;omega
  ·rw[if_neg z] at c;omega
theorem iX{i:Int}{st:Hs}:bQ [.int i] st= .ok (bO i).w st:=by rw[JY];exact bounded
def OA:List S:=["+","-","*","/","rest"]
def OB:List S:=["&","<","="]
theorem R9(b:Bool):(Wo.int (if b=true then 1 else 0)).Ok:=by
 have:(1:Int)<=ei:=by decide+kernel
 cases b
 ·show -ei<=0/\0<=ei;omega
 ·show -ei<=1/\1<=ei;omega
theorem JZ{op:S}{n o:Int}(ho:op∈OA)(hn:-ei<=n/\n<=ei)(hm:-ei<=o/\o<=ei):∃r:Wo,r.Ok/\∀st:Hs,cF [.str op,.int n,.int o] st= .ok r.w st:=by
 have q1:(("-":S) == "+")=false:=rfl
 have q2:(("*":S) == "+")=false:=rfl
 have q3:(("*":S) == "-")=false:=rfl
 have q4:(("/":S) == "+")=false:=rfl
 have q5:(("/":S) == "-")=false:=rfl
 have q6:(("/":S) == "*")=false:=rfl
 have q7:(("rest":S) == "+")=false:=rfl
 have q8:(("rest":S) == "-")=false:=rfl
 have q9:(("rest":S) == "*")=false:=rfl
 have q0:(("rest":S) == "/")=false:=rfl
 have mu:∀st:Hs,dy (.int n) (.int o) st= .ok (.int (n * o)) st:=λst=>xv (Oq (Bf hn) (Bf hm))
 simp only[OA,di,dC,or_false] at ho
 rcases ho with rfl | rfl | rfl | rfl | rfl
 ·exact⟨bO (n+o),nJ _,λst=>by unfold cF bh dk;simp[iX]⟩
 ·exact⟨bO (n - o),nJ _,λst=>by unfold cF bh dk;simp[iX,q1]⟩
 ·exact⟨bO (n * o),nJ _,λst=>by unfold cF bh dk;simp[iX,q2,q3,mu]⟩
 ·by_cases z:o=0
  ·subst z
   exact⟨.i8 "nought",trivial,λst=>by unfold cF bh dk;simp[fg,q4,q5,q6]⟩
  ·have bz:(o == 0)=false:=beq_false_of_ne z
   have dv:∀st:Hs,fi (.int n) (.int o) st= .ok (.int (n.fdiv o)) st:=λst=>mj ⟨z,uR (zJ hm) (by decide)⟩
   exact⟨bO (n.fdiv o),nJ _,λst=>by unfold cF bh dk;simp[iX,q4,q5,q6,bz,dv]⟩
 ·by_cases z:o=0
  ·subst z
   exact⟨.i8 "nought",trivial,λst=>by unfold cF bh dk;simp[fg,q7,q8,q9]⟩
  ·have bz:(o == 0)=false:=beq_false_of_ne z
   have md:∀st:Hs,oMod (.int n) (.int o) st= .ok (.int (n.fmod o)) st:=λst=>ky z
   exact⟨bO (n.fmod o),nJ _,λst=>by unfold cF bh dk;simp[iX,q7,q8,q9,q0,bz,md]⟩
theorem R_(a b:Wo):(jn a b).Ok:=by
 unfold jn
 split
 ·trivial
 ·rename_i c
  show(text a++text b).length<=200
  omega
theorem Sa(a b:Wo):(ls a b).Ok:=by
 unfold ls
 split
 ·split
  ·trivial
  ·exact R9 _
 ·exact R9 _
theorem ui{op:S}{a b:Wo}(ho:op∈OA\/op∈OB)(ha:a.Ok)(hb:b.Ok):∃r:Wo,r.Ok/\∀st:Hs,bX [.str op,a.w,b.w] st= .ok r.w st:=by
 cases fa:a.f with
 | true=>exact⟨a,ha,λst=>by unfold bX bh dO;simp[vU,fa]⟩
 | false=>
  cases fb:b.f with
  | true=>exact⟨b,hb,λst=>by unfold bX bh dO;simp[vU,fa,fb]⟩
  | false=>
   rcases ho with ho | ho
   ·have r1:(op == ("=":S))=false:=by simp only[OA,di,dC,or_false] at ho;rcases ho with rfl | rfl | rfl | rfl | rfl<;>rfl
    have r2:(op == ("&":S))=false:=by simp only[OA,di,dC,or_false] at ho;rcases ho with rfl | rfl | rfl | rfl | rfl<;>rfl
    have r3:(op == ("<":S))=false:=by simp only[OA,di,dC,or_false] at ho;rcases ho with rfl | rfl | rfl | rfl | rfl<;>rfl
    cases ta:a.t with
    | true=>exact⟨.i8 "kind",trivial,λst=>by unfold bX bh dO;simp[vU,fa,fb,r1,r2,r3,CN,ta,fg]⟩
    | false=>
     cases tb:b.t with
     | true=>exact⟨.i8 "kind",trivial,λst=>by unfold bX bh dO;simp[vU,fa,fb,r1,r2,r3,CN,ta,tb,fg]⟩
     | false=>
      obtain⟨r,h1,h2⟩:=JZ ho (Gd ha) (Gd hb)
      exact⟨r,h1,λst=>by unfold bX bh dO;simp[vU,fa,fb,r1,r2,r3,CN,ta,tb,R6 (x_ fa ta),R6 (x_ fb tb),h2]⟩
   ·have s1:(("&":S) == "=")=false:=rfl
    have s2:(("<":S) == "=")=false:=rfl
    have s3:(("<":S) == "&")=false:=rfl
    simp only[OB,di,dC,or_false] at ho
    rcases ho with rfl | rfl | rfl
    ·exact⟨jn a b,R_ a b,λst=>by unfold bX bh dO;simp[vU,fa,fb,s1,joined ha hb fa fb]⟩
    ·exact⟨ls a b,Sa a b,λst=>by unfold bX bh dO;simp[vU,fa,fb,s2,s3,less ha hb fa fb]⟩
    ·exact⟨.int (if same a b=true then 1 else 0),R9 _,λst=>by unfold bX bh dO;cases q:same a b<;>simp[vU,fa,fb,sw,q,uh]⟩
def OL(op:S)(a b:Wo):Wo:=open Classical in if h:(op∈OA\/op∈OB)/\a.Ok/\b.Ok then OF (ui h.1 h.2.1 h.2.2) else .non
theorem vZ{op:S}{a b:Wo}(ho:op∈OA\/op∈OB)(ha:a.Ok)(hb:b.Ok):(OL op a b).Ok/\∀st:Hs,bX [.str op,a.w,b.w] st= .ok (OL op a b).w st:=by
 unfold OL
 rw[dif_pos ⟨ho,ha,hb⟩]
 exact OG (ui ho ha hb)
theorem Sb{op:S}{a b:Wo}(ho:op∈OA\/op∈OB)(ha:a.Ok)(hb:b.Ok)(fa:a.f=false)(fb:b.f=true):(OL op a b).w=b.w:=by
 have h:=(vZ ho ha hb).2 []
 have:bX [.str op,a.w,b.w] []= .ok b.w []:=by unfold bX bh dO;simp[vU,fa,fb]
 rw[this] at h
 injection h with h
 exact h.symm
def J0(word:S)(a:Wo):Wo:=if a.f=true then a else if a.t=true then .i8 "kind" else if word="minus" then bO (-num a) else .int (if num a=0 then 1 else 0)
theorem v5{word:S}{a:Wo}(hw:word="minus"\/word="not")(ha:a.Ok):(J0 word a).Ok/\∀st:Hs,cE [.str word,a.w] st= .ok (J0 word a).w st:=by
 have w2:(("not":S) == "minus")=false:=rfl
 unfold J0
 cases fa:a.f with
 | true=>exact⟨ha,λst=>by unfold cE bh hR;simp[vU,fa]⟩
 | false=>
  cases ta:a.t with
  | true=>exact⟨trivial,λst=>by unfold cE bh hR;simp[vU,CN,fa,ta,fg]⟩
  | false=>
   have n1:=λst=>R6 (a:=a) (st:=st) (x_ fa ta)
   rcases hw with rfl | rfl
   ·exact⟨nJ _,λst=>by unfold cE bh hR;simp[vU,CN,fa,ta,n1,iX]⟩
   ·have wn:¬(("not":S)="minus"):=by decide+kernel
    rw[if_neg bE,if_neg bE,if_neg wn]
    by_cases z:num a=0
    ·rw[if_pos z]
     exact⟨R9 true,λst=>by unfold cE bh hR;simp[vU,CN,fa,ta,n1,w2,z,uh]⟩
    ·rw[if_neg z]
     have bz:(num a == 0)=false:=beq_false_of_ne z
     exact⟨R9 false,λst=>by unfold cE bh hR;simp[vU,CN,fa,ta,n1,w2,bz,uh]⟩
def gO(rs xs:List Rd):List Rd:=xs.foldl bR rs
theorem Ge{rs:List Rd}{r s:Rd}:s∈bR rs r↔s∈rs\/s=r:=by
 unfold bR
 split
 ·rename_i h
  constructor
  ·exact .inl
  ·rintro(z | rfl)
   ·exact z
   ·exact h
 ·simp
theorem Bg{s:Rd}:∀{xs rs:List Rd},s∈gO rs xs↔s∈rs\/s∈xs
 | [],rs=>by simp[gO]
 | x::xs,rs=>by
  have:=Bg (s:=s) (xs:=xs) (rs:=bR rs x)
  unfold gO at this ⊢
  rw[yI,this,Ge,di]
  constructor
  ·rintro((a | a) | a)
   ·exact .inl a
   ·exact .inr (.inl a)
   ·exact .inr (.inr a)
  ·rintro(a | a | a)
   ·exact .inl (.inl a)
   ·exact .inl (.inr a)
   ·exact .inr a
theorem v7{rs xs:List Rd}{r:Rd}:gO rs (bR xs r)=bR (gO rs xs) r:=by
 by_cases h:r∈xs
 ·have e1:bR xs r=xs:=by unfold bR;rw[if_pos h]
  have e2:bR (gO rs xs) r=gO rs xs:=by unfold bR;rw[if_pos (Bg.mpr (.inr h))]
  rw[e1,e2]
 ·have e1:bR xs r=xs++[r]:=by unfold bR;rw[if_neg h]
  rw[e1]
  unfold gO
  rw[List.foldl_append]
  rfl
theorem qa{rs xs:List Rd}:∀ys:List Rd,gO rs (gO xs ys)=gO (gO rs xs) ys:=by
 intro ys
 induction ys generalizing xs with
 | nil=>rfl
 | cons y ys ih=>
  show gO rs (gO (bR xs y) ys)=gO (bR (gO rs xs) y) ys
  rw[ih,v7]
theorem gP:∀(xs rs:List Rd),(gO rs xs).length<=rs.length+xs.length
 | [],rs=>by simp[gO]
 | x::xs,rs=>by
  have a:=gP xs (bR rs x)
  have b:(bR rs x).length<=rs.length+1:=by
   unfold bR
   split
   ·omega
   ·simp
  show(gO (bR rs x) xs).length<=_
  simp
  omega
theorem qb{rs:List Rd}{r:Rd}(h:rs.Nodup):(bR rs r).Nodup:=by
 unfold bR
 split
 ·exact h
 ·rename_i z
  rw[List.nodup_append]
  refine⟨h,by simp,λa ha b hb=>?_⟩
  rw[List.mem_singleton.mp hb]
  exact λe=>z (e ▸ ha)
theorem v8:∀{xs rs:List Rd},rs.Nodup->(gO rs xs).Nodup
 | [],rs,h=>h
 | x::xs,rs,h=>v8 (xs:=xs) (qb h)
theorem v9:∀{ys xs:List Rd},ys.Nodup->gO xs ys=xs++ys.filter (λr=>decide (r∉xs))
 | [],xs,_=>by simp[gO]
 | y::ys,xs,h=>by
  obtain⟨h1,h2⟩:=List.nodup_cons.mp h
  show gO (bR xs y) ys=_
  rw[v9 h2]
  by_cases c:y∈xs
  ·have e1:bR xs y=xs:=by unfold bR;rw[if_pos c]
   rw[e1,rY,if_neg (by simp[c])]
  ·have e1:bR xs y=xs++[y]:=by unfold bR;rw[if_neg c]
   rw[e1,rY,if_pos (by simp[c]),qw,List.singleton_append]
   congr 2
   refine List.filter_congr λz hz=>?_
   have:z≠y:=λe=>h1 (e ▸ hz)
   simp[this]
def litS:List Wv->Sd
 | [.int i]=> .wo (.int i)
 | [.str s]=> .wo (.txt s)
 | _=> .wo (.i8 "lost")
def J1(x:S):mH:=if x="sum" then .sum else if x="count" then .count else if x="least" then .least else .k6
def Se(W:Ws)(P:List Pt)(x:S):List Int->Sd×List Rd
 | [a,b]=>(jW W P (a,b),[.xW (a,b)])
 | [a,b,c,e]=>(OJ W P (J1 x) (upto (stp W P .non) (iZ a b c e)) (h8 (stp W P .non) (iZ a b c e)),[.part a b c e (h8 (stp W P .non) (iZ a b c e))])
 | _=>(.wo .non,[])
def G0(W:Ws)(P:List Pt):Sd->List Rd->List Int->Sd×List Rd
 | .wo kv,r,[a,b,c,e]=>if kv.f=true then(.wo kv,r) else if kv.nn=false then(.wo (.i8 "none"),r) else
   if(jW W P (h8 (stp W P kv) (iZ a b c b))).h=true then(jW W P (h8 (stp W P kv) (iZ a b c b)),bR r (.part a b c b (h8 (stp W P kv) (iZ a b c b))))
   else if ft (wo W (h8 (stp W P kv) (iZ a b c b))) kv=false then(.wo (.i8 "none"),bR r (.part a b c b (h8 (stp W P kv) (iZ a b c b))))
   else(jW W P ((h8 (stp W P kv) (iZ a b c b)).1,e),bR (bR r (.part a b c b (h8 (stp W P kv) (iZ a b c b)))) (.xW ((h8 (stp W P kv) (iZ a b c b)).1,e)))
 | s,r,_=>(s,r)
def two(x:S)(s t:Sd)(xs ys:List Rd):Sd×List Rd:=match s with
 | .wo ka=>if ka.f=true then(.wo ka,xs) else(match t with
  | .wo kb=> .wo (OL x ka kb)
  | .wt p=> .wt p,gO xs ys)
 | .wt p=>(.wt p,xs)
def one(x:S):Sd->Sd
 | .wo kv=> .wo (J0 x kv)
 | .wt p=> .wt p
def Gf(s t u:Sd)(xs ys zs:List Rd):Sd×List Rd:=match s with
 | .wo ka=>if ka.f=true then(.wo ka,xs) else if ka.t=true then(.wo (.i8 "kind"),xs) else if num ka=0 then(u,gO xs zs) else(t,gO xs ys)
 | .wt p=>(.wt p,xs)
def lk(W:Ws)(P:List Pt):Fm->Sd×List Rd
 | .lit _ ws=>(litS ws,[])
 | .pt x l _=>Se W P x l
 | .fd a l _=>G0 W P (lk W P a).1 (lk W P a).2 l
 | .o1 x a=>(one x (lk W P a).1,(lk W P a).2)
 | .o2 x a b=>if x="else" then(if(lk W P a).1.f=true then((lk W P b).1,gO (lk W P a).2 (lk W P b).2) else lk W P a)
  else two x (lk W P a).1 (lk W P b).1 (lk W P a).2 (lk W P b).2
 | .o3 a b c=>Gf (lk W P a).1 (lk W P b).1 (lk W P c).1 (lk W P a).2 (lk W P b).2 (lk W P c).2
def Sd.ok:Sd->Prop
 | .wt _=>True
 | .wo a=>a.Ok
section
variable {W:Ws} {P:List Pt} {d l k m:Nat} {rs:List Rd} {st:Hs}
def Gn(W:Ws)(P:List Pt)(d l n:Nat)(f:Wv)(s:Sd)(xs:List Rd)(B:Nat):Prop:=∀(st:Hs)(k m:Nat)(rs:List Rd),Lk W P d l k m rs st->rs.length+B<=900->∃st',ax n [f,.ref k] st= .ok s.w st'/\Lk W P d l k m (gO rs xs) st'/\bM m st st'
theorem v_{n B:Nat}{f:Wv}{s:Sd}{xs:List Rd}(G:Gn W P d l n f s xs B)(h:Lk W P d l k m rs st)(hb:rs.length+B<=900){q:Nat}{us:List Wv}(hs:st[q]? =some (.lst us))(hl:l≠q)(hu:us.length < 5)(F:Wv)(G1 G2 G3 G4:List Wv->Hs->Re Wv) :
  ∃st',(s.h=true->aQ G1 G2 G3 G4 (ax n) [some F,some (.ref k),some (.ref q),some f] st= .rt s.w st')/\(s.h=false->aQ G1 G2 G3 G4 (ax n) [some F,some (.ref k),some (.ref q),some f] st= .nx [some F,some (.ref k),some (.ref q),some f] st')/\
   st'[q]? =some (.lst (us++[s.w]))/\Lk W P d l k m (gO rs xs) st'/\st.length<=st'.length/\∀j,j < st.length->j≠m->j≠q->st'[j]? =st[j]?:=by
 obtain⟨s1,e1,h1,k1⟩:=G st k m rs h hb
 have PH:q≠m:=λe=>by have:=h.m;rw[<-e,hs] at this;cases this
 have hs1:s1[q]? =some (.lst us):=by rw[k1.2 q (cT hs) PH];exact hs
 have ap:=o9 (v:=s.w) hs1 (by unfold lim;omega)
 have km:=λga ρ=>lC (mt:=ji) (ga:=ga) (ρ:=ρ) (st:=st) (l:=q) (b5 hs)
 have h2:Lk W P d l k m (gO rs xs) (s1.set q (.lst (us++[s.w]))):=h1.set hs1 hl
 have s2:(s1.set q (.lst (us++[s.w])))[q]? =some (.lst (us++[s.w])):=cP hs1
 have old:∀j,j < st.length->j≠m->j≠q->(s1.set q (.lst (us++[s.w])))[j]? =st[j]?:=λj a b c=>by rw[cK (bo c)];exact k1.2 j a b
 have ln:st.length<=(s1.set q (.lst (us++[s.w]))).length:=by rw[qr];exact k1.1
 generalize hst:s1.set q (.lst (us++[s.w]))=s3 at ap h2 s2 old ln
 have ix:aP (.ref q) (.int (-1)) s3= .ok s.w s3:=fW (b5 s2) kz
 have hh:=halts s (st:=s3)
 refine⟨s3,λz=>?_,λz=>?_,s2,h2,ln,old⟩
 ·rw[z] at hh
  unfold aQ
  simp[km,e1,ap,ix,hh]
 ·rw[z] at hh
  unfold aQ
  simp[km,e1,ap,ix,hh]
theorem rZ{st s1 s2:Hs}{m:Nat}(hl:(st++[Ob.lst []]).length<=s2.length)(h:∀j,j < (st++[Ob.lst []]).length->j≠m->j≠st.length->s2[j]? =(st++[Ob.lst []])[j]?):bM m st s2:=by
 refine⟨by simp at hl;omega,λj a b=>?_⟩
 rw[h j (by simp;omega) b (by omega),f9 a]
theorem rk1{n B:Nat}{x:S}{f:Wv}{s:Sd}{xs:List Rd}(hx:x="minus"\/x="not")(G:Gn W P d l n f s xs B)(ok:s.ok)(h:Lk W P d l k m rs st)(hb:rs.length+B<=900)(po:∀st:Hs,b9 [.tup [.str x,f]] st= .ok (.tup [f]) st) :
  ∃st',ai (n+1) [.tup [.str x,f],.ref k] st= .ok (one x s).w st'/\Lk W P d l k m (gO rs xs) st'/\bM m st st':=by
 have h0:=h.gr (Gr.push (o:=.lst []))
 obtain⟨s1,t1,t2,l1,h1,ln,old⟩:=v_ G h0 hb (q:=st.length) (us:=[]) iq (bN (cT h.n.l)) (by simp) (.tup [.str x,f]) (aG n) (ay n) (aA n) (ai n)
 refine⟨s1,?_,h1,rZ (s1:=s1) ln old⟩
 have i0:∀st:Hs,aP (.tup [.str x,f]) (.int 0) st= .ok (.str x) st:=λst=>rfl
 rw[eB]
 unfold bh b_
 have YB:aB s1 st.length=some [s.w]:=by have:=b5 l1;simpa using this
 cases q:s.h with
 | true=>
  have tt:=t1 q
  have fo:dt 3 (aQ (aG n) (ay n) (aA n) (ai n) (ax n)) [f] [some (.tup [.str x,f]),some (.ref k),some (.ref st.length),none] (st++[.lst []])= .rt s.w s1:=by
   unfold dt
   rw[show([some (Wv.tup [.str x,f]),some (.ref k),some (.ref st.length),none]:bY).set 3 (some f)=[some (.tup [.str x,f]),some (.ref k),some (.ref st.length),some f] from rfl,tt]
  have ev:(one x s).w=s.w:=by
   cases s with
   | wt p=>rfl
   | wo kv=>
    show(J0 x kv).w=kv.w
    unfold J0
    rw[if_pos (show kv.f=true from q)]
  rw[ev]
  simp[po,fo]
 | false=>
  have tt:=t2 q
  have fo:dt 3 (aQ (aG n) (ay n) (aA n) (ai n) (ax n)) [f] [some (.tup [.str x,f]),some (.ref k),some (.ref st.length),none] (st++[.lst []])= .nx [some (.tup [.str x,f]),some (.ref k),some (.ref st.length),some f] s1:=by
   unfold dt
   rw[show([some (Wv.tup [.str x,f]),some (.ref k),some (.ref st.length),none]:bY).set 3 (some f)=[some (.tup [.str x,f]),some (.ref k),some (.ref st.length),some f] from rfl,tt]
   rfl
  cases s with
  | wt p=>cases q
  | wo kv=>
   have si:=ud YB
   have ix:aP (.ref st.length) (.int 0) s1= .ok kv.w s1:=fW YB rfl
   have sg:=(v5 hx (a:=kv) ok).2 s1
   show _=Re.ok (J0 x kv).w s1
   simp[po,fo,si,i0,ix,sg]
theorem rk2{n B C:Nat}{x:S}{f g:Wv}{s t:Sd}{xs ys:List Rd}(hx:x∈OA\/x∈OB)(G:Gn W P d l n f s xs B)(G':Gn W P d l n g t ys C)(ok:s.ok)(ok':t.ok)(h:Lk W P d l k m rs st)(hb:rs.length+B+C<=900)(hxs:xs.length<=B)(po:∀st:Hs,b9 [.tup [.str x,f,g]] st= .ok (.tup [f,g]) st) :
  ∃st',ai (n+1) [.tup [.str x,f,g],.ref k] st= .ok (two x s t xs ys).1.w st'/\Lk W P d l k m (gO rs (two x s t xs ys).2) st'/\bM m st st':=by
 have h0:=h.gr (Gr.push (o:=.lst []))
 have YC:l≠st.length:=bN (cT h.n.l)
 obtain⟨s1,t1,t2,l1,h1,ln,old⟩:=v_ G h0 (by omega) (q:=st.length) (us:=[]) iq YC (by simp) (.tup [.str x,f,g]) (aG n) (ay n) (aA n) (ai n)
 have i0:∀st:Hs,aP (.tup [.str x,f,g]) (.int 0) st= .ok (.str x) st:=λst=>rfl
 have r1:([some (Wv.tup [.str x,f,g]),some (.ref k),some (.ref st.length),none]:bY).set 3 (some f)=[some (.tup [.str x,f,g]),some (.ref k),some (.ref st.length),some f]:=rfl
 have r2:([some (Wv.tup [.str x,f,g]),some (.ref k),some (.ref st.length),some f]:bY).set 3 (some g)=[some (.tup [.str x,f,g]),some (.ref k),some (.ref st.length),some g]:=rfl
 rw[eB]
 unfold bh b_
 cases q:s.h with
 | true=>
  have tt:=t1 q
  have fo:dt 3 (aQ (aG n) (ay n) (aA n) (ai n) (ax n)) [f,g] [some (.tup [.str x,f,g]),some (.ref k),some (.ref st.length),none] (st++[.lst []])= .rt s.w s1:=by
   unfold dt
   rw[r1,tt]
  have ev:(two x s t xs ys)=(s,xs):=by
   unfold two
   cases s with
   | wt p=>rfl
   | wo kv=>exact if_pos (show kv.f=true from q)
  rw[ev]
  refine⟨s1,?_,h1,rZ (s1:=s1) ln old⟩
  simp[po,fo]
 | false=>
  have tt:=t2 q
  obtain⟨s2,t3,t4,l2,h2,ln2,Wz⟩:=v_ G' h1 (by have:=gP xs rs;omega) (q:=st.length) (us:=[s.w]) (by simpa using l1) YC (by simp) (.tup [.str x,f,g]) (aG n) (ay n) (aA n) (ai n)
  have kp:bM m st s2:=rZ (s1:=s1) (bf ln ln2) λj a b c=>by rw[Wz j (br a ln) b c];exact old j a b c
  have Q4:aB s2 st.length=some [s.w,t.w]:=by have:=b5 l2;simpa using this
  cases s with
  | wt p=>cases q
  | wo ka=>
   have qf:ka.f=false:=q
   unfold two
   dsimp only
   rw[if_neg (by rw[qf];exact bE)]
   rw[<-qa] at h2
   refine⟨s2,?_,h2,kp⟩
   cases q2:t.h with
   | true=>
    have WA:=t3 q2
    have fo:dt 3 (aQ (aG n) (ay n) (aA n) (ai n) (ax n)) [f,g] [some (.tup [.str x,f,g]),some (.ref k),some (.ref st.length),none] (st++[.lst []])= .rt t.w s2:=by
     unfold dt
     rw[r1,tt]
     dsimp only
     unfold dt
     rw[r2,WA]
    have ev:(match t with | .wo kb=>Sd.wo (OL x ka kb) | .wt p=> .wt p).w=t.w:=by
     cases t with
     | wt p=>rfl
     | wo kb=>exact Sb hx ok ok' qf q2
    rw[ev]
    simp[po,fo]
   | false=>
    have WA:=t4 q2
    have fo:dt 3 (aQ (aG n) (ay n) (aA n) (ai n) (ax n)) [f,g] [some (.tup [.str x,f,g]),some (.ref k),some (.ref st.length),none] (st++[.lst []])= .nx [some (.tup [.str x,f,g]),some (.ref k),some (.ref st.length),some g] s2:=by
     unfold dt
     rw[r1,tt]
     dsimp only
     unfold dt
     rw[r2,WA]
     rfl
    cases t with
    | wt p=>cases q2
    | wo kb=>
     have si:=ud Q4
     have ix:aP (.ref st.length) (.int 0) s2= .ok ka.w s2:=fW Q4 rfl
     have ix':aP (.ref st.length) (.int 1) s2= .ok kb.w s2:=fW Q4 rfl
     have pr:=(vZ hx (a:=ka) (b:=kb) ok ok').2 s2
     show _=Re.ok (OL x ka kb).w s2
     simp[po,fo,si,i0,ix,ix',pr]
end
def Nt(x:S):Prop:=(x == ("num":S))=false/\(x == ("text":S))=false/\(x == ("lost":S))=false/\(x == ("at":S))=false/\(x == ("if":S))=false/\(x == ("else":S))=false/\(x == ("find":S))=false
theorem WB{x:S}(h:x="minus"\/x="not"):Nt x:=by
 rcases h with rfl | rfl<;>exact⟨rfl,rfl,rfl,rfl,rfl,rfl,rfl⟩
theorem WC{x:S}(h:x∈OA\/x∈OB):Nt x:=by
 simp only[OA,OB,di,dC,or_false] at h
 rcases h with (rfl | rfl | rfl | rfl | rfl) | rfl | rfl | rfl<;>exact⟨rfl,rfl,rfl,rfl,rfl,rfl,rfl⟩
theorem WD(wd:mH):Nt wd.s:=by cases wd<;>exact⟨rfl,rfl,rfl,rfl,rfl,rfl,rfl⟩
section
variable {W:Ws} {P:List Pt} {d l k m:Nat} {rs:List Rd} {st:Hs} {a b c e:Int}
theorem Bh{n:Nat}{x:S}{ws us:List Wv}{u v:Wv}{st':Hs}(nt:Nt x)(po:∀st:Hs,b9 [.tup (.str x::ws)] st= .ok (.tup (u::us)) st)(hr:ai n [.tup (.str x::ws),.ref k] st= .ok v st'):ax (n+1) [.tup (.str x::ws),.ref k] st= .ok v st':=by
 obtain⟨t1,t2,t3,t4,t5,t6,t7⟩:=nt
 have i0:∀st:Hs,aP (.tup (.str x::ws)) (.int 0) st= .ok (.str x) st:=λst=>Ow
 have tr:∀st:Hs,pj (.tup (u::us)) st= .ok true st:=λst=>rfl
 rw[a5]
 unfold bh bg
 simp[i0,t1,t2,t3,t4,t5,t6,t7,po,tr,hr]
theorem YD{x:S}(h:x="minus"\/x="not")(f:Wv)(st:Hs):b9 [.tup [.str x,f]] st= .ok (.tup [f]) st:=by
 rcases h with rfl | rfl<;>exact rW (k:=1) rfl (by show ¬mf 2 (some 1) (some (1+1));decide) rfl st
theorem YE{x:S}(h:x∈OA\/x∈OB)(f g:Wv)(st:Hs):b9 [.tup [.str x,f,g]] st= .ok (.tup [f,g]) st:=by
 simp only[OA,OB,di,dC,or_false] at h
 rcases h with (rfl | rfl | rfl | rfl | rfl) | rfl | rfl | rfl<;>exact rW (k:=2) rfl (by show ¬mf 3 (some 1) (some (1+2));decide) rfl st
theorem Sf{n B:Nat}{x:S}{f:Wv}{s:Sd}{xs:List Rd}(hx:x="minus"\/x="not")(G:Gn W P d l n f s xs B)(ok:s.ok):Gn W P d l (n+2) (.tup [.str x,f]) (one x s) xs B:=λst k m rs h hb=>by
 obtain⟨st',e1,h1,k1⟩:=rk1 hx G ok h hb (YD hx f)
 exact⟨st',Bh (WB hx) (YD hx f) e1,h1,k1⟩
theorem Sh{n B C:Nat}{x:S}{f g:Wv}{s t:Sd}{xs ys:List Rd}(hx:x∈OA\/x∈OB)(G:Gn W P d l n f s xs B)(G':Gn W P d l n g t ys C)(ok:s.ok)(ok':t.ok)(hxs:xs.length<=B):Gn W P d l (n+2) (.tup [.str x,f,g]) (two x s t xs ys).1 (two x s t xs ys).2 (B+C):=λst k m rs h hb=>by
 obtain⟨st',e1,h1,k1⟩:=rk2 hx G G' ok ok' h (by omega) hxs (YE hx f g)
 exact⟨st',Bh (WC hx) (YE hx f g) e1,h1,k1⟩
theorem g_num{n:Nat}{i:Int}:Gn W P d l (n+1) (.tup [.str "num",.int i]) (.wo (.int i)) [] 0:=λst k m rs h hb=>by
 refine⟨st,?_,h,bM.refl⟩
 have i0:∀st:Hs,aP (.tup [.str "num",.int i]) (.int 0) st= .ok (.str "num") st:=λst=>rfl
 have i1:∀st:Hs,aP (.tup [.str "num",.int i]) (.int 1) st= .ok (.int i) st:=λst=>rfl
 rw[a5]
 unfold bh bg
 simp[i0,i1]
 rfl
theorem Si{n:Nat}{x:S}:Gn W P d l (n+1) (.tup [.str "text",.str x]) (.wo (.txt x)) [] 0:=λst k m rs h hb=>by
 refine⟨st,?_,h,bM.refl⟩
 have i0:∀st:Hs,aP (.tup [.str "text",.str x]) (.int 0) st= .ok (.str "text") st:=λst=>rfl
 have i1:∀st:Hs,aP (.tup [.str "text",.str x]) (.int 1) st= .ok (.str x) st:=λst=>rfl
 have t1:(("text":S) == "num")=false:=rfl
 rw[a5]
 unfold bh bg
 simp[i0,i1,t1]
 rfl
theorem OM{n:Nat}:Gn W P d l (n+1) (.tup [.str "lost"]) (.wo (.i8 "lost")) [] 0:=λst k m rs h hb=>by
 refine⟨st,?_,h,bM.refl⟩
 have i0:∀st:Hs,aP (.tup [.str "lost"]) (.int 0) st= .ok (.str "lost") st:=λst=>rfl
 have t1:(("lost":S) == "num")=false:=rfl
 have t2:(("lost":S) == "text")=false:=rfl
 rw[a5]
 unfold bh bg
 simp[i0,t1,t2,fg]
 rfl
theorem WE{n:Nat}{p:Pt}{ws:List Wv}:Gn W P d l (n+1) (.tup (.str "at"::pw p::ws)) (jW W P p) [.xW p] 1:=λst k m rs h hb=>by
 refine⟨_,?_,h.met,oJ⟩
 have i0:∀st:Hs,aP (.tup (.str "at"::pw p::ws)) (.int 0) st= .ok (.str "at") st:=λst=>Ow
 have i1:∀st:Hs,aP (.tup (.str "at"::pw p::ws)) (.int 1) st= .ok (pw p) st:=λst=>ix1
 have t1:(("at":S) == "num")=false:=rfl
 have t2:(("at":S) == "text")=false:=rfl
 have t3:(("at":S) == "lost")=false:=rfl
 have ms:lM "Look" "cell" 2 cm (af 1) (aa (ag aP (af 0) (gC (.int 1))) aj) [some (.tup (.str "at"::pw p::ws)),some (.ref k),some (.str "at")] st= .ok (jW W P p).w (jR st m (bR rs (.xW p))) :=
  (CM (k:=k) (ws:=[pw p]) rfl h.o rfl (by simp[i1]) rfl).trans (cell h (by omega) p)
 rw[a5]
 unfold bh bg
 simp[i0,t1,t2,t3,ms]
 rfl
theorem ON{n:Nat}{wd:mH}{p:Wv}(ok:hX a b c e):Gn W P d l (n+1) (.tup [.str wd.s,tI [a,b,c,e],p]) (OJ W P wd (upto (stp W P .non) (iZ a b c e)) (h8 (stp W P .non) (iZ a b c e))) [.part a b c e (h8 (stp W P .non) (iZ a b c e))] 1:=λst k m rs h hb=>by
 obtain⟨pre,x,st',u,e1,h1,k1⟩:=Wy (wd:=wd) h (by omega) ok (by have:=(lJ ok).1;omega)
 rw[x8 u,u]
 refine⟨st',?_,h1,k1⟩
 have i0:∀st:Hs,aP (.tup [.str wd.s,tI [a,b,c,e],p]) (.int 0) st= .ok (.str wd.s) st:=λst=>rfl
 have i1:∀st:Hs,aP (.tup [.str wd.s,tI [a,b,c,e],p]) (.int 1) st= .ok (tI [a,b,c,e]) st:=λst=>rfl
 obtain⟨t1,t2,t3,t4,t5,t6,t7⟩:=WD wd
 have po:=λst=>rW (x:=wd.s) (k:=0) (ws:=[tI [a,b,c,e],p]) (us:=[]) (by cases wd<;>rfl) (by show ¬mf 3 (some 1) (some (1+0));decide) rfl st
 have tr:∀st:Hs,pj (.tup []) st= .ok false st:=λst=>rfl
 rw[a5]
 unfold bh bg
 simp[i0,i1,t1,t2,t3,t4,t5,t6,t7,po,tr,e1]
theorem OO{n B C:Nat}{f g:Wv}{s t:Sd}{xs ys:List Rd}(G:Gn W P d l n f s xs B)(G':Gn W P d l n g t ys C)(hxs:xs.length<=B):Gn W P d l (n+2) (.tup [.str "else",f,g]) (if s.f=true then(t,gO xs ys) else(s,xs)).1 (if s.f=true then(t,gO xs ys) else(s,xs)).2 (B+C):=λst k m rs h hb=>by
 obtain⟨s1,e1,h1,k1⟩:=G st k m rs h (by omega)
 have i0:∀st:Hs,aP (.tup [.str "else",f,g]) (.int 0) st= .ok (.str "else") st:=λst=>rfl
 have i1:∀st:Hs,aP (.tup [.str "else",f,g]) (.int 1) st= .ok f st:=λst=>rfl
 have i2:∀st:Hs,aP (.tup [.str "else",f,g]) (.int 2) st= .ok g st:=λst=>rfl
 have t1:(("else":S) == "num")=false:=rfl
 have t2:(("else":S) == "text")=false:=rfl
 have t3:(("else":S) == "lost")=false:=rfl
 have t4:(("else":S) == "at")=false:=rfl
 have t5:(("else":S) == "if")=false:=rfl
 have hf:=R1 s (st:=s1)
 rw[a5]
 unfold bh bg
 cases q:s.f with
 | true=>
  rw[if_pos rfl]
  rw[q] at hf
  obtain⟨s2,e2,h2,k2⟩:=G' s1 k m _ h1 (by have:=gP xs rs;omega)
  rw[<-qa] at h2
  refine⟨s2,?_,h2,k1.trans k2⟩
  have el:ay (n+1) [.tup [.str "else",f,g],.ref k] st= .ok t.w s2:=by
   rw[fZ]
   unfold bh dz
   simp[i1,i2,e1,hf,e2]
  simp[i0,t1,t2,t3,t4,t5,el]
 | false=>
  rw[if_neg bE]
  rw[q] at hf
  refine⟨s1,?_,h1,k1⟩
  have el:ay (n+1) [.tup [.str "else",f,g],.ref k] st= .ok s.w s1:=by
   rw[fZ]
   unfold bh dz
   simp[i1,i2,e1,hf]
  simp[i0,t1,t2,t3,t4,t5,el]
theorem WG{n B C D:Nat}{f g h':Wv}{s t u:Sd}{xs ys zs:List Rd}(G:Gn W P d l n f s xs B)(G':Gn W P d l n g t ys C)(G'':Gn W P d l n h' u zs D)(ok:s.ok)(hxs:xs.length<=B):Gn W P d l (n+2) (.tup [.str "if",f,g,h']) (Gf s t u xs ys zs).1 (Gf s t u xs ys zs).2 (B+C+D):=λst k m rs h hb=>by
 obtain⟨s1,e1,h1,k1⟩:=G st k m rs h (by omega)
 have i0:∀st:Hs,aP (.tup [.str "if",f,g,h']) (.int 0) st= .ok (.str "if") st:=λst=>rfl
 have i1:∀st:Hs,aP (.tup [.str "if",f,g,h']) (.int 1) st= .ok f st:=λst=>rfl
 have i2:∀st:Hs,aP (.tup [.str "if",f,g,h']) (.int 2) st= .ok g st:=λst=>rfl
 have i3:∀st:Hs,aP (.tup [.str "if",f,g,h']) (.int 3) st= .ok h' st:=λst=>rfl
 have t1:(("if":S) == "num")=false:=rfl
 have t2:(("if":S) == "text")=false:=rfl
 have t3:(("if":S) == "lost")=false:=rfl
 have t4:(("if":S) == "at")=false:=rfl
 have hh:=halts s (st:=s1)
 have key:∀{v:Wv}{st':Hs},aG (n+1) [.tup [.str "if",f,g,h'],.ref k] st= .ok v st'->ax (n+2) [.tup [.str "if",f,g,h'],.ref k] st= .ok v st':=λel=>by
  rw[a5]
  unfold bh bg
  simp[i0,t1,t2,t3,t4,el]
 unfold Gf
 cases s with
 | wt p=>
  refine⟨s1,key ?_,h1,k1⟩
  rw[cG]
  unfold bh cz
  simp[Sd.h] at hh
  simp[i1,e1,hh]
 | wo ka=>
  dsimp only
  change ax n [f,.ref k] st= .ok ka.w s1 at e1
  cases qf:ka.f with
  | true=>
   rw[if_pos rfl]
   have C2:b7 [ka.w] s1= .ok (.bl true) s1:=by rw[<-qf];exact hh
   refine⟨s1,key ?_,h1,k1⟩
   rw[cG]
   unfold bh cz
   simp[i1,e1,C2]
   rfl
  | false=>
   rw[if_neg bE]
   have C2:b7 [ka.w] s1= .ok (.bl false) s1:=by rw[<-qf];exact hh
   have sg:=(v5 (word:="not") (.inr rfl) (a:=ka) ok).2 s1
   have sv:J0 "not" ka=if ka.t=true then .i8 "kind" else .int (if num ka=0 then 1 else 0):=by
    unfold J0
    rw[qf,if_neg bE,if_neg (show ¬(("not":S)="minus") by decide+kernel)]
   rw[sv] at sg
   cases qt:ka.t with
   | true=>
    rw[if_pos rfl]
    rw[qt,if_pos rfl] at sg
    have hf:=vU (.i8 "kind") s1
    refine⟨s1,key ?_,h1,k1⟩
    rw[cG]
    unfold bh cz
    simp[Wo.f] at hf
    simp[i1,e1,C2,sg,hf]
    rfl
   | false=>
    rw[if_neg bE]
    rw[qt,if_neg bE] at sg
    by_cases z:num ka=0
    ·rw[if_pos z]
     rw[if_pos z] at sg
     obtain⟨s2,e2,h2,k2⟩:=G'' s1 k m _ h1 (by have:=gP xs rs;omega)
     rw[<-qa] at h2
     refine⟨s2,key ?_,h2,k1.trans k2⟩
     have hf:aX [.int 1] s1= .ok (.bl false) s1:=vU (.int 1) s1
     change cE [.str "not",ka.w] s1= .ok (.int 1) s1 at sg
     rw[cG]
     unfold bh cz
     simp[i1,i3,e1,C2,sg,hf,e2]
    ·rw[if_neg z]
     rw[if_neg z] at sg
     obtain⟨s2,e2,h2,k2⟩:=G' s1 k m _ h1 (by have:=gP xs rs;omega)
     rw[<-qa] at h2
     refine⟨s2,key ?_,h2,k1.trans k2⟩
     have hf:aX [.int 0] s1= .ok (.bl false) s1:=vU (.int 0) s1
     change cE [.str "not",ka.w] s1= .ok (.int 0) s1 at sg
     rw[cG]
     unfold bh cz
     simp[i1,i2,e1,C2,sg,hf,e2]
end
section
variable {W:Ws} {P:List Pt} {d l k m:Nat} {rs:List Rd} {st:Hs} {a b c e:Int}
theorem Gg(h:hX a b c e):hX a b c b:=by
 unfold hX at h ⊢
 have:(c - a+1) * (b - b+1)=c - a+1:=by rw[Int.sub_self,Int.zero_add,Int.mul_one]
 omega
theorem J2(h:hX a b c e):iZ a b c b=(dh (c+1 - a).toNat).map λk:Nat=>((a+k,b):Pt):=by
 unfold iZ F'
 rw[show(b+1 - b).toNat=1 from by omega]
 have e:(λk:Nat=>(dh 1).map λj:Nat=>((a+k,b+j):Pt))=λk:Nat=>[((a+k,b):Pt)]:=by
  funext k
  simp
 rw[e]
 induction (c+1 - a).toNat with
 | zero=>rfl
 | succ n ih=>rw[p_,eh,F8,ih,eh];simp
theorem OP(h:hX a b c e){pre post:List Pt}{x:Pt}(u:iZ a b c b=pre++x::post):x=(a+(pre.length:Nat),b):=by
 rw[J2 h] at u
 have e1:(pre++x::post)[pre.length]? =some x:=by simp
 rw[<-u,fk] at e1
 cases q:(dh (c+1 - a).toNat)[pre.length]? with
 | none=>rw[q] at e1;cases e1
 | some j=>
  rw[q] at e1
  have hj:j=pre.length:=by
   have hl:=(List.getElem?_eq_some_iff.mp q).1
   have:=(List.getElem?_eq_some_iff.mp q).2
   simpa using this.symm
  subst hj
  exact(Option.some.inj e1).symm
theorem k7(rs:List Rd)(r:Rd):(bR rs r).length<=rs.length+1:=by
 unfold bR
 split
 ·omega
 ·simp
theorem OQ{n B:Nat}{f p:Wv}{s:Sd}{xs:List Rd}(G:Gn W P d l n f s xs B)(ok:hX a b c e)(hxs:xs.length<=B):Gn W P d l (n+2) (.tup [.str "find",f,tI [a,b,c,e],p]) (G0 W P s xs [a,b,c,e]).1 (G0 W P s xs [a,b,c,e]).2 (B+2):=λst k m rs h hb=>by
 obtain⟨s1,g1,h1,k1⟩:=G st k m rs h (by omega)
 have i0:∀st:Hs,aP (.tup [.str "find",f,tI [a,b,c,e],p]) (.int 0) st= .ok (.str "find") st:=λst=>rfl
 have i1:∀st:Hs,aP (.tup [.str "find",f,tI [a,b,c,e],p]) (.int 1) st= .ok f st:=λst=>rfl
 have i2:∀st:Hs,aP (.tup [.str "find",f,tI [a,b,c,e],p]) (.int 2) st= .ok (tI [a,b,c,e]) st:=λst=>rfl
 have j:∀st:Hs,aP (tI [a,b,c,e]) (.int 0) st= .ok (.int a) st/\aP (tI [a,b,c,e]) (.int 1) st= .ok (.int b) st/\aP (tI [a,b,c,e]) (.int 2) st= .ok (.int c) st/\aP (tI [a,b,c,e]) (.int 3) st= .ok (.int e) st:=λst=>⟨rfl,rfl,rfl,rfl⟩
 have hh:=halts s (st:=s1)
 have fl:∀st:Hs,bG [.str "none"] st= .ok (.tup [.str "fault",.str "none"]) st:=λst=>rfl
 have key:∀{v:Wv}{st':Hs},aA (n+1) [.tup [.str "find",f,tI [a,b,c,e],p],.ref k] st= .ok v st'->ax (n+2) [.tup [.str "find",f,tI [a,b,c,e],p],.ref k] st= .ok v st':=λel=>by
  have t1:(("find":S) == "num")=false:=rfl
  have t2:(("find":S) == "text")=false:=rfl
  have t3:(("find":S) == "lost")=false:=rfl
  have t4:(("find":S) == "at")=false:=rfl
  have t5:(("find":S) == "if")=false:=rfl
  have t6:(("find":S) == "else")=false:=rfl
  rw[a5]
  unfold bh bg
  simp[i0,t1,t2,t3,t4,t5,t6,el]
 have ml:=gP xs rs
 unfold G0
 cases s with
 | wt q=>
  dsimp only
  refine⟨s1,key ?_,h1,k1⟩
  rw[bF]
  unfold bh bu
  simp[Sd.h] at hh
  simp[i1,g1,hh]
 | wo kv=>
  dsimp only
  change ax n [f,.ref k] st= .ok kv.w s1 at g1
  cases q1:kv.f with
  | true=>
   rw[if_pos rfl]
   have C2:b7 [kv.w] s1= .ok (.bl true) s1:=by rw[<-q1];exact hh
   refine⟨s1,key ?_,h1,k1⟩
   rw[bF]
   unfold bh bu
   simp[i1,g1,C2]
   rfl
  | false=>
   rw[if_neg bE]
   have C2:b7 [kv.w] s1= .ok (.bl false) s1:=by rw[<-q1];exact hh
   have in1:=YA kv (st:=s1)
   cases q2:kv.nn with
   | false=>
    rw[if_pos rfl]
    rw[q2] at in1
    refine⟨s1,key ?_,h1,k1⟩
    rw[bF]
    unfold bh bu
    simp[i1,g1,C2,in1,fl]
    rfl
   | true=>
    rw[if_neg (by simp)]
    rw[q2] at in1
    obtain⟨pre,x,s2,e1,e2,e3,e4,e5⟩:=Be (key:=kv) h1 (by omega) (Gg ok)
    rw[x8 e1]
    obtain⟨pre',x',u1,u2,⟨post,u3⟩,_⟩:=lI (f:=stp W P kv) (lJ (Gg ok)).2
    have ex:pre=pre'/\x=x':=by
     have:=List.append_inj' (e1.symm.trans u1) rfl
     exact⟨this.1,by simpa using this.2⟩
    obtain⟨rfl,rfl⟩:=ex
    have xc:=OP ok u3
    have ms:lM "Look" "stretch" 3 bt (af 1) (aa (bI (aa (ag aP (af 3) (gC (.int 0))) (aa (ag aP (af 3) (gC (.int 1))) (aa (ag aP (af 3) (gC (.int 2))) (aa (ag aP (af 3) (gC (.int 1))) aj))))) (aa (af 2) aj)) [some (.tup [.str "find",f,tI [a,b,c,e],p]),some (.ref k),some kv.w,some (tI [a,b,c,e]),none] s1= .ok (.ref s1.length) s2 :=
     (CM (k:=k) (ws:=[tI [a,b,c,b],kv.w]) rfl h1.o rfl (by simp[j];rfl) rfl).trans e2
    have ix:aP (.ref s1.length) (.int (-1)) s2= .ok (jW W P x).w s2:=fW (b5 e3) (by rw[eh];exact kz)
    have hx:=halts (jW W P x) (st:=s2)
    have hr2:(bR (gO rs xs) (.part a b c b x)).length < 1000:=by have:=k7 (gO rs xs) (.part a b c b x);omega
    have cl:=cell e4 hr2 (x.1,e)
    have e6:=e4.met (rs':=bR (bR (gO rs xs) (.part a b c b x)) (.xW (x.1,e)))
    rw[<-v7] at e4 e6 cl
    rw[<-v7] at e6 cl
    cases q3:(jW W P x).h with
    | true=>
     rw[if_pos rfl]
     rw[q3] at hx
     refine⟨s2,key ?_,e4,k1.trans e5⟩
     rw[bF]
     unfold bh bu
     simp[i1,g1,C2,in1,i2,ms,ix,hx]
    | false=>
     rw[if_neg bE]
     rw[q3] at hx
     have ew:=(K3 q3).1
     have Ud:=fits (wo W x) kv (st:=s2)
     rw[ew] at ix hx
     change aP (.ref s1.length) (.int (-1)) s2= .ok (wo W x).w s2 at ix
     change b7 [(wo W x).w] s2=_ at hx
     cases q4:ft (wo W x) kv with
     | false=>
      rw[if_pos rfl]
      rw[q4] at Ud
      refine⟨s2,key ?_,e4,k1.trans e5⟩
      rw[bF]
      unfold bh bu
      simp[i1,g1,C2,in1,i2,ms,ix,hx,Ud,fl]
      rfl
     | true=>
      rw[if_neg (by simp)]
      rw[q4] at Ud
      have ln:=ud (b5 e3)
      rw[bU,eV] at ln
      have x1:a+((pre.length+[x].length:Nat):Int) - 1=x.1:=by rw[xc];simp;omega
      have mc:lM "Look" "cell" 2 cm (af 1) (aa (bI (aa (ag ke (ag c_ (ag aP (af 3) (gC (.int 0))) (aR lL (aa (af 4) aj))) (gC (.int 1))) (aa (ag aP (af 3) (gC (.int 3))) aj))) aj) [some (.tup [.str "find",f,tI [a,b,c,e],p]),some (.ref k),some kv.w,some (tI [a,b,c,e]),some (.ref s1.length)] s2= .ok (jW W P (x.1,e)).w (jR s2 m (gO rs (bR (bR xs (.part a b c b x)) (.xW (x.1,e))))) :=
       (CM (k:=k) (ws:=[pw (x.1,e)]) rfl e4.o rfl (by
        have ln':=ln
        generalize pre.length+[x].length=q at ln' x1
        simp[j,ln',x1]) rfl).trans cl
      refine⟨_,key ?_,e6,(k1.trans e5).trans oJ⟩
      rw[bF]
      unfold bh bu
      simp[i1,g1,C2,in1,i2,ms,ix,hx,Ud,mc]
end
theorem Sj{a b:Wo}(h:a.w=b.w):a=b:=by
 cases a<;>cases b<;>simp[Wo.w] at h<;>first | rfl | exact congrArg _ h
theorem OR{wd:mH}{ws:List Wo}(h:ws.length < 1000):(JR wd ws).Ok:=by
 have p1:(1000:Int)<=ei:=by decide+kernel
 have g:∃a:Wo,a.Ok/\due wd ws=a.w:=by
  unfold due
  split
  ·rename_i x _ _;exact⟨.i8 x,trivial,rfl⟩
  ·cases wd with
   | sum=>exact⟨bO _,nJ _,(JY _).symm⟩
   | count=>
    refine⟨.int (nums ws).length,?_,rfl⟩
    have:=xR ws
    show -ei<=_/\_<=ei
    omega
   | least=>
    dsimp only
    split
    ·exact⟨.i8 "none",trivial,rfl⟩
    ·exact⟨bO _,nJ _,(JY _).symm⟩
   | k6=>
    dsimp only
    split
    ·exact⟨.i8 "none",trivial,rfl⟩
    ·exact⟨bO _,nJ _,(JY _).symm⟩
 obtain⟨a,h1,h2⟩:=g
 have:JR wd ws=a:=Sj ((Gb wd ws).trans h2)
 rw[this]
 exact h1
theorem Sk{x:S}(h:x∈AW):(J1 x).s=x:=by
 simp only[AW,di,dC,or_false] at h
 rcases h with rfl | rfl | rfl | rfl<;>decide+kernel
theorem K5{x:S}(h:x∈W2)(ne:x≠"else"):x∈OA\/x∈OB:=by
 simp only[W2,OA,OB,di,dC,or_false] at h ⊢
 rcases h with rfl | h
 ·exact absurd rfl ne
 ·rcases h with h | h | h | h | h | h | h | h<;>simp[h]
section
variable {W:Ws} {P:List Pt} {d l:Nat}
theorem Gh(mJ:∀p,(wo W p).Ok)(p:Pt):(jW W P p).ok:=by
 unfold jW
 split
 ·trivial
 ·exact mJ p
theorem cR(mJ:∀p,(wo W p).Ok):∀f:Fm,f.ok->∀n,2 * f.dp<=n->(lk W P f).1.ok/\(lk W P f).2.length<=2 * f.sz/\(lk W P f).2.Nodup/\Gn W P d l n f.w (lk W P f).1 (lk W P f).2 (2 * f.sz)
 | .lit x ws,ok,n,hn=>by
  have hn':2<=n:=hn
  obtain⟨n,rfl⟩:∃n',n=n'+1:=⟨n - 1,by omega⟩
  have up:∀{s:Sd}{f:Wv},Gn W P d l (n+1) f s [] 0->Gn W P d l (n+1) f s [] (2 * 1):=λg st k m rs h hb=>g st k m rs h (by omega)
  rcases ok with ⟨rfl,i,rfl,h0,h1⟩ | ⟨rfl,s,rfl,hs⟩ | ⟨rfl,rfl⟩
  ·refine⟨?_,by simp[lk],by simp[lk],up g_num⟩
   show -ei<=i/\i<=ei
   omega
  ·refine⟨?_,by simp[lk],by simp[lk],up Si⟩
   show s.length<=200
   have:=hs.1
   omega
  ·exact⟨trivial,by simp[lk],by simp[lk],up OM⟩
 | .pt x l' p,ok,n,hn=>by
  have hn':2<=n:=hn
  obtain⟨n,rfl⟩:∃n',n=n'+1:=⟨n - 1,by omega⟩
  have up:∀{s:Sd}{f:Wv}{xs:List Rd},Gn W P d l (n+1) f s xs 1->Gn W P d l (n+1) f s xs (2 * 1):=λg st k m rs h hb=>g st k m rs h (by omega)
  rcases ok with ⟨rfl,a,b,q,r,rfl,rfl,_⟩ | ⟨hx,a,b,c,e,q,r,s,t,rfl,rfl,ar,_⟩
  ·exact⟨Gh mJ (a,b),by simp[lk,Se,Fm.sz],by simp[lk,Se],up (WE (p:=(a,b)) (ws:=[tI [q,r]]))⟩
  ·have g:=ON (W:=W) (P:=P) (d:=d) (l:=l) (n:=n) (wd:=J1 x) (p:=tI [q,r,s,t]) ar
   rw[Sk hx] at g
   refine⟨?_,by simp[lk,Se,Fm.sz],by simp[lk,Se],up g⟩
   show(OJ W P (J1 x) (upto (stp W P .non) (iZ a b c e)) (h8 (stp W P .non) (iZ a b c e))).ok
   unfold OJ
   split
   ·exact Gh mJ _
   ·refine OR ?_
    obtain⟨pre,x,u1,_,⟨post,u3⟩,_⟩:=lI (f:=stp W P .non) (lJ ar).2
    have:=(lJ ar).1
    rw[u3] at this
    rw[u1]
    simp at this ⊢
    omega
 | .fd a l' p,ok,n,hn=>by
  obtain⟨oka,x,b,c,e,q,r,s,t,rfl,rfl,ar,_⟩:=ok
  have hd:2 * (a.dp+1)<=n:=hn
  obtain⟨n,rfl⟩:∃n',n=n'+2:=⟨n - 2,by omega⟩
  obtain⟨h1,h2,h3,h4⟩:=cR mJ a oka n (by omega)
  have g:=OQ (p:=tI [q,r,s,t]) h4 ar h2
  have sz:(Fm.fd a [x,b,c,e] [q,r,s,t]).sz=a.sz+1:=rfl
  refine⟨?_,?_,?_,λst k m rs h hb=>g st k m rs h (by rw[sz] at hb;omega)⟩
  ·show(G0 W P (lk W P a).1 (lk W P a).2 [x,b,c,e]).1.ok
   unfold G0
   cases q:(lk W P a).1 with
   | wt p=>trivial
   | wo kv=>
    rw[q] at h1
    dsimp only
    repeat' split
    all_goals first | exact h1 | trivial | exact Gh mJ _
  ·show(G0 W P (lk W P a).1 (lk W P a).2 [x,b,c,e]).2.length<=2 * (a.sz+1)
   have ad:=λr r'=>k7 (bR (lk W P a).2 r) r'
   have ad':=λr=>k7 (lk W P a).2 r
   unfold G0
   cases q:(lk W P a).1 with
   | wt p=>dsimp only;omega
   | wo kv=>
    dsimp only
    repeat' split
    all_goals dsimp only
    all_goals first | omega | (refine bf (k7 _ _) ?_;first | omega | (refine bf (Nat.add_le_add_right (k7 _ _) 1) ?_;omega))
  ·show(G0 W P (lk W P a).1 (lk W P a).2 [x,b,c,e]).2.Nodup
   unfold G0
   cases q:(lk W P a).1 with
   | wt p=>exact h3
   | wo kv=>
    dsimp only
    repeat' split
    all_goals first | exact h3 | exact qb h3 | exact qb (qb h3)
 | .o1 x a,ok,n,hn=>by
  have hx:x="minus"\/x="not":=by have:=ok.1;simpa [W1] using this
  have hd:2 * (a.dp+1)<=n:=hn
  obtain⟨n,rfl⟩:∃n',n=n'+2:=⟨n - 2,by omega⟩
  obtain⟨h1,h2,h3,h4⟩:=cR mJ a ok.2 n (by omega)
  have sz:(Fm.o1 x a).sz=a.sz+1:=rfl
  refine⟨?_,?_,h3,λst k m rs h hb=>Sf hx h4 h1 st k m rs h (by rw[sz] at hb;omega)⟩
  ·show(one x (lk W P a).1).ok
   cases q:(lk W P a).1 with
   | wt p=>trivial
   | wo kv=>rw[q] at h1;exact(v5 hx h1).1
  ·show(lk W P a).2.length<=2 * (a.sz+1)
   omega
 | .o2 x a b,ok,n,hn=>by
  have hd:2 * (max a.dp b.dp+1)<=n:=hn
  obtain⟨n,rfl⟩:∃n',n=n'+2:=⟨n - 2,by omega⟩
  obtain⟨h1,h2,h3,h4⟩:=cR mJ a ok.2.1 n (by omega)
  obtain⟨j1,j2,j3,j4⟩:=cR mJ b ok.2.2 n (by omega)
  have sz:(Fm.o2 x a b).sz=a.sz+b.sz+1:=rfl
  have ml:=gP (lk W P b).2 (lk W P a).2
  by_cases c:x="else"
  ·have e:lk W P (.o2 x a b)=if(lk W P a).1.f=true then((lk W P b).1,gO (lk W P a).2 (lk W P b).2) else((lk W P a).1,(lk W P a).2):=by
    show(if x="else" then _ else _)=_
    rw[if_pos c]
   rw[e]
   have g:=OO h4 j4 h2
   subst c
   refine⟨?_,?_,?_,λst k m rs h hb=>g st k m rs h (by rw[sz] at hb;omega)⟩
   ·split
    ·exact j1
    ·exact h1
   ·rw[sz]
    split
    ·dsimp only;omega
    ·dsimp only;omega
   ·split
    ·exact v8 h3
    ·exact h3
  ·have hx:=K5 ok.1 c
   have e:lk W P (.o2 x a b)=two x (lk W P a).1 (lk W P b).1 (lk W P a).2 (lk W P b).2:=by
    show(if x="else" then _ else _)=_
    rw[if_neg c]
   rw[e]
   have g:=Sh hx h4 j4 h1 j1 h2
   refine⟨?_,?_,?_,λst k m rs h hb=>g st k m rs h (by rw[sz] at hb;omega)⟩
   ·unfold two
    cases q:(lk W P a).1 with
    | wt p=>trivial
    | wo ka=>
     rw[q] at h1
     dsimp only
     split
     ·exact h1
     ·cases q2:(lk W P b).1 with
      | wt p=>trivial
      | wo kb=>rw[q2] at j1;exact(vZ hx h1 j1).1
   ·unfold two
    rw[sz]
    cases q:(lk W P a).1 with
    | wt p=>dsimp only;omega
    | wo ka=>
     dsimp only
     split
     ·dsimp only;omega
     ·dsimp only;omega
   ·unfold two
    cases q:(lk W P a).1 with
    | wt p=>exact h3
    | wo ka=>
     dsimp only
     split
     ·exact h3
     ·exact v8 h3
 | .o3 a b c,ok,n,hn=>by
  have hd:2 * (max a.dp (max b.dp c.dp)+1)<=n:=hn
  obtain⟨n,rfl⟩:∃n',n=n'+2:=⟨n - 2,by omega⟩
  obtain⟨h1,h2,h3,h4⟩:=cR mJ a ok.1 n (by omega)
  obtain⟨j1,j2,j3,j4⟩:=cR mJ b ok.2.1 n (by omega)
  obtain⟨i1,i2,i3,i4⟩:=cR mJ c ok.2.2 n (by omega)
  have sz:(Fm.o3 a b c).sz=a.sz+b.sz+c.sz+1:=rfl
  have ml:=gP (lk W P b).2 (lk W P a).2
  have ml':=gP (lk W P c).2 (lk W P a).2
  have g:=WG h4 j4 i4 h1 h2
  have e:lk W P (.o3 a b c)=Gf (lk W P a).1 (lk W P b).1 (lk W P c).1 (lk W P a).2 (lk W P b).2 (lk W P c).2:=rfl
  rw[e]
  refine⟨?_,?_,?_,λst k m rs h hb=>g st k m rs h (by rw[sz] at hb;omega)⟩
  ·unfold Gf
   cases q:(lk W P a).1 with
   | wt p=>trivial
   | wo ka=>
    rw[q] at h1
    dsimp only
    repeat' split
    all_goals first | exact h1 | trivial | exact i1 | exact j1
  ·unfold Gf
   rw[sz]
   cases q:(lk W P a).1 with
   | wt p=>dsimp only;omega
   | wo ka=>
    dsimp only
    repeat' split
    all_goals dsimp only;omega
  ·unfold Gf
   cases q:(lk W P a).1 with
   | wt p=>exact h3
   | wo ka=>
    dsimp only
    repeat' split
    all_goals first | exact h3 | exact v8 h3
theorem Gi{xs:List Rd}(h:xs.Nodup):gO [] xs=xs:=by rw[v9 h];simp
theorem look{f:Fm}{st:Hs}(mJ:∀p,(wo W p).Ok)(n:Kn W P d l st)(ok:f.ok)(hd:f.dp<=5)(hs:f.sz<=400):∃st',eR [f.w,.ref d,.ref l] st= .ok (res (lk W P f).1 (lk W P f).2) st'/\Gr st st':=by
 obtain⟨_,h2,h3,h4⟩:=cR (d:=d) (l:=l) mJ f ok 10 (by omega)
 refine JU n λst k m h=>?_
 obtain⟨st',e,h',k'⟩:=h4 st k m [] h (by simp;omega)
 rw[Gi h3] at h'
 exact⟨st',e,h',k'⟩
end
theorem ya{α β:Type}{ck:Hs->Prop}{gt:Wv->Hs->Re Bool}{ge:Wv->Hs->Re Wv}{rr:Nat}(f:α->Wv)(v:β->Wv)(E:β->α->Hs->Prop)(s0:Hs)(hck:∀st,bM rr s0 st->ck st)(mono:∀b a st st',E b a st->bM rr st st'->E b a st') :
  ∀(ws:List α),(∀a∈ws,∀st,bM rr s0 st->rr < st.length->gt (f a) st= .ok true st/\∃b st',ge (f a) st= .ok (v b) st'/\Gr st st'/\E b a st')->∀(acc:List Wv)(st:Hs),bM rr s0 st->st[rr]? =some (.lst acc)->acc.length+ws.length < lim->
   ∃bs st',iO ck gt ge rr (ws.map f) st=some st'/\st'[rr]? =some (.lst (acc++bs.map v))/\bM rr st st'/\Paired (λb a=>E b a st') bs ws
 | [],_,acc,st,_,hg,_=>⟨[],st,rfl,by simpa using hg,bM.refl,.nil⟩
 | a::t,h,acc,st,hk,hg,hl=>by
  have hl':acc.length+(t.length+1) < lim:=hl
  obtain⟨e0,b,s1,e1,g1,x1⟩:=h a bS st hk (cT hg)
  have YF:=g1.get hg
  have K1:bM rr st (s1.set rr (.lst (acc++[v b]))):=g1.keep.trans bM.set
  obtain⟨bs,s2,e2,g2,K2,p2⟩:=ya f v E s0 hck mono t (λa ha=>h a (bq _ ha)) (acc++[v b]) (s1.set rr (.lst (acc++[v b]))) (hk.trans K1) (cP YF) (by simp;omega)
  refine⟨b::bs,s2,?_,by simpa using g2,K1.trans K2,.cons (mono _ _ _ _ x1 (bM.set.trans K2)) p2⟩
  rw[bw,iO,e0]
  dsimp only
  rw[e1]
  dsimp only
  rw[o9 YF (by omega)]
  dsimp only
  rw[if_pos (hck _ (hk.trans K1))]
  exact e2
theorem Gj{ws:List Wv}{a:Nat}(h:a<=ws.length):ph ws (some (a:Int)) none=ws.drop a:=by
 have i1:HT.dD ws.length 0 (some (a:Int))=a:=by
  unfold HT.dD
  simp
  rw[if_neg (by omega)]
  omega
 have i2:HT.dD ws.length ws.length none=ws.length:=by
  unfold HT.dD
  simp
 unfold ph
 rw[i1,i2,IP (by rw[Du];omega)]
theorem CO{α:Type}{cs:gU}{gt:GT}{ge:GE}{ρ:bY}{o:Option Nat}{ws:List α}{st:Hs}(f v:α->Wv)(hck:∀s,Gr st s->ko (o,ws.map f) s)(ht:∀a s,gt (some a::f_ cs ρ) s= .ok true s)(h:∀a∈ws,∀s,Gr st s->∃s',ge (some (f a)::f_ cs ρ) s= .ok (v a) s'/\Gr s s')(hl:ws.length < lim) :
  ∃st',dQ cs gt ge ρ (o,ws.map f) st= .ok (.ref st.length) st'/\st'[st.length]? =some (.lst (ws.map v))/\Gr st st':=by
 obtain⟨bs,s1,e1,h1,K1,p1⟩:=ya (ck:=ko (o,ws.map f)) (gt:=λv=>gt (some v::f_ cs ρ)) (ge:=λv=>ge (some v::f_ cs ρ)) (rr:=st.length) f id (λb a _=>b=v a) (st++[.lst []]) (λs K=>hck s (Gr.push.rE (aC _) K)) (λ_ _ _ _ e _=>e) ws
  (λa ha s K _=>⟨ht _ s,by
   obtain⟨s',e,g⟩:=h a ha s (Gr.push.rE (aC _) K)
   exact⟨v a,s',e,g,rfl⟩⟩) [] (st++[.lst []]) bM.refl iq (by simpa using hl)
 have eb:bs=ws.map v:=by
  clear e1 h1
  generalize s1=z at p1
  have:∀{bs:List Wv}{ws:List α},Paired (λb a=>b=v a) bs ws->bs=ws.map v:=λp=>by
   induction p with
   | nil=>rfl
   | cons h _ ih=>rw[h,ih];rfl
  exact this p1
 subst eb
 refine⟨s1,?_,by simpa using h1,Gr.push.rE (aC _) K1⟩
 unfold dQ
 dsimp only
 rw[e1]
def OS:Wv->Bool
 | .tup (.str _::_)=>true
 | _=>false
def Itm(v:Wv):Prop:=(∃i,v= .int i)\/(∃s,v= .str s)\/(∃i r,v= .tup (.int i::r))\/∃s r,v= .tup (.str s::r)
theorem Sl(x:Wv)(ws:List Wv):ph (x::ws) (some 1) none=ws:=by
 have:=Gj (ws:=x::ws) (a:=1) (by simp)
 simpa using this
theorem CP{x:S}{ws:List Wv}(h:∀v∈ws,Itm v)(hl:ws.length < 10){st:Hs}:cj [.tup (.str x::ws)] st= .ok (.ref st.length) (st++[.lst (ws.filter OS)]):=by
 have sl:B7 (.tup (.str x::ws)) (some 1) none st= .ok (.tup ws) st:=by
  refine Ox ?_ (Sl _ _)
  unfold mf HT.dD
  simp
 have q:=iU (cs:=[]) (gt:=fz) (ge:=iV) (ρ:=[some (.tup (.str x::ws))]) (w:=(none,ws)) (st:=st) (t:=OS) (f:=id) trivial
  (λv hv acc=>by
   unfold fz
   rcases h v hv with ⟨i,rfl⟩ | ⟨s,rfl⟩ | ⟨i,r,rfl⟩ | ⟨s,r,rfl⟩
   ·rfl
   ·rfl
   ·have e1:∀st:Hs,cU eT cA [.tup (.int i::r),.ty "tuple"] st= .ok (.bl true) st:=λst=>rfl
    have e2:∀st:Hs,aP (.tup (.int i::r)) (.int 0) st= .ok (.int i) st:=λst=>Ow
    have e3:∀st:Hs,cU eT cA [.int i,.ty "str"] st= .ok (.bl false) st:=λst=>rfl
    simp[f_,e1,e2,e3,OS]
   ·have e1:∀st:Hs,cU eT cA [.tup (.str s::r),.ty "tuple"] st= .ok (.bl true) st:=λst=>rfl
    have e2:∀st:Hs,aP (.tup (.str s::r)) (.int 0) st= .ok (.str s) st:=λst=>Ow
    have e3:∀st:Hs,cU eT cA [.str s,.ty "str"] st= .ok (.bl true) st:=λst=>rfl
    simp[f_,e1,e2,e3,OS])
  (λv _ _ acc=>rfl) (by show ws.length < lim;unfold lim;omega)
 have sq:oX (.tup ws) st= .ok (none,ws) st:=rfl
 rw[zD] at q
 unfold cj bh jB
 simp[sl,sq,q]
def Fm.ks:Fm->List Fm
 | .fd a _ _=>[a]
 | .o1 _ a=>[a]
 | .o2 _ a b=>[a,b]
 | .o3 a b c=>[a,b,c]
 | _=>[]
theorem Bi(f:Fm):OS f.w=true:=by cases f<;>rfl
theorem r6(f:Fm):Itm f.w:=.inr (.inr (.inr ⟨f.v.1,f.v.2,rfl⟩))
theorem Bj{i:Int}{is:List Int}:Itm (tI (i::is)):=.inr (.inr (.inl ⟨i,is.map Wv.int,rfl⟩))
theorem Sm{i:Int}{is:List Int}:OS (tI (i::is))=false:=rfl
theorem Bk{f:Fm}(ok:f.ok){st:Hs}:cj [f.w] st= .ok (.ref st.length) (st++[.lst (f.ks.map Fm.w)]):=by
 have key:∀{x:S}{ws:List Wv},f.w= .tup (.str x::ws)->(∀v∈ws,Itm v)->ws.length < 10->ws.filter OS=f.ks.map Fm.w->cj [f.w] st= .ok (.ref st.length) (st++[.lst (f.ks.map Fm.w)]):=λe1 e2 e3 e4=>by
  rw[e1,<-e4]
  exact CP e2 e3
 cases f with
 | lit x ws=>
  rcases ok with ⟨rfl,i,rfl,_⟩ | ⟨rfl,s,rfl,_⟩ | ⟨rfl,rfl⟩
  ·exact key (ws:=[.int i]) rfl (by intro v hv;simp at hv;exact .inl ⟨i,hv⟩) (by simp) rfl
  ·exact key (ws:=[.str s]) rfl (by intro v hv;simp at hv;exact .inr (.inl ⟨s,hv⟩)) (by simp) rfl
  ·exact key (ws:=[]) rfl (by simp) (by simp) rfl
 | pt x l p=>
  rcases ok with ⟨rfl,a,b,q,r,rfl,rfl,_⟩ | ⟨hx,a,b,c,e,q,r,s,t,rfl,rfl,ar,_⟩
  ·exact key (ws:=[tI [a,b],tI [q,r]]) rfl (by intro v hv;simp at hv;rcases hv with rfl | rfl<;>exact Bj) (by simp) rfl
  ·exact key (ws:=[tI [a,b,c,e],tI [q,r,s,t]]) rfl (by intro v hv;simp at hv;rcases hv with rfl | rfl<;>exact Bj) (by simp) rfl
 | fd a l p=>
  obtain⟨_,x,b,c,e,q,r,s,t,rfl,rfl,_⟩:=ok
  exact key (ws:=[a.w,tI [x,b,c,e],tI [q,r,s,t]]) rfl (by intro v hv;simp at hv;rcases hv with rfl | rfl | rfl;exact r6 a;exact Bj;exact Bj) (by simp) (by simp[rY,Bi,Sm,Fm.ks])
 | o1 x a=>exact key (ws:=[a.w]) rfl (by intro v hv;simp at hv;rw[hv];exact r6 a) (by simp) (by simp[rY,Bi,Fm.ks])
 | o2 x a b=>exact key (ws:=[a.w,b.w]) rfl (by intro v hv;simp at hv;rcases hv with rfl | rfl;exact r6 a;exact r6 b) (by simp) (by simp[rY,Bi,Fm.ks])
 | o3 a b c=>exact key (ws:=[a.w,b.w,c.w]) rfl (by intro v hv;simp at hv;rcases hv with rfl | rfl | rfl;exact r6 a;exact r6 b;exact r6 c) (by simp) (by simp[rY,Bi,Fm.ks])
def i6:Fm->List Fm
 | .fd a l p=> .fd a l p::i6 a
 | .o1 x a=> .o1 x a::i6 a
 | .o2 x a b=> .o2 x a b::(i6 a++i6 b)
 | .o3 a b c=> .o3 a b c::(i6 a++i6 b++i6 c)
 | f=>[f]
theorem k8:∀(f:Fm),f.ok->∀g∈i6 f,g.ok/\g.dp<=f.dp/\g.sz<=f.sz
 | .lit x ws,ok,g,h=>by rw[List.mem_singleton.mp (show g∈[Fm.lit x ws] from h)];exact⟨ok,aC _,aC _⟩
 | .pt x l p,ok,g,h=>by rw[List.mem_singleton.mp (show g∈[Fm.pt x l p] from h)];exact⟨ok,aC _,aC _⟩
 | .fd a l p,ok,g,h=>by
  rcases List.mem_cons.mp (show g∈Fm.fd a l p::i6 a from h) with rfl | h
  ·exact⟨ok,aC _,aC _⟩
  ·obtain⟨h1,h2,h3⟩:=k8 a ok.1 g h
   exact⟨h1,by simp only[Fm.dp];omega,by simp only[Fm.sz];omega⟩
 | .o1 x a,ok,g,h=>by
  rcases List.mem_cons.mp (show g∈Fm.o1 x a::i6 a from h) with rfl | h
  ·exact⟨ok,aC _,aC _⟩
  ·obtain⟨h1,h2,h3⟩:=k8 a ok.2 g h
   exact⟨h1,by simp only[Fm.dp];omega,by simp only[Fm.sz];omega⟩
 | .o2 x a b,ok,g,h=>by
  rcases List.mem_cons.mp (show g∈Fm.o2 x a b::(i6 a++i6 b) from h) with rfl | h
  ·exact⟨ok,aC _,aC _⟩
  ·rcases List.mem_append.mp h with h | h
   ·obtain⟨h1,h2,h3⟩:=k8 a ok.2.1 g h
    exact⟨h1,by simp only[Fm.dp];omega,by simp only[Fm.sz];omega⟩
   ·obtain⟨h1,h2,h3⟩:=k8 b ok.2.2 g h
    exact⟨h1,by simp only[Fm.dp];omega,by simp only[Fm.sz];omega⟩
 | .o3 a b c,ok,g,h=>by
  rcases List.mem_cons.mp (show g∈Fm.o3 a b c::(i6 a++i6 b++i6 c) from h) with rfl | h
  ·exact⟨ok,aC _,aC _⟩
  ·rcases List.mem_append.mp h with h | h
   ·rcases List.mem_append.mp h with h | h
    ·obtain⟨h1,h2,h3⟩:=k8 a ok.1 g h
     exact⟨h1,by simp only[Fm.dp];omega,by simp only[Fm.sz];omega⟩
    ·obtain⟨h1,h2,h3⟩:=k8 b ok.2.1 g h
     exact⟨h1,by simp only[Fm.dp];omega,by simp only[Fm.sz];omega⟩
   ·obtain⟨h1,h2,h3⟩:=k8 c ok.2.2 g h
    exact⟨h1,by simp only[Fm.dp];omega,by simp only[Fm.sz];omega⟩
theorem gQ:∀f:Fm,(i6 f).length<=f.sz
 | .lit _ _=>aC _
 | .pt _ _ _=>aC _
 | .fd a _ _=>by have:=gQ a;simp only[i6,Fm.sz,ja];omega
 | .o1 _ a=>by have:=gQ a;simp only[i6,Fm.sz,ja];omega
 | .o2 _ a b=>by have:=gQ a;have:=gQ b;simp only[i6,Fm.sz,ja,eV];omega
 | .o3 a b c=>by have:=gQ a;have:=gQ b;have:=gQ c;simp only[i6,Fm.sz,ja,eV];omega
def Pc(n:Nat)(f:Fm):Prop:=∀st:Hs,∃L st',bH n [f.w] st= .ok (.ref L) st'/\aB st' L=some ((i6 f).map Fm.w)/\Gr st st'
theorem Bl{n:Nat}{F:Wv}{q:Nat}{all:List Wv}:∀(ks:List Fm)(acc:List Fm)(L:Nat)(o:Option Wv)(st:Hs),(∀g∈ks,Pc n g)->aB st L=some (acc.map Fm.w)->aB st q=some all->(acc.length+(ks.flatMap i6).length<=10000)->
  ∃L' o' st',forL 2 (dS (bH n)) q all (ks.map Fm.w) [some F,some (.ref L),o] st= .nx [some F,some (.ref L'),o'] st'/\aB st' L'=some ((acc++ks.flatMap i6).map Fm.w)/\Gr st st'
 | [],acc,L,o,st,_,hL,hq,_=>⟨L,o,st,rfl,by simpa using hL,Gr.refl⟩
 | g::ks,acc,L,o,st,h,hL,hq,hb=>by
  obtain⟨M,s1,e1,l1,g1⟩:=h g bS st
  have hb':acc.length+((i6 g).length+(ks.flatMap i6).length)<=10000:=by rw[List.flatMap_cons,eV] at hb;exact hb
  have ad:=add_l (g1.lst hL) l1 (by rw[bU,bU];unfold lim;omega)
  rw[<-eh] at ad
  obtain⟨L',o',s2,e2,l2,g2⟩:=Bl ks (acc++i6 g) s1.length (some g.w) (s1++[.lst ((acc++i6 g).map Fm.w)]) (λk hk=>h k (bq _ hk)) bK (Gr.push.lst (g1.lst hq)) (by rw[eV];omega)
  refine⟨L',o',s2,?_,by simpa using l2,(g1.trans Gr.push).trans g2⟩
  rw[bw]
  unfold forL
  have t:dS (bH n) ([some F,some (.ref L),o].set 2 (some g.w)) st= .nx [some F,some (.ref s1.length),some g.w] (s1++[.lst ((acc++i6 g).map Fm.w)]):=by
   unfold dS
   simp only[t9,ua,rn,vq,rp,xu,vX,vW,rT,rS,t_,lB,N8,zk]
   simp[e1,ad,-eh]
  rw[t]
  dsimp only
  rw[if_pos (Gr.push.lst (g1.lst hq))]
  exact e2
theorem pieces:∀(f:Fm),f.ok->f.sz<=1000->∀n,f.dp<=n->Pc n f:=by
 have main:∀(f:Fm),f.ok->f.sz<=1000->∀n,(∀g∈f.ks,Pc n g)->i6 f=f::f.ks.flatMap i6->Pc (n+1) f:=λf ok hs n h e st=>by
  have pf:=Bk ok (st:=st++[.lst [f.w]])
  have l0:aB ((st++[.lst [f.w]])++[.lst (f.ks.map Fm.w)]) (st++[Ob.lst [f.w]]).length=some (f.ks.map Fm.w):=bK
  have l1:aB ((st++[.lst [f.w]])++[.lst (f.ks.map Fm.w)]) st.length=some (([f]:List Fm).map Fm.w):=Gr.push.lst bK
  have g0:Gr st ((st++[.lst [f.w]])++[.lst (f.ks.map Fm.w)]):=Gr.push.trans Gr.push
  have hl:=gQ f
  rw[e] at hl
  obtain⟨s1,hs1⟩:∃s,s=st++[Ob.lst [f.w]]:=⟨_,rfl⟩
  rw[<-hs1] at pf l0 l1 g0
  obtain⟨s2,hs2⟩:∃s,s=s1++[Ob.lst (f.ks.map Fm.w)]:=⟨_,rfl⟩
  rw[<-hs2] at pf l0 l1 g0
  obtain⟨L,o,s3,e3,l3,g3⟩:=Bl (F:=f.w) (q:=s1.length) (all:=f.ks.map Fm.w) f.ks [f] st.length none s2 h l1 l0 (by simp at hl ⊢;omega)
  refine⟨L,s3,?_,by rw[e];exact l3,g0.trans g3⟩
  rw[mq]
  unfold bh fR
  have h1:st++[Ob.lst [f.w]]=s1:=hs1.symm
  simp[h1,pf,rB l0,e3]
 intro f
 induction f with
 | lit x ws=>
  intro ok hs n hn
  obtain⟨n,rfl⟩:∃n',n=n'+1:=⟨n - 1,by simp only[Fm.dp] at hn;omega⟩
  exact main _ ok hs n (by simp[Fm.ks]) rfl
 | pt x l p=>
  intro ok hs n hn
  obtain⟨n,rfl⟩:∃n',n=n'+1:=⟨n - 1,by simp only[Fm.dp] at hn;omega⟩
  exact main _ ok hs n (by simp[Fm.ks]) rfl
 | fd a l p ih=>
  intro ok hs n hn
  simp only[Fm.dp] at hn
  simp only[Fm.sz] at hs
  obtain⟨n,rfl⟩:∃n',n=n'+1:=⟨n - 1,by omega⟩
  exact main (.fd a l p) ok (by simp only[Fm.sz];omega) n (by intro g hg;rw[List.mem_singleton.mp (show g∈[a] from hg)];exact ih ok.1 (by omega) n (by omega)) (by simp[i6,Fm.ks])
 | o1 x a ih=>
  intro ok hs n hn
  simp only[Fm.dp] at hn
  simp only[Fm.sz] at hs
  obtain⟨n,rfl⟩:∃n',n=n'+1:=⟨n - 1,by omega⟩
  exact main (.o1 x a) ok (by simp only[Fm.sz];omega) n (by intro g hg;rw[List.mem_singleton.mp (show g∈[a] from hg)];exact ih ok.2 (by omega) n (by omega)) (by simp[i6,Fm.ks])
 | o2 x a b ia ib=>
  intro ok hs n hn
  simp only[Fm.dp] at hn
  simp only[Fm.sz] at hs
  obtain⟨n,rfl⟩:∃n',n=n'+1:=⟨n - 1,by omega⟩
  exact main (.o2 x a b) ok (by simp only[Fm.sz];omega) n (by
   intro g hg
   rcases List.mem_cons.mp (show g∈[a,b] from hg) with rfl | hg
   ·exact ia ok.2.1 (by omega) n (by omega)
   ·rw[List.mem_singleton.mp hg];exact ib ok.2.2 (by omega) n (by omega)) (by simp[i6,Fm.ks])
 | o3 a b c ia ib ic=>
  intro ok hs n hn
  simp only[Fm.dp] at hn
  simp only[Fm.sz] at hs
  obtain⟨n,rfl⟩:∃n',n=n'+1:=⟨n - 1,by omega⟩
  exact main (.o3 a b c) ok (by simp only[Fm.sz];omega) n (by
   intro g hg
   rcases List.mem_cons.mp (show g∈[a,b,c] from hg) with rfl | hg
   ·exact ia ok.1 (by omega) n (by omega)
   ·rcases List.mem_cons.mp hg with rfl | hg
    ·exact ib ok.2.1 (by omega) n (by omega)
    ·rw[List.mem_singleton.mp hg];exact ic ok.2.2 (by omega) n (by omega)) (by simp[i6,Fm.ks])
theorem r9{st:Hs}{n:Nat}(r:Rd):bj st (n+2) r.w=some r.d:=by
 cases r<;>cases n<;>rfl
theorem Bm{st:Hs}:∀rs:List Rd,eW (bj st 19) (rs.map Rd.w)=some (rs.map Rd.d)
 | []=>rfl
 | r::rs=>by
  rw[bw]
  unfold eW
  rw[Bm rs,r9 (n:=17) r]
  rfl
theorem Sn{st:Hs}(r:Rd)(rs:List Rd):kr true r.w (.tup (rs.map Rd.w)) st= .ok (.bl (decide (r∉rs))) st:=by
 have d1:bj st 20 (.tup (rs.map Rd.w))=some (.tuple (rs.map Rd.d)):=by
  show(eW (bj st 19) (rs.map Rd.w)).map lq=_
  rw[Bm]
  rfl
 have e:((rs.map Rd.d).any λz=>a4 z r.d)=decide (r∈rs):=by
  rw[wc,zG,decide_eq_true_eq]
  constructor
  ·rintro⟨z,hz,e⟩
   obtain⟨s,hs,rfl⟩:=List.mem_map.mp hz
   have e2:a4 s.k.1 r.k.1=true:=e
   rw[NK.KD.eqv] at e2
   rw[<-Rd.inj.mp (of_decide_eq_true e2)]
   exact hs
  ·intro h
   refine⟨r.d,List.mem_map.mpr ⟨r,h,rfl⟩,?_⟩
   have:a4 r.k.1 r.k.1=true:=by rw[NK.KD.eqv];simp
   exact this
 unfold kr
 rw[d1,r9 (n:=18) r]
 dsimp only
 rw[e]
 by_cases h:r∈rs<;>simp[h]
def r_(W:Ws)(p:Pt)(a:Wo):Ws:=if(W.any λq=>decide (q.1=p))=true then W.map (λq=>if q.1=p then(q.1,a) else q) else W++[(p,a)]
theorem J3(W:Ws)(p:Pt)(a:Wo):pk (xV W) (zH p) a.w=xV (r_ W p a):=by
 unfold pk r_
 have e:((xV W).any λkv=>decide (kv.1=zH p))=W.any λq=>decide (q.1=p):=by
  unfold xV
  rw[List.any_map]
  congr 1
  funext q
  show decide (zH q.1=zH p)=decide (q.1=p)
  rw[decide_eq_decide]
  exact rX
 rw[e]
 split
 ·unfold xV
  rw[mI,mI]
  refine zF λq _=>?_
  show(if zH q.1=zH p then(zH q.1,a.w) else(zH q.1,q.2.w))=(zH (if q.1=p then(q.1,a) else q).1,(if q.1=p then(q.1,a) else q).2.w)
  by_cases z:q.1=p
  ·rw[if_pos (rX.mpr z),if_pos z]
  ·rw[if_neg (λy=>z (rX.mp y)),if_neg z]
 ·unfold xV
  rw[eh]
  rfl
theorem yb(W:Ws)(p:Pt)(a:Wo):(r_ W p a).length<=W.length+1:=by
 unfold r_
 split
 ·rw[bU];omega
 ·simp
section
variable {W:Ws} {P:List Pt} {d l:Nat} {st:Hs}
theorem Kn.put(n:Kn W P d l st){p:Pt}{a:Wo}(hl:W.length < 100){ρ:bY}{gv gd gk:GE}(e1:gv ρ st= .ok a.w st)(e2:gd ρ st= .ok (.ref d) st)(e3:gk ρ st= .ok (pw p) st):∃st',qW gv gd gk ρ st= .nx ρ st'/\Kn (r_ W p a) P d l st'/\bM d st st':=by
 refine⟨st.set d (.nL (xV (r_ W p a))),?_,⟨cP n.d,?_⟩,bM.set⟩
 ·have e:putD (.ref d) (pw p) a.w st=some (st.set d (.nL (xV (r_ W p a)))):=by
   show(match st[d]? with
    | some (.dct kvs)=>(match keyOf (pw p) with | some kk=>if kvs.length < lim then some (st.set d (.dct (pk kvs kk a.w))) else none | none=>none)
    | some (.nL kvs)=>(match n6 (pw p) with | some kk=>if kvs.length < lim then some (st.set d (.nL (pk kvs kk a.w))) else none | none=>none)
    | _=>none)=_
   rw[n.d]
   dsimp only
   rw[Oy]
   dsimp only
   rw[if_pos (by unfold xV;rw[bU];unfold lim;omega),J3]
  unfold qW
  rw[e1]
  show(gd ρ st).bD ρ _=_
  rw[e2]
  show(gk ρ st).bD ρ _=_
  rw[e3]
  show(match putD (.ref d) (pw p) a.w st with | some yd=>Rs.nx ρ yd | none=> .bad)=_
  rw[e]
 ·have:l≠d:=λz=>by have:=n.l;rw[z,n.d] at this;cases this
  rw[cK (bo this)]
  exact n.l
theorem Kn.dl(n:Kn W P d l st):d≠l:=λz=>by have:=n.d;rw[z,n.l] at this;cases this
def J4(W:Ws):Prop:=∀q∈W,q.2.Ok
theorem Bn{p:Pt}{a:Wo}(h:J4 W)(ha:a.Ok):J4 (r_ W p a):=by
 unfold r_
 split
 ·intro q hq
  obtain⟨r,hr,rfl⟩:=List.mem_map.mp hq
  split
  ·exact ha
  ·exact h r hr
 ·intro q hq
  rcases List.mem_append.mp hq with hq | hq
  ·exact h q hq
  ·rw[List.mem_singleton.mp hq];exact ha
theorem J4.at:∀{W:Ws},J4 W->∀p,(wo W p).Ok
 | [],_,_=>trivial
 | q::r,h,p=>by
  unfold wo
  split
  ·exact h q bS
  ·exact J4.at (W:=r) (λx hx=>h x (bq _ hx)) p
theorem zK{r:Nat}{q0:Wv}{a b:Int}{j:Int}{o6 o7:Option Wv}(ho:J4 W)(n:Kn W P d l st)(ro:Ro r st)(h1:r < d)(h2:r < l)(hW:W.length < 50)(hP:P.length < 50)(j0:0<=j)(j1:j < 12) :
  ∃(WH WI:Option Wv)(W':Ws)(P':List Pt)(st':Hs),b8 [some q0,some (tI [a,b]),some (.ref r),some (.ref d),some (.ref l),some (.int j),o6,o7] st= .nx [some q0,some (tI [a,b]),some (.ref r),some (.ref d),some (.ref l),some (.int j),WH,WI] st'/\
   J4 W'/\Kn W' P' d l st'/\Ro r st'/\W'.length<=W.length+1/\P'.length<=P.length+1/\st.length<=st'.length/\∀i,i < r->st'[i]? =st[i]?:=by
 obtain⟨v,hv⟩:=ro
 obtain⟨aw,s1,n1,e1,Ue,hv1,ha⟩:=worth hv
 obtain⟨d6,s2,e2,d60,d61,WJ,Om⟩:=dig (r:=r) (m:=6) ⟨_,hv1⟩ (by decide) (by decide)
 have k2:=(n.at' Ue (by omega) (by omega)).at' WJ (by omega) (by omega)
 have j4:∀st:Hs,fi (.int j) (.int 4) st= .ok (.int (j.fdiv 4)) st:=λst=>mj (by decide)
 have j5:∀st:Hs,oMod (.int j) (.int 4) st= .ok (.int (j.fmod 4)) st:=λst=>ky (by decide)
 have t0:∀st:Hs,aP (tI [a,b]) (.int 0) st= .ok (.int a) st:=λst=>rfl
 have t1:∀st:Hs,aP (tI [a,b]) (.int 1) st= .ok (.int b) st:=λst=>rfl
 let p:Pt:=(a+j.fdiv 4,b+j.fmod 4)
 have old:∀i,i < r->s2[i]? =st[i]?:=λi hi=>by
  have hlt:r < st.length:=cT hv
  rw[WJ.2 i (br (by omega) Ue.1) (by omega),Ue.2 i (by omega) (by omega)]
 have sF:st.length<=s2.length:=bf Ue.1 WJ.1
 have So:=Ww aw (st:=s2)
 by_cases c1:d6=0
 ·subst c1
  have ap:=o9 (v:=pw p) k2.l (by rw[bU];unfold lim;omega)
  have km:=λga ρ=>lC (mt:=ji) (ga:=ga) (ρ:=ρ) (st:=s2) (l:=l) (b5 k2.l)
  refine⟨some (pw p),some aw.w,W,P++[p],s2.set l (.lst (P.map pw++[pw p])),?_,ho,⟨?_,?_⟩,?_,by omega,by simp,by rw[qr];exact sF,λi hi=>by rw[cK (by omega)];exact old i hi⟩
  ·unfold b8
   simp[t0,t1,j4,j5,e1,e2,km]
   exact congrArg (λx=>x) (by
    have ap':ji (.ref l) (.tup [.int (a+j.fdiv 4),.int (b+j.fmod 4)]) s2=_:=ap
    simp[ap',p])
  ·rw[cK (bo n.dl)];exact k2.d
  ·rw[cP k2.l,eh];rfl
  ·obtain⟨u,hu⟩:=Om
   exact⟨u,by rw[cK (by omega)];exact hu⟩
 ·have b1:(d6 == 0)=false:=beq_false_of_ne c1
  cases c2:aw.nn with
  | true=>
   rw[c2] at So
   obtain⟨s3,e3,k3,K6⟩:=k2.put (p:=p) (a:=aw) (by omega) (ρ:=[some q0,some (tI [a,b]),some (.ref r),some (.ref d),some (.ref l),some (.int j),some (pw p),some aw.w]) (gv:=af 7) (gd:=af 3) (gk:=af 6) rfl rfl rfl
   refine⟨some (pw p),some aw.w,r_ W p aw,P,s3,?_,Bn ho ha,k3,?_,yb _ _ _,by omega,bf sF K6.1,λi hi=>by rw[K6.2 i (by have:=cT n.d;omega) (by omega)];exact old i hi⟩
   ·unfold b8
    have e3':qW (af 7) (af 3) (af 6) [some q0,some (tI [a,b]),some (.ref r),some (.ref d),some (.ref l),some (.int j),some (.tup [.int (a+j.fdiv 4),.int (b+j.fmod 4)]),some aw.w] s2=_:=e3
    simp[t0,t1,j4,j5,e1,e2,b1,So,e3',p]
   ·obtain⟨u,hu⟩:=Om
    exact⟨u,by rw[K6.2 r (cT hu) (by omega)];exact hu⟩
  | false=>
   rw[c2] at So
   obtain⟨d2,s3,e3,Ug,Uh,K6,Py⟩:=dig (r:=r) (m:=2) Om (by decide) (by decide)
   have k3:=k2.at' K6 (by omega) (by omega)
   have J5:∀i,i < r->s3[i]? =st[i]?:=λi hi=>by
    have hlt:r < st.length:=cT hv
    rw[K6.2 i (by omega) (by omega)];exact old i hi
   by_cases c3:d2=0
   ·subst c3
    obtain⟨s4,e4,k4,WK⟩:=k3.put (p:=p) (a:=aw) (by omega) (ρ:=[some q0,some (tI [a,b]),some (.ref r),some (.ref d),some (.ref l),some (.int j),some (pw p),some aw.w]) (gv:=af 7) (gd:=af 3) (gk:=af 6) rfl rfl rfl
    refine⟨some (pw p),some aw.w,r_ W p aw,P,s4,?_,Bn ho ha,k4,?_,yb _ _ _,by omega,bf (bf sF K6.1) WK.1,λi hi=>by rw[WK.2 i (by have:=cT k3.d;omega) (by omega)];exact J5 i hi⟩
    ·unfold b8
     have e4':qW (af 7) (af 3) (af 6) [some q0,some (tI [a,b]),some (.ref r),some (.ref d),some (.ref l),some (.int j),some (.tup [.int (a+j.fdiv 4),.int (b+j.fmod 4)]),some aw.w] s3=_:=e4
     simp[t0,t1,j4,j5,e1,e2,b1,So,e3,e4',p]
    ·obtain⟨u,hu⟩:=Py
     exact⟨u,by rw[WK.2 r (cT hu) (by omega)];exact hu⟩
   ·have b2:(d2 == 0)=false:=beq_false_of_ne c3
    refine⟨some (pw p),some aw.w,W,P,s3,?_,ho,k3,Py,by omega,by omega,bf sF K6.1,J5⟩
    unfold b8
    simp[t0,t1,j4,j5,e1,e2,b1,So,e3,b2,p]
end
theorem known{st:Hs}{q:Nat}{ns:List Int}{a b:Int}(h:aB st q=some (ns.map Wv.int))(hn:ns.length<=63):∃(W:Ws)(P:List Pt)(d l:Nat)(st':Hs),dj [.ref q,tI [a,b]] st= .ok (.tup [.ref d,.ref l]) st'/\Kn W P d l st'/\J4 W/\Gr st st':=by
 obtain⟨n,e1⟩:=stream h hn (k:=40) (by decide) (by decide)
 have h1:aB (st++[.lst [.int n]]) q=some (ns.map Wv.int):=Gr.push.lst h
 obtain⟨v,e2⟩:=vV h1 (k:=2) (by decide)
 have i0:aP (.ref st.length) (.int 0) (st++[.lst [.int n]])= .ok (.int n) (st++[.lst [.int n]]):=fW bK rfl
 have md:oMod (.int v) (.int ei) (st++[.lst [.int n]])= .ok (.int (v.fmod ei)) (st++[.lst [.int n]]):=ky (by decide+kernel)
 obtain⟨s1,hs1⟩:∃s,s=st++[.lst [.int n]]:=⟨_,rfl⟩
 rw[<-hs1] at e1 e2 i0 md
 have gg:Gr st s1:=by rw[hs1];exact Gr.push
 have ls1:s1.length=st.length+1:=by rw[hs1];simp
 obtain⟨s2,hs2⟩:∃s,s=s1++[Ob.lst [.int (n+v.fmod ei)],.nL [],.lst []]:=⟨_,rfl⟩
 have ro:Ro s1.length s2:=⟨n+v.fmod ei,by rw[hs2];simp⟩
 have k2:Kn [] [] (s1.length+1) (s1.length+2) s2:=⟨by rw[hs2];simp[xV],by rw[hs2];simp⟩
 have l2:s1.length < s2.length:=by rw[hs2];simp
 have o2:∀i,i < s1.length->s2[i]? =s1[i]?:=λi hi=>by rw[hs2,f9 hi]
 obtain⟨ρ,s3,e3,⟨o5,o6,o7,W,P,rfl,h3,k3,Py,w3,p3,CA,J5⟩⟩:=nk (i:=5) (gb:=b8) (λk ρ st'=>∃(o5 o6 o7:Option Wv)(W:Ws)(P:List Pt),ρ=[some (.ref q),some (tI [a,b]),some (.ref s1.length),some (.ref (s1.length+1)),some (.ref (s1.length+2)),o5,o6,o7]/\J4 W/\Kn W P (s1.length+1) (s1.length+2) st'/\Ro s1.length st'/\W.length<=k/\P.length<=k/\s1.length < st'.length/\∀i,i < s1.length->st'[i]? =s1[i]?)
  (cO 0 12) 0 [some (.ref q),some (tI [a,b]),some (.ref s1.length),some (.ref (s1.length+1)),some (.ref (s1.length+2)),none,none,none] s2 ⟨none,none,none,[],[],rfl,(by intro q hq;cases hq),k2,ro,aC _,aC _,l2,o2⟩ (λj w hw ρ st' hP=>by
   obtain⟨o5,o6,o7,W,P,rfl,hh,kk,rr,hW,hPl,hlen,hold⟩:=hP
   have hj:j < 12:=by
    have q:=(List.getElem?_eq_some_iff.mp hw).1
    rw[du] at q
    exact q
   rw[nT hj] at hw
   cases hw
   obtain⟨WH,WI,W',P',s',e,h',k',r',w',p',ln',old'⟩:=zK (q0:=.ref q) (a:=a) (b:=b) (j:=0+(j:Int)) (o6:=o6) (o7:=o7) hh kk rr (by omega) (by omega) (by omega) (by omega) (by omega) (by omega)
   exact⟨_,s',e,some (.int (0+(j:Int))),WH,WI,W',P',rfl,h',k',r',by omega,by omega,by omega,λi hi=>by rw[old' i hi];exact hold i hi⟩)
 refine⟨W,P,s1.length+1,s1.length+2,s3,?_,k3,h3,⟨by omega,λi hi=>by rw[J5 i (by omega)];exact gg.2 i hi⟩⟩
 have c12:dA 12:=JB (by decide) (by decide)
 have a1:s1++[Ob.lst [.int (n+v.fmod ei)]]++[.nL []]++[.lst []]=s2:=by rw[hs2];simp
 have nt:∀ρ:bY,w5 ρ (s1++[Ob.lst [.int (n+v.fmod ei)]])= .ok (.ref (s1.length+1)) (s1++[Ob.lst [.int (n+v.fmod ei)]]++[.nL []]):=λρ=>by unfold w5;simp
 have nl:(s1++[Ob.lst [.int (n+v.fmod ei)]]++[Ob.nL []]).length=s1.length+2:=by simp
 unfold dj bh jw
 simp only[A2,t9,FR,rp,xu,ua,vq,rn,e_c,aS,bw,k_]
 simp[e1,i0,e2,T_,md,nt,c12,-qw]
 rw[a1]
 simp[e3]
theorem yc:∀rs:List Rd,fM (rs.map Rd.d) (rs.map Rd.d)=true
 | []=>by simp[fM]
 | r::rs=>by
  rw[bw]
  show(a4 r.d r.d&&fM (rs.map Rd.d) (rs.map Rd.d))=true
  have:a4 r.k.1 r.k.1=true:=by rw[NK.KD.eqv];simp
  rw[yc rs,show a4 r.d r.d=true from this]
  rfl
theorem Gk(s:Sd)(rs:List Rd){st:Hs}:uZ (res s rs) (res s rs) st= .ok (.bl false) st:=by
 have m18:eW (bj st 18) (rs.map Rd.w)=some (rs.map Rd.d):=by
  induction rs with
  | nil=>rfl
  | cons r rs ih=>
   rw[bw]
   unfold eW
   rw[ih,r9 (n:=16) r]
   rfl
 have key:∀(x:S)(v:Wv)(dv:PyData),bj st 19 v=some dv->a4 dv dv=true->uZ (.tup [.str x,v,.tup (rs.map Rd.w)]) (.tup [.str x,v,.tup (rs.map Rd.w)]) st= .ok (.bl false) st:=λx v dv h1 h2=>by
  have d:bj st 20 (.tup [.str x,v,.tup (rs.map Rd.w)])=some (.tuple [.str x,dv,.tuple (rs.map Rd.d)]):=by
   show(eW (bj st 19) [.str x,v,.tup (rs.map Rd.w)]).map lq=_
   have d3:bj st 19 (.tup (rs.map Rd.w))=some (.tuple (rs.map Rd.d)):=by
    show(eW (bj st 18) (rs.map Rd.w)).map lq=_
    rw[m18]
    rfl
   have d1:bj st 19 (.str x)=some (.str x):=rfl
   simp only[eW,d1,h1,d3]
   rfl
  refine Og d d ?_
  simp[a4,fM,h2,yc]
 cases s with
 | wt p=>exact key _ (pw p) (dP p) rfl (by rw[vY];simp)
 | wo a=>
  cases a with
  | non=>exact key _ _ .none rfl (by simp[a4])
  | int i=>exact key _ _ (.int i) rfl KR
  | txt x=>exact key _ _ (.str x) rfl KS
  | i8 x=>exact key _ _ (.tuple [.str "fault",.str x]) rfl FW
theorem WL{l:Nat}{st:Hs}{ws:List Wv}(h:st[l]? =some (.lst ws)):qS [.ref l] st= .ok (.tup ws) st:=by
 show(match aB st l with | some ws=>Re.ok (Wv.tup ws) st | none=> .bad)=_
 rw[b5 h]
theorem K7(l:List S)(h:S):((l.map Wv.str).any λz=>MS z (.str h))=decide (h∈l):=by
 rw[wc]
 simp only[zG,List.mem_map,decide_eq_true_eq]
 constructor
 ·rintro⟨_,⟨z,hz,rfl⟩,e⟩
  have e':(z == h)=true:=e
  have:=eq_of_beq e'
  subst this
  exact hz
 ·intro hm
  exact⟨_,⟨h,hm,rfl⟩,show(h == h)=true from beq_self_eq_true h⟩
theorem Gm(l:List S):(l.map Wv.str).all fj=true:=by
 rw[FE]
 intro w hw
 obtain⟨z,_,rfl⟩:=List.mem_map.mp hw
 rfl
theorem Sq{st:Hs}{l:Nat}{x:S}{ys:List S}(h:aB st l=some (ys.map Wv.str)):m7 (.str x) (.ref l) st= .ok (.bl (decide (x∈ys))) st:=by
 show(match aB st l with | some ws=>if fj (.str x)=true/\ws.all fj=true then Re.ok (Wv.bl (ws.any λz=>MS z (.str x))) st else .bad | none=> .bad)=_
 rw[h]
 dsimp only
 rw[if_pos ⟨rfl,Gm ys⟩,K7]
theorem J6{st:Hs}{l:Nat}{x:S}{ys:List S}(h:aB st l=some (ys.map Wv.str)):m8 (.str x) (.ref l) st= .ok (.bl (!decide (x∈ys))) st:=by
 show(match aB st l with | some ws=>if fj (.str x)=true/\ws.all fj=true then Re.ok (Wv.bl (!(ws.any λz=>MS z (.str x)))) st else .bad | none=> .bad)=_
 rw[h]
 dsimp only
 rw[if_pos ⟨rfl,Gm ys⟩,K7]
def Sd.tag:Sd->S
 | .wt _=>"waits"
 | .wo _=>"worth"
def Sd.v:Sd->Wv
 | .wt p=>pw p
 | .wo a=>a.w
theorem uj(s:Sd)(xs:List Rd)(st:Hs):aP (res s xs) (.int 0) st= .ok (.str s.tag) st:=by cases s<;>rfl
theorem sd(s:Sd)(xs:List Rd)(st:Hs):aP (res s xs) (.int 1) st= .ok s.v st:=by cases s<;>rfl
theorem sf(s:Sd)(xs:List Rd)(st:Hs):aP (res s xs) (.int 2) st= .ok (.tup (xs.map Rd.w)) st:=by cases s<;>rfl
theorem OT(s:Sd)(xs:List Rd):res s xs= .tup [.str s.tag,s.v,.tup (xs.map Rd.w)]:=by cases s<;>rfl
theorem Bo{r s:Rd}(h:r.w=s.w):r=s:=by
 have a:=r9 (st:=[]) (n:=0) r
 rw[h,r9] at a
 exact Rd.inj.mp (uo (Option.some.inj a).symm)
section
variable {W:Ws} {P:List Pt} {d l L:Nat} {st:Hs} {xs ys zs:List Rd} {s t u:Sd}
theorem iY(nd:ys.Nodup)(hl:xs.length+ys.length<=5000):∃st',bT [.tup (xs.map Rd.w),res t ys] st= .ok (res t (gO xs ys)) st'/\Gr st st':=by
 classical
 have i0:=uj t ys
 have i1:=sd t ys
 have i2:=sf t ys
 have q:=iU (cs:=[("first",0)]) (gt:=fI) (ge:=iW) (ρ:=[some (.tup (xs.map Rd.w)),some (res t ys),none]) (w:=(none,ys.map Rd.w)) (st:=st++[.lst (xs.map Rd.w)]) (t:=λv=>decide (v∉xs.map Rd.w)) (f:=id) trivial
  (λv hv acc=>by
   obtain⟨r,_,rfl⟩:=List.mem_map.mp hv
   have e:decide (r.w∉xs.map Rd.w)=decide (r∉xs):=by
    refine decide_eq_decide.mpr (not_congr ⟨λh=>?_,λh=>List.mem_map.mpr ⟨r,h,rfl⟩⟩)
    obtain⟨z,hz,ez⟩:=List.mem_map.mp h
    rw[<-Bo ez]
    exact hz
   have z:=Sn r xs (st:=(st++[.lst (xs.map Rd.w)])++[.lst acc])
   unfold fI
   rw[e]
   simp[f_] at z ⊢
   simp[z])
  (λv _ _ acc=>rfl) (by show(ys.map Rd.w).length < lim;rw[bU];unfold lim;omega)
 have e:(ys.map Rd.w).filter (λv=>decide (v∉xs.map Rd.w))=(ys.filter λr=>decide (r∉xs)).map Rd.w:=by
  rw[List.filter_map]
  congr 1
  refine List.filter_congr λr _=>decide_eq_decide.mpr (not_congr ⟨λh=>?_,λh=>List.mem_map.mpr ⟨r,h,rfl⟩⟩)
  obtain⟨z,hz,ez⟩:=List.mem_map.mp h
  rw[<-Bo ez]
  exact hz
 rw[show((none,ys.map Rd.w):Wk).2=ys.map Rd.w from rfl,e,zD] at q
 have l1:qX [.tup (xs.map Rd.w)] st= .ok (.ref st.length) (st++[.lst (xs.map Rd.w)]):=rfl
 have sq:∀st:Hs,oX (.tup (ys.map Rd.w)) st= .ok (none,ys.map Rd.w) st:=λst=>rfl
 have k1:aB (st++[.lst (xs.map Rd.w)]) st.length=some (xs.map Rd.w):=bK
 have g1:Gr st (st++[.lst (xs.map Rd.w)]):=Gr.push
 generalize st++[.lst (xs.map Rd.w)]=s1 at q l1 k1 g1
 have fl:(ys.filter λr=>decide (r∉xs)).length<=ys.length:=List.length_filter_le _ _
 have ad:=add_l (Gr.push.lst k1) (bK (st:=s1) (ws:=(ys.filter λr=>decide (r∉xs)).map Rd.w)) (by rw[bU,bU];unfold lim;omega)
 rw[<-eh,<-v9 nd] at ad
 have g2:Gr st (s1++[.lst ((ys.filter λr=>decide (r∉xs)).map Rd.w)]):=g1.trans Gr.push
 generalize s1++[.lst ((ys.filter λr=>decide (r∉xs)).map Rd.w)]=s2 at q ad g2
 have tc:=WL (l:=s2.length) (st:=s2++[.lst ((gO xs ys).map Rd.w)]) iq
 refine⟨_,?_,g2.trans (Gr.push (o:=.lst ((gO xs ys).map Rd.w)))⟩
 rw[OT t (gO xs ys)]
 unfold bT bh jM
 simp only[A2,t9,ua,rn,e_c,Jw,rp,xu,aS,rT,rS,t_,lB,N8]
 simp[l1,i0,i1,i2,sq,q,ad,tc]
theorem J7{x:S}{f g:Wv}(hx:x∈OA\/x∈OB)(ok:s.ok)(ok':t.ok)(hL:aB st L=some [res s xs,res t ys])(nd:ys.Nodup)(hl:xs.length+ys.length<=5000) :
  ∃st',fJ [.tup [.str x,f,g],.ref L] st= .ok (res (two x s t xs ys).1 (two x s t xs ys).2) st'/\Gr st st':=by
 have w1:(("worth":S) == "waits")=false:=rfl
 have j0:aP (.ref L) (.int 0) st= .ok (res s xs) st:=fW hL rfl
 have j1:aP (.ref L) (.int 1) st= .ok (res t ys) st:=fW hL rfl
 have a0:=uj s xs
 have a1:=sd s xs
 have a2:=sf s xs
 unfold fJ bh mD two
 cases s with
 | wt p=>
  refine⟨st,?_,Gr.refl⟩
  simp[j0,a0,Sd.tag]
 | wo ka=>
  have tt:=J_ ka st
  dsimp only
  change ∀st,aP (res (.wo ka) xs) (.int 1) st= .ok ka.w st at a1
  cases q:ka.f with
  | true=>
   rw[q] at tt
   refine⟨st,?_,Gr.refl⟩
   simp[j0,a0,a1,tt,w1,Sd.tag]
  | false=>
   rw[q] at tt
   obtain⟨s1,e1,g1⟩:=iY (t:=t) (st:=st) nd hl
   have b0:=uj t (gO xs ys)
   have b2:=sf t (gO xs ys)
   have j0':aP (.ref L) (.int 0) s1= .ok (res (.wo ka) xs) s1:=fW (g1.lst hL) rfl
   have j1':aP (.ref L) (.int 1) s1= .ok (res t ys) s1:=fW (g1.lst hL) rfl
   have c1:=sd t ys
   rw[if_neg bE]
   refine⟨s1,?_,g1⟩
   cases t with
   | wt p=>simp[j0,j1,a0,a1,a2,tt,w1,e1,b0,Sd.tag]
   | wo kb=>
    change ∀st,aP (res (.wo kb) ys) (.int 1) st= .ok kb.w st at c1
    have i0:∀st:Hs,aP (.tup [.str x,f,g]) (.int 0) st= .ok (.str x) st:=λst=>rfl
    have pr:=(vZ hx (a:=ka) (b:=kb) ok ok').2 s1
    simp[j0,j1,j0',j1',a0,a1,a2,tt,w1,e1,b0,b2,c1,i0,pr,Sd.tag]
    rfl
theorem Gp(hL:aB st L=some [res s xs,res t ys])(nd:ys.Nodup)(hl:xs.length+ys.length<=5000) :
  ∃st',f6 [.ref L] st= .ok (res (if s.f=true then(t,gO xs ys) else(s,xs)).1 (if s.f=true then(t,gO xs ys) else(s,xs)).2) st'/\Gr st st':=by
 have w1:(("worth":S) == "waits")=false:=rfl
 have j0:aP (.ref L) (.int 0) st= .ok (res s xs) st:=fW hL rfl
 have j1:aP (.ref L) (.int 1) st= .ok (res t ys) st:=fW hL rfl
 have a0:=uj s xs
 have a1:=sd s xs
 have a2:=sf s xs
 unfold f6 bh kU
 cases s with
 | wt p=>
  refine⟨st,?_,Gr.refl⟩
  simp[j0,a0,Sd.tag,Sd.f]
 | wo ka=>
  have tt:=J_ ka st
  change ∀st,aP (res (.wo ka) xs) (.int 1) st= .ok ka.w st at a1
  cases q:ka.f with
  | false=>
   rw[q] at tt
   refine⟨st,?_,Gr.refl⟩
   simp[j0,a0,a1,tt,w1,Sd.tag,Sd.f,q]
  | true=>
   rw[q] at tt
   obtain⟨s1,e1,g1⟩:=iY (t:=t) (st:=st) nd hl
   refine⟨s1,?_,g1⟩
   simp[j0,j1,a0,a1,a2,tt,w1,e1,Sd.tag,Sd.f,q]
theorem Sr{a:Wo}(f:a.f=false)(t:a.t=false)(st:Hs):(a.nn=false/\num a=0)\/(a.nn=true/\oEq a.w (.int 0) st= .ok (.bl (num a == 0)) st):=by
 cases a with
 | non=>exact .inl ⟨rfl,rfl⟩
 | int i=>exact .inr ⟨rfl,rfl⟩
 | txt x=>cases t
 | i8 x=>cases f
theorem OU(hL:aB st L=some [res s xs,res t ys,res u zs])(nd:ys.Nodup)(YG:zs.Nodup)(hl:xs.length+ys.length<=5000)(hl':xs.length+zs.length<=5000) :
  ∃st',gR [.ref L] st= .ok (res (Gf s t u xs ys zs).1 (Gf s t u xs ys zs).2) st'/\Gr st st':=by
 have w1:(("worth":S) == "waits")=false:=rfl
 have j0:aP (.ref L) (.int 0) st= .ok (res s xs) st:=fW hL rfl
 have j1:aP (.ref L) (.int 1) st= .ok (res t ys) st:=fW hL rfl
 have j2:aP (.ref L) (.int 2) st= .ok (res u zs) st:=fW hL rfl
 have a0:=uj s xs
 have a1:=sd s xs
 have a2:=sf s xs
 unfold gR bh oG Gf
 cases s with
 | wt p=>
  refine⟨st,?_,Gr.refl⟩
  simp[j0,a0,a1,Sd.tag]
 | wo ka=>
  have tt:=J_ ka st
  have ss:=CN ka st
  have nn:=YA ka (st:=st)
  dsimp only
  change ∀st,aP (res (.wo ka) xs) (.int 1) st= .ok ka.w st at a1
  cases qf:ka.f with
  | true=>
   rw[qf] at tt
   refine⟨st,?_,Gr.refl⟩
   simp[j0,a0,a1,tt,w1,Sd.tag]
  | false=>
   rw[qf] at tt
   rw[if_neg bE]
   cases qt:ka.t with
   | true=>
    rw[qt] at ss
    refine⟨st,?_,Gr.refl⟩
    simp[j0,a0,a1,a2,tt,ss,w1,Sd.tag]
    rfl
   | false=>
    rw[qt] at ss
    rw[if_neg bE]
    rcases Sr qf qt st with ⟨h1,h2⟩ | ⟨h1,h2⟩
    ·rw[h1] at nn
     rw[if_pos h2]
     obtain⟨s1,e1,g1⟩:=iY (t:=u) (st:=st) YG hl'
     refine⟨s1,?_,g1⟩
     simp[j0,j2,a0,a1,a2,tt,ss,nn,w1,e1,Sd.tag]
    ·rw[h1] at nn
     by_cases z:num ka=0
     ·rw[if_pos z]
      obtain⟨s1,e1,g1⟩:=iY (t:=u) (st:=st) YG hl'
      refine⟨s1,?_,g1⟩
      rw[z] at h2
      simp[j0,j2,a0,a1,a2,tt,ss,nn,h2,w1,e1,Sd.tag]
     ·rw[if_neg z]
      rw[beq_false_of_ne z] at h2
      obtain⟨s1,e1,g1⟩:=iY (t:=t) (st:=st) nd hl
      refine⟨s1,?_,g1⟩
      simp[j0,j1,a0,a1,a2,tt,ss,nn,h2,w1,e1,Sd.tag]
end
def Fm.pl:Fm->Prop
 | .pt x _ _=>x="at"
 | .fd _ _ _=>False
 | _=>True
section
variable {W:Ws} {P:List Pt} {d l L:Nat} {st:Hs}
abbrev G5(W:Ws)(P:List Pt)(f:Fm):Wv:=res (lk W P f).1 (lk W P f).2
theorem CQ{f:Fm}{q4:List (Option Wv)}(mJ:∀p,(wo W p).Ok)(n:Kn W P d l st)(ok:∀g∈f.ks,g.ok)(hd:f.dp<=5)(hs:f.sz<=400)(hq:aB st L=some (f.ks.map Fm.w)) :
  ∃st',dQ [("worths",1),("waiting",2)] kX hU (some f.w::some (.ref d)::some (.ref l)::q4) (some L,f.ks.map Fm.w) st= .ok (.ref st.length) st'/\st'[st.length]? =some (.lst (f.ks.map (G5 W P)))/\Gr st st':=by
 refine CO Fm.w (G5 W P) (λs g=>g.lst hq) (λa s=>rfl) (λg hg s gr=>?_) ?_
 ·have hk:g.dp<=5/\g.sz<=400:=by
   cases f with
   | lit x ws=>cases hg
   | pt x l p=>cases hg
   | fd a l p=>rw[List.mem_singleton.mp (show g∈[a] from hg)];simp only[Fm.dp,Fm.sz] at hd hs;omega
   | o1 x a=>rw[List.mem_singleton.mp (show g∈[a] from hg)];simp only[Fm.dp,Fm.sz] at hd hs;omega
   | o2 x a b=>
    simp only[Fm.dp,Fm.sz] at hd hs
    rcases List.mem_cons.mp (show g∈[a,b] from hg) with rfl | hg
    ·omega
    ·rw[List.mem_singleton.mp hg];omega
   | o3 a b c=>
    simp only[Fm.dp,Fm.sz] at hd hs
    rcases List.mem_cons.mp (show g∈[a,b,c] from hg) with rfl | hg
    ·omega
    ·rcases List.mem_cons.mp hg with rfl | hg
     ·omega
     ·rw[List.mem_singleton.mp hg];omega
  obtain⟨s',e,g'⟩:=look mJ (n.gr gr) (ok g hg) hk.1 hk.2
  refine⟨s',?_,g'⟩
  unfold hU
  simp[f_,e]
 ·cases f<;>simp[Fm.ks,lim]
theorem CT{f:Fm}(n:Kn W P d l st)(ok:f.ok)(hp:f.pl)(hk:f.ks=[]):c7 [f.w,.ref d,.ref l] st= .ok (G5 W P f) st:=by
 unfold c7 bh fK
 cases f with
 | lit x ws=>
  rcases ok with ⟨rfl,i,rfl,_⟩ | ⟨rfl,s,rfl,_⟩ | ⟨rfl,rfl⟩
  ·have i0:∀st:Hs,aP (Fm.lit "num" [.int i]).w (.int 0) st= .ok (.str "num") st:=λst=>rfl
   have i1:∀st:Hs,aP (Fm.lit "num" [.int i]).w (.int 1) st= .ok (.int i) st:=λst=>rfl
   have t1:(("num":S) == "lost")=false:=rfl
   have t2:∀st:Hs,uZ (.str "num") (.str "at") st= .ok (.bl true) st:=λst=>rfl
   simp[i0,i1,t1,t2]
   rfl
  ·have i0:∀st:Hs,aP (Fm.lit "text" [.str s]).w (.int 0) st= .ok (.str "text") st:=λst=>rfl
   have i1:∀st:Hs,aP (Fm.lit "text" [.str s]).w (.int 1) st= .ok (.str s) st:=λst=>rfl
   have t1:(("text":S) == "lost")=false:=rfl
   have t2:∀st:Hs,uZ (.str "text") (.str "at") st= .ok (.bl true) st:=λst=>rfl
   simp[i0,i1,t1,t2]
   rfl
  ·have i0:∀st:Hs,aP (Fm.lit "lost" []).w (.int 0) st= .ok (.str "lost") st:=λst=>rfl
   simp[i0]
   rfl
 | pt x l' p=>
  rcases ok with ⟨rfl,a,b,q,r,rfl,rfl,_⟩ | ⟨hx,_⟩
  ·have i0:∀st:Hs,aP (Fm.pt "at" [a,b] [q,r]).w (.int 0) st= .ok (.str "at") st:=λst=>rfl
   have i1:∀st:Hs,aP (Fm.pt "at" [a,b] [q,r]).w (.int 1) st= .ok (pw (a,b)) st:=λst=>rfl
   have t1:(("at":S) == "lost")=false:=rfl
   have t2:∀st:Hs,uZ (.str "at") (.str "at") st= .ok (.bl false) st:=λst=>rfl
   have Oz:=n.Oz (a,b)
   have gt:∀o3:Option Wv,lx (af 1) (ag aP (af 0) (gC (.int 1))) (gC .non) [some (Fm.pt "at" [a,b] [q,r]).w,some (.ref d),some (.ref l),o3] st= .ok (wo W (a,b)).w st:=λo3=>n.Wu rfl (by simp[i1])
   show _=Re.ok (res (jW W P (a,b)) [.xW (a,b)]) st
   by_cases c:(a,b)∈P
   ·have es:jW W P (a,b)= .wt (a,b):=by unfold jW;rw[if_pos c]
    rw[es]
    rw[decide_eq_true c] at Oz
    simp[i0,i1,t1,t2,Oz]
    rfl
   ·have es:jW W P (a,b)= .wo (wo W (a,b)):=by unfold jW;rw[if_neg c]
    rw[es]
    rw[decide_eq_false c] at Oz
    simp[i0,i1,t1,t2,Oz,gt]
    rfl
  ·have Tz:x="at":=hp
   rw[Tz] at hx
   exact absurd hx (by decide+kernel)
 | fd a l' p=>cases hp
 | o1 x a=>cases hk
 | o2 x a b=>cases hk
 | o3 a b c=>cases hk
theorem in4{x:S}(st:Hs):m7 (.str x) (.ref st.length) (st++[.lst [.str "num",.str "text",.str "lost",.str "at"]])= .ok (.bl (decide (x∈(["num","text","lost","at"]:List S)))) (st++[.lst [.str "num",.str "text",.str "lost",.str "at"]]):=Sq (ys:=["num","text","lost","at"]) bK
theorem in2{x:S}(st:Hs):m7 (.str x) (.ref st.length) (st++[.lst [.str "minus",.str "not"]])= .ok (.bl (decide (x∈(["minus","not"]:List S)))) (st++[.lst [.str "minus",.str "not"]]):=Sq (ys:=["minus","not"]) bK
theorem J8{f:Fm}(mJ:∀p,(wo W p).Ok)(n:Kn W P d l st)(ok:f.ok)(hp:f.pl)(hd:f.dp<=5)(hs:f.sz<=400):∃st',hV [f.w,.ref d,.ref l] st= .ok (G5 W P f) st'/\Gr st st':=by
 have kok:∀g∈f.ks,g.ok:=λg hg=>by
  cases f with
  | lit x ws=>cases hg
  | pt x l p=>cases hg
  | fd a l p=>cases hp
  | o1 x a=>rw[List.mem_singleton.mp (show g∈[a] from hg)];exact ok.2
  | o2 x a b=>
   rcases List.mem_cons.mp (show g∈[a,b] from hg) with rfl | hg
   ·exact ok.2.1
   ·rw[List.mem_singleton.mp hg];exact ok.2.2
  | o3 a b c=>
   rcases List.mem_cons.mp (show g∈[a,b,c] from hg) with rfl | hg
   ·exact ok.1
   ·rcases List.mem_cons.mp hg with rfl | hg
    ·exact ok.2.1
    ·rw[List.mem_singleton.mp hg];exact ok.2.2
 have pf:=Bk ok (st:=st)
 have l0:aB (st++[.lst (f.ks.map Fm.w)]) st.length=some (f.ks.map Fm.w):=bK
 have g0:Gr st (st++[.lst (f.ks.map Fm.w)]):=Gr.push
 generalize st++[.lst (f.ks.map Fm.w)]=s0 at pf l0 g0
 obtain⟨s1,e1,h1,g1⟩:=CQ (q4:=[none]) mJ (n.gr g0) kok hd hs l0
 have sq:oX (.ref st.length) s0= .ok (some st.length,f.ks.map Fm.w) s0:=oj l0
 have i0:∀st:Hs,aP f.w (.int 0) st= .ok (.str f.v.1) st:=λst=>Ow
 have k1:=(n.gr g0).gr g1
 have x4:=in4 (x:=f.v.1) s1
 have Ui:Gr s1 (s1++[.lst [.str "num",.str "text",.str "lost",.str "at"]]):=Gr.push
 have OV:oh [.str "num",.str "text",.str "lost",.str "at"] s1= .ok (.ref s1.length) (s1++[.lst [.str "num",.str "text",.str "lost",.str "at"]]):=gY (by simp[lim])
 have PJ:Gr st (s1++[.lst [.str "num",.str "text",.str "lost",.str "at"]]):=(g0.trans g1).trans Ui
 have hL:=Ui.lst (b5 h1)
 have k2:=k1.gr Ui
 generalize s1++[.lst [.str "num",.str "text",.str "lost",.str "at"]]=s2 at x4 Ui OV PJ hL k2
 have x2:=in2 (x:=f.v.1) s2
 have Uj:Gr s2 (s2++[.lst [.str "minus",.str "not"]]):=Gr.push
 have Uk:oh [.str "minus",.str "not"] s2= .ok (.ref s2.length) (s2++[.lst [.str "minus",.str "not"]]):=gY (by simp[lim])
 have WM:=Uj.lst hL
 generalize s2++[.lst [.str "minus",.str "not"]]=s3 at x2 Uj Uk WM
 unfold hV bh mF
 simp only[A2,t9,Rw,ua,FR,rn,e_c,vq,rp,xu,aS,bw,k_,List.cons_append,k9,rT,rS,t_,lB]
 have gone:∀h:f.ks=[],f.v.1∈(["num","text","lost","at"]:List S):=λh=>by
  cases f with
  | lit x ws=>rcases ok with ⟨rfl,_⟩ | ⟨rfl,_⟩ | ⟨rfl,_⟩<;>simp[Fm.v]
  | pt x l p=>rw[show(Fm.pt x l p).v.1="at" from hp];simp
  | fd a l p=>cases hp
  | o1 x a=>cases h
  | o2 x a b=>cases h
  | o3 a b c=>cases h
 by_cases ck:f.ks=[]
 ·have ll:=CT (st:=s2) k2 ok hp ck
  rw[decide_eq_true (gone ck)] at x4
  refine⟨s2,?_,PJ⟩
  simp[pf,sq,e1,i0,OV,x4,ll]
 ·cases f with
  | lit x ws=>exact absurd rfl ck
  | pt x l p=>exact absurd rfl ck
  | fd a l p=>cases hp
  | o1 x a=>
   have hx:x="minus"\/x="not":=by have:=ok.1;simpa [W1] using this
   obtain⟨ho,_,_,_⟩:=cR (W:=W) (P:=P) (d:=d) (l:=l) mJ a ok.2 10 (by simp only[Fm.dp] at hd;omega)
   have j0:aP (.ref s0.length) (.int 0) s3= .ok (G5 W P a) s3:=fW WM rfl
   have a0:=uj (lk W P a).1 (lk W P a).2
   have a1:=sd (lk W P a).1 (lk W P a).2
   have a2:=sf (lk W P a).1 (lk W P a).2
   have w1:(("worth":S) == "waits")=false:=rfl
   have v1:(Fm.o1 x a).v.1=x:=rfl
   have PK:m7 (.str x) (.ref s1.length) s2= .ok (.bl false) s2:=by rw[v1] at x4;rw[x4];rcases hx with rfl | rfl<;>rfl
   have YH:m7 (.str x) (.ref s2.length) s3= .ok (.bl true) s3:=by rw[v1] at x2;rw[x2];rcases hx with rfl | rfl<;>rfl
   have t1:(x == ("if":S))=false:=by rcases hx with rfl | rfl<;>rfl
   have t2:(x == ("else":S))=false:=by rcases hx with rfl | rfl<;>rfl
   rw[v1] at i0
   refine⟨s3,?_,PJ.trans Uj⟩
   show _=Re.ok (res (one x (lk W P a).1) (lk W P a).2) s3
   unfold G5 at j0
   generalize (lk W P a).2=xs at j0 a0 a1 a2 ⊢
   generalize (lk W P a).1=s at ho j0 a0 a1 a2 ⊢
   cases s with
   | wt p=>simp[pf,sq,e1,i0,OV,PK,t1,t2,Uk,YH,j0,a0,Sd.tag];rfl
   | wo kv=>
    have sg:=(v5 hx (a:=kv) ho).2 s3
    change ∀st,aP (res (.wo kv) xs) (.int 1) st= .ok kv.w st at a1
    simp[pf,sq,e1,i0,OV,PK,t1,t2,Uk,YH,j0,a0,a1,a2,w1,sg,Sd.tag]
    rfl
  | o2 x a b=>
   obtain⟨oa,la,na,_⟩:=cR (W:=W) (P:=P) (d:=d) (l:=l) mJ a ok.2.1 10 (by simp only[Fm.dp] at hd;omega)
   obtain⟨ob,lb,nb,_⟩:=cR (W:=W) (P:=P) (d:=d) (l:=l) mJ b ok.2.2 10 (by simp only[Fm.dp] at hd;omega)
   simp only[Fm.sz] at hs
   have v1:(Fm.o2 x a b).v.1=x:=rfl
   rw[v1] at i0
   by_cases c:x="else"
   ·subst c
    have t1:(("else":S) == "if")=false:=rfl
    have PK:m7 (.str "else") (.ref s1.length) s2= .ok (.bl false) s2:=by rw[v1] at x4;rw[x4];rfl
    obtain⟨s4,e4,g4⟩:=Gp hL nb (by omega)
    refine⟨s4,?_,PJ.trans g4⟩
    have ev:lk W P (.o2 "else" a b)=if(lk W P a).1.f=true then((lk W P b).1,gO (lk W P a).2 (lk W P b).2) else((lk W P a).1,(lk W P a).2):=by
     show(if("else":S)="else" then _ else _)=_
     rw[if_pos rfl]
    rw[<-ev] at e4
    simp[pf,sq,e1,i0,OV,PK,t1,e4]
   ·have hx:=K5 ok.1 c
    have ev:lk W P (.o2 x a b)=two x (lk W P a).1 (lk W P b).1 (lk W P a).2 (lk W P b).2:=by
     show(if x="else" then _ else _)=_
     rw[if_neg c]
    obtain⟨s4,e4,g4⟩:=J7 (x:=x) (f:=a.w) (g:=b.w) hx oa ob WM nb (by omega)
    rw[<-ev] at e4
    change fJ [(Fm.o2 x a b).w,.ref s0.length] s3=_ at e4
    have hc:(x == ("if":S))=false/\(x == ("else":S))=false/\decide (x∈(["num","text","lost","at"]:List S))=false/\decide (x∈(["minus","not"]:List S))=false:=by
     simp only[OA,OB,di,dC,or_false] at hx
     rcases hx with (rfl | rfl | rfl | rfl | rfl) | rfl | rfl | rfl<;>exact⟨rfl,rfl,rfl,rfl⟩
    obtain⟨t1,t2,t3,t4⟩:=hc
    rw[v1,t3] at x4
    rw[v1,t4] at x2
    refine⟨s4,?_,(PJ.trans Uj).trans g4⟩
    simp[pf,sq,e1,i0,OV,x4,t1,t2,Uk,x2,e4]
  | o3 a b c=>
   obtain⟨oa,la,na,_⟩:=cR (W:=W) (P:=P) (d:=d) (l:=l) mJ a ok.1 10 (by simp only[Fm.dp] at hd;omega)
   obtain⟨ob,lb,nb,_⟩:=cR (W:=W) (P:=P) (d:=d) (l:=l) mJ b ok.2.1 10 (by simp only[Fm.dp] at hd;omega)
   obtain⟨oc,lc,nc,_⟩:=cR (W:=W) (P:=P) (d:=d) (l:=l) mJ c ok.2.2 10 (by simp only[Fm.dp] at hd;omega)
   simp only[Fm.sz] at hs
   have v1:(Fm.o3 a b c).v.1="if":=rfl
   rw[v1] at i0
   have PK:m7 (.str "if") (.ref s1.length) s2= .ok (.bl false) s2:=by rw[v1] at x4;rw[x4];rfl
   obtain⟨s4,e4,g4⟩:=OU hL nb nc (by omega) (by omega)
   refine⟨s4,?_,PJ.trans g4⟩
   change gR [.ref s0.length] s2= .ok (G5 W P (.o3 a b c)) s4 at e4
   simp[pf,sq,e1,i0,OV,PK,e4]
end
theorem Gq(s:Sd){st:Hs}:eS [s.v,s.v] st= .ok (.bl true) st:=by
 have key:∀(v:Wv)(b1 b2 b3:Bool),cU eT cA [v,.ty "bool"] st= .ok (.bl false) st->cU eT cA [v,.ty "int"] st= .ok (.bl b1) st->cU eT cA [v,.ty "str"] st= .ok (.bl b2) st->cU eT cA [v,.ty "tuple"] st= .ok (.bl b3) st->oEq v v st= .ok (.bl true) st->eS [v,v] st= .ok (.bl true) st:=λv b1 b2 b3 h1 h2 h3 h4 h5=>by
  have n1:∀b:Bool,uZ (.bl b) (.bl b) st= .ok (.bl false) st:=λb=>by cases b<;>rfl
  have n2:∀b:Bool,oEq (.bl b) (.bl b) st= .ok (.bl true) st:=λb=>by cases b<;>rfl
  have tr:pj (.bl true) st= .ok true st:=rfl
  unfold eS bh kY
  simp[h1,h2,h3,h4,h5,n1,n2,tr,oS]
 cases s with
 | wt p=>exact key (pw p) false false true rfl rfl rfl rfl (rF (d:=dP p) rfl rfl (by rw[vY];simp))
 | wo a=>
  cases a with
  | non=>exact key .non false false false rfl rfl rfl rfl (rF (d:=.none) rfl rfl (by simp[a4]))
  | int i=>exact key (.int i) true false false rfl rfl rfl rfl (rF (d:=.int i) rfl rfl KR)
  | txt x=>exact key (.str x) false true false rfl rfl rfl rfl (rF (d:=.str x) rfl rfl KS)
  | i8 x=>exact key (.tup [.str "fault",.str x]) false false true rfl rfl rfl rfl (rF (d:=.tuple [.str "fault",.str x]) rfl rfl FW)
section
variable {W:Ws} {P:List Pt} {d l L:Nat} {st:Hs}
def GW:List S:=["sum","count","least","greatest","find"]
theorem Ss{f:Fm}(ok:f.ok)(h:f.v.1∉GW):f.pl:=by
 cases f with
 | pt x l p=>
  rcases ok with ⟨h1,_⟩ | ⟨h1,_⟩
  ·exact h1
  ·refine absurd ?_ h
   simp only[AW,di,dC,or_false] at h1
   rcases h1 with rfl | rfl | rfl | rfl<;>simp[GW,Fm.v]
 | fd a l p=>exact absurd (by simp[GW,Fm.v]) h
 | _=>trivial
theorem l1{f:Fm}(mJ:∀p,(wo W p).Ok)(n:Kn W P d l st)(ok:f.ok)(hd:f.dp<=5)(hs:f.sz<=400)(p0 p1 p4 p5 p6 p7 p8 YI YJ:Option Wv):∃PL PM st',nG [p0,p1,some (.ref d),some (.ref l),p4,p5,p6,p7,p8,some f.w,YI,YJ] st= .nx [p0,p1,some (.ref d),some (.ref l),p4,p5,p6,p7,p8,some f.w,PL,PM] st'/\Gr st st':=by
 have i0:∀st:Hs,aP f.w (.int 0) st= .ok (.str f.v.1) st:=λst=>Ow
 have kl:oh [.str "sum",.str "count",.str "least",.str "greatest",.str "find"] st= .ok (.ref st.length) (st++[.lst (GW.map Wv.str)]):=gY (by simp[lim])
 have ni:=J6 (st:=st++[.lst (GW.map Wv.str)]) (x:=f.v.1) (ys:=GW) bK
 have g0:Gr st (st++[.lst (GW.map Wv.str)]):=Gr.push
 generalize st++[.lst (GW.map Wv.str)]=s0 at kl ni g0
 unfold nG
 by_cases c:f.v.1∈GW
 ·rw[decide_eq_true c] at ni
  refine⟨YI,YJ,s0,?_,g0⟩
  simp[i0,kl,ni]
 ·rw[decide_eq_false c] at ni
  have hp:=Ss ok c
  obtain⟨s1,e1,g1⟩:=look mJ (n.gr g0) ok hd hs
  obtain⟨s2,e2,g2⟩:=J8 mJ ((n.gr g0).gr g1) ok hp hd hs
  refine⟨some (G5 W P f),some (G5 W P f),s2,?_,(g0.trans g1).trans g2⟩
  unfold G5 at e2 ⊢
  generalize (lk W P f).2=xs at e1 e2 ⊢
  generalize (lk W P f).1=s at e1 e2 ⊢
  have a1:=sd s xs
  have a2:=sf s xs
  have ne:=Gk s xs (st:=s2)
  have sm:=Gq s (st:=s2)
  have t1:cU eT cA [res s xs,.ty "tuple"] s2= .ok (.bl true) s2:=by cases s<;>rfl
  have t2:cU eT cA [.tup (xs.map Rd.w),.ty "tuple"] s2= .ok (.bl true) s2:=rfl
  have ln:lL [res s xs] s2= .ok (.int 3) s2:=by cases s<;>rfl
  simp[i0,kl,ni,e1,e2,a1,a2,ne,sm,t1,t2,ln]
structure Pa(base:Hs)(r L:Nat)(m:Nat)(s:Hs):Prop where
 len:base.length<=s.length
 old:∀i,i < base.length->i≠r->i≠L->s[i]? =base[i]?
 ro:Ro r s
 lst:∃gs:List Fm,s[L]? =some (.lst (gs.map Fm.w))/\gs.length=m/\∀g∈gs,g.ok/\g.dp<=5/\g.sz<=400
theorem Pa.dw{base s s':Hs}{r L m:Nat}(h:Pa base r L m s)(hr:r≠L)(k:Dw r s s'):Pa base r L m s':=by
 obtain⟨gs,h1,h2,h3⟩:=h.lst
 exact⟨bf h.len k.1.1,λi a b c=>by rw[k.1.2 i (br a h.len) b];exact h.old i a b c,k.2,gs,by rw[k.1.2 L (cT h1) (bo hr)];exact h1,h2,h3⟩
theorem l3{base s:Hs}{r L m:Nat}{a b:Int}{op:S}(h:Pa base r L m s)(hr:r≠L)(sp:sW a b)(hm:m<=100)(ho:op∈OA\/op∈OB)(p0 p2 p3 p4 p8 p9 K8 K9:Option Wv):∃s',nH [p0,some (tI [a,b]),p2,p3,p4,some (.ref r),some (.ref L),some (.str op),p8,p9,K8,K9] s= .nx [p0,some (tI [a,b]),p2,p3,p4,some (.ref r),some (.ref L),some (.str op),p8,p9,K8,K9] s'/\Pa base r L (m+2) s':=by
 obtain⟨f,s1,e1,Su,YK,fdp,YL⟩:=leaf h.ro sp
 obtain⟨c,e,s2,e2,ce,dw2⟩:=place (a:=a) (b:=b) YL.2
 obtain⟨gs0,hl0,_⟩:=h.lst
 have h2:=(h.dw hr YL).dw hr dw2
 obtain⟨gs,hl,hm',hg⟩:=h2.lst
 obtain⟨g,hgd⟩:∃g:Fm,g= .pt "at" [a+c,b+e] [0,0]:=⟨_,rfl⟩
 have Ul:g.ok:=by
  rw[hgd]
  refine .inl ⟨rfl,a+c,b+e,0,0,rfl,rfl,?_,.inl rfl,.inl rfl⟩
  unfold sW at sp
  unfold F4
  omega
 have gdp:g.dp=1/\g.sz=1:=by rw[hgd];exact⟨rfl,rfl⟩
 have YM:op∈W2:=by
  simp only[OA,OB,di,dC,or_false] at ho
  rcases ho with (rfl | rfl | rfl | rfl | rfl) | rfl | rfl | rfl<;>simp[W2]
 have w1:Wv.tup [.str op,f.w,.tup [.str "at",tI [a+c,b+e],.tup [.int 0,.int 0]]]=(Fm.o2 op f g).w:=by rw[hgd];rfl
 have ap:=o9 (v:=(Fm.o2 op f g).w) hl (by rw[bU];unfold lim;omega)
 have km:=λga ρ=>lC (mt:=ji) (ga:=ga) (ρ:=ρ) (st:=s) (l:=L) (b5 hl0)
 obtain⟨s3,Na⟩:∃s3,s3=s2.set L (.lst (gs.map Fm.w++[(Fm.o2 op f g).w])):=⟨_,rfl⟩
 rw[<-Na] at ap
 have hl3:s3[L]? =some (.lst (gs.map Fm.w++[(Fm.o2 op f g).w])):=by rw[Na];exact cP hl
 have km3:=λga ρ=>lC (mt:=ji) (ga:=ga) (ρ:=ρ) (st:=s3) (l:=L) (b5 hl3)
 have ix:aP (.ref L) (.int (-1)) s3= .ok (Fm.o2 op f g).w s3:=fW (b5 hl3) kz
 have i1:∀st:Hs,aP (Fm.o2 op f g).w (.int 1) st= .ok f.w st:=λst=>rfl
 have i2:∀st:Hs,aP (Fm.o2 op f g).w (.int 2) st= .ok g.w st:=λst=>rfl
 have w2:Wv.tup [.str op,g.w,f.w]=(Fm.o2 op g f).w:=rfl
 have ap3:=o9 (v:=(Fm.o2 op g f).w) hl3 (by rw[eV,bU];simp[lim];omega)
 refine⟨s3.set L (.lst (gs.map Fm.w++[(Fm.o2 op f g).w]++[(Fm.o2 op g f).w])),?_,⟨?_,?_,?_,gs++[.o2 op f g,.o2 op g f],?_,by simp;omega,?_⟩⟩
 ·unfold nH
  simp[km,e1,e2,w1,ap,km3,ix,i1,i2,w2,ap3]
 ·rw[qr,Na,qr];exact h2.len
 ·intro i x1 x2 x3
  rw[cK (bo x3),Na,cK (bo x3)]
  exact h2.old i x1 x2 x3
 ·obtain⟨v,hv⟩:=h2.ro
  exact⟨v,by rw[cK (bo hr),Na,cK (bo hr)];exact hv⟩
 ·rw[cP hl3,eh,qw];rfl
 ·intro x hx
  rcases List.mem_append.mp hx with hx | hx
  ·exact hg x hx
  ·rcases List.mem_cons.mp hx with rfl | hx
   ·exact⟨⟨YM,Su,Ul⟩,by simp only[Fm.dp];omega,by simp only[Fm.sz];omega⟩
   ·rw[List.mem_singleton.mp hx]
    exact⟨⟨YM,Ul,Su⟩,by simp only[Fm.dp];omega,by simp only[Fm.sz];omega⟩
end
section
variable {W:Ws} {P:List Pt} {d l:Nat} {st:Hs}
theorem l2{base s:Hs}{r L m:Nat}{a b:Int}{op:S}(h:Pa base r L m s)(hr:r≠L)(sp:sW a b)(hm:m<=90)(ho:op∈OA\/op∈OB)(p0 p2 p3 p4 p8 p9 K8 K9:Option Wv):∃q8 s',nI [p0,some (tI [a,b]),p2,p3,p4,some (.ref r),some (.ref L),some (.str op),p8,p9,K8,K9] s= .nx [p0,some (tI [a,b]),p2,p3,p4,some (.ref r),some (.ref L),some (.str op),q8,p9,K8,K9] s'/\Pa base r L (m+4) s':=by
 obtain⟨ρ,s1,e1,q8,rfl,h1⟩:=nk (i:=8) (gb:=nH) (λk ρ s=>∃q8,ρ=[p0,some (tI [a,b]),p2,p3,p4,some (.ref r),some (.ref L),some (.str op),q8,p9,K8,K9]/\Pa base r L (m+2 * k) s)
  (cO 0 2) 0 [p0,some (tI [a,b]),p2,p3,p4,some (.ref r),some (.ref L),some (.str op),p8,p9,K8,K9] s ⟨p8,rfl,h⟩ (λj w hw ρ s hP=>by
   obtain⟨q8,rfl,hh⟩:=hP
   have hj:j < 2:=by
    have q:=(List.getElem?_eq_some_iff.mp hw).1
    rw[du] at q
    exact q
   obtain⟨s',e',h'⟩:=l3 hh hr sp (by omega) ho p0 p2 p3 p4 (some w) p9 K8 K9
   exact⟨_,s',e',some w,rfl,by rw[show m+2 * (0+j+1)=m+2 * (0+j)+2 by omega];exact h'⟩)
 refine⟨q8,s1,?_,by rw[du] at h1;exact h1⟩
 have c2:dA 2:=JB (by decide) (by decide)
 unfold nI
 simp[c2,e1]
def G6:List S:=["+","-","*","/","rest","&","<","=","&"]
theorem law_true(ns:List Int)(hn:ns.length<=63):∃st,F_law [.ref 0] [.sh ns]= .ok (.bl true) st:=by
 have h0:aB [.sh ns] 0=some (ns.map Wv.int):=rfl
 obtain⟨A,B,s1,e1,sp,more,rfl⟩:=spot (st:=[.sh ns]) h0
 have g1:Gr [.sh ns] ([.sh ns]++more):=Gr.app
 generalize [Ob.sh ns]++more=s1 at e1 g1
 obtain⟨W,P,d,l,s2,e2,k2,mJ,g2⟩:=known (a:=A) (b:=B) (g1.lst h0) hn
 have mJ:=mJ.at
 have h2:=(g1.trans g2).lst h0
 obtain⟨n0,e3⟩:=stream h2 hn (k:=0) (by decide) (by decide)
 obtain⟨f,s4,e4,Su,YK,fdp,dw4⟩:=pZ (r:=s2.length) (st:=s2++[.lst [.int n0]]) sp 5 (k:=3) ⟨n0,iq⟩ (by decide)
 have g4:Gr s2 s4:=Gr.push.rE (aC _) dw4.1
 have k4:=k2.gr g4
 obtain⟨n1,e5⟩:=stream (g4.lst h2) hn (k:=1) (by decide) (by decide)
 have sz:f.sz<=40:=YK
 obtain⟨base,hb⟩:∃s,s=s4++[Ob.lst [.int n1],.lst [],.lst (G6.map Wv.str)]:=⟨_,rfl⟩
 have gb:Gr s4 base:=by rw[hb];exact Gr.app
 have pa0:Pa base s4.length (s4.length+1) 0 base:=⟨aC _,λi _ _ _=>rfl,⟨n1,by rw[hb];simp⟩,[],by rw[hb];simp,rfl,by simp⟩
 have lo:aB base (s4.length+2)=some (G6.map Wv.str):=b5 (by rw[hb];simp)
 obtain⟨ρ,s5,e6,⟨q7,q8,rfl,pa⟩,_⟩:=xA Wv.str (i:=7) (gb:=nI) (l:=s4.length+2) (all:=G6.map Wv.str) G6 (λpre ρ s=>∃q7 q8,ρ=[some (.ref 0),some (tI [A,B]),some (.ref d),some (.ref l),some f.w,some (.ref s4.length),some (.ref (s4.length+1)),q7,q8,none,none,none]/\Pa base s4.length (s4.length+1) (4 * pre.length) s)
  (by
   rintro op pre post _ s hf ⟨q7,q8,rfl,hh⟩ hl
   have hl':pre.length < 9:=by
    have:=congrArg l8 hf
    simp[G6] at this
    omega
   have ho:op∈OA\/op∈OB:=by
    have:op∈G6:=by rw[hf];simp
    simp only[G6,di,dC,or_false] at this
    simp only[OA,OB,di,dC,or_false]
    rcases this with h | h | h | h | h | h | h | h | h<;>simp[h]
   obtain⟨r8,s',e',h'⟩:=l2 hh (by omega) sp (by omega) ho (some (.ref 0)) (some (.ref d)) (some (.ref l)) (some f.w) q8 none none none
   refine⟨_,s',e',?_,some (.str op),r8,rfl,by rw[eV];exact h'⟩
   have gt:=h'.old (s4.length+2) (by rw[hb];simp) (by omega) (by omega)
   unfold aB at lo ⊢
   rw[gt]
   exact lo)
  G6 [] [some (.ref 0),some (tI [A,B]),some (.ref d),some (.ref l),some f.w,some (.ref s4.length),some (.ref (s4.length+1)),none,none,none,none,none] base rfl ⟨none,none,rfl,pa0⟩ lo
 obtain⟨gs,hl5,gl5,Ul⟩:=pa.lst
 have k5:Kn W P d l s5:=by
  have hd:=cT k4.d
  have hl:=cT k4.l
  refine⟨?_,?_⟩
  ·rw[pa.old d (br hd gb.1) (by omega) (by omega)]
   exact gb.get k4.d
  ·rw[pa.old l (br hl gb.1) (by omega) (by omega)]
   exact gb.get k4.l
 obtain⟨Lp,s6,e7,l6,g6⟩:=pieces f Su (by omega) 8 (by omega) s5
 have pl:=gQ f
 have hg9:gs.length=36:=gl5
 have ad:=add_l l6 (g6.lst (b5 hl5)) (by rw[bU,bU];unfold lim;omega)
 rw[<-eh] at ad
 have g7:Gr s5 (s6++[.lst ((i6 f++gs).map Fm.w)]):=g6.trans Gr.push
 have l7:aB (s6++[.lst ((i6 f++gs).map Fm.w)]) s6.length=some ((i6 f++gs).map Fm.w):=bK
 generalize s6++[.lst ((i6 f++gs).map Fm.w)]=s7 at ad g7 l7
 obtain⟨ρ,s8,e8,⟨q9,PL,PM,rfl,g8⟩,_⟩:=xx (i:=9) (gb:=nG) (l:=s6.length) (all:=(i6 f++gs).map Fm.w) (λρ s=>∃q9 PL PM,ρ=[some (.ref 0),some (tI [A,B]),some (.ref d),some (.ref l),some f.w,some (.ref s4.length),some (.ref (s4.length+1)),q7,q8,q9,PL,PM]/\Gr s5 s)
  ((i6 f++gs).map Fm.w) [some (.ref 0),some (tI [A,B]),some (.ref d),some (.ref l),some f.w,some (.ref s4.length),some (.ref (s4.length+1)),q7,q8,none,none,none] s7 ⟨none,none,none,rfl,g7⟩ l7 (by
   rintro w hw _ s ⟨q9,PL,PM,rfl,g⟩ hl
   obtain⟨p,hp,rfl⟩:=List.mem_map.mp hw
   have hk:p.ok/\p.dp<=5/\p.sz<=400:=by
    rcases List.mem_append.mp hp with hp | hp
    ·obtain⟨x1,x2,x3⟩:=k8 f Su p hp
     exact⟨x1,by omega,by omega⟩
    ·exact Ul p hp
   obtain⟨r10,r11,s',e',g'⟩:=l1 mJ (k5.gr g) hk.1 hk.2.1 hk.2.2 (some (.ref 0)) (some (tI [A,B])) (some f.w) (some (.ref s4.length)) (some (.ref (s4.length+1))) q7 q8 PL PM
   exact⟨_,s',e',g'.lst hl,some p.w,r10,r11,rfl,g.trans g'⟩)
 refine⟨s8,?_⟩
 have sT:qM [2,3] (az 2 dj (aa (af 0) (aa (af 1) aj))) [some (.ref 0),some (tI [A,B]),none,none,none,none,none,none,none,none,none,none] s1= .nx [some (.ref 0),some (tI [A,B]),some (.ref d),some (.ref l),none,none,none,none,none,none,none,none] s2:=by
  have c2:az 2 dj (aa (af 0) (aa (af 1) aj)) [some (.ref 0),some (tI [A,B]),none,none,none,none,none,none,none,none,none,none] s1= .ok (.tup [.ref d,.ref l]) s2:=e2
  unfold qM
  rw[c2]
  rfl
 change aV [.ref s2.length,tI [A,B],.int 3] (s2++[.lst [.int n0]])=_ at e4
 change a8 [f.w] s5=_ at e7
 have b1:s4++[Ob.lst [.int n1]]++[.lst []]++[.lst (G6.map Wv.str)]=base:=by rw[hb];simp
 have kl:∀st:Hs,oh [.str "+",.str "-",.str "*",.str "/",.str "rest",.str "&",.str "<",.str "=",.str "&"] st= .ok (.ref st.length) (st++[.lst (G6.map Wv.str)]):=λst=>gY (by simp[lim])
 unfold F_law bh F2
 have ln2:(s4++[Ob.lst [.int n1]]).length=s4.length+1:=by simp
 have CA:(s4++[Ob.lst [.int n1]]++[Ob.lst []]).length=s4.length+2:=by simp
 simp only[A2,t9,Rw,ua,FR,rn,e_c,vq,rp,xu,aS,bw,k_,List.cons_append,k9,rT,rS,vX,vW,t_,lB]
 simp[e1,sT,e3,e4,e5,-qw]
 rw[kl,CA,b1]
 simp[rB lo,e6,e7,ad,rB l7,e8,-eh]
end
end K18
namespace PySem.W.Fast
def tw11427717960654096294:=()
def tw14791493682530775283:=()
def tw11932396143401322064:=()
def tw9108564490571431743:=()
def tw11694747144571771462:=()
def tw7006185015233203899:=()
def tw5529875498293397553:=()
def tw7254211975203053689:=()
def tw628318829180327035:=()
def tw15747742312315341964:=()
def tw14009772350976877027:=()
def tw15729647307496767446:=()
def tw15082803048044508735:=()
def tw13789522857899924684:=()
def tw1645460690476030040:=()
def tw16400633172722124734:=()
def tw583854201120855425:=()
def tw13865757543065091243:=()
def tw15125297404382909527:=()
def tw12705332462653205708:=()
def tw11206824944127311557:=()
def tw16841337106218947311:=()
def tw15757307680301852017:=()
def tw3352786488253951189:=()
def tw4753032409320609407:=()
def tw14560763356471364621:=()
def tw4589166229547821970:=()
def tw16849027779335223398:=()
def tw5229014914647632955:=()
def tw2437038268572298722:=()
def tw11288439012873900020:=()
def tw16448012241754248320:=()
def tw7337373870047993622:=()
def tw37129797678315596:=()
def tw6813622293099352734:=()
def tw4689501608824147498:=()
def tw5761303040463168602:=()
def tw1834551468710343517:=()
def tw5297952267888612979:=()
def tw17228777753217196825:=()
def tw11183269743302896303:=()
def tw2957105206903118785:=()
def tw7984325724885531169:=()
def tw15071985777858381126:=()
def tw6964097475206970389:=()
def tw10440328945544213800:=()
def tw10379371892217327920:=()
def tw5167324949169773596:=()
def tw18398931034913300038:=()
def tw15704390647636133493:=()
def tw9340064729242724511:=()
def tw17720543926523839374:=()
def tw6344360792247673753:=()
def tw17917929783629748585:=()
def tw11756931554686460435:=()
def tw11392425435431097704:=()
def tw7951508333657305097:=()
def tw8196703554714616927:=()
def tw3457425529362970815:=()
def tw4575239770824370935:=()
def tw14076238334429138022:=()
def tw9573477822479983727:=()
def tw5365185971598160521:=()
def tw15954394772198877289:=()
def tw7629611010415888859:=()
def tw11901669494863391033:=()
def tw17981954659246526830:=()
def tw1676022008303922301:=()
def tw5199124660970331571:=()
def tw3883211335495271796:=()
def tw7893725689359763673:=()
def tw8333055258295913604:=()
def tw6912164446940093027:=()
def tw9633677912545551547:=()
def tw8652432740747238487:=()
def tw14431993229238621587:=()
def tw11132541070314840893:=()
def tw7151517706321699471:=()
def tw8285520667634390514:=()
def tw13178399923355395239:=()
def tw1647900241601092878:=()
def tw3988412298196666936:=()
def tw9135831987071637995:=()
def tw13787783371446340822:=()
def tw6775487086310495782:=()
def tw10272028755187653382:=()
def tw120907816650581861:=()
def tw6787010831783997071:=()
def tw4372971585087142892:=()
def tw15280076567292635000:=()
def tw8639229936070326035:=()
def tw6464844179077457545:=()
def tw1209214815709727735:=()
def tw13911843727847101555:=()
def tw12688796938638073113:=()
def tw4770384633825920392:=()
def tw18200686452306435334:=()
def tw2495868182173897535:=()
def tw1234935428203161098:=()
def tw13568158464813785947:=()
def tw9263667894072783078:=()
def tw3120292820873461669:=()
def tw1841184502508321288:=()
def tw14217323627900065874:=()
def tw1842922059020868690:=()
def tw4270113876842905949:=()
def tw4292968603734763193:=()
def tw13656805221336416082:=()
def tw4465288171665761336:=()
def tw5705063891399747026:=()
def tw16156657822525427448:=()
def tw2611397706874200808:=()
def tw11984343737593857051:=()
def tw15922573366720025351:=()
def tw16576017708119384978:=()
def tw9214518048482010622:=()
def tw5173344267586910224:=()
def tw4559858453638072025:=()
def tw7752720398313529435:=()
def tw3985235634892094638:=()
def tw8788675164628193317:=()
def tw16998063928731530360:=()
def tw3286753333129763436:=()
def tw12825631648983250462:=()
def tw8940148239296419982:=()
def tw9516064622487683071:=()
def tw15244600595009889984:=()
def tw15103898905193980693:=()
def tw6393111527721765226:=()
def tw17894419151366541269:=()
def tw8869851533057507945:=()
def tw11634243296198206517:=()
def tw10828789548703846766:=()
def tw6058943360922566777:=()
def tw14586943370287017274:=()
def tw16403429601378506802:=()
def tw2742933738749694216:=()
def tw11499806559885785790:=()
def tw7012218451074618422:=()
def tw6002992250088064155:=()
def tw5376484695175816080:=()
def tw17676354763900197407:=()
def tw4589980203024386539:=()
def tw15671969743284876658:=()
def tw13328749295278755910:=()
def tw9125874440790716624:=()
def tw17632082819784199189:=()
def tw2507772489396167724:=()
def tw16548894556613678703:=()
def tw16534877201718775741:=()
def tw8812454669408698318:=()
def tw8214092986944641527:=()
def tw6492152257913903421:=()
def tw3774136304503656900:=()
def tw1161165080001588580:=()
def tw8194833073410071391:=()
def tw5114626899369087883:=()
def tw7654159813009905732:=()
def tw9825546160285900393:=()
def tw7017851122598580284:=()
def tw1629825375869354991:=()
def tw10937071710629777959:=()
end PySem.W.Fast
namespace K18
open PySem PySem.W PyProof.Rows
set_option maxHeartbeats 0 in
open_top head for PySem.Challenge.rw_onelook_k18_whole_looks_by_parts
open PySem J
open PySem.W (nsIn mg_of mg_none_of)
open L2 (defScope defBody defArgs FnScope CX0 FnOk XK Hp)
set_option autoImplicit true in
theorem all_mk {l:PySem.W.OpenLaw} {w:World} {K:PySem.W.Frag} {h:Heap} {mg:Str → Option Value} {fa:Addr} (X:K.In h) (G:h.Ns mainGlobals mg) (hfa:mg "law" = some (.ref fa))
        {tk0:Tok} {WN:abF} {de0:Nat} {K_ K' La Lb Lc Ld Le Lf Lg Lh Gs Gu Gv Gw Gx Gy Gz GB GC GD GF:Int} {Sv Sw Sx Sy Sz SD SF SG SH SI OW OX OY OZ O0 O1 O2 O3 O4 O5 O6 SJ SK SM SN SQ SR SU SV SX SY O7 O8 O9 O_ Pb Pd Pe Pf Pg Ph Pj:Tok}
    (d1:J.bb K "_law_cell_at" eX)
    (d2:J.bb K "_law_spot" ir)
    (d3:J.bb K "_law_digit" gF)
    (d4:J.bb K "_law_worth" gG)
    (d5:J.bb K "_law_mixed" gH)
    (d6:J.bb K "_law_stream" fO)
    (d7:J.bb K "_law_known" gI)
    (d8:J.bb K "_law_area" iu)
    (d9:J.bb K "_law_pins" iw)
    (WO:J.bb K "_law_number" fP)
    (WQ:J.bb K "_law_place" gJ)
    (WR:J.bb K "_law_leaf" iy)
    (Um:J.bb K "_law_formula" fc)
    (WS:J.bb K "_law_parts" gK)
    (Uo:J.bb K "_law_pieces" fQ)
    (WT:J.FO K "Look" "Look.__init__" dU)
    (WU:J.bb K "part_many" iz)
    (WV:J.bb K "parts_of" jD)
    (WW:J.bb K "places_between" dW)
    (Ug:J.xt K "Look" "standing" "Look.standing" dY)
    (Uh:J.bb K "halts" pX)
    (WX:J.bb K "is_fault" jE)
    (WY:J.bb K "same_worth" gL)
    (WZ:J.bb K "fits" vK)
    (W0:J.xt K "Look" "stretch" "Look.stretch" eI)
    (W3:J.bb K "is_great" jG)
    (W4:J.bb K "fault" pY)
    (W5:J.bb K "bounded" lD)
    (W6:J.bb K "gathered" jH)
    (W7:J.bb K "gathered_standing" cW)
    (W8:J.xt K "Look" "cell" "Look.cell" gM)
    (W9:J.bb K "number_of" iA)
    (W_:J.bb K "single" nz)
    (Xa:J.bb K "reckoned" jL)
    (Xb:J.bb K "text_of" lE)
    (Xd:J.bb K "joined" nA)
    (Xe:J.bb K "less" vO)
    (Xf:J.bb K "paired" nD)
    (Up:J.bb K "if_standing" fS)
    (Uq:J.bb K "else_standing" eJ)
    (Ur:J.bb K "find_standing" eK)
    (Us:J.bb K "reckoned_standing" cY)
    (Ut:J.bb K "gone_through" ff)
    (Xg:J.bb K "look_at" lG)
    (Xh:J.bb K "_law_after" gN)
    (Xi:J.bb K "_law_two" jO)
    (Xj:J.bb K "_law_leaf_look" d_)
    (Xk:J.bb K "_law_if" lH)
    (Xl:J.bb K "_law_else" iB)
    (Xm:J.bb K "_law_due" jP)
    (Xn:J.bb K "_law_same" iC)
    (Xo:J.bb K "law" A7)
    (Uu:J.Own K "Look" "worths")
    (Uv:J.Own K "Look" "waiting")
    (PN:J.Own K "Look" "met")
    (z0:nsIn K abV "len"=some none)
    (z1:nsIn K abV "range"=some none)
    (z2:nsIn K abV "sum"=some none)
    (z3:nsIn K abV "tuple"=some none)
    (z4:nsIn K abV "isinstance"=some none)
    (z5:nsIn K abV "str"=some none)
    (z6:nsIn K abV "abs"=some none)
    (z7:nsIn K abV "int"=some none)
    (z8:nsIn K abV "min"=some none)
    (z9:nsIn K abV "max"=some none)
    (Xp:nsIn K abV "list"=some none)
    (Xq:nsIn K abV "bool"=some none)
    (v0:nsIn K abV "MOST_JOINED"=some (some (.int 200 tk0)))
    (Xr:nsIn K abV "PART_COUNTS"=some (some (.ref WN))) (Xs:K.lookup WN=some ⟨.type "dict",none,.dict #[⟨K_,.str "num" Sv,.int 0 SJ⟩,⟨K',.str "text" Sw,.int 0 SK⟩,⟨La,.str "lost" Sx,.int 0 SM⟩,⟨Lb,.str "at" Sy,.int 0 SN⟩,⟨Lc,.str "minus" Sz,.int 1 SQ⟩,⟨Ld,.str "not" SD,.int 1 SR⟩,⟨Le,.str "+" SF,.int 2 SU⟩,⟨Lf,.str "-" SG,.int 2 SV⟩,⟨Lg,.str "*" SH,.int 2 SX⟩,⟨Lh,.str "/" SI,.int 2 SY⟩,⟨Gs,.str "&" OW,.int 2 O7⟩,⟨Gu,.str "<" OX,.int 2 O8⟩,⟨Gv,.str "=" OY,.int 2 O9⟩,⟨Gw,.str "rest" OZ,.int 2 O_⟩,⟨Gx,.str "if" O0,.int 3 Pb⟩,⟨Gy,.str "else" O1,.int 2 Pd⟩,⟨Gz,.str "sum" O2,.int 0 Pe⟩,⟨GB,.str "count" O3,.int 0 Pf⟩,⟨GC,.str "least" O4,.int 0 Pg⟩,⟨GD,.str "greatest" O5,.int 0 Ph⟩,⟨GF,.str "find" O6,.int 1 Pj⟩] de0,#[]⟩) (Xt:(WN == sysModules)=false) (GG:K_=hashStr w "num") (GH:K'=hashStr w "text") (GJ:La=hashStr w "lost") (GK:Lb=hashStr w "at") (GL:Lc=hashStr w "minus") (GN:Ld=hashStr w "not") (GP:Le=hashStr w "+") (GQ:Lf=hashStr w "-") (GR:Lg=hashStr w "*") (GU:Lh=hashStr w "/") (zL:Gs=hashStr w "&") (zM:Gu=hashStr w "<") (zN:Gv=hashStr w "=") (zO:Gw=hashStr w "rest") (zP:Gx=hashStr w "if") (zQ:Gy=hashStr w "else") (zR:Gz=hashStr w "sum") (zS:GB=hashStr w "count") (zT:GC=hashStr w "least") (zU:GD=hashStr w "greatest") (zV:GF=hashStr w "find")
     :
    ∃fd:abH,(∀(s:abK)(u:abL),BindsTo s fd ⟨[u],[]⟩ [("script",u)])/\∀base:Heap,K.In base->base.Ns abV mg->FnOk l.prog w K mg base (CXJ l.prog w) 18 fa fd ["script"] (spW K 1 F_law):=by
  refine J.Ju X G hfa Xo (λ_ _ _ _ _ _ s u=> .of_eq rfl) (λf fd Fu base kb nb=>?_)
  have Z0:=mg_none_of kb nb z0
  have Z1:=mg_none_of kb nb z1
  have Z2:=mg_none_of kb nb z2
  have Z3:=mg_none_of kb nb z3
  have Z4:=mg_none_of kb nb z4
  have Z5:=mg_none_of kb nb z5
  have Z6:=mg_none_of kb nb z6
  have Z7:=mg_none_of kb nb z7
  have Z8:=mg_none_of kb nb z8
  have Z9:=mg_none_of kb nb z9
  have Z10:=mg_none_of kb nb Xp
  have Z11:=mg_none_of kb nb Xq
  have V0:=mg_of kb nb v0
  have TB:TabOk K eT cA vw:=J.N7 trivial trivial trivial
  have H1:J.dE l.prog w K mg base 1 "_law_cell_at" 2 bJ:=J.aM (ps:=["script","k"]) kb nb d1 (J.aH (c:=g_) (k:=0) trivial ⟨Z0,trivial⟩ trivial TB trivial trivial trivial) pv rfl rG (λ_ _ _ _ _ _ us hl=>J.ln2 us hl λ_ _=>rfl)
  have H2:J.dE l.prog w K mg base 2 "_law_spot" 1 fX:=J.aM (ps:=["script"]) kb nb d2 (J.aH (c:=kC) (k:=1) trivial trivial ⟨H1.mono (by decide),trivial⟩ TB trivial trivial trivial) vx rfl xB (λ_ _ _ _ _ _ us hl=>J.si us hl λ_=>rfl)
  have H3:J.dE l.prog w K mg base 1 "_law_digit" 2 aE:=J.aM (ps:=["row","many"]) kb nb d3 (J.aH (c:=jo) (k:=0) trivial trivial trivial TB trivial trivial trivial) sH rfl vy (λ_ _ _ _ _ _ us hl=>J.ln2 us hl λ_ _=>rfl)
  have H4:J.dE l.prog w K mg base 2 "_law_worth" 1 eZ:=J.aM (ps:=["row"]) kb nb d4 (J.aH (c:=jr) (k:=1) trivial trivial ⟨H3.mono (by decide),trivial⟩ TB trivial trivial trivial) sI rfl vz (λ_ _ _ _ _ _ us hl=>J.si us hl λ_=>rfl)
  have H5:J.dE l.prog w K mg base 1 "_law_mixed" 2 e_:=J.aM (ps:=["cell","k"]) kb nb d5 (J.aH (c:=jv) (k:=0) trivial trivial trivial TB trivial trivial trivial) sJ rfl vA (λ_ _ _ _ _ _ us hl=>J.ln2 us hl λ_ _=>rfl)
  have H6:J.dE l.prog w K mg base 2 "_law_stream" 2 cq:=J.aM (ps:=["script","k"]) kb nb d6 (J.aH (c:=iG) (k:=1) trivial ⟨Z1,Z0,Z2,trivial⟩ ⟨H5.mono (by decide),H1.mono (by decide),trivial⟩ TB trivial trivial trivial) rH rfl sL (λ_ _ _ _ _ _ us hl=>J.ln2 us hl λ_ _=>rfl)
  have H7:J.dE l.prog w K mg base 3 "_law_known" 2 dj:=J.aM (ps:=["script","spot"]) kb nb d7 (J.aH (c:=jy) (k:=2) trivial ⟨Z1,trivial⟩ ⟨H4.mono (by decide),H3.mono (by decide),H6.mono (by decide),H1.mono (by decide),trivial⟩ TB trivial trivial trivial) sM rfl vB (λ_ _ _ _ _ _ us hl=>J.ln2 us hl λ_ _=>rfl)
  have H8:J.dE l.prog w K mg base 2 "_law_area" 2 de:=J.aM (ps:=["row","spot"]) kb nb d8 (J.aH (c:=kE) (k:=1) trivial trivial ⟨H3.mono (by decide),trivial⟩ TB trivial trivial trivial) vC rfl xC (λ_ _ _ _ _ _ us hl=>J.ln2 us hl λ_ _=>rfl)
  have H9:J.dE l.prog w K mg base 2 "_law_pins" 2 bV:=J.aM (ps:=["row","many"]) kb nb d9 (J.aH (c:=kG) (k:=1) trivial ⟨Z3,Z1,trivial⟩ ⟨H3.mono (by decide),trivial⟩ TB trivial trivial trivial) vD rfl xD (λ_ _ _ _ _ _ us hl=>J.ln2 us hl λ_ _=>rfl)
  have PC:J.dE l.prog w K mg base 2 "_law_number" 1 et:=J.aM (ps:=["row"]) kb nb WO (J.aH (c:=iI) (k:=1) trivial trivial ⟨H3.mono (by decide),trivial⟩ TB trivial trivial trivial) rJ rfl sN (λ_ _ _ _ _ _ us hl=>J.si us hl λ_=>rfl)
  have Vl:J.dE l.prog w K mg base 2 "_law_place" 2 cg:=J.aM (ps:=["row","spot"]) kb nb WQ (J.aH (c:=jA) (k:=1) trivial trivial ⟨H3.mono (by decide),trivial⟩ TB trivial trivial trivial) sO rfl vE (λ_ _ _ _ _ _ us hl=>J.ln2 us hl λ_ _=>rfl)
  have YN:J.dE l.prog w K mg base 3 "_law_leaf" 2 df:=J.aM (ps:=["row","spot"]) kb nb WR (J.aH (c:=kI) (k:=2) trivial trivial ⟨H3.mono (by decide),H8.mono (by decide),H9.mono (by decide),PC.mono (by decide),Vl.mono (by decide),trivial⟩ TB trivial trivial trivial) vF rfl xE (λ_ _ _ _ _ _ us hl=>J.ln2 us hl λ_ _=>rfl)
  have G13:∀n:Nat,J.dE l.prog w K mg base (3+n) "_law_formula" 3 (bW n):=λn=>by
    induction n with
    | zero=>exact J.jl (ps:=["row","spot","deep"]) kb nb Um (λ_ _ _ _ _ _ us hl=>J.CA us hl λ_ _ _=>rfl)
    | succ n ih=>exact J.hdf kb nb Um (J.tk (c:=(kJ (bW n))) (k:=(3+n)) TB ⟨H3.mo,ih,YN.mo,H8.mo,H9.mo,trivial⟩) (pz (bW n)) (rK (bW n))
  have H13:J.dE l.prog w K mg base 9 "_law_formula" 3 aV:=(G13 6)
  have YO:J.dE l.prog w K mg base 1 "_law_parts" 1 cj:=J.aM (ps:=["formula"]) kb nb WS (J.aH (c:=jC) (k:=0) trivial ⟨Z4,Z3,Z5,trivial⟩ trivial TB trivial trivial trivial) sP rfl vG (λ_ _ _ _ _ _ us hl=>J.si us hl λ_=>rfl)
  have G15:∀n:Nat,J.dE l.prog w K mg base (1+n) "_law_pieces" 1 (bH n):=λn=>by
    induction n with
    | zero=>exact J.jl (ps:=["formula"]) kb nb Uo (λ_ _ _ _ _ _ us hl=>J.si us hl λ_=>rfl)
    | succ n ih=>exact J.hdf kb nb Uo (J.tk (c:=(lV (bH n))) (k:=(1+n)) TB ⟨YO.mo,ih,trivial⟩) (rL (bH n)) (sQ (bH n))
  have H15:J.dE l.prog w K mg base 9 "_law_pieces" 1 a8:=(G15 8)
  have H16:J.xh l.prog w K mg base 2 "Look" 3 bP:=J.Jv (ps:=["self","worths","waiting"]) kb nb WT (J.aH (c:=fB) (k:=0) trivial trivial trivial TB trivial trivial trivial (hx:=J.mi.no rfl rfl rfl rfl rfl rfl (J.kx trivial trivial ⟨Uu,Uv,PN,trivial⟩))) nq rfl om (λ_ _ _ _ _ _ us hl=>J.CA us hl λ_ _ _=>rfl)
  have H17:J.dE l.prog w K mg base 1 "part_many" 1 fY:=J.aM (ps:=["word"]) kb nb WU (J.aH (c:=kM) (k:=0) trivial trivial trivial TB trivial trivial ⟨⟨_,_,_,mg_of kb nb Xr,Xs,Xt,⟨⟨GG,⟨_,rfl⟩,⟨_,rfl⟩⟩,⟨GH,⟨_,rfl⟩,⟨_,rfl⟩⟩,⟨GJ,⟨_,rfl⟩,⟨_,rfl⟩⟩,⟨GK,⟨_,rfl⟩,⟨_,rfl⟩⟩,⟨GL,⟨_,rfl⟩,⟨_,rfl⟩⟩,⟨GN,⟨_,rfl⟩,⟨_,rfl⟩⟩,⟨GP,⟨_,rfl⟩,⟨_,rfl⟩⟩,⟨GQ,⟨_,rfl⟩,⟨_,rfl⟩⟩,⟨GR,⟨_,rfl⟩,⟨_,rfl⟩⟩,⟨GU,⟨_,rfl⟩,⟨_,rfl⟩⟩,⟨zL,⟨_,rfl⟩,⟨_,rfl⟩⟩,⟨zM,⟨_,rfl⟩,⟨_,rfl⟩⟩,⟨zN,⟨_,rfl⟩,⟨_,rfl⟩⟩,⟨zO,⟨_,rfl⟩,⟨_,rfl⟩⟩,⟨zP,⟨_,rfl⟩,⟨_,rfl⟩⟩,⟨zQ,⟨_,rfl⟩,⟨_,rfl⟩⟩,⟨zR,⟨_,rfl⟩,⟨_,rfl⟩⟩,⟨zS,⟨_,rfl⟩,⟨_,rfl⟩⟩,⟨zT,⟨_,rfl⟩,⟨_,rfl⟩⟩,⟨zU,⟨_,rfl⟩,⟨_,rfl⟩⟩,⟨zV,⟨_,rfl⟩,⟨_,rfl⟩⟩,trivial⟩,by decide+kernel⟩,trivial⟩) vH rfl xF (λ_ _ _ _ _ _ us hl=>J.si us hl λ_=>rfl)
  have YQ:J.dE l.prog w K mg base 2 "parts_of" 1 b9:=J.aM (ps:=["formula"]) kb nb WV (J.aH (c:=mv) (k:=1) trivial trivial ⟨H17.mono (by decide),trivial⟩ TB trivial trivial trivial) xG rfl zm (λ_ _ _ _ _ _ us hl=>J.si us hl λ_=>rfl)
  have H19:J.dE l.prog w K mg base 1 "places_between" 1 cZ:=J.aM (ps:=["area"]) kb nb WW (J.aH (c:=fD) (k:=0) trivial ⟨Z1,trivial⟩ trivial TB trivial trivial trivial) nr rfl oo (λ_ _ _ _ _ _ us hl=>J.si us hl λ_=>rfl)
  have YR:J.sG l.prog w K mg base 1 "Look" "standing" 2 bp:=J.vp (ps:=["self","place"]) Ug (J.aH (c:=fG) (k:=0) trivial trivial trivial TB trivial trivial trivial (hx:=J.mi.no rfl rfl rfl rfl rfl rfl (J.kx trivial trivial ⟨Uu,Uv,trivial⟩))) nu rfl oq (λ_ _ _ _ _ _ us hl=>J.ln2 us hl λ_ _=>rfl)
  have PQ:J.dE l.prog w K mg base 1 "halts" 1 b7:=J.aM (ps:=["standing"]) kb nb Uh (J.aH (c:=vI) (k:=0) trivial ⟨Z4,Z3,trivial⟩ trivial TB trivial trivial trivial) FX rfl JD (λ_ _ _ _ _ _ us hl=>J.si us hl λ_=>rfl)
  have Pk:J.dE l.prog w K mg base 1 "is_fault" 1 aX:=J.aM (ps:=["worth"]) kb nb WX (J.aH (c:=mw) (k:=0) trivial ⟨Z4,Z3,trivial⟩ trivial TB trivial trivial trivial) xH rfl zo (λ_ _ _ _ _ _ us hl=>J.si us hl λ_=>rfl)
  have YS:J.dE l.prog w K mg base 2 "same_worth" 2 dZ:=J.aM (ps:=["one","other"]) kb nb WY (J.aH (c:=jF) (k:=1) trivial trivial ⟨Pk.mono (by decide),trivial⟩ TB trivial trivial trivial) sR rfl vJ (λ_ _ _ _ _ _ us hl=>J.ln2 us hl λ_ _=>rfl)
  have YT:J.dE l.prog w K mg base 3 "fits" 2 mx:=J.aM (ps:=["standing","key"]) kb nb WZ (J.aH (c:=zq) (k:=2) trivial trivial ⟨YS.mono (by decide),trivial⟩ TB trivial trivial trivial) JF rfl Oh (λ_ _ _ _ _ _ us hl=>J.ln2 us hl λ_ _=>rfl)
  have YU:J.sG l.prog w K mg base 4 "Look" "stretch" 3 bt:=J.vp (ps:=["self","area","key"]) W0 (J.aH (c:=gj) (k:=3) trivial trivial ⟨H19.mono (by decide),PQ.mono (by decide),YT.mono (by decide),trivial⟩ TB trivial trivial trivial (hx:=J.mi.no rfl rfl rfl rfl rfl rfl (J.kx ⟨YR.mono (by decide),trivial⟩ trivial ⟨PN,trivial⟩))) ou rfl pA (λ_ _ _ _ _ _ us hl=>J.CA us hl λ_ _ _=>rfl)
  have H26:J.dE l.prog w K mg base 1 "is_great" 1 hG:=J.aM (ps:=["number"]) kb nb W3 (J.aH (c:=mz) (k:=0) trivial ⟨Z6,trivial⟩ trivial TB trivial trivial trivial) xI rfl zr (λ_ _ _ _ _ _ us hl=>J.si us hl λ_=>rfl)
  have J9:J.dE l.prog w K mg base 1 "fault" 1 bG:=J.aM (ps:=["word"]) kb nb W4 (J.aH (c:=vL) (k:=0) trivial trivial trivial TB trivial trivial trivial) FY rfl JG (λ_ _ _ _ _ _ us hl=>J.si us hl λ_=>rfl)
  have Xu:J.dE l.prog w K mg base 2 "bounded" 1 bQ:=J.aM (ps:=["number"]) kb nb W5 (J.aH (c:=oy) (k:=1) trivial trivial ⟨H26.mono (by decide),J9.mono (by decide),trivial⟩ TB trivial trivial trivial) zt rfl CB (λ_ _ _ _ _ _ us hl=>J.si us hl λ_=>rfl)
  have H29:J.dE l.prog w K mg base 3 "gathered" 2 fH:=J.aM (ps:=["word","worths"]) kb nb W6 (J.aH (c:=mB) (k:=2) trivial ⟨Z0,Z4,Z7,Z2,Z8,Z9,trivial⟩ ⟨Xu.mono (by decide),J9.mono (by decide),Pk.mono (by decide),trivial⟩ TB trivial trivial trivial) xJ rfl zu (λ_ _ _ _ _ _ us hl=>J.ln2 us hl λ_ _=>rfl)
  have H30:J.dE l.prog w K mg base 5 "gathered_standing" 3 bL:=J.aM (ps:=["word","area","look"]) kb nb W7 (J.aH (c:=ef) (k:=4) trivial trivial ⟨PQ.mono (by decide),H29.mono (by decide),trivial⟩ TB trivial trivial trivial (hx:=J.mi.no rfl rfl rfl rfl rfl rfl (J.kx ⟨YU.mono (by decide),trivial⟩ trivial trivial))) kP rfl lO (λ_ _ _ _ _ _ us hl=>J.CA us hl λ_ _ _=>rfl)
  have YV:J.sG l.prog w K mg base 2 "Look" "cell" 2 cm:=J.vp (ps:=["self","place"]) W8 (J.aH (c:=jK) (k:=1) trivial trivial trivial TB trivial trivial trivial (hx:=J.mi.no rfl rfl rfl rfl rfl rfl (J.kx ⟨YR.mono (by decide),trivial⟩ trivial ⟨PN,trivial⟩))) sS rfl vM (λ_ _ _ _ _ _ us hl=>J.ln2 us hl λ_ _=>rfl)
  have Xv:J.dE l.prog w K mg base 1 "number_of" 1 cu:=J.aM (ps:=["worth"]) kb nb W9 (J.aH (c:=kQ) (k:=0) trivial trivial trivial TB trivial trivial trivial) vN rfl xK (λ_ _ _ _ _ _ us hl=>J.si us hl λ_=>rfl)
  have Xw:J.dE l.prog w K mg base 3 "single" 2 cE:=J.aM (ps:=["word","one"]) kb nb W_ (J.aH (c:=rN) (k:=2) trivial ⟨Z4,Z5,trivial⟩ ⟨Pk.mono (by decide),Xv.mono (by decide),J9.mono (by decide),Xu.mono (by decide),trivial⟩ TB trivial trivial trivial) CC rfl FZ (λ_ _ _ _ _ _ us hl=>J.ln2 us hl λ_ _=>rfl)
  have H34:J.dE l.prog w K mg base 3 "reckoned" 3 cF:=J.aM (ps:=["op","number","other"]) kb nb Xa (J.aH (c:=mC) (k:=2) trivial trivial ⟨Xu.mono (by decide),J9.mono (by decide),trivial⟩ TB trivial trivial trivial) xM rfl zv (λ_ _ _ _ _ _ us hl=>J.CA us hl λ_ _ _=>rfl)
  have YW:J.dE l.prog w K mg base 1 "text_of" 1 eQ:=J.aM (ps:=["worth"]) kb nb Xb (J.aH (c:=oz) (k:=0) trivial ⟨Z5,trivial⟩ trivial TB trivial trivial trivial) zw rfl CD (λ_ _ _ _ _ _ us hl=>J.si us hl λ_=>rfl)
  have H36:J.dE l.prog w K mg base 2 "joined" 2 nC:=J.aM (ps:=["one","other"]) kb nb Xd (J.aH (c:=rO) (k:=1) ⟨⟨_,V0⟩,trivial⟩ ⟨Z0,trivial⟩ ⟨YW.mono (by decide),J9.mono (by decide),trivial⟩ TB trivial trivial trivial) CF rfl F0 (λ_ _ _ _ _ _ us hl=>J.ln2 us hl λ_ _=>rfl)
  have H37:J.dE l.prog w K mg base 2 "less" 2 vQ:=J.aM (ps:=["one","other"]) kb nb Xe (J.aH (c:=zy) (k:=1) trivial ⟨Z4,Z5,Z7,trivial⟩ ⟨J9.mono (by decide),Xv.mono (by decide),YW.mono (by decide),trivial⟩ TB trivial trivial trivial) JH rfl Oi (λ_ _ _ _ _ _ us hl=>J.ln2 us hl λ_ _=>rfl)
  have YX:J.dE l.prog w K mg base 4 "paired" 3 bX:=J.aM (ps:=["op","one","other"]) kb nb Xf (J.aH (c:=rP) (k:=3) trivial ⟨Z4,Z5,trivial⟩ ⟨Pk.mono (by decide),H34.mono (by decide),H36.mono (by decide),H37.mono (by decide),J9.mono (by decide),Xv.mono (by decide),YS.mono (by decide),trivial⟩ TB trivial trivial trivial) CG rfl F1 (λ_ _ _ _ _ _ us hl=>J.CA us hl λ_ _ _=>rfl)
  have S0:∀n:Nat,J.dE l.prog w K mg base (5+n) "if_standing" 2 (aG n)/\J.dE l.prog w K mg base (5+n) "else_standing" 2 (ay n)/\J.dE l.prog w K mg base (5+n) "find_standing" 2 (aA n)/\J.dE l.prog w K mg base (5+n) "reckoned_standing" 2 (ai n)/\J.dE l.prog w K mg base (5+n) "gone_through" 2 (ax n):=λn=>by
    induction n with
    | zero=>exact⟨J.jl (ps:=["formula","look"]) kb nb Up (λ_ _ _ _ _ _ us hl=>J.ln2 us hl λ_ _=>rfl),J.jl (ps:=["formula","look"]) kb nb Uq (λ_ _ _ _ _ _ us hl=>J.ln2 us hl λ_ _=>rfl),J.jl (ps:=["formula","look"]) kb nb Ur (λ_ _ _ _ _ _ us hl=>J.ln2 us hl λ_ _=>rfl),J.jl (ps:=["formula","look"]) kb nb Us (λ_ _ _ _ _ _ us hl=>J.ln2 us hl λ_ _=>rfl),J.jl (ps:=["formula","look"]) kb nb Ut (λ_ _ _ _ _ _ us hl=>J.ln2 us hl λ_ _=>rfl)⟩
    | succ n ih=>exact⟨J.aM (ps:=["formula","look"]) kb nb Up (J.aH (c:=(lW (aG n) (ay n) (aA n) (ai n) (ax n))) (k:=(5+n)) trivial trivial ⟨ih.2.2.2.2,PQ.mono (by omega),Xw.mono (by omega),Pk.mono (by omega),trivial⟩ TB trivial trivial trivial) (rQ (aG n) (ay n) (aA n) (ai n) (ax n)) rfl (sU (aG n) (ay n) (aA n) (ai n) (ax n)) (λ_ _ _ _ _ _ us hl=>J.ln2 us hl λ_ _=>rfl),J.aM (ps:=["formula","look"]) kb nb Uq (J.aH (c:=(jU (aG n) (ay n) (aA n) (ai n) (ax n))) (k:=(5+n)) trivial trivial ⟨ih.2.2.2.2,Pk.mono (by omega),trivial⟩ TB trivial trivial trivial) (oA (aG n) (ay n) (aA n) (ai n) (ax n)) rfl (pB (aG n) (ay n) (aA n) (ai n) (ax n)) (λ_ _ _ _ _ _ us hl=>J.ln2 us hl λ_ _=>rfl),J.aM (ps:=["formula","look"]) kb nb Ur (J.aH (c:=(jV (aG n) (ay n) (aA n) (ai n) (ax n))) (k:=(5+n)) trivial ⟨Z0,trivial⟩ ⟨ih.2.2.2.2,PQ.mono (by omega),J9.mono (by omega),YT.mono (by omega),trivial⟩ TB trivial trivial trivial (hx:=J.mi.no rfl rfl rfl rfl rfl rfl (J.kx ⟨YU.mono (by omega),YV.mono (by omega),trivial⟩ trivial trivial))) (oB (aG n) (ay n) (aA n) (ai n) (ax n)) rfl (pC (aG n) (ay n) (aA n) (ai n) (ax n)) (λ_ _ _ _ _ _ us hl=>J.ln2 us hl λ_ _=>rfl),J.aM (ps:=["formula","look"]) kb nb Us (J.aH (c:=(gy (aG n) (ay n) (aA n) (ai n) (ax n))) (k:=(5+n)) trivial ⟨Z0,trivial⟩ ⟨YQ.mono (by omega),YX.mono (by omega),PQ.mono (by omega),Xw.mono (by omega),ih.2.2.2.2,trivial⟩ TB trivial trivial trivial) (kR (aG n) (ay n) (aA n) (ai n) (ax n)) rfl (lP (aG n) (ay n) (aA n) (ai n) (ax n)) (λ_ _ _ _ _ _ us hl=>J.ln2 us hl λ_ _=>rfl),J.aM (ps:=["formula","look"]) kb nb Ut (J.aH (c:=(kT (aG n) (ay n) (aA n) (ai n) (ax n))) (k:=(5+n)) trivial trivial ⟨YQ.mono (by omega),H30.mono (by omega),J9.mono (by omega),ih.1,ih.2.1,ih.2.2.1,ih.2.2.2.1,trivial⟩ TB trivial trivial trivial (hx:=J.mi.no rfl rfl rfl rfl rfl rfl (J.kx ⟨YV.mono (by omega),trivial⟩ trivial trivial))) (pD (aG n) (ay n) (aA n) (ai n) (ax n)) rfl (rR (aG n) (ay n) (aA n) (ai n) (ax n)) (λ_ _ _ _ _ _ us hl=>J.ln2 us hl λ_ _=>rfl)⟩
  have H39:J.dE l.prog w K mg base 15 "if_standing" 2 aD:=(S0 10).1
  have H40:J.dE l.prog w K mg base 15 "else_standing" 2 au:=(S0 10).2.1
  have H41:J.dE l.prog w K mg base 15 "find_standing" 2 av:=(S0 10).2.2.1
  have H42:J.dE l.prog w K mg base 15 "reckoned_standing" 2 ah:=(S0 10).2.2.2.1
  have H43:J.dE l.prog w K mg base 15 "gone_through" 2 ak:=(S0 10).2.2.2.2
  have YY:J.dE l.prog w K mg base 16 "look_at" 3 eR:=J.aM (ps:=["formula","worths","waiting"]) kb nb Xg (J.aH (c:=oE) (k:=15) trivial ⟨Z3,trivial⟩ ⟨H43.mono (by decide),PQ.mono (by decide),Pk.mono (by decide),trivial⟩ TB trivial trivial trivial (hx:=J.mi.no rfl rfl rfl rfl rfl rfl (J.kx trivial ⟨H16.mono (by decide),trivial⟩ ⟨PN,trivial⟩))) zz rfl CH (λ_ _ _ _ _ _ us hl=>J.CA us hl λ_ _ _=>rfl)
  have Xx:J.dE l.prog w K mg base 1 "_law_after" 2 bT:=J.aM (ps:=["first","second"]) kb nb Xh (J.aH (c:=jN) (k:=0) trivial ⟨Z10,Z3,trivial⟩ trivial TB trivial trivial trivial) sV rfl vR (λ_ _ _ _ _ _ us hl=>J.ln2 us hl λ_ _=>rfl)
  have H46:J.dE l.prog w K mg base 5 "_law_two" 2 fJ:=J.aM (ps:=["formula","looks"]) kb nb Xi (J.aH (c:=mE) (k:=4) trivial ⟨Z4,Z3,trivial⟩ ⟨Xx.mono (by decide),YX.mono (by decide),trivial⟩ TB trivial trivial trivial) xN rfl zA (λ_ _ _ _ _ _ us hl=>J.ln2 us hl λ_ _=>rfl)
  have H47:J.dE l.prog w K mg base 1 "_law_leaf_look" 3 c7:=J.aM (ps:=["formula","worths","waiting"]) kb nb Xj (J.aH (c:=fL) (k:=0) trivial trivial trivial TB trivial trivial trivial) nE rfl oF (λ_ _ _ _ _ _ us hl=>J.CA us hl λ_ _ _=>rfl)
  have H48:J.dE l.prog w K mg base 2 "_law_if" 1 gR:=J.aM (ps:=["looks"]) kb nb Xk (J.aH (c:=oH) (k:=1) trivial ⟨Z4,Z5,Z3,trivial⟩ ⟨Xx.mono (by decide),trivial⟩ TB trivial trivial trivial) zB rfl CI (λ_ _ _ _ _ _ us hl=>J.si us hl λ_=>rfl)
  have H49:J.dE l.prog w K mg base 2 "_law_else" 1 f6:=J.aM (ps:=["looks"]) kb nb Xl (J.aH (c:=kW) (k:=1) trivial ⟨Z4,Z3,trivial⟩ ⟨Xx.mono (by decide),trivial⟩ TB trivial trivial trivial) vS rfl xO (λ_ _ _ _ _ _ us hl=>J.si us hl λ_=>rfl)
  have H50:J.dE l.prog w K mg base 17 "_law_due" 3 hV:=J.aM (ps:=["formula","worths","waiting"]) kb nb Xm (J.aH (c:=mG) (k:=16) trivial trivial ⟨H46.mono (by decide),YY.mono (by decide),H47.mono (by decide),H48.mono (by decide),H49.mono (by decide),YO.mono (by decide),Xw.mono (by decide),trivial⟩ TB trivial trivial trivial) xP rfl zC (λ_ _ _ _ _ _ us hl=>J.CA us hl λ_ _ _=>rfl)
  have H51:J.dE l.prog w K mg base 1 "_law_same" 2 eS:=J.aM (ps:=["one","other"]) kb nb Xn (J.aH (c:=kZ) (k:=0) trivial ⟨Z4,Z11,Z7,Z5,Z3,trivial⟩ trivial TB trivial trivial trivial) vT rfl xQ (λ_ _ _ _ _ _ us hl=>J.ln2 us hl λ_ _=>rfl)
  exact J.N4 Fu (J.aH (c:=F3) (k:=17) trivial ⟨Z1,Z4,Z3,Z0,trivial⟩ ⟨H2.mono (by decide),H7.mono (by decide),H13.mono (by decide),H6.mono (by decide),H15.mono (by decide),YY.mono (by decide),H50.mono (by decide),YN.mono (by decide),H51.mono (by decide),Vl.mono (by decide),trivial⟩ TB trivial trivial trivial) Oj rfl RH
end K18
open PySem PySem.W PyProof.Rows
set_option maxRecDepth 100000 in
set_option maxHeartbeats 0 in
theorem PySem.Challenge.cw_onelook_k18_whole_looks_by_parts_holds : PySem.Challenge.rw_onelook_k18_whole_looks_by_parts.Holds := by
  refine K18.head ?_
  k_fill
  refine L2.walk_of (l:=PySem.Challenge.rw_onelook_k18_whole_looks_by_parts) (n:=63) (k:=18) (x:="script") (CX:=fun w => J.CXJ PySem.Challenge.rw_onelook_k18_whole_looks_by_parts.prog w) (sp:=fun w => J.spW _ 1 K18.F_law) rfl (by decide) rfl ⟨rfl,by decide,by decide⟩ (fun w h Y => PySem.W.kIn_of Y) ?F (fun w H a ns hl hO hS => J.law_sp K18.law_true H a ns hl (J.OnlyT.of hO) hS (J.tb_none ?Ta ?Tb ?Tc ?Td ?Te)) (fun _ _ _ _ _ z => z.elim fun _ y => y.elim fun _ x => x.2)
  case F=>
    intro w mg fa h KX G hmg
    refine' K18.all_mk KX G hmg ?d1 ?d2 ?d3 ?d4 ?d5 ?d6 ?d7 ?d8 ?d9 ?WO ?WQ ?WR ?Um ?WS ?Uo ?WT ?WU ?WV ?WW ?Ug ?Uh ?WX ?WY ?WZ ?W0 ?W3 ?W4 ?W5 ?W6 ?W7 ?W8 ?W9 ?W_ ?Xa ?Xb ?Xd ?Xe ?Xf ?Up ?Uq ?Ur ?Us ?Ut ?Xg ?Xh ?Xi ?Xj ?Xk ?Xl ?Xm ?Xn ?Xo ?Uu ?Uv ?PN ?z0 ?z1 ?z2 ?z3 ?z4 ?z5 ?z6 ?z7 ?z8 ?z9 ?Xp ?Xq ?v0 ?Xr ?Xs ?Xt ?GG ?GH ?GJ ?GK ?GL ?GN ?GP ?GQ ?GR ?GU ?zL ?zM ?zN ?zO ?zP ?zQ ?zR ?zS ?zT ?zU ?zV
    case d1 | d2 | d3 | d4 | d5 | d6 | d7 | d8 | d9 | WO | WQ | WR | Um | WS | Uo=>refine' J.qJ ?a ?l ?c ?k;(case a=>k_is);(case l=>k_is);(case c=>k_is);(case k=>k_is)
    case WT=>refine' J.N5 ?a ?b ?e ?i ?l ?c ?k ?n;(case a=>k_is);(case b=>k_is);(case e=>k_is);(case i=>k_is);(case l=>k_is);(case c=>k_is);(case k=>k_is);(case n=>k_is)
    case WU | WV | WW=>refine' J.qJ ?a ?l ?c ?k;(case a=>k_is);(case l=>k_is);(case c=>k_is);(case k=>k_is)
    case Ug=>refine' J.zj ?a ⟨?p,?h,?o,?s⟩ ?i ?l ?c ?k ?n;(case a=>k_is);(case p=>k_is);(case h=>k_is);(case o=>k_is);(case s=>k_is);(case i=>k_is);(case l=>k_is);(case c=>k_is);(case k=>k_is);(case n=>k_is)
    case Uh | WX | WY | WZ=>refine' J.qJ ?a ?l ?c ?k;(case a=>k_is);(case l=>k_is);(case c=>k_is);(case k=>k_is)
    case W0=>refine' J.zj ?a ⟨?p,?h,?o,?s⟩ ?i ?l ?c ?k ?n;(case a=>k_is);(case p=>k_is);(case h=>k_is);(case o=>k_is);(case s=>k_is);(case i=>k_is);(case l=>k_is);(case c=>k_is);(case k=>k_is);(case n=>k_is)
    case W3 | W4 | W5 | W6 | W7=>refine' J.qJ ?a ?l ?c ?k;(case a=>k_is);(case l=>k_is);(case c=>k_is);(case k=>k_is)
    case W8=>refine' J.zj ?a ⟨?p,?h,?o,?s⟩ ?i ?l ?c ?k ?n;(case a=>k_is);(case p=>k_is);(case h=>k_is);(case o=>k_is);(case s=>k_is);(case i=>k_is);(case l=>k_is);(case c=>k_is);(case k=>k_is);(case n=>k_is)
    case W9 | W_ | Xa | Xb | Xd | Xe | Xf | Up | Uq | Ur | Us | Ut | Xg | Xh | Xi | Xj | Xk | Xl | Xm | Xn | Xo=>refine' J.qJ ?a ?l ?c ?k;(case a=>k_is);(case l=>k_is);(case c=>k_is);(case k=>k_is)
    case Uu | Uv | PN=>refine' J.N6 ?a ⟨?p,?h,?o,?s⟩ ?n;(case a=>k_is);(case p=>k_is);(case h=>k_is);(case o=>k_is);(case s=>k_is);(case n=>k_is)
    case z0 | z1 | z2 | z3 | z4 | z5 | z6 | z7 | z8 | z9 | Xp | Xq | v0 | Xr | Xs=>k_is
    case Xt | GG | GH | GJ | GK | GL | GN | GP | GQ | GR | GU | zL | zM | zN | zO | zP | zQ | zR | zS | zT | zU | zV=>rfl
  (case Ta=>k_is)
  (case Tb=>k_is)
  (case Tc=>k_is)
  (case Td=>k_is)
  (case Te=>k_is)
