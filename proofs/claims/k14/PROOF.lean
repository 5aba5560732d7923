import PyProof.Rows.All
import Wide.All
import OpenK.AllK
import Wide.FinOn
import Lean
import PyProof.EqAt
import PyProof.EqKinds
import PyProof.TupleCall
import PySem.Challenge.RW_onelook_k14_as_great_as_may_be
open PySem.Around renaming under→MF
open Array renaming all_eq_true_iff_forall_mem→MO,length_toList→lD,size_append→MQ
open PySem.AutoSeq1 renaming sub_tuple_tuple→Vd
open Bool renaming and_eq_true→b7,and_eq_true_iff→VL,eq_iff_iff→hU,false_eq_true→uy,false_ne_true→dh,not_eq_true→xh,or_false→Fs
open PySem.Builtin.List renaming listTooLong→sD
open PySem.Builtin.Range renaming rangeSize→Om
open PySem.Builtin.Slice renaming sliceAdjust→Fo,sliceApplied→OJ,slicePlaces→zN
open PySem.Builtin.Str renaming occurrences→fY,partsBetween→G0,strKind→P5,strSub→P6
open PySem.Builtin.Tuple renaming tupleExact→zO,tupleHashOf→NX,tupleIsExact→PY,tupleItemsOf→zr
open PySem.Calls renaming Name_function_global→N6,callWith_builtin→OQ,evalArgs_plain→OR
open Classical renaming propDecidable→Gf
open PySem.Code renaming isFrame→Fj
open PySem.EntryCells renaming newEntry→OY
open PySem.F renaming slot_int_rmul→zW,typeOf_object_class→Gj
open False renaming elim→aa
open ForInStep renaming yield→pB
open PySem.Heap renaming MadeExcOf→vK,SameBut→vm,get?_push_of_some→bQ,get?_push_size→dR,get?_update_other→pF,get?_update_self→zR,lt_size→bx,size_push→zH
open PySem.Heap.UpToSlots renaming refl→Po
open Int renaming fmod_lt_of_pos→Il,fmod_nonneg_of_pos→A2,toNat_natCast→sm
open PyProof.Rows.IsTup renaming new→zP
open List renaming all_cons→cC,all_eq_true→nG,all_map→wa,any_cons→sy,append_nil→iX,contains_cons→Ag,countP_cons→Am,drop_eq_getElem_cons→vV,drop_length→Gb,drop_of_length_le→IG,eq_nil_of_length_eq_zero→Ab,filterMap_cons→vo,filter_cons_of_neg→Gx,filter_cons_of_pos→Gw,findIdx?_cons→Gv,findIdx?_eq_some_iff_getElem→P9,flatten_cons→pG,foldl→sA,foldl_cons→zU,getD_eq_getElem?_getD→Ak,getElem?_append_left→jR,getElem?_append_right→pD,getElem?_eq_getElem→fg,getElem?_map→fZ,getElem?_replicate→OH,getElem?_set_ne→iu,getElem?_set_self→ni,getElem?_toArray→PR,getElem_mem→GQ,getElem_toArray→Ao,length→nu,length_append→kI,length_cons→iV,length_drop→pE,length_map→iW,length_take→lF,lookup→nr,lookup_cons→f6,map_cons→iT,map_map→Iw,mem_append_left→vp,mem_append_right→kH,mem_cons_of_mem→b8,mem_cons_self→dg,mem_of_getElem?→sj,mem_of_mem_drop→P7,mem_of_mem_take→P8,nil_append→zV,of_mem_zip→zK,range→nh,replicate→aR,replicate_succ→iY,size_toArray→a8,take_of_length_le→B_
open PySem.NameKind renaming cell→fD,free→fB
open Nat renaming beq→hR,beq_eq→xn,ble→mR,ble_eq→pk,le_of_eq→rH,le_of_lt→Bk,le_refl→aA,le_succ→rJ,le_trans→b5,lt_irrefl→fX,lt_of_le_of_lt→B8,lt_of_lt_of_le→bY,lt_succ_self→Bo,lt_trans→vW,min_le_right→Bp,mul_comm→Bu,ne_of_gt→Bm,ne_of_lt→cQ,sub_self→vH,succ_le_succ→vk,zero_le→de
open Ne renaming symm→cR
open PySem.Obj renaming data_mapFields→Bw,isFreed_of_fields→KI,mapFields→oq,mapSeq→oo
open Option renaming bind→BO,map_some→rP
open Or renaming inr→mw
open PySem.PassesOwn renaming leaving→wB
open PySem.PyData renaming canLayAll0→rF,depthAll→ky,eqv→dY,eqvAll→rG,strOk→aW
open PyProof.Rows renaming callWith_type1→Bn,slot_tuple_getitem→vz,Keyed→ahu
open PySem.SeqAt.EqAt renaming int_none→JM,int_str→JL,none_int→JQ,none_str→JR,same→JU,str_int→JN,str_none→JP
open PySem.Str renaming ofString→vx
open PySem.StrLaws renaming found_iff→Mh,subAt_one→B'
open Subtype renaming ext→Bj
open PySem.Txt renaming count→oI,slice→aY,split→eQ
open PySem.Value renaming bool→og,builtin→rM,int→rD,none→c_,ref→bz,str→oa,type→oh
open PySem renaming Addr→ag5,Around→ag6,FuncData→ag7,NameKind→ag8,Program→ag9,Shared→aha,Value→ahb,World→ahc,behindInMarks→ahd,binaryOp→ahe,bootBuiltins→ahf,codeAny→ahg,compPost→ahh,compareOp→ahi,foldedSetIterable→ahj,mainGlobals→ahk,sizeLine→ahl,starEach→ahm,wpAny→ahn,wpAny_bind→aho,wpAny_holding→ahp,wpAny_mono→ahq,wpAny_newObj_type→ahr,wpAny_pure→ahs,wpAny_truthy_bool→aht
noncomputable section
set_option Elab.async false
set_option linter.all false
set_option maxRecDepth 100000
namespace L2
open PySem PySem.Spec PyProof.Rows
inductive Key where
 |inl (i:Int) |inr (x:Str) |cG
 deriving DecidableEq
def EL:Key->ahb->Bool
 |.inl k,v=>Value.isInt k v
 |.inr x,v=>Value.isStrOf x v
 |.cG,v=>(match v with |.none=>true |_=>false)
def JK(w:ahc):Key->Int
 |.inl k=>hashInt k
 |.inr x=>hashStr w x
 |.cG=>reduceHash 4238894112
theorem eo:∀{k:Key}{v:ahb},EL k v=true->(∃i t,k=Key.inl i/\v=rD i t)\/(∃x t,k=Key.inr x/\v=oa x t)\/(k=Key.cG/\v=c_)
 |.inl i,v,h=>by obtain⟨t,e⟩:=Value.isInt_shape (k:=i) (v:=v) h;exact .inl ⟨i,t,rfl,e⟩
 |.inr x,v,h=>by obtain⟨t,e⟩:=Value.isStrOf_shape (x:=x) (v:=v) h;exact .inr (.inl ⟨x,t,rfl,e⟩)
 |.cG,v,h=>by cases v<;>first |exact .inr (.inr ⟨rfl,rfl⟩) |(unfold EL at h;cases h)
theorem NV(a b:Int):decide ((Key.inl a:Key)=Key.inl b)=(a == b):=by
 by_cases e:a=b
 ·subst e;simp
 ·have h:¬(Key.inl a:Key)=Key.inl b:=λq=>e (Key.inl.inj q);rw[decide_eq_false h];exact(beq_eq_false_iff_ne.mpr e).symm
theorem NW(a b:Str):decide ((Key.inr a:Key)=Key.inr b)=decide (a=b):=by
 by_cases e:a=b
 ·subst e;simp
 ·have h:¬(Key.inr a:Key)=Key.inr b:=λq=>e (Key.inr.inj q);rw[decide_eq_false h,decide_eq_false e]
theorem rY{prog:ag9}{w:ahc}{A:ag6}{E:ahb->aha->Prop}{s:aha}{Q:Int->aha->Prop}(h:Q (reduceHash 4238894112) { s with toks:=s.toks+1 }):ahn (model prog w) A (PySem.pyHash .none) Q E s :=
 PySem.W.pyHash_slot (T:="NoneType") rfl F.slot_NoneType_hash F.entry_NoneType_hash (F.args_NoneType_hash_1 _) (beq_builtin_none _) (.inl rfl) (aho (ahs (aho (wpAny_mkInt (ahs ⟨_,_,rfl,h⟩)))))
def rE(prog:ag9)(w:ahc):PySem.KeyKind prog w Key where
 is:=EL
 hash:=JK w
 inj:=λv a b ha hb=>by rcases eo ha with ⟨i,t,rfl,rfl⟩ |⟨x,t,rfl,rfl⟩ |⟨rfl,rfl⟩<;>rcases eo hb with ⟨j,u,rfl,e⟩ |⟨y,u,rfl,e⟩ |⟨rfl,e⟩<;>cases e<;>rfl
 byValue:=λk v h=>by rcases eo h with ⟨i,t,rfl,rfl⟩ |⟨x,t,rfl,rfl⟩ |⟨rfl,rfl⟩<;>rfl
 pyHash:=λhv h=>by
  rcases eo hv with ⟨i,t,rfl,rfl⟩ |⟨x,t,rfl,rfl⟩ |⟨rfl,rfl⟩
  ·exact wpAny_pyHash_int h
  ·exact wpAny_pyHash_str h
  ·exact rY h
 eqBool:=λ{A E s a b u v Q} hu hv h=>by
  have no:a≠b->Q false s:=λn=>by rw[decide_eq_false n]at h;exact h
  rcases eo hu with ⟨i,t,rfl,rfl⟩ |⟨x,t,rfl,rfl⟩ |⟨rfl,rfl⟩<;>rcases eo hv with ⟨j,u,rfl,rfl⟩ |⟨y,u,rfl,rfl⟩ |⟨rfl,rfl⟩
  ·rw[NV]at h;exact wpAny_eqBool_int h
  ·exact JL i t y u _ _ _ _ (no nofun)
  ·exact JM i t _ _ _ _ (no nofun)
  ·exact JN x t j u _ _ _ _ (no nofun)
  ·rw[NW]at h;exact wpAny_eqBool_str h
  ·exact JP x t _ _ _ _ (no nofun)
  ·exact JQ j u _ _ _ _ (no nofun)
  ·exact JR y u _ _ _ _ (no nofun)
  ·exact JU .none _ _ _ _ (by simpa using h)
 «strs»:=λk x t v h=>by rcases eo h with ⟨i,u,rfl,e⟩ |⟨y,u,rfl,e⟩ |⟨rfl,e⟩<;>cases e;cases v<;>rfl
end L2
namespace NK
open PySem L2
def kd:Nat->PyData->Bool
 |_,.none=>true
 |_,.int _=>true
 |_,.str x=>aW x
 |n+1,.tuple xs=>xs.all (kd n)
 |_,_=>false
def kh(w:ahc):Nat->PyData->Int
 |_,.none=>JK w .cG
 |_,.int i=>JK w (.inl i)
 |_,.str x=>JK w (.inr x)
 |n+1,.tuple xs=>reduceHash (NX (xs.map (kh w n)))
 |_,_=>0
def TF:Nat->PyData->Nat
 |n+1,.tuple xs=>(xs.map (TF n)).sum+1
 |_,_=>1
def Rd(h:Heap)(v:ahb)(d:PyData):Prop:=∃as,Reads h v d as
inductive CQ(h:Heap):List ahb->List PyData->Prop
 |nil:CQ h [] []
 |cons {v:ahb}{d:PyData}{vs:List ahb}{ds:List PyData}:Rd h v d->CQ h vs ds->CQ h (v::vs) (d::ds)
theorem CQ.of{h:Heap}:∀{vs:List ahb}{ds:List PyData}{as:List ag5},ReadsAll h vs ds as->CQ h vs ds
 |_,_,_,.nil=> .nil
 |_,_,_,.cons r rs=> .cons ⟨_,r⟩ (CQ.of rs)
variable{h:Heap}
theorem CQ.all{vs:List ahb}{ds:List PyData}(r:CQ h vs ds):∃as,ReadsAll h vs ds as:=by
 induction r with
 |nil=>exact⟨_,.nil⟩
 |cons a _ ih=>obtain⟨as,ra⟩:=a;obtain⟨bs,rb⟩:=ih;exact⟨_,.cons ra rb⟩
theorem Rd.tup{v:ahb}{xs:List PyData}(r:Rd h v (.tuple xs)):∃a o vs n,v= .ref a/\h.get? a=some o/\o.cls= .type "tuple"/\o.data= .seq vs n/\CQ h vs.toList xs:=by
 obtain⟨as,r⟩:=r;cases r with
 |tuple h1 h2 h3 h4=>exact⟨_,_,_,_,rfl,h1,h2,h3,.of h4⟩
section
variable {prog:ag9}{w:ahc}{E:ahb->aha->Prop}
theorem ux{n:Nat}(ih:∀(d:PyData)(v:ahb)(A:ag6)(s:aha)(Q:Int->aha->Prop),kd n d=true->Rd s.heap v d->A.units+n < cLine->Q (kh w n d) { s with toks:=s.toks+TF n d }->ahn (model prog w) A (pyHash v) Q E s):
  ∀(xs:List PyData)(vs:List ahb)(A:ag6)(s:aha)(b:Array Int)(Q:Array Int->aha->Prop),xs.all (kd n)=true->CQ s.heap vs xs->A.units+n < cLine->
  (∀b':Array Int,b'.toList=b.toList++xs.map (kh w n)->Q b' { s with toks:=s.toks+(xs.map (TF n)).sum })->
  ahn (model prog w) A (forIn vs b λx r=>do let h <-pyHash x;pure PUnit.unit;pure (pB (r.push h))) Q E s
 |[],_,A,s,b,Q,_,x,_,h=>by cases x;exact ahs (h b (by simp))
 |k::xs,_,A,s,b,Q,hk,x,hu,h=>by
  cases x with
  |cons x1 x2=>rw[cC,b7]at hk;rw[List.forIn_cons];refine aho (aho (ih k _ A s _ hk.1 x1 hu ?_));refine aho (ahs (ahs ?_));exact ux ih xs _ A _ _ Q hk.2 x2 hu λb' hb=>by have:=h b' (by rw[hb];simp);rw[iT,List.sum_cons,<-Nat.add_assoc]at this;exact this
theorem NY:∀(n:Nat)(d:PyData)(v:ahb)(A:ag6)(s:aha)(Q:Int->aha->Prop),kd n d=true->Rd s.heap v d->A.units+n < cLine->Q (kh w n d) { s with toks:=s.toks+TF n d }->ahn (model prog w) A (pyHash v) Q E s:=by
 intro n
 induction n with
 |zero=>
  intro d v A s Q hk r hu h;obtain⟨as,r⟩:=r;cases r with
  |none=>exact rY h
  |int i t=>exact wpAny_pyHash_int h
  |str x t=>exact wpAny_pyHash_str h
  |_=>simp[kd]at hk
 |succ n ih=>
  intro d v A s Q hk r hu h;cases d with
  |tuple xs=>obtain⟨a,o,vs,m,rfl,h1,h2,h3,h4⟩:=r.tup;refine PySem.W.pyHash_slot (T:="tuple") ⟨o,h1,h2⟩ F.slot_tuple_hash F.entry_tuple_hash (F.args_tuple_hash_1 _) (beq_builtin_none _) (.inr (by omega)) ?_;show ahn _ _ (zr (.ref a) >>= _) _ _ s;refine aho (wpAny_tupleItemsOf h1 h3 ?_);refine aho ?_;rw[<-Array.forIn_toList];refine ux ih xs vs.toList A.in1 s #[] _ hk h4 (by simp only[Around.in1_units];omega) λb hb=>?_;show ahn _ _ (retInt (NX b.toList)) _ _ _;rw[hb];exact aho (wpAny_mkInt (ahs ⟨_,_,rfl,h⟩))
  |none=>obtain⟨as,r⟩:=r;cases r;exact rY h
  |int i=>obtain⟨as,r⟩:=r;cases r;exact wpAny_pyHash_int h
  |str x=>obtain⟨as,r⟩:=r;cases r;exact wpAny_pyHash_str h
  |_=>simp[kd]at hk
end
theorem zu:∀(n:Nat)(d:PyData),kd n d=true->d.canLay0=true/\d.depth<=n:=by
 intro n
 induction n with
 |zero=>
  intro d h;cases d with
  |none=>exact⟨rfl,aA _⟩
  |int i=>exact⟨rfl,aA _⟩
  |str x=>exact⟨h,aA _⟩
  |_=>simp[kd]at h
 |succ n ih=>
  intro d h;cases d with
  |none=>exact⟨rfl,de _⟩
  |int i=>exact⟨rfl,de _⟩
  |str x=>exact⟨h,de _⟩
  |tuple xs=>
   have hx:xs.all (kd n)=true:=h;have key:∀xs:List PyData,xs.all (kd n)=true->rF xs=true/\ky xs<=n:=by
    intro xs
    induction xs with
    |nil=>intro _;exact⟨rfl,de _⟩
    |cons x r ihr=>
     intro h;rw[cC,b7]at h;obtain⟨a,b⟩:=ih x h.1;obtain⟨c,e⟩:=ihr h.2;refine⟨?_,?_⟩
     ·show(PyData.canLay0 x&&rF r)=true;rw[a,c];rfl
     ·show max x.depth (ky r)<=n;omega
   obtain⟨a,b⟩:=key xs hx;exact⟨a,vk b⟩
  |_=>simp[kd]at h
theorem Bi:∀(n:Nat)(d e:PyData),kd n d=true->kd n e=true->(dY d e=true↔d=e):=by
 intro n
 induction n with
 |zero=>intro d e h k;cases d<;>cases e<;>first |(simp[kd]at h;done) |(simp[kd]at k;done) |simp[dY]
 |succ n ih=>
  intro d e h k;cases d with
  |tuple xs=>
   cases e with
   |tuple ys=>
    have key:∀xs ys:List PyData,xs.all (kd n)=true->ys.all (kd n)=true->(rG xs ys=true↔xs=ys):=by
     intro xs
     induction xs with
     |nil=>intro ys _ _;cases ys<;>simp[rG]
     |cons x r ihr=>
      intro ys h k;cases ys with
      |nil=>simp[rG]
      |cons y t=>rw[cC,b7]at h k;show(dY x y&&rG r t)=true↔_;rw[b7,ih x y h.1 k.1,ihr t h.2 k.2,List.cons.injEq]
    show rG xs ys=true↔_;rw[key xs ys h k,PyData.tuple.injEq]
   |_=>first |(simp[kd]at k;done) |simp[dY]
  |_=>cases e<;>first |(simp[kd]at h;done) |(simp[kd]at k;done) |simp[dY]
def isT:PyData->Bool
 |.tuple _=>true
 |_=>false
def KD:Type:={ d:PyData // kd 8 d=true/\isT d=true }
instance:DecidableEq KD:=λx y=>decidable_of_iff (dY x.1 y.1=true) ((Bi 8 x.1 y.1 x.2.1 y.2.1).trans ⟨Bj,λh=>by rw[h]⟩)
theorem KD.eqv{x y:KD}:dY x.1 y.1=decide (x=y):=by rw[hU,Bi 8 x.1 y.1 x.2.1 y.2.1,decide_eq_true_eq];exact⟨Bj,λh=>by rw[h]⟩
theorem JV{h':Heap}{d0:ag5}{o:Obj}{es ep}(ho:h.get? d0=some o)(hd:o.data= .dict es ep)(hs:vm d0 h h'):∀(n:Nat)(d:PyData)(v:ahb),kd n d=true->Rd h v d->Rd h' v d:=by
 intro n
 induction n with
 |zero=>
  intro d v hk r;obtain⟨as,r⟩:=r;cases r with
  |none=>exact⟨_,.none⟩
  |int i t=>exact⟨_,.int i t⟩
  |str x t=>exact⟨_,.str x t⟩
  |_=>simp[kd]at hk
 |succ n ih=>
  intro d v hk r;cases d with
  |tuple xs=>
   obtain⟨a,o',vs,m,rfl,h1,h2,h3,h4⟩:=r.tup;have ne:a≠d0:=λz=>by subst z;rw[h1]at ho;cases ho;rw[h3]at hd;cases hd
   have key:∀(vs:List ahb)(xs:List PyData),xs.all (kd n)=true->CQ h vs xs->CQ h' vs xs:=by
    intro vs xs hx r
    induction r with
    |nil=>exact .nil
    |cons a _ ihr=>rw[cC,b7]at hx;exact .cons (ih _ _ hx.1 a) (ihr hx.2)
   obtain⟨as,ra⟩:=(key _ _ hk h4).all;exact⟨_,.tuple ((hs.2 a ne).trans h1) h2 h3 ra⟩
  |none=>obtain⟨as,r⟩:=r;cases r;exact⟨_,.none⟩
  |int i=>obtain⟨as,r⟩:=r;cases r;exact⟨_,.int _ _⟩
  |str x=>obtain⟨as,r⟩:=r;cases r;exact⟨_,.str _ _⟩
  |_=>simp[kd]at hk
section
variable {prog:ag9}{w:ahc}{A:ag6}{E:ahb->aha->Prop}{s:aha}
theorem JX:∀(n:Nat)(d:PyData)(v:ahb)(Q:Bool->aha->Prop),kd n d=true->Rd s.heap v d->Q true s->ahn (model prog w) A (eqIsQuiet n v) Q E s:=by
 intro n
 induction n with
 |zero=>
  intro d v Q hk r h;obtain⟨as,r⟩:=r;cases r with
  |none=>rw[eqIsQuiet_byValue 0 rfl];exact ahs h
  |int i t=>rw[eqIsQuiet_byValue 0 rfl];exact ahs h
  |str x t=>rw[eqIsQuiet_byValue 0 rfl];exact ahs h
  |_=>simp[kd]at hk
 |succ n ih=>
  intro d v Q hk r h;cases d with
  |tuple xs=>
   obtain⟨a,o,vs,m,rfl,h1,h2,h3,h4⟩:=r.tup;have hT:s.TypeIs (.ref a) "tuple":=⟨o,h1,h2⟩;unfold eqIsQuiet;refine aho (wpAny_specialOf hT F.slot_tuple_eq.lookup ?_);show ahn _ _ (isInstance (.ref a) (.type "tuple") >>= _) _ _ s;refine aho (wpAny_isInstance hT isSubtype_tuple_tuple ?_);simp only[Bool.not_true,uy,if_false];refine aho (wpAny_seqItems h1 h3 ?_);refine aho ?_;show ahn _ _ (forIn vs _ _) _ _ s;rw[<-Array.forIn_toList];refine wpAny_forIn_list _ (λrest r s'=>r.1=none/\s'=s/\∃ds,ds.all (kd n)=true/\CQ s.heap rest ds) _ ?_ ?_ _ _ ⟨rfl,rfl,xs,hk,h4⟩
   ·rintro v rest r s' ⟨hr,rfl,ds,hds,hall⟩;cases hall with
    |cons ra rr=>rw[cC,b7]at hds;refine aho (ih _ _ _ hds.1 ra ?_);simp only[Bool.not_true,uy,if_false];exact ahs ⟨rfl,rfl,_,hds.2,rr⟩
   ·rintro⟨r1,r2⟩ s' ⟨hr,rfl,_⟩;simp only at hr;subst hr;exact ahs h
  |none=>obtain⟨as,r⟩:=r;cases r;rw[eqIsQuiet_byValue _ rfl];exact ahs h
  |int i=>obtain⟨as,r⟩:=r;cases r;rw[eqIsQuiet_byValue _ rfl];exact ahs h
  |str x=>obtain⟨as,r⟩:=r;cases r;rw[eqIsQuiet_byValue _ rfl];exact ahs h
  |_=>simp[kd]at hk
end
def EM(prog:ag9)(w:ahc):HeapKind prog w KD where
 is:=λh k a=>Rd h (.ref a) k.1
 hash:=λk=>kh w 8 k.1
 draws:=λk=>TF 8 k.1
 room:=λA=>A.units+8 < cLine
 inj:=λ{h a x y} hx hy=>by obtain⟨as,hx⟩:=hx;obtain⟨bs,hy⟩:=hy;exact Bj (SeqAt.Reads.unique _ _ _ _ _ (zu 8 _ x.2.1).1 hx hy)
 keeps:=λ{h h' k a d o es ep} x ho hd hs=>JV ho hd hs 8 _ _ k.2.1 x
 pyHash:=λ{A E s k a Q} hu hk h=>NY 8 _ _ A s Q k.2.1 hk hu h
 eqBool:=λ{A E s x y a b Q} hu hx hy h=>by
  obtain⟨as,hx⟩:=hx;obtain⟨bs,hy⟩:=hy;obtain⟨l1,d1⟩:=zu 8 _ x.2.1;obtain⟨l2,d2⟩:=zu 8 _ y.2.1;refine SeqAt.eqBoolOverData prog w A E s _ _ _ _ as bs Q hx hy l1 l2 ?_ ?_
  ·have:min x.1.depth y.1.depth<=8:=by omega
   have hu':A.units+8 < cLine:=hu;omega
  ·rw[KD.eqv];exact h
 quiet:=λ{A E s k a Q} hk h=>JX 8 _ _ Q k.2.1 hk h
end NK
namespace L2
open PySem PySem.Spec PyProof.Rows
inductive V where
 |cG |bl (b:Bool) |int (i:Int) |str (x:Str) |NZ (b:Array UInt8) |TH (b:UInt64) |ref (a:ag5) |ty (n:String)
 deriving DecidableEq
def RelV:V->ahb->Prop
 |.cG,u=>u=c_
 |.bl b,u=>u=og b
 |.int i,u=>∃t,u=rD i t
 |.str x,u=>∃t,u=oa x t
 |.NZ b,u=>∃t,u=Value.bytes b t
 |.TH b,u=>∃t,u=Value.float b t
 |.ref a,u=>u=bz a
 |.ty n,u=>u=oh n
abbrev Vals:List V->List ahb->Prop:=Paired RelV
variable{xs:List V}{us:List ahb}
theorem Vals.length(r:Vals xs us):xs.length=us.length:=Paired.length r
theorem Vals.get:∀{xs:List V}{us:List ahb}{i:Nat}{x:V},Vals xs us->xs[i]? =some x->∃u,us[i]? =some u/\RelV x u
 |_,_,_,_,.nil,e=>by simp at e
 |_,_,0,_,.cons r _,e=>by simp at e;subst e;exact⟨_,rfl,r⟩
 |_,_,i+1,x,.cons _ t,e=>by obtain⟨u,h1,h2⟩:=Vals.get (i:=i) (x:=x) t (by simpa using e);exact⟨u,by simpa using h1,h2⟩
theorem Vals.set{x:V}{u:ahb}(r:RelV x u):∀{xs:List V}{us:List ahb}(i:Nat),Vals xs us->Vals (xs.set i x) (us.set i u)
 |_,_,_,.nil=> .nil
 |_,_,0,.cons _ t=> .cons r t
 |_,_,i+1,.cons q t=> .cons q (Vals.set r i t)
theorem Vals.append:∀{xs ys:List V}{us ws:List ahb},Vals xs us->Vals ys ws->Vals (xs++ys) (us++ws)
 |_,_,_,_,.nil,s=>s
 |_,_,_,_,.cons r t,s=> .cons r (Vals.append t s)
theorem Vals.take:∀{xs:List V}{us:List ahb}(n:Nat),Vals xs us->Vals (xs.take n) (us.take n)
 |_,_,0,_=> .nil
 |_,_,_+1,.nil=> .nil
 |_,_,n+1,.cons r t=> .cons r (Vals.take n t)
theorem Vals.drop:∀{xs:List V}{us:List ahb}(n:Nat),Vals xs us->Vals (xs.drop n) (us.drop n)
 |_,_,0,r=>r
 |_,_,_+1,.nil=> .nil
 |_,_,n+1,.cons _ t=>Vals.drop n t
def tW:Option V->Option ahb->Prop
 |some v,some u=>RelV v u
 |none,none=>True
 |_,_=>False
variable{κ:Type}
def KV:List (κ×V)->List (κ×ahb)->Prop:=Paired λ(p:κ×V)(q:κ×ahb)=>p.1=q.1/\RelV p.2 q.2
def kV:Key->V
 |.inl i=> .int i
 |.inr x=> .str x
 |.cG=> .cG
inductive HO where
 |dN (kvs:List (NK.KD×V))
  |lst (xs:List V)
  |tup (xs:List V)
  |dK (kvs:List (Key×V)) |dT (kvs:List (List Key×V))
  |set (S:Int->Bool) (n:Nat)
  |ins (C dx:ag5) (fs:List (Str×V))
  |own (x:ag5)
  |xd (fs:List (Str×V))
  |met (f x:ag5)
  |Xi (lo hi:Int)
  |jy (o:Obj) (u:HO)
  |fW (ps:Array ahb)
  |ext (φ:Heap->Prop)
abbrev Hp:=ag5->Option HO
def upd(H:Hp)(a:ag5)(o:HO):Hp:=λb=>if b=a then some o else H b
variable{H:Hp}{a:ag5}{o:HO}
theorem bF:upd H a o a=some o:=by unfold upd;rw[if_pos rfl]
variable{b:ag5}
theorem bj(h:b≠a):upd H a o b=H b:=by unfold upd;rw[if_neg h]
theorem et(h:H a=some o)(h':H b=none):a≠b:=by intro e;subst e;rw[h]at h';cases h'
def xF(h:Heap)(a:ag5):Prop:=∀o,h.get? a=some o->o.dict=none
theorem xF.new(h:Heap)(us:Array ahb):xF (h.push { cls:=.type "tuple",data:=.seq us }) h.objs.size:=λo q=>by rw[dR _ rfl]at q;cases q;rfl
def KA(H:Hp):Nat->V->PyData->Prop
 |_,.cG,.none=>True
 |_,.int i,.int j=>i=j
 |_,.str x,.str y=>x=y
 |n+1,.ref a,.tuple ds=>∃vs,H a=some (.tup vs)/\Paired (KA H n) vs ds
 |_,_,_=>False
section
variable (P:ag9) (w:ahc)
def iC(H:Hp)(h:Heap)(a:ag5):HO->Prop
 |.lst xs=>xs.length<=ahl/\∃(its:List ahb)(n:Nat),Vals xs its/\h.get? a=some { cls:=.type "list",data:=.seq its.toArray n }
 |.tup xs=>xs.length<=ahl/\∃its:List ahb,Vals xs its/\IsTup h a its.toArray/\xF h a
 |.dN kvs=>kvs.length<=ahl/\(a == sysModules)=false/\∃xs:List (NK.KD×ag5×ahb),
   Paired (λ(p:NK.KD×V)(q:NK.KD×ag5×ahb)=>p.1=q.1/\KA H 8 (.ref q.2.1) p.1.1/\RelV p.2 q.2.2) kvs xs/\
   ∃o es ep,h.get? a=some o/\o.ExactDict/\o.data= .dict es ep/\es.toList=xs.map (entryOfKey (NK.EM P w))/\(xs.map (·.1)).Nodup
 |.dK kvs=>kvs.length<=ahl/\(a == sysModules)=false/\∃vs,KV kvs vs/\h.DictOf (rE P w) a vs
 |.dT kvs=>kvs.length<=ahl/\(a == sysModules)=false/\∃xs:List (List Key×ag5×ahb),
   Paired (λ(p:List Key×V)(q:List Key×ag5×ahb)=>p.1=q.1/\H q.2.1=some (.tup (p.1.map kV))/\RelV p.2 q.2.2) kvs xs/\
   ∃o es ep,h.get? a=some o/\o.ExactDict/\o.data= .dict es ep/\es.toList=xs.map (entryOfKey (tupleKind (rE P w)))/\(xs.map (·.1)).Nodup
 |.set S n=>h.SetOf (intKind P w) a S n
 |.ins C dx fs=>H dx=some (.own a)/\fs.length<=1000/\dx≠a/\h.get? a=some (PySem.W.instObj C dx)/\
   ∃mA,h.Ns1 dx mA/\(∀f,tW (fs.lookup f) (mA f))/\PySem.Within mA (fs.map (·.1))
 |.own _=>∃o,h.get? a=some o
 |.xd fs=>∃mA,h.Ns1 a mA/\∀f,tW (fs.lookup f) (mA f)
 |.Xi lo hi=>∃t u v,h.get? a=some { cls:=.type "range",data:=.fields #[.int lo t,.int hi u,.int 1 v] }
 |.jy o u=>h.get? a=some o/\iC H h a u
 |.fW ps=>h.get? a=some { cls:=.none,data:=.fields ps }
 |.met f x=>h.get? a=some (PySem.W.methodObj (.ref f) (.ref x))
 |.ext φ=>φ h/\(∃o,h.get? a=some o)/\∀h1 h2:Heap,φ h1->(∀o,h1.get? a=some o->h2.get? a=some o)->φ h2
def ng(H:Hp)(h:Heap):Prop:=∀a o,H a=some o->iC P w H h a o
end
section
variable {P:ag9}{w:ahc}{H H':Hp}{h h':Heap}{a:ag5}{o:HO}
theorem iC.lt(x:iC P w H h a o):a < h.objs.size:=by
 cases o with
 |lst xs=>obtain⟨_,_,_,_,e⟩:=x;exact bx e
 |tup xs=>obtain⟨_,_,_,p,_⟩:=x;exact p.lt
 |dK kvs=>obtain⟨_,_,_,_,o,_,_,e,_⟩:=x;exact bx e
 |dT kvs=>obtain⟨_,_,_,_,o,_,_,e,_⟩:=x;exact bx e
 |dN kvs=>obtain⟨_,_,_,_,o,_,_,e,_⟩:=x;exact bx e
 |set S n=>obtain⟨o,_,_,_,e,_⟩:=x;exact bx e
 |ins C dx fs=>obtain⟨_,_,_,e,_⟩:=x;exact bx e
 |own y=>obtain⟨_,e⟩:=x;exact bx e
 |xd fs=>obtain⟨_,⟨_,_,_,e,_⟩,_⟩:=x;exact bx e
 |Xi lo hi=>obtain⟨_,_,_,e⟩:=x;exact bx e
 |jy ob u=>obtain⟨e,_⟩:=x;exact bx e
 |fW ps=>exact bx (show h.get? a=some _ from x)
 |met f y=>exact bx (show h.get? a=some _ from x)
 |ext φ=>obtain⟨_,⟨_,e⟩,_⟩:=x;exact bx e
theorem Paired.JY{α β:Type}{F G:α->β->Prop}:∀{l₁:List α}{l₂:List β},Paired F l₁ l₂->(∀a b,F a b->G a b)->Paired G l₁ l₂
 |_,_,.nil,_=> .nil
 |_,_,.cons r t,f=> .cons (f _ _ r) (Paired.JY t f)
theorem KA.stay(ht:∀b xs,H b=some (.tup xs)->H' b=some (.tup xs)):∀(n:Nat)(v:V)(d:PyData),KA H n v d->KA H' n v d:=by
 intro n
 induction n with
 |zero=>intro v d x;cases v<;>cases d<;>first |exact x |exact aa x
 |succ n ih=>
  intro v d x;cases v with
  |ref a=>
   cases d with
   |tuple ds=>obtain⟨vs,e,p⟩:=x;exact⟨vs,ht _ _ e,Paired.JY p λv d=>ih v d⟩
   |_=>exact aa x
  |_=>cases d<;>first |exact x |exact aa x
theorem iC.stay(x:iC P w H h a o)(k:∀b u,(b=a\/H b=some (.own a))->h.get? b=some u->h'.get? b=some u)
  (ho:∀b,H b=some (.own a)->H' b=some (.own a))(ht:∀b xs,H b=some (.tup xs)->H' b=some (.tup xs)):iC P w H' h' a o:=by
 induction o with
 |lst xs=>obtain⟨z,its,n,r,e⟩:=x;exact⟨z,its,n,r,k _ _ (.inl rfl) e⟩
 |tup xs=>obtain⟨z,us,r,⟨ob,e,c⟩,nd⟩:=x;exact⟨z,us,r,⟨ob,k _ _ (.inl rfl) e,c⟩,λo q=>by rw[k _ _ (.inl rfl) e]at q;cases q;exact nd _ e⟩
 |dK kvs=>obtain⟨z,y,vs,r,ob,es,ep,e,c⟩:=x;exact⟨z,y,vs,r,ob,es,ep,k _ _ (.inl rfl) e,c⟩
 |dT kvs=>obtain⟨z,y,xs,r,ob,es,ep,e,c⟩:=x;exact⟨z,y,xs,Paired.JY r λp q z=>⟨z.1,ht _ _ z.2.1,z.2.2⟩,ob,es,ep,k _ _ (.inl rfl) e,c⟩
 |dN kvs=>obtain⟨z,y,xs,r,ob,es,ep,e,c⟩:=x;exact⟨z,y,xs,Paired.JY r λp q z=>⟨z.1,KA.stay ht _ _ _ z.2.1,z.2.2⟩,ob,es,ep,k _ _ (.inl rfl) e,c⟩
 |set S n=>obtain⟨ob,es,ep,t,e,c⟩:=x;exact⟨ob,es,ep,t,k _ _ (.inl rfl) e,c⟩
 |ins C dx fs=>obtain⟨d,z,ne,e,mA,⟨od,es,ep,e2,c⟩,r⟩:=x;exact⟨ho _ d,z,ne,k _ _ (.inl rfl) e,mA,⟨od,es,ep,k _ _ (.inr d) e2,c⟩,r⟩
 |own y=>obtain⟨ob,e⟩:=x;exact⟨ob,k _ _ (.inl rfl) e⟩
 |xd fs=>obtain⟨mA,⟨od,es,ep,e,c⟩,r⟩:=x;exact⟨mA,⟨od,es,ep,k _ _ (.inl rfl) e,c⟩,r⟩
 |Xi lo hi=>obtain⟨t,u,v,e⟩:=x;exact⟨t,u,v,k _ _ (.inl rfl) e⟩
 |jy ob u ih=>obtain⟨e,q⟩:=x;exact⟨k _ _ (.inl rfl) e,ih q⟩
 |fW ps=>have e:h.get? a=some { cls:=.none,data:=.fields ps }:=x;show h'.get? a=some { cls:=.none,data:=.fields ps };exact k a _ (.inl rfl) e
 |met f y=>have e:h.get? a=some (PySem.W.methodObj (.ref f) (.ref y)):=x;show h'.get? a=some (PySem.W.methodObj (.ref f) (.ref y));exact k a _ (.inl rfl) e
 |ext φ=>obtain⟨p,⟨o,e⟩,st⟩:=x;exact⟨st _ _ p λo q=>k _ _ (.inl rfl) q,⟨o,k _ _ (.inl rfl) e⟩,st⟩
theorem ng.lt(x:ng P w H h)(e:H a=some o):a < h.objs.size:=(x a o e).lt
theorem ng.fresh(x:ng P w H h)(e:h.objs.size<=a):H a=none:=by
 cases q:H a with
 |none=>rfl
 |some u=>exact absurd (bY (x.lt q) e) (fX _)
theorem ng.kept(x:ng P w H h)(k:∀b u,h.get? b=some u->h'.get? b=some u):ng P w H h':=λa o e=>
 (x a o e).stay (λb u _ q=>k b u q) (λ_ q=>q) λ_ _ q=>q
theorem ng.laid(x:ng P w H h)(k:∀b u,h.get? b=some u->h'.get? b=some u)(hp:h.objs.size<=a)(new:iC P w (upd H a o) h' a o):ng P w (upd H a o) h':=λb u e=>by
 have hn:=x.fresh hp;by_cases hb:b=a
 ·subst hb;rw[bF]at e;cases e;exact new
 ·rw[bj hb]at e;exact(x b u e).stay (λc v _ q=>k c v q) (λc q=>by rw[bj (et q hn)];exact q) λc xs q=>by rw[bj (et q hn)];exact q
end
def Rd(H:Hp)(a:ag5)(u:HO):Prop:=H a=some u\/∃o,H a=some (.jy o u)
variable{P:ag9}{w:ahc}{h:Heap}
theorem Rd.ok{u:HO}(r:Rd H a u)(x:ng P w H h):iC P w H h a u:=by
 rcases r with r |⟨o,r⟩
 ·exact x a u r
 ·obtain⟨_,q⟩:=x a _ r;exact q
def Xj:Option HO->Prop
 |some (.lst _)=>True
 |some (.dK _)=>True
 |some (.dT _)=>True
 |some (.dN _)=>True
 |some (.set _ _)=>True
 |some (.ins _ _ _)=>True
 |some (.ext _)=>True
 |_=>False
section
variable {P:ag9}{w:ahc}{H:Hp}{h h':Heap}{x e:ag5}{o':HO}
theorem ng.write(ok:ng P w H h)(mu:Xj (H x))(he:e=x\/H e=some (.own x))(k:∀b u,b≠e->h.get? b=some u->h'.get? b=some u)(SN:∃u,h'.get? e=some u)
  (new:iC P w (upd H x o') h' x o'):ng P w (upd H x o') h':=λb u q=>by
 have TJ:∀c y,H c=some (.own y)->c≠x:=λc y r z=>by subst z;rw[r]at mu;exact mu
 have YQ:∀c xs,H c=some (.tup xs)->c≠x:=λc xs r z=>by subst z;rw[r]at mu;exact mu
 by_cases hb:b=x
 ·subst hb;rw[bF]at q;cases q;exact new
 ·rw[bj hb]at q;by_cases N0:b=e
  ·have q':H b=some (.own x):=by
    rcases he with z |z
    ·exact absurd (N0.trans z) hb
    ·rw[N0];exact z
   rw[q]at q';cases q';obtain⟨v,hv⟩:=SN;exact⟨v,by rw[N0];exact hv⟩
  ·refine(ok b u q).stay (λc v hc r=>k c v ?_ r) (λc r=>by rw[bj (TJ c b r)];exact r) λc xs r=>by rw[bj (YQ c xs r)];exact r
   rcases hc with rfl |hc
   ·exact N0
   ·rintro rfl;rcases he with z |z
    ·exact TJ c b hc z
    ·rw[hc]at z;cases z;exact hb rfl
end
structure Un(fs ex:List ag5)(H H':Hp)(h h':Heap):Prop where
 keep:∀b o,h.get? b=some o->H b=none->b∉fs->b∉ex->h'.get? b=some o
 slot:∀b o,h.get? b=some o->H b=none->b∈fs->b∉ex->∃sl,h'.get? b=some { o with slots:=sl }
 free:∀b o,h.get? b=some o->H b=none->b∉ex->H' b=none
 there:∀b o,h.get? b=some o->b∉ex->∃o',h'.get? b=some o'
 tups:∀b xs,H b=some (.tup xs)->H' b=some (.tup xs)
 lx:∀b o u,H b=some (.jy o u)->H' b=some (.jy o u)
 mS:∀b ps,H b=some (.fW ps)->∃more,H' b=some (.fW (ps++more))
section
variable {fs fs' ex ex':List ag5}{H H1 H2:Hp}{h h1 h2 h':Heap}{a x e:ag5}{o:HO}
theorem Un.any(u:Un fs ex H H1 h h1){ob:Obj}(q:h.get? b=some ob)(n:H b=none)(hx:b∉ex):∃sl,h1.get? b=some { ob with slots:=sl }:=by
 by_cases hb:b∈fs
 ·exact u.slot b ob q n hb hx
 ·exact⟨ob.slots,u.keep b ob q n hb hx⟩
theorem Un.kept(k:∀b u,h.get? b=some u->h'.get? b=some u):Un fs ex H H h h' :=
 ⟨λb ob q _ _ _=>k b ob q,λb ob q _ _ _=>⟨ob.slots,k b ob q⟩,λ_ _ _ n _=>n,λb ob q _=>⟨ob,k b ob q⟩,λ_ _ q=>q,λ_ _ _ q=>q,λ_ ps q=>⟨#[],by rw[q];simp⟩⟩
theorem Un.refl:Un fs ex H H h h:=Un.kept λ_ _ q=>q
theorem Un.laid(k:∀b u,h.get? b=some u->h'.get? b=some u)(hp:h.objs.size<=a)(hn:H a=none):Un fs ex H (upd H a o) h h' where
 keep:=λb u q _ _ _=>k b u q
 slot:=λb u q _ _ _=>⟨u.slots,k b u q⟩
 free:=λb u q n _=>by rw[bj (cQ (bY (bx q) hp))];exact n
 there:=λb u q _=>⟨u,k b u q⟩
 tups:=λb xs q=>by rw[bj (et q hn)];exact q
 lx:=λb u xs q=>by rw[bj (et q hn)];exact q
 mS:=λb ps q=>⟨#[],by rw[bj (et q hn),q];simp⟩
theorem Un.write(mu:Xj (H x))(he:e=x\/H e=some (.own x))(k:∀b u,b≠e->h.get? b=some u->h'.get? b=some u)(SN:∃u,h'.get? e=some u):Un fs ex H (upd H x o) h h':=by
 have hx:∀b,H b=none->b≠x:=λb n z=>by subst z;rw[n]at mu;exact mu
 have hb:∀b,H b=none->b≠e:=λb n z=>by
  subst z;rcases he with r |r
  ·exact hx b n r
  ·rw[n]at r;cases r
 have hm:∀b u,H b=some u->¬Xj (some u)->b≠x:=λb u q nm z=>by subst z;rw[q]at mu;exact nm mu
 refine⟨λb u q n _ _=>k b u (hb b n) q,λb u q n _ _=>⟨u.slots,k b u (hb b n) q⟩,λb u q n _=>by rw[bj (hx b n)];exact n,λb u q _=>?_,
  λb xs q=>by rw[bj (hm b _ q λz=>z)];exact q,λb u xs q=>by rw[bj (hm b _ q λz=>z)];exact q,λb ps q=>⟨#[],by rw[bj (hm b _ q λz=>z),q];simp⟩⟩
 by_cases N0:b=e
 ·subst N0;exact SN
 ·exact⟨u,k b u N0 q⟩
end
def Xk(h:Heap)(H:Hp):List ag5:=(nh h.objs.size).filter λa=>(H a).isSome
def vn(h:Heap)(H:Hp):Heap:=PySem.W.hideAll h (Xk h H)
theorem CT(h:Heap)(H:Hp):(vn h H).objs.size=h.objs.size:=PySem.W.hideAll_size _ _
variable{o:Obj}
theorem EN(e:h.get? b=some o)(n:H b=none):(vn h H).get? b=some o :=
 PySem.W.hideAll_get _ e λhm=>by have q:(H b).isSome=true:=(List.mem_filter.mp hm).2;rw[n]at q;simp at q
theorem JZ(e:(vn h H).get? b=some o):h.get? b=some o/\H b=none:=by
 have e':h.get? b=some o:=PySem.W.of_hideAll (Xk h H) e;refine⟨e',?_⟩;cases q:H b with
 |none=>rfl
 |some x=>have hm:b∈Xk h H:=List.mem_filter.mpr ⟨List.mem_range.mpr (bx e'),by simp[q]⟩;have z:(vn h H).get? b=none:=PySem.W.hideAll_none (Xk h H) hm;rw[z]at e;cases e
structure Mod(K:PySem.W.Frag)(mg:Str->Option ahb)(base:Heap):Prop where
 J0:K.In base
 glob:base.Ns ahk mg
 blt:∃mb,base.Ns builtinsNs mb/\∀x:Str,x≠"__name__"->mb x=ahf x
 nolimit:base.NoLimit
structure Cx where
 prog:ag9
 w:ahc
 K:PySem.W.Frag
 mg:Str->Option ahb
 base:Heap
 A:ag6
 N:List Str
 s₀:aha
 H₀:Hp
 env:Env
 outer:List Env
 stack:List Env
 ex:List ag5
 fn:Str->Bool
 calm:Bool
 pn:List (ag5×Obj)
 xe:ahb->aha->Prop
def frs(l:List Env):List ag5:=l.filterMap (·.frame)
abbrev Cx.fs(X:Cx):List ag5:=frs X.outer
def Xl(sc:Scope)(x:Str):Prop:=sc.names.lookup x=some .local\/sc.names.lookup x=some .cell\/sc.names.lookup x=some .free
def Loc(sc:Scope)(x:Str):Prop:=sc.names.lookup x=some .local\/sc.names.lookup x=some .cell
def Look(env:Env)(h:Heap)(m:Str->Option ahb)(x:Str)(u:ahb):Prop :=
 (env.kindOf x=some .local/\m x=some u)\/((env.kindOf x=some .cell\/env.kindOf x=some .free)/\∃c,env.cells.lookup x=some c/\h.IsCell c (some u))
structure Cx.Ok(X:Cx):Prop where
 mod:Mod X.K X.mg X.base
 kind:X.env.scope.kind= .function
 glob:X.env.globals=ahk
 blt:X.env.builtins=builtinsNs
 above:X.s₀.heap.objs.size<=X.env.locals
 inj:∀x y c,X.env.cells.lookup x=some c->X.env.cells.lookup y=some c->x=y
 has:∀x,(X.env.kindOf x=some .cell\/X.env.kindOf x=some .free)->∃c,X.env.cells.lookup x=some c
 SQ:∀x c,X.fn x=true->X.env.cells.lookup x=some c->X.s₀.heap.objs.size<=c
 hd:X.calm=true->X.A.handled=none
 frames:X.A.frames=some X.stack
 stk:X.stack=X.outer\/(X.stack=X.env::X.outer/\X.env.frame=some X.env.locals)
 YR:∀b∈X.ex,b≠X.env.locals/\∀x c,X.env.cells.lookup x=some c->c≠b
 bs:∀b o,X.base.get? b=some o->X.s₀.heap.get? b=some o/\X.H₀ b=none
 EO:X.base.objs.size<=X.s₀.heap.objs.size
 CU:∀b o,X.base.get? b=some o->b∉X.ex
 ER:∀b∈X.ex,b∉X.fs
 mT:X.s₀.heap.FunFrames X.base X.outer
 JD:∀b∈X.fs,X.H₀ b=none
structure Inv(X:Cx)(pins:List (ag5×Obj))(σ:List (Option V))(H:Hp)(s:aha):Prop where
 ok:X.Ok
 os:s.os=X.s₀.os
 bare:AllBare s.gens
 base:Un X.fs X.ex X.H₀ H X.s₀.heap s.heap
 loc:∃m,s.heap.Ns X.env.locals m/\∀(i:Nat)(x:Str)(v:V),X.N[i]? =some x->σ[i]? =some (some v)->Xl X.env.scope x->∃u,RelV v u/\Look X.env s.heap m x u
 cell:∀x c,X.env.cells.lookup x=some c->∃v,s.heap.IsCell c v
 free:H X.env.locals=none
 jz:∀x c,X.env.cells.lookup x=some c->H c=none
 pin:∀p∈X.pn++pins,s.heap.get? p.1=some p.2/\H p.1=none/\p.1≠X.env.locals/\p.1∉X.fs/\∀v,p.2.data≠.cell v
 hok:ng X.prog X.w H s.heap
 len:σ.length=X.N.length
variable{u:ahb}{g':Array GenState}{t' i j:Nat}{d':Drawn}{ch:List ag5}{it:ag5}{x:Str}{N:List Str}{M:Model}{A:ag6}{E:ahb->aha->Prop}{v:V}{Q:Unit->aha->Prop}
section
variable {X:Cx}{pins:List (ag5×Obj)}{σ:List (Option V)}{H H':Hp}{s:aha}{h':Heap}
theorem Cx.Ok.YS(ok:X.Ok)(e:X.base.get? b=some o):b∉X.fs:=λhb=>by have:=(ok.mT.mem hb).1;rw[e]at this;cases this
theorem Inv.bs(I:Inv X pins σ H s):∀b o,X.base.get? b=some o->s.heap.get? b=some o/\H b=none:=λb o e=>
 ⟨I.base.keep b o (I.ok.bs b o e).1 (I.ok.bs b o e).2 (I.ok.YS e) (I.ok.CU b o e),I.base.free b o (I.ok.bs b o e).1 (I.ok.bs b o e).2 (I.ok.CU b o e)⟩
theorem Inv.bk(I:Inv X pins σ H s):∀b o,X.base.get? b=some o->s.heap.get? b=some o:=λb o e=>(I.bs b o e).1
theorem Inv.mod(I:Inv X pins σ H s):Mod X.K X.mg X.base:=I.ok.mod
theorem Inv.pz(I:Inv X pins σ H s):X.K.In s.heap:=I.ok.mod.J0.keeps I.bk
theorem Inv.lt(I:Inv X pins σ H s):X.env.locals < s.heap.objs.size:=let ⟨_,hn,_⟩:=I.loc;hn.lt
theorem Inv.sz(I:Inv X pins σ H s):X.s₀.heap.objs.size<=s.heap.objs.size:=b5 I.ok.above (Bk I.lt)
theorem Inv.YT(I:Inv X pins σ H s)(h:s.heap.objs.size<=a):a∉X.fs:=λhb=>by obtain⟨_,o,ho,_⟩:=I.ok.mT.mem hb;exact absurd (bY (bx ho) (b5 I.sz h)) (fX _)
theorem Inv.J2(I:Inv X pins σ H s):∀x c,X.env.cells.lookup x=some c->c≠X.env.locals:=λx c e z=>by obtain⟨v,o,ho,hd⟩:=I.cell x c e;obtain⟨m,⟨o',es,ep,ho',hd',_⟩,_⟩:=I.loc;rw[z,ho']at ho;cases ho;rw[hd']at hd;cases hd
theorem Inv.mT(I:Inv X pins σ H s):s.heap.FunFrames X.base X.outer:=by
 have all:∀(l:List Env),(∀b∈frs l,b∈X.fs)->X.s₀.heap.FunFrames X.base l->s.heap.FunFrames X.base l:=by
  intro l
  induction l with
  |nil=>intro _ _;trivial
  |cons env r ih=>intro hs hl;obtain⟨hk,⟨L,o,hf,hn,ho,hd⟩,hr⟩:=hl;have hL:L∈X.fs:=hs L (by unfold frs;rw[vo,hf];exact dg);obtain⟨sl,e⟩:=I.base.slot L o ho (I.ok.JD L hL) hL λz=>I.ok.ER L z hL;exact⟨hk,⟨L,_,hf,hn,e,hd⟩,ih (λb hb=>hs b (by unfold frs;rw[vo,hf];exact b8 _ hb)) hr⟩
 exact all X.outer (λ_ hb=>hb) I.ok.mT
theorem Inv.stack(I:Inv X pins σ H s):s.heap.FunFrames X.base X.stack:=by
 rcases I.ok.stk with e |⟨e,hf⟩
 ·rw[e];exact I.mT
 ·rw[e];obtain⟨m,hn,_⟩:=I.loc;refine .cons (by rw[I.ok.kind];decide) hf hn ?_ I.mT;exact Heap.get?_none_of_le (b5 I.ok.EO I.ok.above)
theorem Inv.rZ(I:Inv X pins σ H s):∀b∈frs X.stack,b∈X.env.locals::X.fs:=λb hb=>by
 rcases I.ok.stk with e |⟨e,hf⟩
 ·rw[e]at hb;exact b8 _ hb
 ·rw[e]at hb;unfold frs at hb;rw[vo,hf]at hb;exact hb
theorem Inv.oi(I:Inv X pins σ H s):∀b∈frs X.stack,H b=none:=λb hb=>by
 rcases List.mem_cons.mp (I.rZ b hb)with e |hb
 ·rw[e];exact I.free
 ·obtain⟨_,o,ho,_⟩:=I.ok.mT.mem hb;exact I.base.free b o ho (I.ok.JD b hb) λz=>I.ok.ER b z hb
theorem Inv.step(I:Inv X pins σ H s)
  (hch:∀b∈ch,(b∈X.ex\/X.s₀.heap.objs.size<=b)/\b≠X.env.locals/\(∀x c,X.env.cells.lookup x=some c->c≠b)/\∀p∈X.pn++pins,p.1≠b)
  (keep:∀b o,b≠X.env.locals->b∉X.fs->b∉ch->s.heap.get? b=some o->H b=none->h'.get? b=some o)
  (slot:∀b o,b≠X.env.locals->b∈X.fs->b∉ch->s.heap.get? b=some o->H b=none->∃sl,h'.get? b=some { o with slots:=sl })(free:∀b o,b∉ch->s.heap.get? b=some o->H b=none->H' b=none)
  (there:∀b o,b∉ch->s.heap.get? b=some o->∃o',h'.get? b=some o')
  (tups:∀b xs,H b=some (.tup xs)->H' b=some (.tup xs))(lx:∀b o u,H b=some (.jy o u)->H' b=some (.jy o u))(mS:∀b ps,H b=some (.fW ps)->∃more,H' b=some (.fW (ps++more)))
  (ns:∀m,s.heap.Ns X.env.locals m->h'.Ns X.env.locals m)(hok:ng X.prog X.w H' h')(hg:AllBare g'):
  Inv X pins σ H' { s with heap:=h',gens:=g',drawn:=d',toks:=t' }:=by
 have neL:∀b o,X.s₀.heap.get? b=some o->b≠X.env.locals:=λb o e=>cQ (bY (bx e) I.ok.above);have Xm:∀b o,X.s₀.heap.get? b=some o->b∉X.ex->b∉ch:=λb o e hx hb=>by
  rcases(hch b hb).1 with z |z
  ·exact hx z
  ·exact absurd (bY (bx e) z) (fX _)
 have cellK:∀x c,X.env.cells.lookup x=some c->∀v,s.heap.IsCell c v->h'.IsCell c v:=λx c e v ⟨o,ho,hd⟩=>by
  have N1:c∉ch:=λz=>(hch c z).2.2.1 x c e rfl;by_cases hc:c∈X.fs
  ·obtain⟨sl,q⟩:=slot c o (I.J2 x c e) hc N1 ho (I.jz x c e);exact⟨_,q,hd⟩
  ·exact⟨o,keep c o (I.J2 x c e) hc N1 ho (I.jz x c e),hd⟩
 refine⟨I.ok,I.os,hg,⟨λb o e n hb hx=>?_,λb o e n hb hx=>?_,λb o e n hx=>?_,λb o e hx=>?_,λb xs e=>tups b xs (I.base.tups b xs e),λb o xs e=>lx b o xs (I.base.lx b o xs e),λb ps e=>?_⟩,?_,λx c e=>?_,?_,λx c e=>?_,λp hp=>?_,hok,I.len⟩
 ·exact keep b o (neL b o e) hb (Xm b o e hx) (I.base.keep b o e n hb hx) (I.base.free b o e n hx)
 ·obtain⟨sl,e1⟩:=I.base.slot b o e n hb hx;obtain⟨sl',e2⟩:=slot b _ (neL b o e) hb (Xm b o e hx) e1 (I.base.free b o e n hx);exact⟨sl',e2⟩
 ·obtain⟨o',e1⟩:=I.base.there b o e hx;exact free b o' (Xm b o e hx) e1 (I.base.free b o e n hx)
 ·obtain⟨o',e1⟩:=I.base.there b o e hx;exact there b o' (Xm b o e hx) e1
 ·obtain⟨m1,e1⟩:=I.base.mS b ps e;obtain⟨m2,e2⟩:=mS b _ e1;exact⟨m1++m2,by rw[e2,Array.append_assoc]⟩
 ·obtain⟨m,hn,hl⟩:=I.loc;refine⟨m,ns m hn,λi x v e1 e2 e3=>?_⟩;obtain⟨u,r,l⟩:=hl i x v e1 e2 e3;refine⟨u,r,?_⟩;rcases l with l |⟨k,c,e,z⟩
  ·exact .inl l
  ·exact .inr ⟨k,c,e,cellK x c e _ z⟩
 ·obtain⟨v,z⟩:=I.cell x c e;exact⟨v,cellK x c e v z⟩
 ·obtain⟨m,⟨o,_,_,ho,_⟩,_⟩:=I.loc;exact free _ o (λz=>(hch _ z).2.1 rfl) ho I.free
 ·obtain⟨v,o,ho,hd⟩:=I.cell x c e;exact free c o (λz=>(hch c z).2.2.1 x c e rfl) ho (I.jz x c e)
 ·obtain⟨e,n,ne,nf,d⟩:=I.pin p hp;have N1:p.1∉ch:=λz=>(hch p.1 z).2.2.2 p hp rfl;exact⟨keep p.1 p.2 ne nf N1 e n,free p.1 p.2 N1 e n,ne,nf,d⟩
theorem Inv.un(I:Inv X pins σ H s)(u:Un X.fs [] H H' s.heap h')(hok:ng X.prog X.w H' h'):Inv X pins σ H' { s with heap:=h',toks:=t' }:=by obtain⟨m,⟨o,es,ep,ho,r⟩,_⟩:=id I.loc;obtain⟨sl,hL⟩:=u.any ho I.free (by simp);exact I.step (g':=s.gens) (d':=s.drawn) (ch:=[]) (λ_ z=>nomatch z) (λb o _ hb _ e n=>u.keep b o e n hb (by simp)) (λb o _ hb _ e n=>u.slot b o e n hb (by simp)) (λb o _ e n=>u.free b o e n (by simp)) (λb o _ e=>u.there b o e (by simp)) u.tups u.lx u.mS (λm' hm=>by obtain⟨o',es',YU,ho',r'⟩:=hm;rw[ho]at ho';cases ho';exact⟨_,es',YU,hL,r'⟩) hok I.bare
theorem Inv.call(I:Inv X pins σ H s)(u:Un (frs X.stack) ch H H' s.heap h')(hok:ng X.prog X.w H' h')(hg:AllBare g')
  (hch:∀b∈ch,(b∈X.ex\/X.s₀.heap.objs.size<=b)/\b≠X.env.locals/\(∀x c,X.env.cells.lookup x=some c->c≠b)/\∀p∈X.pn++pins,p.1≠b):
  Inv X pins σ H' { s with heap:=h',gens:=g',drawn:=d',toks:=t' }:=by
 obtain⟨m,⟨o,es,ep,ho,r⟩,_⟩:=id I.loc;obtain⟨sl,hL⟩:=u.any ho I.free λz=>(hch _ z).2.1 rfl;exact I.step (ch:=ch) hch (λb o hL hb hc e n=>u.keep b o e n (λz=>(List.mem_cons.mp (I.rZ b z)).elim hL hb) hc) (λb o _ _ hc e n=>u.any e n hc) (λb o hc e n=>u.free b o e n hc) (λb o hc e=>u.there b o e hc) u.tups u.lx u.mS (λm' hm=>by obtain⟨o',es',YU,ho',r'⟩:=hm;rw[ho]at ho';cases ho';exact⟨_,es',YU,hL,r'⟩) hok hg
theorem Inv.turned(I:Inv X pins σ H s)(k:∀b o,b≠it->s.heap.get? b=some o->h'.get? b=some o)(hn:H it=none)(hL:it≠X.env.locals)
  (h1:it∈X.ex\/X.s₀.heap.objs.size<=it)(h2:∀x c,X.env.cells.lookup x=some c->c≠it)(h3:∀p∈X.pn++pins,p.1≠it):Inv X pins σ H { s with heap:=h',toks:=t' }:=by
 have nit:∀b u,H b=some u->b≠it:=λb u e z=>by rw[z,hn]at e;cases e
 refine I.step (g':=s.gens) (d':=s.drawn) (ch:=[it]) (λb hb=>?_) (λb o _ _ hc e _=>k b o (λz=>hc (by simp[z])) e) (λb o _ _ hc e _=>⟨o.slots,k b o (λz=>hc (by simp[z])) e⟩) (λ_ _ _ _ n=>n)
  (λb o hc e=>⟨o,k b o (λz=>hc (by simp[z])) e⟩) (λ_ _ e=>e) (λ_ _ _ e=>e) (λb ps e=>⟨#[],by rw[e];simp⟩) (λm hm=>?_) (λb u e=>?_) I.bare
 ·have e:b=it:=by simpa using hb
  subst e;exact⟨h1,hL,h2,h3⟩
 ·obtain⟨o,es,ep,ho,r⟩:=hm;exact⟨o,es,ep,k _ o (cR hL) ho,r⟩
 ·refine(I.hok b u e).stay (λc v hc q=>k c v ?_ q) (λ_ q=>q) λ_ _ q=>q;rcases hc with z |z
  ·rw[z];exact nit b u e
  ·exact nit c _ z
theorem Inv.tok(I:Inv X pins σ H s)(t:Nat):Inv X pins σ H { s with toks:=t }:=I.un (h':=s.heap) (t':=t) Un.refl I.hok
theorem Inv.kept(I:Inv X pins σ H s)(k:∀b u,s.heap.get? b=some u->h'.get? b=some u):Inv X pins σ H { s with heap:=h',toks:=t' }:=I.un (Un.kept k) (I.hok.kept k)
theorem Inv.laid{o:HO}(I:Inv X pins σ H s)(k:∀b u,s.heap.get? b=some u->h'.get? b=some u)(hp:s.heap.objs.size<=a)(new:iC X.prog X.w (upd H a o) h' a o):
  Inv X pins σ (upd H a o) { s with heap:=h',toks:=t' }:=I.un (Un.laid k hp (I.hok.fresh hp)) (I.hok.laid k hp new)
theorem Inv.write{x e:ag5}{o:HO}(I:Inv X pins σ H s)(mu:Xj (H x))(he:e=x\/H e=some (.own x))(k:∀b u,b≠e->s.heap.get? b=some u->h'.get? b=some u)(SN:∃u,h'.get? e=some u)
  (new:iC X.prog X.w (upd H x o) h' x o):Inv X pins σ (upd H x o) { s with heap:=h',toks:=t' }:=I.un (Un.write mu he k SN) (I.hok.write mu he k SN new)
theorem Inv.Bl{lB:List (ag5×Obj)}(I:Inv X pins σ H s)(h:∀p∈lB,s.heap.get? p.1=some p.2/\H p.1=none/\p.1≠X.env.locals/\p.1∉X.fs/\∀v,p.2.data≠.cell v):Inv X lB σ H s :=
 ⟨I.ok,I.os,I.bare,I.base,I.loc,I.cell,I.free,I.jz,λp hp=>(List.mem_append.mp hp).elim (λz=>I.pin p (vp _ z)) (h p),I.hok,I.len⟩
theorem r6(hN:N.Nodup)(a:N[i]? =some x)(b:N[j]? =some x):i=j:=by obtain⟨h1,e1⟩:=List.getElem?_eq_some_iff.mp a;obtain⟨h2,e2⟩:=List.getElem?_eq_some_iff.mp b;exact(List.getElem_inj hN).mp (e1.trans e2.symm)
theorem uz(I:Inv X pins σ H s)(hN:X.N.Nodup)(hi:X.N[i]? =some x)(hx:Loc X.env.scope x)(r:RelV v u)
  (h:∀s',Inv X pins (σ.set i (some v)) H s'->(∃a,vm a s.heap s'.heap/\(a=X.env.locals\/X.env.cells.lookup x=some a))->Q () s')(hf:X.fn x=true\/X.env.scope.names.lookup x=some .local:=by first |exact .inl rfl |exact .inr rfl |assumption):ahn M A (storeName X.env x u) Q E s:=by
 obtain⟨m,hn,hl⟩:=id I.loc;have hcls:(X.env.scope.kind == .class||(X.env.scope.kind == .module&&X.env.locals != X.env.globals))=false:=by rw[I.ok.kind];rfl
 have TK:i < σ.length:=by rw[I.len];exact(List.getElem?_eq_some_iff.mp hi).1
 have J2:=I.J2;have tracked:∀{a:ag5}{h':Heap},(∃o,s.heap.get? a=some o/\H a=none)->vm a s.heap h'->ng X.prog X.w H h':=λ{a h'} ha hs b ob e=>by
  obtain⟨_,_,hfree⟩:=ha;refine(I.hok b ob e).stay (λc w' hc q=>(hs.2 c ?_).trans q) (λ_ q=>q) λ_ _ q=>q;rintro rfl;rcases hc with rfl |hc
  ·rw[hfree]at e;cases e
  ·rw[hfree]at hc;cases hc
 rcases hx with hk |hk
 ·refine wpAny_storeName_local hk hn (λh' hn' hs=>?_) hcls;obtain⟨oL,_,_,hoL,_⟩:=id hn;refine h _ ⟨I.ok,I.os,I.bare,⟨λb o e n hb hx=>?_,λb o e n hb hx=>?_,I.base.free,λb o e hx=>?_,I.base.tups,I.base.lx,I.base.mS⟩,⟨_,hn',λj y v' e1 e2 e3=>?_⟩,λy c e=>?_,I.free,I.jz,λp hp=>?_,tracked ⟨oL,hoL,I.free⟩ hs,by simpa using I.len⟩ ⟨_,hs,.inl rfl⟩
  ·exact(hs.2 b (cQ (bY (bx e) I.ok.above))).trans (I.base.keep b o e n hb hx)
  ·obtain⟨sl,e1⟩:=I.base.slot b o e n hb hx;exact⟨sl,(hs.2 b (cQ (bY (bx e) I.ok.above))).trans e1⟩
  ·obtain⟨o',e1⟩:=I.base.there b o e hx;exact⟨o',(hs.2 b (cQ (bY (bx e) I.ok.above))).trans e1⟩
  ·by_cases hj:j=i
   ·subst hj;rw[hi]at e1;cases e1;rw[ni TK]at e2;cases e2;exact⟨u,r,.inl ⟨hk,by simp⟩⟩
   ·rw[iu (cR hj)]at e2;obtain⟨u',r',q⟩:=hl j y v' e1 e2 e3;refine⟨u',r',?_⟩;rcases q with ⟨k,e⟩ |⟨k,c,e,z⟩
    ·refine .inl ⟨k,?_⟩;have:y≠x:=λe=>hj (r6 hN e1 (e ▸ hi));simp[this,e]
    ·exact .inr ⟨k,c,e,z.sameBut hs (J2 y c e)⟩
  ·obtain⟨w',z⟩:=I.cell y c e;exact⟨w',z.sameBut hs (J2 y c e)⟩
  ·obtain⟨e,n,ne,nf,d⟩:=I.pin p hp;exact⟨(hs.2 p.1 ne).trans e,n,ne,nf,d⟩
 ·have hfn:X.fn x=true:=by
   rcases hf with z |z
   ·exact z
   ·rw[z]at hk;cases hk
  obtain⟨c,hc⟩:=I.ok.has x (.inl hk);obtain⟨w',z⟩:=I.cell x c hc;refine wpAny_storeName_cell I.ok.kind hk hc z (λh' hc' hs=>?_);obtain⟨oc,hoc,YV⟩:=id z;refine h { s with heap:=h' } ⟨I.ok,I.os,I.bare,⟨λb o e n hb hx=>?_,λb o e n hb hx=>?_,I.base.free,λb o e hx=>?_,I.base.tups,I.base.lx,I.base.mS⟩,⟨m,hn.sameBut hs (cR (J2 x c hc)),λj y v' e1 e2 e3=>?_⟩,λy c' e=>?_,I.free,I.jz,λp hp=>?_,tracked ⟨oc,hoc,I.jz x c hc⟩ hs,by simpa using I.len⟩ ⟨c,hs,.inr hc⟩
  ·exact(hs.2 b (cQ (bY (bx e) (I.ok.SQ x c hfn hc)))).trans (I.base.keep b o e n hb hx)
  ·obtain⟨sl,e1⟩:=I.base.slot b o e n hb hx;exact⟨sl,(hs.2 b (cQ (bY (bx e) (I.ok.SQ x c hfn hc)))).trans e1⟩
  ·obtain⟨o',e1⟩:=I.base.there b o e hx;exact⟨o',(hs.2 b (cQ (bY (bx e) (I.ok.SQ x c hfn hc)))).trans e1⟩
  ·by_cases hj:j=i
   ·subst hj;rw[hi]at e1;cases e1;rw[ni TK]at e2;cases e2;exact⟨u,r,.inr ⟨.inl hk,c,hc,hc'⟩⟩
   ·rw[iu (cR hj)]at e2;obtain⟨u',r',q⟩:=hl j y v' e1 e2 e3;refine⟨u',r',?_⟩;rcases q with q |⟨k,c',e,z'⟩
    ·exact .inl q
    ·refine .inr ⟨k,c',e,z'.sameBut hs ?_⟩;rintro rfl;exact hj (r6 hN e1 (I.ok.inj _ _ _ e hc ▸ hi))
  ·by_cases hcc:c'=c
   ·subst hcc;exact⟨_,hc'⟩
   ·obtain⟨w2,z2⟩:=I.cell y c' e;exact⟨w2,z2.sameBut hs hcc⟩
  ·obtain⟨e,n,ne,nf,d⟩:=I.pin p hp;refine⟨(hs.2 p.1 ?_).trans e,n,ne,nf,d⟩;intro q;rw[q,hoc]at e;have q':oc=p.2:=Option.some.inj e;exact d w' (by rw[<-q'];exact YV)
theorem lC(I:Inv X pins σ H s)(hN:X.N.Nodup)(hi:X.N[i]? =some x)(hx:Loc X.env.scope x)(r:RelV v u)
  (h:∀s',Inv X pins (σ.set i (some v)) H s'->Q () s')(hf:X.fn x=true\/X.env.scope.names.lookup x=some .local:=by first |exact .inl rfl |exact .inr rfl |assumption):ahn M A (storeName X.env x u) Q E s :=
 uz I hN hi hx r (λs' I' _=>h s' I') hf
theorem Inv.Mz{s':aha}(I:Inv X pins σ H s)(ho:s'.os=s.os)(u:Un (frs X.stack) ch H H' s.heap s'.heap)(hok:ng X.prog X.w H' s'.heap)(hg:AllBare s'.gens)
  (hch:∀b∈ch,(b∈X.ex\/X.s₀.heap.objs.size<=b)/\b≠X.env.locals/\(∀x c,X.env.cells.lookup x=some c->c≠b)/\∀p∈X.pn++pins,p.1≠b):Inv X pins σ H' s':=by
 obtain⟨h',g',d',t',o'⟩:=s';have e:o'=s.os:=ho;subst e;exact I.call (g':=g') (t':=t') (d':=d') u hok hg hch
end
abbrev XK:=ahb->Option ag5->Hp->Prop
abbrev St:=List (Option V)
abbrev VK:=V->Hp->Prop
abbrev TE:=St->Hp->VK->Prop
abbrev TT:=St->Hp->(Bool->Hp->Prop)->Prop
abbrev TA:=St->Hp->(List V->Hp->Prop)->Prop
structure Ends where
 nx:St->Hp->Prop
 rt:VK
 bk:St->Hp->Prop:=λ_ _=>False
 ct:St->Hp->Prop:=λ_ _=>False
abbrev TS:=Ends->St->Hp->Prop
def EP(X:Cx)(pins:List (ag5×Obj))(σ:St)(Q:VK)(u:ahb)(s':aha):Prop:=∃v H',Inv X pins σ H' s'/\RelV v u/\Q v H'
def TP(X:Cx)(pins:List (ag5×Obj))(σ:St)(Q:Bool->Hp->Prop)(b:Bool)(s':aha):Prop:=∃H',Inv X pins σ H' s'/\Q b H'
def AP(X:Cx)(pins:List (ag5×Obj))(σ:St)(Q:List V->Hp->Prop)(us:List ahb)(s':aha):Prop:=∃vs H',Inv X pins σ H' s'/\Vals vs us/\Q vs H'
def SP(X:Cx)(pins:List (ag5×Obj))(D:Ends)(f:Flow)(s':aha):Prop :=
 match f with
 |.next=>∃σ' H',Inv X pins σ' H' s'/\D.nx σ' H'
 |.brk=>∃σ' H',Inv X pins σ' H' s'/\D.bk σ' H'
 |.cont=>∃σ' H',Inv X pins σ' H' s'/\D.ct σ' H'
 |.ret u=>∃v σ' H',Inv X pins σ' H' s'/\RelV v u/\D.rt v H'
def PE(X:Cx)(e:Expr)(t:TE):Prop :=
 ∀(pins:List (ag5×Obj))(s:aha)(σ:St)(H:Hp)(Q:VK),Inv X pins σ H s->t σ H Q->ahn (model X.prog X.w) X.A (eval e X.env) (EP X pins σ Q) X.xe s
def PT(X:Cx)(e:Expr)(t:TT):Prop :=
 ∀(pins:List (ag5×Obj))(s:aha)(σ:St)(H:Hp)(Q:Bool->Hp->Prop),Inv X pins σ H s->t σ H Q->ahn (model X.prog X.w) X.A (isTrue e X.env (eval e X.env)) (TP X pins σ Q) X.xe s
def PW(X:Cx)(e:Expr)(t:TT):Prop :=
 ∀(whole:Sem ahb)(pins:List (ag5×Obj))(s:aha)(σ:St)(H:Hp)(Q:Bool->Hp->Prop),Inv X pins σ H s->t σ H Q->ahn (model X.prog X.w) X.A (isTrue e X.env whole) (TP X pins σ Q) X.xe s
def PA(X:Cx)(es:List Expr)(t:TA):Prop :=
 ∀(pos:Pos)(pins:List (ag5×Obj))(s:aha)(σ:St)(H:Hp)(Q:List V->Hp->Prop),Inv X pins σ H s->t σ H Q->ahn (model X.prog X.w) X.A (spliced (backTo pos (ahm es X.env))) (AP X pins σ Q) X.xe s
def PS(X:Cx)(st:Stmt)(t:TS):Prop :=
 ∀(pins:List (ag5×Obj))(s:aha)(σ:St)(H:Hp)(D:Ends),Inv X pins σ H s->t D σ H->ahn (model X.prog X.w) X.A (exec st X.env) (SP X pins D) X.xe s
def EA(X:Cx)(st:List Stmt)(t:TS):Prop :=
 ∀(pins:List (ag5×Obj))(s:aha)(σ:St)(H:Hp)(D:Ends),Inv X pins σ H s->t D σ H->ahn (model X.prog X.w) X.A (execs st X.env) (SP X pins D) X.xe s
variable{s:aha}
theorem bM{α:Type}{t:Sem α}{Q Q':α->aha->Prop}(h:ahn M A t Q E s)(hQ:∀a s,Q a s->Q' a s):ahn M A t Q' E s:=ahq h hQ λ_ _ x=>x
variable{Q:ahb->aha->Prop}{pos:Pos}{pins:List (ag5×Obj)}{σ:St}{op:CmpOp}{t:TE}{c:Expr}
section
variable {X:Cx}
def YW(i:Nat):TE:=λσ H Q=>∃v,σ[i]? =some (some v)/\Q v H
def tC(v:V):TE:=λ_ H Q=>Q v H
theorem N2(hN:X.N[i]? =some x)(hv:Xl X.env.scope x)(hd:(x == ("__debug__":Str))=false:=by decide)(hcd:(x == ("__classdict__":Str))=false:=by decide):PE X (.Name x pos) (YW i):=by
 intro pins s σ H Q I h;obtain⟨v,e,h⟩:=h;obtain⟨m,hn,hl⟩:=I.loc;obtain⟨u,r,l⟩:=hl i x v hN e hv;have fin:EP X pins σ Q u s:=⟨v,H,I,r,h⟩;rcases l with ⟨hk,hm⟩ |⟨hk,c,hc,hcell⟩
 ·exact wpAny_Name (wpAny_loadName_local I.ok.kind hk hn hm fin) hd
 ·rcases hk with hk |hk
  ·exact wpAny_Name (wpAny_loadName_cell I.ok.kind hk hc hcell fin) hd
  ·exact wpAny_Name (wpAny_loadName_free I.ok.kind hk hc hcell fin hcd) hd
theorem N3{i j pos}:PE X (.Constant (.int i) j pos) (tC (.int i)):=λ_ _ _ H _ I h=>wpAny_Constant_int ⟨.int i,H,I.tok _,⟨_,rfl⟩,h⟩
theorem TL{b j pos}:PE X (.Constant (.bool b) j pos) (tC (.bl b)):=λ_ _ _ H _ I h=>Constant_bool ⟨.bl b,H,I,rfl,h⟩
theorem N4{j pos}:PE X (.Constant .none j pos) (tC .cG):=λ_ _ _ H _ I h=>Constant_none ⟨.cG,H,I,rfl,h⟩
theorem N5{x j pos}:PE X (.Constant (.str x) j pos) (tC (.str x)):=λ_ _ _ H _ I h=>Calls.Constant_str ⟨.str x,H,I.tok _,⟨_,rfl⟩,h⟩
def Gl(X:Cx)(x:Str):Prop:=X.env.kindOf x=some .globalImplicit
theorem mq(I:Inv X pins σ H s)(hg:Gl X x)(hm:X.mg x=some u)(h:Q u s)
  (hd:(x == ("__debug__":Str))=false:=by decide):ahn (model X.prog X.w) X.A (eval (.Name x pos) X.env) Q E s :=
 N6 I.ok.kind hg (Calls.loadGlobal_global (by rw[I.ok.glob];exact I.mod.glob.keeps I.bk) hm h) hd
theorem r9(I:Inv X pins σ H s)(hg:Gl X x)(hm:X.mg x=none)(hv:ahf x=some u)(h:Q u s)
  (hn:x≠"__name__":=by decide)(hd:(x == ("__debug__":Str))=false:=by decide):ahn (model X.prog X.w) X.A (eval (.Name x pos) X.env) Q E s:=by
 obtain⟨mb,h1,h2⟩:=I.mod.blt;exact N6 I.ok.kind hg (Calls.loadGlobal_builtin (by rw[I.ok.glob];exact I.mod.glob.keeps I.bk) hm (by rw[I.ok.blt];exact h1.keeps I.bk) ((h2 x hn).trans hv) h) hd
theorem jA(hg:Gl X x)(hm:X.mg x=some u)(r:RelV v u)(hd:(x == ("__debug__":Str))=false:=by decide):PE X (.Name x pos) (tC v) :=
 λ_ _ _ H _ I h=>mq I hg hm ⟨v,H,I,r,h⟩ hd
theorem J3(hg:Gl X x)(hm:X.mg x=none)(hv:ahf x=some u)(r:RelV v u)(hn:x≠"__name__":=by decide)(hd:(x == ("__debug__":Str))=false:=by decide):PE X (.Name x pos) (tC v) :=
 λ_ _ _ H _ I h=>r9 I hg hm hv ⟨v,H,I,r,h⟩ hn hd
variable {a b:Expr}{ta tb:TE}{pos:Pos}
def PC(X:Cx)(op:CmpOp)(a b:Expr)(t:TE):Prop :=
 ∀(pins:List (ag5×Obj))(s:aha)(σ:St)(H:Hp)(Q:VK),Inv X pins σ H s->t σ H Q->
  ahn (model X.prog X.w) X.A (eval a X.env) (λv s₁=>ahn (model X.prog X.w) X.A (eval b X.env) (λu s₂=>ahn (model X.prog X.w) X.A (ahi op v u) (EP X pins σ Q) X.xe s₂) X.xe s₁) X.xe s
def tB(t:TE):TT:=λσ H Q=>t σ H λx H1=>∃c,x= .bl c/\Q c H1
theorem ES(h:PC X op a b t)(h1:ahd op b=false:=by first |exact ET _ (by decide) (by decide) |rfl):PE X (.Compare a [op] [b] pos) t:=λpins s σ H Q I hw=>wpAny_Compare1 (h pins s σ H Q I hw) h1
theorem EU(h:PC X op a b t)(h1:ahd op b=false:=by first |exact ET _ (by decide) (by decide) |rfl):PT X (.Compare a [op] [b] pos) (tB t):=by intro pins s σ H Q I hw;refine wpAny_isTrue_Compare1 (bM (h pins s σ H _ I hw) λv s1 h1=>bM h1 λu s2 h2=>bM h2 λc s3 ⟨x,H1,I1,r1,q1⟩=>?_) h1;obtain⟨d,rfl,q⟩:=q1;cases r1;exact aht ⟨H1,I1,q⟩
variable {tA Xn:TT}{rest:List Expr}
def YX(t u:TT):TT:=λσ H Q=>t σ H λc H1=>if c=true then u σ H1 Q else Q false H1
def tOr(t u:TT):TT:=λσ H Q=>t σ H λc H1=>if c=true then Q true H1 else u σ H1 Q
def YY(t:TT):TT:=λσ H Q=>t σ H λc H1=>Q (!c) H1
theorem J4(ha:PT X a tA):PW X (.BoolOp .And [a] pos) tA:=by
 intro wh pins s σ H Q I h;refine isTrue_and (bM (ha pins s σ H Q I h) λc s1 e=>?_);cases c with
 |true=>exact isTrue_and_nil e
 |false=>exact e
theorem N7(ha:PT X a tA):PW X (.BoolOp .Or [a] pos) tA:=by
 intro wh pins s σ H Q I h;refine isTrue_or (bM (ha pins s σ H Q I h) λc s1 e=>?_);cases c with
 |false=>exact isTrue_or_nil e
 |true=>exact e
theorem N8(ha:PT X a tA)(hb:PW X (.BoolOp .And (b::rest) pos) Xn):PW X (.BoolOp .And (a::b::rest) pos) (YX tA Xn):=by
 intro wh pins s σ H Q I h;refine isTrue_and (bM (ha pins s σ H _ I h) λc s1 ⟨H1,I1,q1⟩=>?_);cases c with
 |true=>exact hb wh pins s1 σ H1 Q I1 q1
 |false=>exact⟨H1,I1,q1⟩
theorem TM(ha:PT X a tA)(hb:PW X (.BoolOp .Or (b::rest) pos) Xn):PW X (.BoolOp .Or (a::b::rest) pos) (tOr tA Xn):=by
 intro wh pins s σ H Q I h;refine isTrue_or (bM (ha pins s σ H _ I h) λc s1 ⟨H1,I1,q1⟩=>?_);cases c with
 |true=>exact⟨H1,I1,q1⟩
 |false=>exact hb wh pins s1 σ H1 Q I1 q1
theorem N9(ha:PT X a tA):PT X (.UnaryOp .Not a pos) (YY tA):=by intro pins s σ H Q I h;exact isTrue_not (ha pins s σ H (λc H1=>Q (!c) H1) I h)
def TN(ta tb:TE):TE:=λσ H Q=>ta σ H λx H1=>∃c,x= .bl c/\if c=true then tb σ H1 Q else Q (.bl false) H1
def YZ(ta tb:TE):TE:=λσ H Q=>ta σ H λx H1=>∃c,x= .bl c/\if c=true then Q (.bl true) H1 else tb σ H1 Q
def TQ(ta:TE):TE:=λσ H Q=>ta σ H λx H1=>∃c,x= .bl c/\Q (.bl (!c)) H1
theorem N_{op}(h:PE X a t):PE X (.BoolOp op [a] pos) t:=λpins s σ H Q I hw=>BoolOp_one (h pins s σ H Q I hw)
theorem Oc(ha:PE X a ta)(hb:PE X (.BoolOp .And (b::rest) pos) tb):PE X (.BoolOp .And (a::b::rest) pos) (TN ta tb):=by
 intro pins s σ H Q I h;refine BoolOp_and (bM (ha pins s σ H _ I h) λv s1 ⟨x,H1,I1,r1,q1⟩=>?_);obtain⟨c,rfl,q1⟩:=q1;cases r1;refine aht ?_;cases c with
 |true=>exact hb pins s1 σ H1 Q I1 q1
 |false=>exact⟨.bl false,H1,I1,rfl,q1⟩
theorem TR(ha:PE X a ta)(hb:PE X (.BoolOp .Or (b::rest) pos) tb):PE X (.BoolOp .Or (a::b::rest) pos) (YZ ta tb):=by
 intro pins s σ H Q I h;refine BoolOp_or (bM (ha pins s σ H _ I h) λv s1 ⟨x,H1,I1,r1,q1⟩=>?_);obtain⟨c,rfl,q1⟩:=q1;cases r1;refine aht ?_;cases c with
 |false=>exact hb pins s1 σ H1 Q I1 q1
 |true=>exact⟨.bl true,H1,I1,rfl,q1⟩
theorem Oe(ha:PE X a ta):PE X (.UnaryOp .Not a pos) (TQ ta):=by intro pins s σ H Q I h;refine UnaryOp_ (bM (ha pins s σ H _ I h) λv s1 ⟨x,H1,I1,r1,q1⟩=>?_);obtain⟨c,rfl,q1⟩:=q1;cases r1;exact not_of (aht ⟨.bl (!c),H1,I1,rfl,q1⟩)
def tIf(t:TT)(ta tb:TE):TE:=λσ H Q=>t σ H λc H1=>if c=true then ta σ H1 Q else tb σ H1 Q
theorem EV(hc:PT X c tA)(ha:PE X a ta)(hb:PE X b tb):PE X (.IfExp c a b pos) (tIf tA ta tb):=by
 intro pins s σ H Q I h;refine wpAny_IfExp (bM (hc pins s σ H _ I h) λd s1 ⟨H1,I1,q1⟩=>?_);cases d with
 |true=>exact ha pins s1 σ H1 Q I1 q1
 |false=>exact hb pins s1 σ H1 Q I1 q1
end
def nk(K:PySem.W.Frag)(H:Hp)(a:ag5)(xs:List V):Prop :=
 Rd H a (.lst xs)\/
  ∃(o:Obj)(its:Array ahb)(n:Nat),K.lookup a=some o/\o.cls= .type "list"/\o.dict=none/\o.data= .seq its n/\its.size<=ahl/\Vals xs its.toList
def gz(K:PySem.W.Frag)(H:Hp)(a:ag5)(xs:List V):Prop :=
 Rd H a (.tup xs)\/
  ∃(o:Obj)(its:Array ahb)(n:Nat),K.lookup a=some o/\o.cls= .type "tuple"/\o.data= .seq its n/\its.size<=ahl/\Vals xs its.toList
def Y0:ahb->Option V
 |.none=>some .cG
 |.bool b=>some (.bl b)
 |.int i _=>some (.int i)
 |.str x _=>some (.str x)
 |.bytes b _=>some (.NZ b)
 |.float b _=>some (.TH b)
 |.ref a=>some (.ref a)
 |.type n=>some (.ty n)
 |_=>none
theorem RelV.abs{x:V}(r:RelV x u):Y0 u=some x:=by
 cases x with
 |cG=>cases r;rfl
 |bl _=>cases r;rfl
 |int _=>obtain⟨t,rfl⟩:=r;rfl
 |str _=>obtain⟨t,rfl⟩:=r;rfl
 |NZ _=>obtain⟨t,rfl⟩:=r;rfl
 |TH _=>obtain⟨t,rfl⟩:=r;rfl
 |ref _=>cases r;rfl
 |ty _=>cases r;rfl
variable{y:V}
theorem RelV.inj{x:V}(r:RelV x u)(q:RelV y u):x=y:=Option.some.inj (r.abs.symm.trans q.abs)
theorem Vals.inj:∀{xs ys:List V}{us:List ahb},Vals xs us->Vals ys us->xs=ys
 |_,_,_,.nil,.nil=>rfl
 |_,_,_,.cons r t,.cons r' t'=>by rw[r.inj r',Vals.inj t t']
variable{K:PySem.W.Frag}
section
variable {X:Cx}{pins:List (ag5×Obj)}{σ:St}{H:Hp}{s:aha}{a:ag5}{xs ys:List V}
theorem nk.of(h:H a=some (.lst xs)):nk K H a xs:=.inl (.inl h)
theorem gz.of(h:H a=some (.tup xs)):gz K H a xs:=.inl (.inl h)
theorem Inv.list(I:Inv X pins σ H s)(h:nk X.K H a xs):∃its:List ahb,Vals xs its/\PlainL s.heap a its.toArray/\xs.length<=ahl:=by
 rcases h with h |⟨o,its,n,hk,hc,hd,hs,hz,r⟩
 ·obtain⟨z,its,n,r,e⟩:=h.ok I.hok;exact⟨its,r,⟨_,n,e,rfl,rfl,rfl⟩,z⟩
 ·refine⟨its.toList,r,⟨o,n,I.pz a o hk,hc,hd,by simpa using hs⟩,?_⟩;have e:=r.length;simp only[lD]at e;omega
theorem Inv.tuple(I:Inv X pins σ H s)(h:gz X.K H a xs):∃its:List ahb,Vals xs its/\IsTup s.heap a its.toArray/\xs.length<=ahl:=by
 rcases h with h |⟨o,its,n,hk,hc,hs,hz,r⟩
 ·obtain⟨z,its,r,p,_⟩:=h.ok I.hok;exact⟨its,r,p,z⟩
 ·refine⟨its.toList,r,⟨o,I.pz a o hk,hc,n,by simpa using hs⟩,?_⟩;have e:=r.length;simp only[lD]at e;omega
theorem Inv.EW(I:Inv X pins σ H s)(h:nk X.K H a xs)(h':nk X.K H a ys):xs=ys:=by
 obtain⟨its,r,⟨o,n,e,_,_,d⟩,_⟩:=I.list h;obtain⟨its',r',⟨o',n',e',_,_,d'⟩,_⟩:=I.list h';rw[e]at e';cases e';rw[d]at d';injection d' with d1 _;have:its=its':=by simpa using congrArg Array.toList d1
 subst this;exact r.inj r'
theorem Inv.CV(I:Inv X pins σ H s)(h:gz X.K H a xs)(h':gz X.K H a ys):xs=ys:=by
 obtain⟨its,r,⟨o,e,_,n,d⟩,_⟩:=I.tuple h;obtain⟨its',r',⟨o',e',_,n',d'⟩,_⟩:=I.tuple h';rw[e]at e';cases e';rw[d]at d';injection d' with d1 _;have:its=its':=by simpa using congrArg Array.toList d1
 subst this;exact r.inj r'
end
variable{tc:TT}
section
variable {X:Cx}{st:Stmt}{rest:List Stmt}{t u:TS}{e:Expr}{te:TE}{pos:Pos}
def MA:TS:=λD σ H=>D.nx σ H
def Y1(t u:TS):TS:=λD σ H=>t { D with nx:=u D } σ H
theorem J5:EA X [] MA:=λ_ _ σ H _ I h=>wpAny_execs_nil ⟨σ,H,I,h⟩
theorem EY(h1:PS X st t)(h2:EA X rest u):EA X (st::rest) (Y1 t u):=by
 intro pins s σ H D I h;refine wpAny_execs_cons (bM (h1 pins s σ H { D with nx:=u D } I h) λf s1 q=>?_);cases f with
 |next=>obtain⟨σ',H',I',q⟩:=q;exact h2 pins s1 σ' H' D I' q
 |ret v=>exact q
 |brk=>exact q
 |cont=>exact q
theorem J6(h1:PS X st t):EA X [st] t:=by
 intro pins s σ H D I h;refine wpAny_execs_cons (bM (h1 pins s σ H D I h) λf s1 q=>?_);cases f with
 |next=>exact wpAny_execs_nil q
 |ret v=>exact q
 |brk=>exact q
 |cont=>exact q
theorem J7:PS X (.Pass pos) MA:=λ_ _ σ H _ I h=>wpAny_Pass ⟨σ,H,I,h⟩
theorem Inv.quiet(I:Inv X pins σ H s):interactive X.env=false:=by simp[interactive,I.ok.kind]
def TU(te:TE):TS:=λD σ H=>te σ H λ_ H1=>D.nx σ H1
theorem J8(he:PE X e te)(hs:swapsWith e none pos.line X.env=pure false:=by rfl):PS X (.Expr e pos) (TU te):=by intro pins s σ H D I h;exact wpAny_Expr_any (bM (he pins s σ H _ I h) λv s1 ⟨x,H1,I1,r1,q1⟩=>⟨σ,H1,I1,q1⟩) I.quiet hs
def Y2(te:TE):TS:=λD σ H=>te σ H D.rt
theorem Of(he:PE X e te):PS X (.Return (some e) pos) (Y2 te):=by intro pins s σ H D I h;exact wpAny_Return_some (bM (he pins s σ H _ I h) λv s1 ⟨x,H1,I1,r1,q1⟩=>⟨x,σ,H1,I1,r1,q1⟩)
def TV:TS:=λD _ H=>D.rt .cG H
theorem J9:PS X (.Return none pos) TV:=λ_ _ σ H _ I h=>wpAny_Return_none ⟨.cG,σ,H,I,rfl,h⟩
def Y3(c:TT)(t u:TS):TS:=λD σ H=>c σ H λb H1=>if b=true then t D σ H1 else u D σ H1
theorem TX{a b:List Stmt}(hc:PT X c tc)(ha:EA X a t)(hb:EA X b u):PS X (.If c a b pos) (Y3 tc t u):=by
 intro pins s σ H D I h;refine wpAny_If (bM (hc pins s σ H _ I h) λd s1 ⟨H1,I1,q1⟩=>?_);cases d with
 |true=>exact ha pins s1 σ H1 D I1 q1
 |false=>exact hb pins s1 σ H1 D I1 q1
def EZ:TS:=λ_ _ _=>False
theorem E2:PS X st EZ:=λ_ _ _ _ _ _ h=>h.elim
theorem CY{sts:List Stmt}:EA X sts EZ:=λ_ _ _ _ _ _ h=>h.elim
end
abbrev TG:=V->St->Hp->(St->Hp->Prop)->Prop
abbrev MB:=List V->St->Hp->(St->Hp->Prop)->Prop
def PG(X:Cx)(target:Expr)(t:TG):Prop :=
 ∀(pins:List (ag5×Obj))(s:aha)(σ:St)(H:Hp)(v:V)(u:ahb)(Q:St->Hp->Prop),Inv X pins σ H s->RelV v u->t v σ H Q->
  ahn (model X.prog X.w) X.A (assign target X.env u) (λ_ s'=>∃σ' H',Inv X pins σ' H' s'/\Q σ' H') X.xe s
def TY(X:Cx)(ts:List Expr)(t:MB):Prop :=
 ∀(pins:List (ag5×Obj))(s:aha)(σ:St)(H:Hp)(vs:List V)(us:List ahb)(Q:St->Hp->Prop),Inv X pins σ H s->Vals vs us->t vs σ H Q->
  ahn (model X.prog X.w) X.A (assignInOrder ((assignEach ts X.env).map (·.2)) us) (λ_ s'=>∃σ' H',Inv X pins σ' H' s'/\Q σ' H') X.xe s
abbrev J_:=V->V->V->Hp->(Hp->Prop)->Prop
def TZ(X:Cx)(t:J_):Prop :=
 ∀(pins:List (ag5×Obj))(s:aha)(σ:St)(H:Hp)(o i v:V)(ov iv u:ahb)(Q:Hp->Prop),Inv X pins σ H s->RelV o ov->RelV i iv->RelV v u->t o i v H Q->
  ahn (model X.prog X.w) X.A (setItem ov iv u) (λ_ s'=>∃H',Inv X pins σ H' s'/\Q H') X.xe s
abbrev Xo:=V->V->Hp->VK->Prop
def Xp(X:Cx)(op:Operator)(t:Xo):Prop :=
 ∀(pins:List (ag5×Obj))(s:aha)(σ:St)(H:Hp)(x y:V)(v u:ahb)(Q:VK),Inv X pins σ H s->RelV x v->RelV y u->t x y H Q->
  ahn (model X.prog X.w) X.A (inplaceOp op v u) (EP X pins σ Q) X.xe s
variable{e tg:Expr}{es:List Expr}{k n:Nat}{te:TE}{g:TG}{pos':Pos}
section
variable {X:Cx}{pos:Pos}
def xG(i:Nat):TG:=λv σ H Q=>Q (σ.set i (some v)) H
theorem vq(hN:X.N.Nodup)(hi:X.N[i]? =some x)(hx:Loc X.env.scope x)(hf:X.fn x=true\/X.env.scope.names.lookup x=some .local:=by first |exact .inl rfl |exact .inr rfl |assumption):PG X (.Name x pos) (xG i):=by intro pins s σ H v u Q I r h;exact wpAny_assign_Name (lC I hN hi hx r (λs' I'=>⟨_,H,I',h⟩) hf)
def ag:MB:=λvs σ H Q=>vs=[]/\Q σ H
def ae(t:TG)(u:MB):MB:=λvs σ H Q=>∃v r,vs=v::r/\t v σ H λσ' H'=>u r σ' H' Q
theorem Ka:TY X [] ag:=by intro pins s σ H vs us Q I r h;obtain⟨e,h⟩:=h;subst e;cases r;exact assignInOrder_nil ⟨σ,H,I,h⟩
theorem E3{t:TG}{u:MB}(h1:PG X e t)(h2:TY X es u)
  (hs:(assignEach (e::es) X.env).map (·.2)=assign e X.env::(assignEach es X.env).map (·.2):=by rfl):TY X (e::es) (ae t u):=by
 intro pins s σ H vs us Q I r h;obtain⟨v,vr,e1,h⟩:=h;subst e1;cases r with
 |cons r rr=>rw[hs];refine assignInOrder_cons (bM (h1 pins s σ H _ _ _ I r h) λ_ s1 ⟨σ1,H1,I1,q1⟩=>?_);exact h2 pins s1 σ1 H1 _ _ Q I1 rr q1
def bS(K:PySem.W.Frag)(n:Nat)(t:MB):TG:=λv σ H Q=>∃a xs,v= .ref a/\gz K H a xs/\xs.length=n/\t xs σ H Q
theorem Og{t:MB}(hc:X.calm=true)(h:TY X es t)
  (hn:(assignEach es X.env).length=n:=by rfl)(hst:(assignEach es X.env).findIdx? (·.1)=none:=by rfl):PG X (.Tuple es k pos) (bS X.K n t):=by
 intro pins s σ H v u Q I r hw;obtain⟨a,xs,e1,hq,hl,hw⟩:=hw;subst e1;cases r;obtain⟨its,rv,ht,hz⟩:=I.tuple hq;refine assign_Tuple_tuple (I.ok.hd hc) ht (by simp[hn,<-hl,rv.length]) hst λh' hx=>?_;have I1:Inv X pins σ H { s with heap:=h' }:=I.kept (t':=s.toks) λb o e=>hx b o (cQ (bx e)) e;exact h pins _ σ H xs _ Q I1 (by simpa using rv) hw
def Y4(to ti:TE)(t:J_):TG:=λv σ H Q=>to σ H λo H1=>ti σ H1 λi H2=>t o i v H2 λH3=>Q σ H3
theorem Oh{o i:Expr}{to ti:TE}{t:J_}(ho:PE X o to)(hi:PE X i ti)(hs:TZ X t)
  (ha:∀v,assign (.Subscript o i pos) X.env v=(do
   let ov <-holding [v] (eval o X.env)
   let iv <-holding [v,ov] (eval i X.env)
   standAt pos
   holding [v,ov,iv] (setItem ov iv v)
   release [v,ov,iv] []):=by intro _;rfl):PG X (.Subscript o i pos) (Y4 to ti t):=by
 intro pins s σ H v u Q I r h;rw[ha];refine aho (ahp (bM (ho pins s σ H _ I h) λov s1 ⟨x,H1,I1,r1,q1⟩=>?_));refine aho (ahp (bM (hi pins s1 σ H1 _ I1 q1) λiv s2 ⟨y,H2,I2,r2,q2⟩=>?_));refine aho (wpAny_standAt (aho (ahp (bM (hs pins s2 σ H2 x y v ov iv u _ I2 r1 r2 r q2) λ_ s3 ⟨H3,I3,q3⟩=>?_))));exact wpAny_release ⟨σ,H3,I3,q3⟩
def T1(te:TE)(g:TG):TS:=λD σ H=>te σ H λx H1=>g x σ H1 D.nx
theorem E4(he:PE X e te)(hg:PG X tg g)(hs:swapsWithSole [tg] e pos.line X.env=pure false:=by rfl)(hw:swappedStores [tg] e X.env=pure none:=by rfl)
  (h1:(assignEach [tg] X.env).map (·.2)=[assign tg X.env]:=by rfl):PS X (.Assign [tg] e pos) (T1 te g):=by
 intro pins s σ H D I h;refine wpAny_Assign_stores (bM (he pins s σ H _ I h) λv s1 ⟨x,H1,I1,r1,q1⟩=>?_) hs hw;rw[h1];exact bM (hg pins s1 σ H1 x v _ I1 r1 q1) λ_ s2 q=>q
theorem Oi(hN:X.N.Nodup)(hi:X.N[i]? =some x)(hx:Loc X.env.scope x)(he:PE X e te)(hs:swapsWith e (some (.Name x pos')) pos.line X.env=pure false:=by rfl)(hf:X.fn x=true\/X.env.scope.names.lookup x=some .local:=by first |exact .inl rfl |exact .inr rfl |assumption):
  PS X (.Assign [.Name x pos'] e pos) (T1 te (xG i)):=by
 intro pins s σ H D I h;refine wpAny_Assign_Name (bM (he pins s σ H _ I h) λv s1 ⟨y,H1,I1,r1,q1⟩=>?_) hs;exact lC I1 hN hi hx r1 (λs2 I2=>⟨_,H1,I2,q1⟩) hf
def Y5(i:Nat)(te:TE)(ti:Xo):TS:=λD σ H=>∃x,σ[i]? =some (some x)/\te σ H λy H1=>ti x y H1 λz H2=>D.nx (σ.set i (some z)) H2
theorem Oj{op:Operator}{ti:Xo}(hN:X.N.Nodup)(hi:X.N[i]? =some x)(hx:Loc X.env.scope x)(he:PE X e te)(ho:Xp X op ti)(hf:X.fn x=true\/X.env.scope.names.lookup x=some .local:=by first |exact .inl rfl |exact .inr rfl |assumption):
  PS X (.AugAssign (.Name x pos') op e pos) (Y5 i te ti):=by
 intro pins s σ H D I h;obtain⟨v,e1,h⟩:=h;obtain⟨m,hn,hl⟩:=I.loc;have vis:Xl X.env.scope x:=by rcases hx with k |k;exact .inl k;exact .inr (.inl k)
 obtain⟨u,r,l⟩:=hl i x v hi e1 vis;refine wpAny_AugAssign_Name ?_;have go:ahn (model X.prog X.w) X.A (eval e X.env) (λw s₂=>ahn (model X.prog X.w) X.A (inplaceOp op u w) (λr s₃=>ahn (model X.prog X.w) X.A (storeName X.env x r) (λ_=>SP X pins D .next) X.xe s₃) X.xe s₂) X.xe s:=by refine bM (he pins s σ H _ I h) λw s1 ⟨y,H1,I1,r1,q1⟩=>?_;refine bM (ho pins s1 σ H1 v y u w _ I1 r r1 q1) λz s2 ⟨zv,H2,I2,r2,q2⟩=>?_;exact lC I2 hN hi hx r2 (λs3 I3=>⟨_,H2,I3,q2⟩) hf
 rcases l with ⟨hk,hm⟩ |⟨hk,c,hc,hcell⟩
 ·exact wpAny_loadName_local I.ok.kind hk hn hm go
 ·rcases hk with hk |hk
  ·exact wpAny_loadName_cell I.ok.kind hk hc hcell go
  ·rcases hx with k |k
   ·have:X.env.scope.names.lookup x=some .free:=hk;rw[k]at this;cases this
   ·have:X.env.scope.names.lookup x=some .free:=hk;rw[k]at this;cases this
def Xq(f:Int->Int->Int):Xo:=λx y H Q=>∃i j,x= .int i/\y= .int j/\Q (.int (f i j)) H
theorem E5:Xp X .Add (Xq λi j=>i+j):=by intro pins s σ H x y v u Q I r1 r2 h;obtain⟨i,j,e1,e2,q⟩:=h;subst e1;subst e2;obtain⟨t,rfl⟩:=r1;obtain⟨t',rfl⟩:=r2;exact iadd_int ⟨.int _,H,I.tok _,⟨_,rfl⟩,q⟩
theorem E6:Xp X .Sub (Xq λi j=>i - j):=by intro pins s σ H x y v u Q I r1 r2 h;obtain⟨i,j,e1,e2,q⟩:=h;subst e1;subst e2;obtain⟨t,rfl⟩:=r1;obtain⟨t',rfl⟩:=r2;exact isub_int ⟨.int _,H,I.tok _,⟨_,rfl⟩,q⟩
end
variable{body:List Stmt}{tb:TS}
section
variable {X:Cx}{pos:Pos}
def Ol(c:TT)(tb:TS):TS:=λD σ H=>∃W:Nat->St->Hp->Prop,(∃m,W m σ H)/\∀m σ H,W m σ H->
 c σ H λb H1=>if b=true then ∃N:St->Hp->Prop,(∀σ' H',N σ' H'->∃m',m' < m/\W m' σ' H')/\tb { D with nx:=N,ct:=N,bk:=D.nx } σ H1 else D.nx σ H1
theorem E7(hp:PassesOwn (model X.prog X.w) X.A X.env X.xe)(hc:PT X c tc)(hb:EA X body tb):PS X (.While c body [] pos) (Ol tc tb):=by
 intro pins s σ H D I h;obtain⟨W,⟨m0,w0⟩,turn⟩:=h;refine wpAny_While (codeAny_whileLoop (λn s'=>∃σ' H',Inv X pins σ' H' s'/\W n σ' H') ?_ m0 ⟨σ,H,I,w0⟩);rintro n s1 ⟨σ1,H1,I1,w1⟩;refine wpAny_passesOwn hp (bM (hc pins s1 σ1 H1 _ I1 (turn n σ1 H1 w1)) λb s2 ⟨H2,I2,q2⟩=>?_);cases b with
 |true=>
  obtain⟨N,hN,q2⟩:=q2;rw[if_pos rfl];refine wpAny_passesOwn hp (bM (hb pins s2 σ1 H2 _ I2 q2) λf s3 q3=>?_);cases f with
  |next=>obtain⟨σ3,H3,I3,n3⟩:=q3;obtain⟨m',hm,w3⟩:=hN σ3 H3 n3;exact⟨m',hm,σ3,H3,I3,w3⟩
  |cont=>obtain⟨σ3,H3,I3,n3⟩:=q3;obtain⟨m',hm,w3⟩:=hN σ3 H3 n3;exact⟨m',hm,σ3,H3,I3,w3⟩
  |brk=>exact q3
  |ret v=>exact q3
 |false=>rw[if_neg dh];exact wpAny_execs_nil ⟨σ1,H2,I2,q2⟩
end
structure It where
 go:Nat->Hp->Prop
 EB:Nat->Hp->V->Hp->Prop
 stop:Nat->Hp->Prop
def iG(X:Cx)(pins:List (ag5×Obj))(H:Hp)(b:ag5):Prop :=
 H b=none/\b≠X.env.locals/\b∉X.fs/\(b∈X.ex\/X.s₀.heap.objs.size<=b)/\(∀x c,X.env.cells.lookup x=some c->c≠b)/\∀p∈X.pn++pins,p.1≠b
theorem Inv.E8{X:Cx}{H':Hp}(I:Inv X pins σ H s)(hb:s.heap.objs.size<=b)(hn:H' b=none):iG X pins H' b:=by
 refine⟨hn,Bm (bY I.lt hb),I.YT hb,.inr (b5 I.sz hb),λx c e z=>?_,λp hp z=>?_⟩
 ·obtain⟨v,q⟩:=I.cell x c e;exact absurd (bY q.lt (by rw[z];exact hb)) (fX _)
 ·exact absurd (bY (bx (I.pin p hp).1) (by rw[z];exact hb)) (fX _)
structure Turn(P:ag9)(w:ahc)(K:PySem.W.Frag)(tg:Expr)(J:It)(fp:List ag5)(it:ag5)(tn:Nat->Heap->Prop):Prop where
 mem:it∈fp
 obj:∀i h,tn i h->∀b∈fp,∃o,h.get? b=some o/\∀v,o.data≠.cell v
 keep:∀i h h',tn i h->(∀b∈fp,∀o,h.get? b=some o->h'.get? b=some o)->tn i h'
 item:∀(X:Cx),X.prog=P->X.w=w->X.K=K->X.calm=true->∀(i:Nat)(pins:List (ag5×Obj))(s:aha)(σ:St)(H:Hp)(E:ahb->aha->Prop),Inv X pins σ H s->(∀b∈fp,iG X pins H b)->tn i s.heap->J.go i H->
  ahn (model P w) X.A (pyNext (.ref it)) (λr s1=>∃u,r=some u/\
   ahn (model P w) X.A (letOwnedTupleGo tg (.ref it) u) (λ_ s2=>∃x H',Inv X pins σ H' s2/\RelV x u/\J.EB i H x H'/\tn (i+1) s2.heap/\∀b∈fp,H' b=none) E s1) E s
 done:∀(X:Cx),X.prog=P->X.w=w->X.K=K->X.calm=true->∀(i:Nat)(pins:List (ag5×Obj))(s:aha)(σ:St)(H:Hp)(E:ahb->aha->Prop),Inv X pins σ H s->(∀b∈fp,iG X pins H b)->tn i s.heap->J.stop i H->
  ahn (model P w) X.A (pyNext (.ref it)) (λr s1=>r=none/\Inv X pins σ H s1) E s
 self:∀(A:ag6)(i:Nat)(s:aha)(Q:ahb->aha->Prop)(E:ahb->aha->Prop),tn i s.heap->Q (.ref it) s->ahn (model P w) A (pyIter (.ref it)) Q E s
abbrev TI:=St->Hp->(It->Hp->Prop)->Prop
def PIE(X:Cx)(pins:List (ag5×Obj))(σ:St)(tg:Expr)(R:It->Hp->Prop)(itv:ahb)(s2:aha):Prop :=
 ∃(it:ag5)(fp:List ag5)(tn:Nat->Heap->Prop)(J:It)(H':Hp),itv= .ref it/\Inv X pins σ H' s2/\Turn X.prog X.w X.K tg J fp it tn/\tn 0 s2.heap/\(∀b∈fp,iG X pins H' b)/\R J H'
def PI(X:Cx)(tg iter:Expr)(wi:TI):Prop :=
 ∀(pins:List (ag5×Obj))(s:aha)(σ:St)(H:Hp)(R:It->Hp->Prop),Inv X pins σ H s->wi σ H R->
  ahn (model X.prog X.w) X.A (eval iter X.env) (λv s1=>ahn (model X.prog X.w) X.A (pyIter v) (PIE X pins σ tg R) X.xe s1) X.xe s
theorem uA{n:String}{vs:Array ahb}{Q:Unit->aha->Prop}(ho:s.heap.get? it=some o)(hc:o.cls= .type n)(hd:o.data= .fields vs)
    (hn:["enumerate","zip","dict_itemiterator","dict_reverseitemiterator","odict_iterator","itertools.zip_longest","itertools.pairwise"].contains n=false)(hQ:Q () s):ahn M A (letOwnedTupleGo tg (.ref it) u) Q E s:=by
  unfold letOwnedTupleGo;cases tg<;>first
    |exact ahs hQ
    | (cases u<;>first
        |exact ahs hQ
        | (refine aho (wpAny_load ho ?_)
           rw[hc,hd];show ahn M A (if(["enumerate","zip","dict_itemiterator","dict_reverseitemiterator","odict_iterator","itertools.zip_longest","itertools.pairwise"].contains n&&vs[0]? == some (rawInt _))=true then _ else _) Q E s;rw[if_neg (by intro h;rw[hn,Bool.false_and]at h;cases h)];exact ahs hQ))
def Itl(K:PySem.W.Frag)(a:ag5):It :=
 ⟨λi H=>∃xs x,nk K H a xs/\xs[i]? =some x,λi H x H'=>H'=H/\∀xs,nk K H a xs->xs[i]? =some x,λi H=>∃xs,nk K H a xs/\xs.length<=i⟩
def Y6(K:PySem.W.Frag)(a:ag5):It :=
 ⟨λi H=>∃xs x,gz K H a xs/\xs[i]? =some x,λi H x H'=>H'=H/\∀xs,gz K H a xs->xs[i]? =some x,λi H=>∃xs,gz K H a xs/\xs.length<=i⟩
def Kb(lo:Int)(n:Nat):It:=⟨λi _=>i < n,λi H x H'=>H'=H/\x= .int (lo+i),λi _=>n<=i⟩
theorem CZ(a it:ag5):Turn P w K tg (Itl K a) [it] it (λi h=>h.IsListIter it a i) where
 mem:=by simp
 obj:=λi h st b hb=>by
  have e:b=it:=by simpa using hb
  subst e;obtain⟨o,e,c,d⟩:=st;exact⟨o,e,λv z=>by rw[d]at z;cases z⟩
 keep:=λi h h' st k=>st.at λo e=>k it (by simp) o e
 item:=by intro X hP hw hK hc i pins s σ H E I hf st hg;subst hP hw hK;obtain⟨xs,x,hq,hx⟩:=hg;obtain⟨its,rv,p,hz⟩:=I.list hq;obtain⟨u,hu,ru⟩:=rv.get hx;obtain⟨f0,f1,f2,f3,f4,f5⟩:=hf it (by simp);refine wpAny_pyNext_list_item st p.isList (x:=u) (by simpa using hu) λh' st' sb=>?_;have I1:Inv X pins σ H { s with heap:=h' }:=I.turned (t':=s.toks) (λb o hb e=>(sb.2 b hb).trans e) f0 f1 f3 f4 f5;obtain⟨o,e,c,d⟩:=id st';exact⟨u,rfl,uA (s:={ s with heap:=h' }) e c d (by decide) ⟨x,H,I1,ru,⟨rfl,λys hy=>by rw[I.EW hy hq];exact hx⟩,st',λb hb=>(hf b hb).1⟩⟩
 done:=by intro X hP hw hK hc i pins s σ H E I hf st hg;subst hP hw hK;obtain⟨xs,hq,hx⟩:=hg;obtain⟨its,rv,p,hz⟩:=I.list hq;obtain⟨f0,f1,f2,f3,f4,f5⟩:=hf it (by simp);have hl:=rv.length;exact wpAny_pyNext_list_end (I.ok.hd hc) st p.isList (by simp;omega) λh' eb=>⟨rfl,I.turned (t':=s.toks) (λb o hb e=>eb b o hb e) f0 f1 f3 f4 f5⟩
 self:=λ_ _ _ _ _ st h=>wpAny_pyIter_listiter st h
theorem zw(a it:ag5):Turn P w K tg (Y6 K a) [it] it (λi h=>h.IsTupleIter it a i) where
 mem:=by simp
 obj:=λi h st b hb=>by
  have e:b=it:=by simpa using hb
  subst e;obtain⟨o,e,c,d⟩:=st;exact⟨o,e,λv z=>by rw[d]at z;cases z⟩
 keep:=λi h h' st k=>st.at λo e=>k it (by simp) o e
 item:=by intro X hP hw hK hc i pins s σ H E I hf st hg;subst hP hw hK;obtain⟨xs,x,hq,hx⟩:=hg;obtain⟨its,rv,p,hz⟩:=I.tuple hq;obtain⟨u,hu,ru⟩:=rv.get hx;obtain⟨f0,f1,f2,f3,f4,f5⟩:=hf it (by simp);refine wpAny_pyNext_tuple_item st (show s.heap.IsTuple a its.toArray from p) (x:=u) (by simpa using hu) λh' st' sb=>?_;have I1:Inv X pins σ H { s with heap:=h' }:=I.turned (t':=s.toks) (λb o hb e=>(sb.2 b hb).trans e) f0 f1 f3 f4 f5;obtain⟨o,e,c,d⟩:=id st';exact⟨u,rfl,uA (s:={ s with heap:=h' }) e c d (by decide) ⟨x,H,I1,ru,⟨rfl,λys hy=>by rw[I.CV hy hq];exact hx⟩,st',λb hb=>(hf b hb).1⟩⟩
 done:=by intro X hP hw hK hc i pins s σ H E I hf st hg;subst hP hw hK;obtain⟨xs,hq,hx⟩:=hg;obtain⟨its,rv,p,hz⟩:=I.tuple hq;obtain⟨f0,f1,f2,f3,f4,f5⟩:=hf it (by simp);have hl:=rv.length;exact wpAny_pyNext_tuple_end (I.ok.hd hc) st (show s.heap.IsTuple a its.toArray from p) (by simp;omega) λh' eb=>⟨rfl,I.turned (t':=s.toks) (λb o hb e=>eb b o hb e) f0 f1 f3 f4 f5⟩
 self:=λ_ _ _ _ _ st h=>wpAny_pyIter_tupleiter st h
theorem kz(it:ag5)(lo:Int)(n:Nat):Turn P w K tg (Kb lo n) [it] it (λi h=>IsRangeIter h it (lo+(i:Nat) * 1) ((n:Int) - (i:Nat)) 1) where
 mem:=by simp
 obj:=λi h st b hb=>by
  have e:b=it:=by simpa using hb
  subst e;exact⟨_,st,λv z=>by have z':Data.fields _=Data.cell v:=z;cases z'⟩
 keep:=λi h h' st k=>k it (by simp) _ st
 item:=by intro X hP hw hK hc i pins s σ H E I hf st hg;subst hP hw hK;obtain⟨f0,f1,f2,f3,f4,f5⟩:=hf it (by simp);have W:=Walks.range (prog:=X.prog) (w:=X.w) (I.ok.hd hc) it lo 1 n;refine W.item i s _ _ hg st λv h' tk hv st' kk=>?_;obtain⟨t,rfl⟩:=hv;have I1:Inv X pins σ H { s with heap:=h',toks:=tk }:=I.turned (λb o hb e=>kk b o (by simpa using hb) e) f0 f1 f3 f4 f5;refine⟨_,rfl,uA (s:={ s with heap:=h',toks:=tk }) (n:="range_iterator") st' rfl rfl (by decide) ⟨.int (lo+i),H,I1,⟨t,?_⟩,⟨rfl,rfl⟩,st',λb hb=>(hf b hb).1⟩⟩;rw[Int.mul_one]
 done:=by intro X hP hw hK hc i pins s σ H E I hf st hg;subst hP hw hK;obtain⟨f0,f1,f2,f3,f4,f5⟩:=hf it (by simp);exact wpAny_pyNext_range_end (I.ok.hd hc) st (by have:n<=i:=hg;omega) λh' eb=>⟨rfl,I.turned (t':=s.toks) (λb o hb e=>eb b o hb e) f0 f1 f3 f4 f5⟩
 self:=λ_ _ _ _ _ st h=>wpAny_pyIter_rangeiter st h
variable{fp:List ag5}
section
variable {X:Cx}{tg:Expr}
theorem E9{R:It->Hp->Prop}{lo hi:Int}{t u v:Tok}{tk:Nat}(I:Inv X pins σ H s)(h1:-(2 ^ 62)<=lo)(h2:lo < 2 ^ 62)(h3:-(2 ^ 62)<=hi)(h4:hi < 2 ^ 62)
  (q:R (Kb lo (hi - lo).toNat) H):ahn (model X.prog X.w) X.A (pyIter (.ref s.heap.objs.size)) (PIE X pins σ tg R) E { s with heap:=s.heap.push { cls:=.type "range",data:=.fields #[.int lo t,.int hi u,.int 1 v] },toks:=tk }:=by
 refine wpAny_pyIter_range (IsRange.new ..) (small_one h1 h2 h3 h4) ?_;have I1:Inv X pins σ H { s with heap:=s.heap.push { cls:=.type "range",data:=.fields #[.int lo t,.int hi u,.int 1 v] },toks:=tk }:=I.kept λb o e=>bQ _ e;refine⟨(s.heap.push { cls:=.type "range",data:=.fields #[.int lo t,.int hi u,.int 1 v] }).objs.size,[(s.heap.push { cls:=.type "range",data:=.fields #[.int lo t,.int hi u,.int 1 v] }).objs.size],_,_,H,rfl,
  I1.kept (t':=tk) λb o e=>bQ _ e,kz _ lo (hi - lo).toNat,?_,λb hb=>?_,q⟩
 ·have e1:lo+((0:Nat):Int) * 1=lo:=by simp
  have e2:(((hi - lo).toNat:Nat):Int) - ((0:Nat):Int)=Om lo hi 1:=by rw[rangeSize_one];split<;>omega
  show IsRangeIter _ _ (lo+((0:Nat):Int) * 1) ((((hi - lo).toNat:Nat):Int) - ((0:Nat):Int)) 1;rw[e1,e2];exact dR _ rfl
 ·have e:b=(s.heap.push { cls:=.type "range",data:=.fields #[.int lo t,.int hi u,.int 1 v] }).objs.size:=by simpa using hb
  subst e;exact I1.E8 (aA _) (I1.hok.fresh (aA _))
def MC(ta:TA):TI:=λσ H R=>ta σ H λvs H1=>∃j:Int,vs=[.int j]/\-(2 ^ 62)<=j/\j < 2 ^ 62/\R (Kb 0 j.toNat) H1
theorem uB{a:Expr}{ta:TA}{p:Pos}(hg:Gl X "range")(hm:X.mg "range"=none)(ha:PA X [a] ta)(hs:ahm [a] X.env=[(false,eval a X.env)]:=by rfl):PI X tg (.Call (.Name "range" p) [a] [] pos) (MC ta):=by
 intro pins s σ H R I h;refine Call_ (r9 I hg hm boot_range (Bn (bM (ha pos pins s σ H _ I h) λus s1 ⟨vs,H1,I1,r1,q1⟩=>?_) hs rfl));obtain⟨j,e,q1,q2,q⟩:=q1;subst e;cases r1 with
 |cons r rr=>cases rr;obtain⟨t,rfl⟩:=r;exact call_range_1 (E9 I1 (by omega) (by omega) q1 q2 (by simpa using q))
def Y7(wi:TI)(g:TG)(tb:TS):TS:=λD σ H=>wi σ H λJ H1=>∃W:Nat->Nat->St->Hp->Prop,(∃m,W 0 m σ H1)/\∀i m σ H,W i m σ H->
 (J.stop i H/\D.nx σ H)\/(J.go i H/\∃N:St->Hp->Prop,(∀σ' H',N σ' H'->∃m',m' < m/\W (i+1) m' σ' H')/\∀x H',J.EB i H x H'->g x σ H' λσ2 H2=>tb { D with nx:=N,ct:=N,bk:=D.nx } σ2 H2)
def iU(fp:List ag5)(h:Heap):List (ag5×Obj):=fp.filterMap λb=>(h.get? b).map λo=>(b,o)
theorem kG(hb:b∈fp)(e:h.get? b=some o):(b,o)∈iU fp h:=List.mem_filterMap.mpr ⟨b,hb,by rw[e];rfl⟩
theorem C0{p:ag5×Obj}(hp:p∈iU fp h):p.1∈fp/\h.get? p.1=some p.2:=by
 obtain⟨b,hb,e⟩:=List.mem_filterMap.mp hp;cases q:h.get? b with
 |none=>rw[q]at e;cases e
 |some o=>rw[q]at e;have e':(b,o)=p:=Option.some.inj e;subst e';exact⟨hb,q⟩
theorem Inv.pinned(I:Inv X pins σ H s)(hf:∀b∈fp,iG X pins H b)(ho:∀b∈fp,∃o,s.heap.get? b=some o/\∀v,o.data≠.cell v):Inv X (pins++iU fp s.heap) σ H s :=
 I.Bl λp hp=>(List.mem_append.mp hp).elim (λz=>I.pin p (kH _ z)) λz=>by obtain⟨hb,e⟩:=C0 z;obtain⟨f0,f1,f2,_⟩:=hf p.1 hb;obtain⟨o,e',d⟩:=ho p.1 hb;rw[e]at e';cases e';exact⟨e,f0,f1,f2,d⟩
theorem Inv.oj{pl:List (ag5×Obj)}(I:Inv X (pins++pl) σ H s):Inv X pins σ H s:=I.Bl λp hp=>I.pin p (kH _ (vp _ hp))
theorem E_{iter:Expr}{wi:TI}(hp:PassesOwn (model X.prog X.w) X.A X.env X.xe)(hc:X.calm=true)(hi:PI X tg iter wi)(hg:PG X tg g)(hb:EA X body tb)
  (hs:∀x,ahj iter X.env x=pure x:=by intro _;rfl):PS X (.For tg iter body [] pos) (Y7 wi g tb):=by
 intro pins s σ H D I h;refine wpAny_For (bM (hi pins s σ H _ I h) λv s1 h1=>bM h1 λitv s2 h2=>?_) hs;obtain⟨it,fp,tn,J,H2,e,I2,T,st2,f2,W,⟨m0,w0⟩,turn⟩:=h2;subst e
 -- what stays true of the Oo objects through the loop
 have Oq:∀{H':Hp},(∀b∈fp,H' b=none)->∀b∈fp,iG X pins H' b:=λhn b hb=>⟨hn b hb,(f2 b hb).2⟩;refine codeAny_forLoop_any (λn s'=>∃i σ' H',Inv X pins σ' H' s'/\tn i s'.heap/\(∀b∈fp,H' b=none)/\W i n σ' H') ?_ m0 ⟨0,σ,H2,I2,st2,λb hb=>(f2 b hb).1,w0⟩;rintro n s3 ⟨i,σ3,H3,I3,st3,fr3,w3⟩;rcases turn i n σ3 H3 w3 with ⟨stop,qn⟩ |⟨go,N,hN,step⟩
 ·refine wpAny_passesOwn hp (bM (T.done X rfl rfl rfl hc i pins s3 σ3 H3 X.xe I3 (Oq fr3) st3 stop) λr s4 ⟨hr,I4⟩=>?_);subst hr;exact wpAny_execs_nil ⟨σ3,H3,I4,qn⟩
 ·refine wpAny_passesOwn hp (bM (T.item X rfl rfl rfl hc i pins s3 σ3 H3 X.xe I3 (Oq fr3) st3 go) λr s4 ⟨u,hr,h4⟩=>?_);subst hr;refine wpAny_passesOwn hp (bM h4 λ_ s5 ⟨x,H5,I5,r5,y5,Fb,Xr⟩=>?_);have I5':=I5.pinned (Oq Xr) (T.obj _ _ Fb);refine wpAny_passesOwn hp (bM (hg _ s5 σ3 H5 x u _ I5' r5 (step x H5 y5)) λ_ s6 ⟨σ6,H6,I6,q6⟩=>?_);refine wpAny_passesOwn hp (bM (hb _ s6 σ6 H6 _ I6 q6) λf s7 q7=>?_);have again:∀{σ7:St}{H7:Hp},Inv X (pins++iU fp s5.heap) σ7 H7 s7->N σ7 H7->∃m,m < n/\∃i σ' H',Inv X pins σ' H' s7/\tn i s7.heap/\(∀b∈fp,H' b=none)/\W i m σ' H':=λ{σ7 H7} I7 n7=>by obtain⟨m',hm,w7⟩:=hN σ7 H7 n7;refine⟨m',hm,i+1,σ7,H7,I7.oj,T.keep _ _ _ Fb λb hb o e=>(I7.pin (b,o) (kH _ (kH _ (kG hb e)))).1,λb hb=>?_,w7⟩;obtain⟨o,e,d⟩:=T.obj _ _ Fb b hb;exact(I7.pin (b,o) (kH _ (kH _ (kG hb e)))).2.1
  cases f with
  |next=>obtain⟨σ7,H7,I7,n7⟩:=q7;exact again I7 n7
  |cont=>obtain⟨σ7,H7,I7,n7⟩:=q7;exact again I7 n7
  |brk=>obtain⟨σ7,H7,I7,q7⟩:=q7;exact⟨σ7,H7,I7.oj,q7⟩
  |ret v=>obtain⟨x7,σ7,H7,I7,r7,q7⟩:=q7;exact⟨x7,σ7,H7,I7.oj,r7,q7⟩
end
abbrev R2:=V->V->Hp->VK->Prop
def hV(X:Cx)(f:ahb->ahb->Sem ahb)(r:R2):Prop :=
 ∀(pins:List (ag5×Obj))(s:aha)(σ:St)(H:Hp)(x y:V)(v u:ahb)(Q:VK),Inv X pins σ H s->RelV x v->RelV y u->r x y H Q->
  ahn (model X.prog X.w) X.A (f v u) (EP X pins σ Q) X.xe s
def Y8(X:Cx)(f:ahb->Sem ahb)(r:V->Hp->VK->Prop):Prop :=
 ∀(pins:List (ag5×Obj))(s:aha)(σ:St)(H:Hp)(x:V)(v:ahb)(Q:VK),Inv X pins σ H s->RelV x v->r x H Q->
  ahn (model X.prog X.w) X.A (f v) (EP X pins σ Q) X.xe s
def fc(X:Cx)(f:ahb)(r:List V->Hp->VK->Prop):Prop :=
 ∀(pins:List (ag5×Obj))(s:aha)(σ:St)(H:Hp)(xs:List V)(us:List ahb)(Q:VK),Inv X pins σ H s->Vals xs us->r xs H Q->
  ahn (model X.prog X.w) X.A (call f us) (EP X pins σ Q) X.xe s
def Y9(X:Cx)(r:V->Hp->(Bool->Hp->Prop)->Prop):Prop :=
 ∀(pins:List (ag5×Obj))(s:aha)(σ:St)(H:Hp)(x:V)(v:ahb)(Q:Bool->Hp->Prop),Inv X pins σ H s->RelV x v->r x H Q->
  ahn (model X.prog X.w) X.A (truthy v) (TP X pins σ Q) X.xe s
def T3(r:R2)(ta tb:TE):TE:=λσ H Q=>ta σ H λx H1=>tb σ H1 λy H2=>r x y H2 Q
def tUn(r:V->Hp->VK->Prop)(ta:TE):TE:=λσ H Q=>ta σ H λx H1=>r x H1 Q
def rI(C:Int->Int->Prop)(g:Int->Int->V):R2:=λx y H Q=>∃i j,x= .int i/\y= .int j/\C i j/\Q (g i j) H
def MD(g:Int->Int->V):R2:=λx y H Q=>∃i j,x= .int i/\y= .int j/\Q (g i j) H
def rU(g:Int->V):V->Hp->VK->Prop:=λx H Q=>∃i,x= .int i/\Q (g i) H
variable{g:Int->Int->Int}{f:ahb->ahb->Sem ahb}{r:R2}
section
variable {X:Cx}{a b c:Expr}{ta tb tc:TE}{pos:Pos}
theorem Ot(ha:PE X a ta)(hb:PE X b tb){R:V->V->Hp->Prop}(I:Inv X pins σ H s)
  (h:ta σ H λx H1=>tb σ H1 λy H2=>R x y H2)
  (hf:∀v u s2 x y H2,Inv X pins σ H2 s2->RelV x v->RelV y u->R x y H2->ahn (model X.prog X.w) X.A (f v u) Q X.xe s2):
  ahn (model X.prog X.w) X.A (eval a X.env) (λv s₁=>ahn (model X.prog X.w) X.A (eval b X.env) (λu s₂=>ahn (model X.prog X.w) X.A (f v u) Q X.xe s₂) X.xe s₁) X.xe s:=by
 refine bM (ha pins s σ H _ I h) λv s1 ⟨x,H1,I1,r1,q1⟩=>?_;refine bM (hb pins s1 σ H1 _ I1 q1) λu s2 ⟨y,H2,I2,r2,q2⟩=>?_;exact hf v u s2 x y H2 I2 r1 r2 q2
theorem T4{op:Operator}(ho:hV X (ahe op) r)(ha:PE X a ta)(hb:PE X b tb):PE X (.BinOp a op b pos) (T3 r ta tb):=by intro pins s σ H Q I h;exact wpAny_BinOp (Ot ha hb I h λv u s2 x y H2 I2 rx ry q=>ho pins s2 σ H2 x y v u Q I2 rx ry q)
theorem T5{op:UnaryOp}{r:V->Hp->VK->Prop}(ho:Y8 X (unaryOp op) r)(ha:PE X a ta):PE X (.UnaryOp op a pos) (tUn r ta):=by intro pins s σ H Q I h;exact UnaryOp_ (bM (ha pins s σ H _ I h) λv s1 ⟨x,H1,I1,r1,q1⟩=>ho pins s1 σ H1 x v Q I1 r1 q1)
theorem Xs{C:Int->Int->Prop}
  (rule:∀(i j:Int)(t u:Tok)(s:aha)(Q:ahb->aha->Prop)(E:ahb->aha->Prop),C i j->Q (.int (g i j) s.toks) { s with toks:=s.toks+1 }->ahn (model X.prog X.w) X.A (f (.int i t) (.int j u)) Q E s):
  hV X f (rI C λi j=> .int (g i j)):=by
 intro pins s σ H x y v u Q I rx ry h;obtain⟨i,j,rfl,rfl,hc,q⟩:=h;obtain⟨t,rfl⟩:=rx;obtain⟨t',rfl⟩:=ry;exact rule i j t t' s _ _ hc ⟨.int (g i j),H,I.tok _,⟨_,rfl⟩,q⟩
theorem T6
  (rule:∀(i j:Int)(t u:Tok)(s:aha)(Q:ahb->aha->Prop)(E:ahb->aha->Prop),Q (.int (g i j) s.toks) { s with toks:=s.toks+1 }->ahn (model X.prog X.w) X.A (f (.int i t) (.int j u)) Q E s):
  hV X f (MD λi j=> .int (g i j)):=by
 intro pins s σ H x y v u Q I rx ry h;obtain⟨i,j,rfl,rfl,q⟩:=h;obtain⟨t,rfl⟩:=rx;obtain⟨t',rfl⟩:=ry;exact rule i j t t' s _ _ ⟨.int (g i j),H,I.tok _,⟨_,rfl⟩,q⟩
theorem Kc{g:Int->Int->Bool}
  (rule:∀(i j:Int)(t u:Tok)(s:aha)(Q:ahb->aha->Prop)(E:ahb->aha->Prop),Q (.bool (g i j)) s->ahn (model X.prog X.w) X.A (f (.int i t) (.int j u)) Q E s):
  hV X f (MD λi j=> .bl (g i j)):=by
 intro pins s σ H x y v u Q I rx ry h;obtain⟨i,j,rfl,rfl,q⟩:=h;obtain⟨t,rfl⟩:=rx;obtain⟨t',rfl⟩:=ry;exact rule i j t t' s _ _ ⟨.bl (g i j),H,I,rfl,q⟩
def Y_(i j:Int):Prop:=0<=j/\j<=1000000/\i.natAbs < 2 ^ 64
theorem Ou:hV X (ahe .Add) (MD λi j=> .int (i+j)):=T6 λ_ _ _ _ _ _ _ q=>add_int q
theorem Ov:hV X (ahe .Sub) (MD λi j=> .int (i - j)):=T6 λ_ _ _ _ _ _ _ q=>sub_int q
theorem Ow:hV X (ahe .Pow) (rI Y_ λi j=> .int (i ^ j.toNat)):=Xs λ_ _ _ _ _ _ _ hc q=>pow_int_small hc.1 hc.2.1 hc.2.2 q
theorem unI{f:ahb->Sem ahb}{g:Int->Int}
  (rule:∀(i:Int)(t:Tok)(s:aha)(Q:ahb->aha->Prop)(E:ahb->aha->Prop),Q (.int (g i) s.toks) { s with toks:=s.toks+1 }->ahn (model X.prog X.w) X.A (f (.int i t)) Q E s):
  Y8 X f (rU λi=> .int (g i)):=by
 intro pins s σ H x v Q I rx h;obtain⟨i,rfl,q⟩:=h;obtain⟨t,rfl⟩:=rx;exact rule i t s _ _ ⟨.int (g i),H,I.tok _,⟨_,rfl⟩,q⟩
theorem Ox:Y8 X (unaryOp .USub) (rU λi=> .int (-i)):=unI λ_ _ _ _ _ q=>neg_int q
end
variable{op':CmpOp}
section
variable {X:Cx}{a b c:Expr}{ta tb tc:TE}{pos:Pos}
theorem zx{Q:VK}{k k':Bool}(I:Inv X pins σ H s)(q:Q (.bl k) H)(e:k=k'):EP X pins σ Q (.bool k') s:=by subst e;exact⟨.bl k,H,I,rfl,q⟩
theorem T7:hV X (ahi .Lt) (MD λi j=> .bl (decide (i < j))):=Kc λ_ _ _ _ _ _ _ q=>lt_int q
theorem T8:hV X (ahi .LtE) (MD λi j=> .bl (decide (i<=j))):=Kc λ_ _ _ _ _ _ _ q=>le_int q
theorem T9:hV X (ahi .Gt) (MD λi j=> .bl (decide (j < i))):=Kc λ_ _ _ _ _ _ _ q=>gt_int q
theorem T_:hV X (ahi .GtE) (MD λi j=> .bl (decide (j<=i))):=Kc λ_ _ _ _ _ _ _ q=>ge_int q
theorem C3:hV X (ahi .Lt) (λx y H Q=>∃i j,x= .str i/\y= .str j/\Q (.bl (decide (i.cps.toList < j.cps.toList))) H):=by intro pins s σ H x y v u Q I rx ry h;obtain⟨i,j,rfl,rfl,q⟩:=h;obtain⟨t,rfl⟩:=rx;obtain⟨t',rfl⟩:=ry;exact lt_str (zx I q rfl)
theorem C4:hV X (ahi .In) (λx y H Q=>∃i j,x= .str i/\y= .str j/\Q (.bl (!(fY j i 0 j.length 1).isEmpty)) H):=by intro pins s σ H x y v u Q I rx ry h;obtain⟨i,j,rfl,rfl,q⟩:=h;obtain⟨t,rfl⟩:=rx;obtain⟨t',rfl⟩:=ry;exact in_str (zx I q rfl)
theorem Ke:hV X (ahi .IsNot) (λx y H Q=>y= .cG/\Q (.bl (!decide (x= .cG))) H):=by
 intro pins s σ H x y v u Q I rx ry h;obtain⟨rfl,q⟩:=h;cases ry;refine isnot_none_gen (zx I q ?_);cases x<;>first
  |(cases rx;rfl)
  |(obtain⟨t,rfl⟩:=rx;rfl)
theorem Kf(ho:hV X (ahi op) r)(ha:PE X a ta)(hb:PE X b tb)(hm:ahd op b=false):PE X (.Compare a [op] [b] pos) (T3 r ta tb):=by intro pins s σ H Q I h;exact wpAny_Compare1 (Ot ha hb I h λv u s2 x y H2 I2 rx ry q=>ho pins s2 σ H2 x y v u Q I2 rx ry q) hm
def ME(t:TE):TT:=λσ H Q=>t σ H λx H'=>∃k,x= .bl k/\Q k H'
theorem Kg(ho:hV X (ahi op) r)(ha:PE X a ta)(hb:PE X b tb)(hm:ahd op b=false):PT X (.Compare a [op] [b] pos) (ME (T3 r ta tb)):=by
 intro pins s σ H Q I h;refine wpAny_isTrue_Compare1 (bM (ha pins s σ H _ I h) λv s1 ⟨x,H1,I1,r1,q1⟩=>bM (hb pins s1 σ H1 _ I1 q1) λu s2 ⟨y,H2,I2,r2,q2⟩=>
  bM (ho pins s2 σ H2 x y v u _ I2 r1 r2 q2) λc s3 ⟨z,H3,I3,r3,k,e,q3⟩=>?_) hm
 subst e;cases r3;exact aht ⟨H3,I3,q3⟩
def zy(r r':R2)(ta tb tc:TE):TE:=λσ H Q=>ta σ H λx H1=>tb σ H1 λy H2=>r x y H2 λz H3=>∃k,z= .bl k/\
 (if k=true then tc σ H3 λw' H4=>r' y w' H4 Q else Q (.bl false) H3)
theorem Fc{r':R2}(ho:hV X (ahi op) r)(ho':hV X (ahi op') r')(ha:PE X a ta)(hb:PE X b tb)(hc:PE X c tc)
  (hm:lastMarks [op,op'] [b,c]=false:=by with_unfolding_all rfl):PE X (.Compare a [op,op'] [b,c] pos) (zy r r' ta tb tc):=by
 intro pins s σ H Q I h;refine Compare_chain (bM (ha pins s σ H _ I h) λv s1 ⟨x,H1,I1,r1,q1⟩=>chain_link (bM (hb pins s1 σ H1 _ I1 q1) λu s2 ⟨y,H2,I2,r2,q2⟩=>
  bM (ho pins s2 σ H2 x y v u _ I2 r1 r2 q2) λd s3 ⟨z,H3,I3,r3,k,e,q3⟩=>?_)) hm
 subst e;cases r3;refine aht ?_;cases k with
 |false=>exact ite_ff ⟨.bl false,H3,I3,rfl,q3⟩
 |true=>exact ite_tt (chain_last (bM (hc pins s3 σ H3 _ I3 q3) λw' s4 ⟨z',H4,I4,r4,q4⟩=>ho' pins s4 σ H4 y z' u w' Q I4 r2 r4 q4))
theorem Fd{r':R2}(ho:hV X (ahi op) r)(ho':hV X (ahi op') r')(ha:PE X a ta)(hb:PE X b tb)(hc:PE X c tc)
  (hm:lastMarks [op,op'] [b,c]=false:=by with_unfolding_all rfl):PT X (.Compare a [op,op'] [b,c] pos) (ME (zy r r' ta tb tc)):=by
 intro pins s σ H Q I h;refine isTrue_chain (bM (ha pins s σ H _ I h) λv s1 ⟨x,H1,I1,r1,q1⟩=>test_link (bM (hb pins s1 σ H1 _ I1 q1) λu s2 ⟨y,H2,I2,r2,q2⟩=>
  bM (ho pins s2 σ H2 x y v u _ I2 r1 r2 q2) λd s3 ⟨z,H3,I3,r3,k,e,q3⟩=>?_)) hm
 subst e;cases r3;refine aht ?_;cases k with
 |false=>obtain⟨k',e',q'⟩:=q3;cases e';exact ite_ff ⟨H3,I3,q'⟩
 |true=>refine ite_tt (test_last (bM (hc pins s3 σ H3 _ I3 q3) λw' s4 ⟨z',H4,I4,r4,q4⟩=>bM (ho' pins s4 σ H4 y z' u w' _ I4 r2 r4 q4) λd' s5 ⟨z2,H5,I5,r5,k2,e2,q5⟩=>?_));subst e2;cases r5;exact aht ⟨H5,I5,q5⟩
def Ua(K:PySem.W.Frag)(x:V)(H:Hp)(k:Bool):Prop :=
 match x with
 |.cG=>k=false
 |.bl b=>k=b
 |.int i=>k=(i != 0)
 |.str y=>y.length<=ahl/\k=((y.length:Int) != 0)
 |.NZ y=>y.size<=ahl/\k=((y.size:Int) != 0)
 |.ref p=>(∃xs,nk K H p xs/\k= !xs.isEmpty)\/(∃xs,gz K H p xs/\k= !xs.isEmpty)\/∃kvs,H p=some (.dK kvs)/\k= !kvs.isEmpty
 |_=>False
theorem zz{kvs:List (κ×V)}{vs:List (κ×ahb)}(r:KV kvs vs):(!vs.isEmpty)= !kvs.isEmpty:=by cases r<;>rfl
theorem r_{its:List ahb}(r:Vals xs its):(!its.toArray.isEmpty)= !xs.isEmpty:=by cases r<;>simp
theorem nq:(ahl:Nat) < 2 ^ 63:=by rw[sizeLine_eq];decide
theorem Oy:Y9 X (λx H Q=>∃k,Ua X.K x H k/\Q k H):=by
 intro pins s σ H x v Q I rx h;obtain⟨k,e,q⟩:=h;have hl:=nq;have hs:ahl=16777216:=sizeLine_eq;cases x with
 |cG=>cases rx;have e':k=false:=e;subst e';exact truthy_none ⟨H,I,q⟩
 |bl b=>cases rx;have e':k=b:=e;subst e';exact aht ⟨H,I,q⟩
 |int i=>obtain⟨t,rfl⟩:=rx;have e':k=(i != 0):=e;subst e';exact PySem.P.truthy_int ⟨H,I,q⟩
 |str y=>obtain⟨t,rfl⟩:=rx;obtain⟨hy,e'⟩:y.length<=ahl/\k=((y.length:Int) != 0):=e;subst e';exact PySem.P.truthy_str (by omega) ⟨H,I.tok _,q⟩
 |NZ y=>obtain⟨t,rfl⟩:=rx;obtain⟨hy,e'⟩:y.size<=ahl/\k=((y.size:Int) != 0):=e;subst e';exact PySem.W.truthy_bytes (by omega) ⟨H,I.tok _,q⟩
 |ref p=>
  cases rx;have e':(∃xs,nk X.K H p xs/\k= !xs.isEmpty)\/(∃xs,gz X.K H p xs/\k= !xs.isEmpty)\/∃kvs,H p=some (.dK kvs)/\k= !kvs.isEmpty:=e;rcases e' with ⟨xs,hx,e'⟩ |⟨xs,hx,e'⟩ |⟨kvs,hx,e'⟩
  ·subst e';obtain⟨its,r,pl,hz⟩:=I.list hx;have hlen:=r.length;exact wpAny_truthy_list pl.isList (by simp only[a8];omega) ⟨H,I.tok _,by rw[r_ r];exact q⟩
  ·subst e';obtain⟨its,r,pl,hz⟩:=I.tuple hx;have hlen:=r.length;exact truthy_tuple pl (by simp only[a8];omega) ⟨H,I.tok _,by rw[r_ r];exact q⟩
  ·subst e';obtain⟨hz,hS,vs,r,m⟩:kvs.length<=ahl/\(p == sysModules)=false/\∃vs,KV kvs vs/\s.heap.DictOf (rE X.prog X.w) p vs:=I.hok p _ hx;have hlen:kvs.length=vs.length:=Paired.length r;exact wpAny_truthy_dict hS m (by omega) ⟨H,I.tok _,by rw[zz r];exact q⟩
 |_=>exact(show False from e).elim
theorem Fe(ha:PE X a ta)(he:∀whole,isTrue a X.env whole=(do let v <-whole;standAt a.pos;holding [v] (truthy v))):
  PT X a (λσ H Q=>ta σ H λx H'=>∃k,Ua X.K x H' k/\Q k H'):=by
 intro pins s σ H Q I h;exact isTrue_plain (bM (ha pins s σ H _ I h) λv s1 ⟨x,H1,I1,r1,q1⟩=>Oy pins s1 σ H1 x v Q I1 r1 q1) (he _)
theorem zE:hV X (ahe .Add) (λx y H Q=>∃i j,x= .str i/\y= .str j/\i.length+j.length<=ahl/\Q (.str (i++j)) H):=by intro pins s σ H x y v u Q I rx ry h;obtain⟨i,j,rfl,rfl,hz,q⟩:=h;obtain⟨t,rfl⟩:=rx;obtain⟨t',rfl⟩:=ry;exact add_str (λt' tk=>⟨.str (i++j),H,I.tok _,⟨_,rfl⟩,q⟩) hz
theorem vals1{x:V}(r:Vals [x] us):∃u,us=[u]/\RelV x u:=by
 cases r with
 |cons r1 r2=>cases r2;exact⟨_,rfl,r1⟩
theorem vals2{x:V}(r:Vals [x,y] us):∃u w',us=[u,w']/\RelV x u/\RelV y w':=by
 cases r with
 |cons r1 r2=>
  cases r2 with
  |cons r3 r4=>cases r4;exact⟨_,_,rfl,r1,r3⟩
theorem Ff:fc X (.builtin "abs") (λxs H Q=>∃i,xs=[.int i]/\Q (.int (if i < 0 then -i else i)) H):=by intro pins s σ H xs us Q I r h;obtain⟨i,rfl,q⟩:=h;obtain⟨u,rfl,t,rfl⟩:=vals1 r;exact call_abs_int λu tk=>⟨.int (if i < 0 then -i else i),H,I.tok _,⟨_,rfl⟩,q⟩
theorem C5(hc:X.calm=true):fc X (.builtin "max") (λxs H Q=>∃i j,xs=[.int i,.int j]/\Q (.int (if j > i then j else i)) H):=by
 intro pins s σ H xs us Q I r h;obtain⟨i,j,rfl,q⟩:=h;obtain⟨u,w',rfl,⟨t,rfl⟩,⟨t',rfl⟩⟩:=vals2 r;refine max_two_ints (I.ok.hd hc) λh' tk k=>⟨_,H,I.kept k,?_,q⟩;by_cases hj:j > i
 ·rw[if_pos hj,if_pos hj];exact⟨_,rfl⟩
 ·rw[if_neg hj,if_neg hj];exact⟨_,rfl⟩
theorem C6:fc X (.type "int") (λxs H Q=>(∃i,xs=[.int i]/\Q (.int i) H)\/∃k,xs=[.bl k]/\Q (.int (if k then 1 else 0)) H):=by
 intro pins s σ H xs us Q I r h;rcases h with ⟨i,rfl,q⟩ |⟨k,rfl,q⟩
 ·obtain⟨u,rfl,t,rfl⟩:=vals1 r;exact call_int_int ⟨.int i,H,I,⟨_,rfl⟩,q⟩
 ·obtain⟨u,rfl,r1⟩:=vals1 r;cases r1;exact call_int_bool ⟨.int (if k then 1 else 0),H,I.tok _,⟨_,rfl⟩,q⟩
theorem vt:fc X (.type "str") (λxs H Q=>∃i,xs=[.int i]/\i.natAbs.log2 < 1920/\Q (.str (toString i)) H):=by intro pins s σ H xs us Q I r h;obtain⟨i,rfl,hz,q⟩:=h;obtain⟨u,rfl,t,rfl⟩:=vals1 r;exact PySem.P.str_of_int hz ⟨.str _,H,I.tok _,⟨_,rfl⟩,q⟩
theorem Fg:fc X (.builtin "ord") (λxs H Q=>∃x,xs=[.str x]/\x.length=1/\Q (.int (x.cps.getD 0 0:Nat)) H):=by intro pins s σ H xs us Q I r h;obtain⟨x,rfl,hz,q⟩:=h;obtain⟨u,rfl,t,rfl⟩:=vals1 r;exact ord_of_one hz ⟨.int _,H,I.tok _,⟨_,rfl⟩,q⟩
end
structure zF(h:Heap)(x dx C:ag5)(mA:Str->Option ahb):Prop where
 obj:h.get? x=some (PySem.W.instObj C dx)
 ns:h.Ns1 dx mA
 ne:dx≠x
variable{dx:ag5}{mA:Str->Option ahb}
theorem C7(n:h.Ns1 dx mA):∃od,h.get? dx=some od/\∀name,PySem.W.lookIn name od=some (mA name):=by
 obtain⟨o,es,ep,ho,hd,hk,_,hm⟩:=n;refine⟨o,ho,λname=>?_⟩;have e:=hm name;unfold nsFind findBy at e;rw[<-Array.find?_toList]at e;unfold PySem.W.lookIn;rw[hd];dsimp only;split
 ·rename_i y q;rw[q]at e;exact congrArg some e
 ·rename_i q;rw[q]at e;have a:es.toList.any (·.refKey)=false:=by rw[List.any_eq_false];intro y hy;obtain⟨z,t,hkey⟩:=hk y (Array.mem_toList_iff.mp hy);simp[DictEntry.refKey,hkey]
  have a':¬es.toList.any (·.refKey)=true:=by rw[a];exact dh
  rw[if_neg a'];exact congrArg some e
variable{C:ag5}
theorem zF.look{x:ag5}(I:zF h x dx C mA):∃od,PySem.W.InstAt h x (PySem.W.instObj C dx) C (some od)/\∀name,PySem.W.lookIn name od=some (mA name) :=
 let ⟨od,ho,hl⟩:=C7 I.ns
 ⟨od,⟨I.obj,rfl,rfl,ho⟩,hl⟩
variable{kw:List (Str×ahb)}
section
variable {prog:ag9}{w:ahc}{A:ag6}{E:ahb->aha->Prop}{s:aha}{K:PySem.W.Frag}{x dx C f:ag5}{mA:Str->Option ahb}{name:Str}{v:ahb}
theorem get_map{expr:Bool}(X:K.In s.heap)(I:zF s.heap x dx C mA)(hg:PySem.W.plainGet K C name=true)(hh:PySem.W.hasDictIn K C=true)
  (ha:PySem.W.findIn K (.ref C) name=some none)(hv:mA name=some v)(hv':PySem.W.handedIn v=true)(h:Q v { s with toks:=s.toks+1 }):
  ahn (model prog w) A (getAttr (.ref x) name expr) Q E s:=by
 obtain⟨od,J,hl⟩:=I.look;exact PySem.W.get_value X J (PySem.W.plainGet_of hg).1 (PySem.W.findObj_own hh ha rfl (by rw[hl,hv])) hv' h
theorem Fh{pl:Sem Bool}{Q:ahb×List ahb->aha->Prop}(X:K.In s.heap)(I:zF s.heap x dx C mA)(hg:PySem.W.plainGet K C name=true)
  (hf:PySem.W.findIn K (.ref C) name=some (some (.ref f)))(ht:PySem.W.isFn K (.ref f)=true)(hv:mA name=none)(h:Q (.ref f,[.ref x]) s):
  ahn (model prog w) A (getMethod (.ref x) name pl) Q E s:=by
 obtain⟨od,J,hl⟩:=I.look;exact PySem.W.method_fn X J (PySem.W.plainGet_of hg).1 (PySem.W.plainGet_of hg).2 hf (beq_iff_eq.mp ht) (by show(PySem.W.lookIn name od).map (·.isSome)=some false;rw[hl,hv];rfl) h
theorem Kh{ns:List Str}{Q:Unit->aha->Prop}(X:K.In s.heap)(I:zF s.heap x dx C mA)
  (hs:PySem.W.findIn K (.ref C) "__setattr__"=some (some (.builtin "object.__setattr__")))(hp:PySem.W.plainOver K C=true)(ht:PySem.W.takerIn K C name=some none)(hh:PySem.W.hasDictIn K C=true)
  (hw:PySem.Within mA ns)(hsz:ns.length<=ahl)
  (h:∀h',zF h' x dx C (λy=>if y=name then some v else mA y)->vm dx s.heap h'->Q () { s with heap:=h',toks:=s.toks+2 }):
  ahn (model prog w) A (setAttr (.ref x) name v) Q E s:=by
 obtain⟨od,J,hl⟩:=I.look;refine PySem.W.set_plain X J hs (PySem.W.osa_open (s:={ s with toks:=s.toks+1 }) (r:=none) X J hp ht λb=>?_);obtain⟨cd,hc,hd'⟩:=PySem.W.any_some hh;have hx:s.heap.get? x=some ⟨.ref C,some dx,.plain,#[]⟩:=I.obj;refine aho (ahs (aho (aho (wpAny_loadPart hx (aho (PySem.W.Looks.here (s:={ s with toks:=s.toks+1 }) (PySem.W.looks_clsIn X hc) ?_))))));rw[hd'];refine ahs (a:=some dx) (aho (ahs (aho ?_)));refine wpAny_nsSet1 (s:={ s with toks:=s.toks+1 }) I.ns λh' hn2 hs2=>?_;obtain⟨oD,esD,epD,hoD,hdD,hcD⟩:=hn2.count (PySem.Within.cons name v hw);refine aho (wpAny_lookBehind hoD (by rw[hdD];exact pastItsLine_dict (b5 hcD (by rw[iV];omega))) ?_);exact ahs (h _ ⟨(hs2.2 _ (cR I.ne)).trans I.obj,hn2,I.ne⟩ hs2)
theorem Fi{R:Result->aha->Prop}{vs:List ahb}(X:K.In s.heap)(hm:PySem.W.makesIn K C=true)
  (hi:PySem.W.findIn K (.ref C) "__init__"=some (some (.ref f)))(hf:PySem.W.typeIn K (.ref f)=some (.type "function"))
  (h:ahg (model prog w) (A.under (.builtin "type.__call__" ⟨.ref C::vs,kw⟩)) (.call (.ref f) ⟨.ref (s.heap.objs.size+1)::vs,kw⟩) (PySem.W.InitBack (s.heap.objs.size+1) R)
   { s with heap:=(s.heap.push PySem.W.emptyDict).push (PySem.W.instObj C s.heap.objs.size) }):
  ahg (model prog w) A (.call (.ref C) ⟨vs,kw⟩) R s:=by
 obtain⟨hh,g,d,t,os⟩:=s;exact PySem.W.make_core (PySem.W.makes_of X hm) (PySem.W.looks_findIn X hi) (λself=>PySem.W.bind_fn X self hf) (.inl rfl) h
end
def jQ(f:Str)(v:V):List (Str×V)->List (Str×V)
 |[]=>[(f,v)]
 |(g,x)::r=>if g=f then(g,v)::r else(g,x)::jQ f v r
theorem qp(f g:Str)(v:V):∀fs:List (Str×V),(jQ f v fs).lookup g=if g=f then some v else fs.lookup g
 |[]=>by
  show nr g [(f,v)]=_;by_cases h:g=f
  ·have hb:(g == f)=true:=beq_iff_eq.mpr h;simp only[nr,hb,if_pos h]
  ·have hb:(g == f)=false:=beq_eq_false_iff_ne.mpr h;simp only[nr,hb,if_neg h]
 |(k,x)::r=>by
  have ih:=qp f g v r;rw[show jQ f v ((k,x)::r)=(if k=f then(k,v)::r else(k,x)::jQ f v r) from rfl];by_cases hk:k=f
  ·rw[if_pos hk];by_cases h:g=k
   ·have hb:(g == k)=true:=beq_iff_eq.mpr h;simp only[nr,hb,if_pos (h.trans hk)]
   ·have hb:(g == k)=false:=beq_eq_false_iff_ne.mpr h;simp only[nr,hb,if_neg (λe:g=f=>h (e.trans hk.symm))]
  ·rw[if_neg hk];by_cases h:g=k
   ·have hb:(g == k)=true:=beq_iff_eq.mpr h;simp only[nr,hb,if_neg (λe:g=f=>hk (h.symm.trans e))]
   ·have hb:(g == k)=false:=beq_eq_false_iff_ne.mpr h;simp only[nr,hb];exact ih
theorem pC(f:Str)(v:V):∀fs:List (Str×V),f∈(jQ f v fs).map (·.1)/\∀g,g∈fs.map (·.1)->g∈(jQ f v fs).map (·.1)
 |[]=>⟨by simp[jQ],λg h=>by simp at h⟩
 |(k,x)::r=>by
  obtain⟨i1,i2⟩:=pC f v r;rw[show jQ f v ((k,x)::r)=(if k=f then(k,v)::r else(k,x)::jQ f v r) from rfl];by_cases hk:k=f
  ·rw[if_pos hk];subst hk;exact⟨by simp,λg h=>by simpa using h⟩
  ·rw[if_neg hk];refine⟨?_,λg h=>?_⟩
   ·rw[iT];exact b8 _ i1
   ·rw[iT]at h ⊢;rcases List.mem_cons.mp h with e |e
    ·exact List.mem_cons.mpr (.inl e)
    ·exact b8 _ (i2 g e)
theorem qq(f:Str)(v:V):∀fs:List (Str×V),(jQ f v fs).length<=fs.length+1
 |[]=>by simp[jQ]
 |(k,x)::r=>by
  have ih:=qq f v r;rw[show jQ f v ((k,x)::r)=(if k=f then(k,v)::r else(k,x)::jQ f v r) from rfl];by_cases hk:k=f
  ·rw[if_pos hk,iV,iV];omega
  ·rw[if_neg hk,iV,iV];omega
variable{o:Option ahb}
theorem tW.some_of(r:tW (some v) o):∃u,o=some u/\RelV v u:=by
 cases o with
 |none=>exact(show False from r).elim
 |some u=>exact⟨u,rfl,r⟩
theorem tW.none_of(r:tW none o):o=none:=by
 cases o with
 |none=>rfl
 |some u=>exact(show False from r).elim
theorem C8(r:RelV v u):PySem.W.handedIn u=true:=by
 cases v with
 |cG=>cases (show u=c_ from r);rfl
 |bl b=>cases (show u=og b from r);rfl
 |int i=>obtain⟨t,e⟩:=(show ∃t,u=rD i t from r);cases e;rfl
 |str x=>obtain⟨t,e⟩:=(show ∃t,u=oa x t from r);cases e;rfl
 |NZ b=>obtain⟨t,e⟩:=(show ∃t,u=Value.bytes b t from r);cases e;rfl
 |TH b=>obtain⟨t,e⟩:=(show ∃t,u=Value.float b t from r);cases e;rfl
 |ref a=>cases (show u=bz a from r);rfl
 |ty n=>cases (show u=oh n from r);rfl
section
variable {P:ag9}{w:ahc}{H H':Hp}{h h':Heap}{a C dx:ag5}{fs fs':List (Str×V)}
theorem vw(hok:ng P w H h)(e:H a=some (.ins C dx fs)):∃mA,zF h a dx C mA/\(∀f,tW (fs.lookup f) (mA f))/\PySem.Within mA (fs.map (·.1))/\fs.length<=1000/\H dx=some (.own a):=by obtain⟨d,z,ne,ob,mA,n,r,q⟩:=(show iC P w H h a (.ins C dx fs) from hok a _ e);exact⟨mA,⟨ob,n,ne⟩,r,q,z,d⟩
end
structure C9(K:PySem.W.Frag)(C:ag5):Prop where
 pg:PySem.W.plainGet K C Str.empty=true
 hd:PySem.W.hasDictIn K C=true
 po:PySem.W.plainOver K C=true
 sa:PySem.W.findIn K (.ref C) "__setattr__"=some (some (.builtin "object.__setattr__"))
theorem C9.get(c:C9 K C)(f:Str):PySem.W.plainGet K C f=true:=c.pg
def lE(K:PySem.W.Frag)(C:ag5)(f:Str):Prop:=PySem.W.findIn K (.ref C) f=some none
theorem lE.Ub{f:Str}(n:lE K C f):PySem.W.takerIn K C f=some none:=by unfold PySem.W.takerIn;rw[show PySem.W.findIn K (.ref C) f=some none from n];rfl
structure Meth(K:PySem.W.Frag)(C:ag5)(m:Str)(f:ag5):Prop where
 at_:PySem.W.findIn K (.ref C) m=some (some (.ref f))
 fn:PySem.W.isFn K (.ref f)=true
 kp:PySem.W.keepIn K (.ref f)=true
section
variable {X:Cx}{pins:List (ag5×Obj)}{σ:St}{H:Hp}{s:aha}{a C dx:ag5}{fs:List (Str×V)}{f:Str}{v:V}{A:ag6}{E:ahb->aha->Prop}
theorem sf{b:Bool}(I:Inv X pins σ H s)(e:H a=some (.ins C dx fs))(c:C9 X.K C)(n:lE X.K C f)(l:fs.lookup f=some v)
  (h:∀u s',Inv X pins σ H s'->RelV v u->Q u s'):ahn (model X.prog X.w) A (getAttr (.ref a) f b) Q E s:=by
 obtain⟨mA,O,r,_,_,_⟩:=vw I.hok e;obtain⟨u,hu,ru⟩:=tW.some_of (v:=v) (o:=mA f) (by rw[<-l];exact r f);exact get_map I.pz O (c.get f) c.hd n hu (C8 ru) (h u _ (I.tok _) ru)
theorem zG{m:Str}{g:ag5}{pl:Sem Bool}{Q:ahb×List ahb->aha->Prop}(I:Inv X pins σ H s)(e:H a=some (.ins C dx fs))(c:C9 X.K C)(k:Meth X.K C m g)(l:fs.lookup m=none)
  (h:Q (.ref g,[.ref a]) s):ahn (model X.prog X.w) A (getMethod (.ref a) m pl) Q E s:=by
 obtain⟨mA,O,r,_,_,_⟩:=vw I.hok e;have hn:mA m=none:=tW.none_of (by rw[<-l];exact r m);exact Fh I.pz O (c.get m) k.at_ k.fn hn h
theorem sh{Q:Unit->aha->Prop}(I:Inv X pins σ H s)(e:H a=some (.ins C dx fs))(c:C9 X.K C)(n:lE X.K C f)(hl:fs.length < 1000)(ry:RelV y u)
  (h:∀s',Inv X pins σ (upd H a (.ins C dx (jQ f y fs))) s'->Q () s'):ahn (model X.prog X.w) A (setAttr (.ref a) f u) Q E s:=by
 obtain⟨mA,O,r,wi,_,ho⟩:=vw I.hok e;have hz:(fs.map (·.1)).length<=ahl:=by rw[iW,sizeLine_eq];omega
 refine Kh I.pz O c.sa c.po n.Ub c.hd wi hz λh' O' sb=>h _ ?_;have hd:∃o,h'.get? dx=some o:=let ⟨o,_,_,e',_⟩:=O'.ns;⟨o,e'⟩;refine I.write (x:=a) (e:=dx) (by rw[e];exact True.intro) (.inr ho) (λb q hb z=>(sb.2 b hb).trans z) hd ?_;refine⟨by rw[bj O.ne];exact ho,?_,O.ne,O'.obj,_,O'.ns,λg=>?_,λg hg=>?_⟩
 ·have:=qq f y fs;omega
 ·show tW ((jQ f y fs).lookup g) (if g=f then some u else mA g);rw[qp];by_cases q:g=f
  ·rw[if_pos q,if_pos q];exact ry
  ·rw[if_neg q,if_neg q];exact r g
 ·by_cases q:g=f
  ·rw[q];exact(pC f y fs).1
  ·refine(pC f y fs).2 g (wi g λz=>hg ?_);show(if g=f then some u else mA g)=none;rw[if_neg q];exact z
theorem Inv.made(I:Inv X pins σ H s):Inv X pins σ (upd (upd H s.heap.objs.size (.own (s.heap.objs.size+1))) (s.heap.objs.size+1) (.ins C s.heap.objs.size []))
  { s with heap:=(s.heap.push PySem.W.emptyDict).push (PySem.W.instObj C s.heap.objs.size) }:=by
 have e1:(s.heap.push PySem.W.emptyDict).get? s.heap.objs.size=some PySem.W.emptyDict:=dR s.heap rfl;have e2:((s.heap.push PySem.W.emptyDict).push (PySem.W.instObj C s.heap.objs.size)).get? (s.heap.objs.size+1)=some (PySem.W.instObj C s.heap.objs.size):=by
  have:=dR (s.heap.push PySem.W.emptyDict) (o:=PySem.W.instObj C s.heap.objs.size) rfl
  rwa [zH]at this
 have e3:(s.heap.push PySem.W.emptyDict).Ns s.heap.objs.size (λ_=>none):=⟨PySem.W.emptyDict,#[],_,e1,rfl,(λe he=>absurd he (by simp)),λ_=>rfl⟩;have I1:=I.laid (a:=s.heap.objs.size) (o:=.own (s.heap.objs.size+1)) (h':=s.heap.push PySem.W.emptyDict) (t':=s.toks) (λb u q=>bQ _ q) (aA _) ⟨_,e1⟩;refine I1.laid (a:=s.heap.objs.size+1) (o:=.ins C s.heap.objs.size []) (t':=s.toks) (λb u q=>bQ _ q) (rH (zH _ _)) ?_;have ne:s.heap.objs.size≠s.heap.objs.size+1:=cQ (Bo _);refine⟨by rw[bj ne,bF],de _,ne,e2,λ_=>none,(Heap.Ns1.of_empty e3).at λo q=>bQ _ q,λ_=>True.intro,λy hy=>absurd rfl hy⟩
theorem Ki{prog:ag9}{env:Env}(hb:attributeBase e f env (eval e env)=eval e env)
  (h:ahn (model prog w) A (eval e env) (λo s₁=>ahn (model prog w) A (getAttr o f true) Q E s₁) E s):ahn (model prog w) A (eval (.Attribute e f pos) env) Q E s :=
 Attribute_any_ h (by rw[arm_eval_Attribute,hb])
end
def Y'(K:PySem.W.Frag)(ta:TE)(f:Str):TE:=λσ H Q=>ta σ H λx H1=>∃a C dx fs v,x= .ref a/\H1 a=some (.ins C dx fs)/\C9 K C/\lE K C f/\fs.lookup f=some v/\Q v H1
def Za(K:PySem.W.Frag)(ta tv:TE)(f:Str):TS:=λD σ H=>tv σ H λy H1=>ta σ H1 λx H2=>∃a C dx fs,x= .ref a/\H2 a=some (.ins C dx fs)/\C9 K C/\lE K C f/\fs.length < 1000/\
 D.nx σ (upd H2 a (.ins C dx (jQ f y fs)))
def Uc(X:Cx)(op:Operator)(rd:V->V->Hp->VK->Prop):Prop :=
 ∀(pins:List (ag5×Obj))(s:aha)(σ:St)(H:Hp)(x y:V)(u v:ahb)(Q:VK),Inv X pins σ H s->RelV x u->RelV y v->rd x y H Q->ahn (model X.prog X.w) X.A (inplaceOp op u v) (EP X pins σ Q) X.xe s
def Kj(K:PySem.W.Frag)(ta tv:TE)(rd:V->V->Hp->VK->Prop)(f:Str):TS:=λD σ H=>ta σ H λx H1=>∃a C dx fs v,x= .ref a/\H1 a=some (.ins C dx fs)/\C9 K C/\lE K C f/\fs.lookup f=some v/\
 tv σ H1 λy H2=>rd v y H2 λz H3=>∃Oz fs',H3 a=some (.ins C Oz fs')/\fs'.length < 1000/\D.nx σ (upd H3 a (.ins C Oz (jQ f z fs')))
section
variable {X:Cx}{o e value:Expr}{f:Str}{pos pos' tpos:Pos}{ta tv:TE}
theorem OA(he:PE X e ta)(hb:attributeBase e f X.env (eval e X.env)=eval e X.env):PE X (.Attribute e f pos) (Y' X.K ta f):=by intro pins s σ H Q I h;refine Ki hb (bM (he pins s σ H _ I h) λu s1 ⟨x,H1,I1,rx,a,C,dx,fs,v,ex,ea,c,n,l,q⟩=>?_);subst ex;obtain rfl:u=bz a:=rx;exact sf I1 ea c n l λu' s2 I2 ru=>⟨v,H1,I2,ru,q⟩
theorem OB(ha:PE X o ta)(hv:PE X value tv)(hs:swapsWith value (some (.Attribute o f pos')) pos.line X.env=pure false):PS X (.Assign [.Attribute o f pos'] value pos) (Za X.K ta tv f):=by intro pins s σ H D I h;refine plainObj_wpAny_Assign_Attribute (bM (hv pins s σ H _ I h) λu s1 ⟨y,H1,I1,ry,q⟩=>bM (ha pins s1 σ H1 _ I1 q) λov s2 ⟨x,H2,I2,rx,a,C,dx,fs,ex,ea,c,n,l,q2⟩=>?_) hs;subst ex;obtain rfl:ov=bz a:=rx;exact sh I2 ea c n l ry λs3 I3=>⟨σ,_,I3,q2⟩
theorem C_{op:Operator}{rd:V->V->Hp->VK->Prop}(ha:PE X o ta)(hv:PE X value tv)(hop:Uc X op rd):PS X (.AugAssign (.Attribute o f tpos) op value pos) (Kj X.K ta tv rd f):=by intro pins s σ H D I h;refine wpAny_AugAssign_AttributeAny (bM (ha pins s σ H _ I h) λov s1 ⟨x,H1,I1,rx,a,C,dx,fs,v,ex,ea,c,n,l,q⟩=>?_);subst ex;obtain rfl:ov=bz a:=rx;refine sf I1 ea c n l λu s2 I2 ru=>bM (hv pins s2 σ H1 _ I2 q) λw3 s3 ⟨y,H2,I3,ry,q3⟩=>bM (hop pins s3 σ H2 v y u w3 _ I3 ru ry q3) λw4 s4 ⟨z,H3,I4,rz,Oz,fs',ea',l',q4⟩=>?_;exact sh I4 ea' c n l' rz λs5 I5=>⟨σ,_,I5,q4⟩
end
structure hX(k:Nat)(A:ag6):Prop where
 hd:A.handled=none
 dp:A.depth+3 * k+5 < recursionLimit
 un:A.units+16 * k+200 < cLine
theorem hX.mono(r:hX k A)(h:j<=k):hX j A:=⟨r.hd,by have:=r.dp;omega,by have:=r.un;omega⟩
theorem hX.deeper(r:hX (k+1) A)(env:Env):hX k (A.deeper env) :=
 ⟨r.hd,by have:=r.dp;show A.depth+1+3 * k+5 < _;omega,by have:=r.un;show A.units+3+16 * k+200 < _;omega⟩
theorem zI:(A.under (.builtin "type.__call__" ⟨.ref C::us,kw⟩)).depth=A.depth+1:=by
 first |rfl |simp[MF,Code.weight,Code.isCreation,Code.isGuard,Code.isCaller,Code.frames,Fj,guardIds]
theorem zJ:(A.under (.builtin "type.__call__" ⟨.ref C::us,kw⟩)).units=A.units+1:=by
 first |rfl |simp[MF,Code.cUnits,Code.frames,Fj]
theorem hX.make(r:hX (k+1) A)(C:ag5)(us:List ahb)(kw:List (Str×ahb)):hX k (A.under (.builtin "type.__call__" ⟨.ref C::us,kw⟩)) :=
 ⟨r.hd,by have:=r.dp;rw[zI];omega,by have:=r.un;rw[zJ];omega⟩
theorem hX.depth(r:hX k A):A.depth < recursionLimit:=by have:=r.dp;omega
def Zb:TA:=λ_ H Q=>Q [] H
def Ud(ta:TE)(tr:TA):TA:=λσ H Q=>ta σ H λx H1=>tr σ H1 λxs H2=>Q (x::xs) H2
section
variable {X:Cx}{e:Expr}{es:List Expr}{te:TE}{t:TA}{pos:Pos}
theorem OC:PA X [] Zb:=λ_ _ _ _ H Q I h=>Calls.spliced_nil ⟨[],H,I,.nil,h⟩
theorem Kk(ha:PE X e te)(hr:PA X es t)(hs:ahm (e::es) X.env=(false,eval e X.env)::ahm es X.env:=by rfl):PA X (e::es) (Ud te t):=by intro pos pins s σ H Q I h;rw[hs];show ahn _ _ (spliced ((false,eval e X.env)::backTo pos (ahm es X.env))) _ _ s;refine Calls.spliced_cons (bM (ha pins s σ H _ I h) λu s1 ⟨x,H1,I1,r1,q1⟩=>?_);exact bM (hr pos pins s1 σ H1 _ I1 q1) λus s2 ⟨xs,H2,I2,r2,q2⟩=>⟨x::xs,H2,I2,.cons r1 r2,q2⟩
def Zc(t:TA):TE:=λσ H Q=>t σ H λxs H1=>xs.length<=ahl/\∀p,H1 p=none->Q (.ref p) (upd H1 p (.tup xs))
def Zd(t:TA):TE:=λσ H Q=>t σ H λxs H1=>xs.length<=ahl/\∀p,H1 p=none->Q (.ref p) (upd H1 p (.lst xs))
theorem OD{x1}(h:PA X es t):PE X (.Tuple es x1 pos) (Zc t):=by intro pins s σ H Q I hq;refine wpAny_Tuple_spliced (bM (h pos pins s σ H _ I hq) λus s1 ⟨xs,H1,I1,r,z,q⟩=>⟨by rw[<-r.length];exact z,?_⟩);have hf:H1 s1.heap.objs.size=none:=I1.hok.fresh (aA _);refine⟨.ref s1.heap.objs.size,upd H1 s1.heap.objs.size (.tup xs),I1.laid (t':=s1.toks) (λb u e=>bQ _ e) (aA _) ?_,rfl,q _ hf⟩;exact⟨z,us,r,⟨_,dR _ rfl,rfl,_,rfl⟩,xF.new _ _⟩
theorem OE(h:PA X es t):PE X (.List es pos) (Zd t):=by intro pins s σ H Q I hq;refine wpAny_List_spliced (bM (h pos pins s σ H _ I hq) λus s1 ⟨xs,H1,I1,r,z,q⟩=>⟨by rw[<-r.length];exact z,?_⟩);have hf:H1 s1.heap.objs.size=none:=I1.hok.fresh (aA _);refine⟨.ref s1.heap.objs.size,upd H1 s1.heap.objs.size (.lst xs),I1.laid (t':=s1.toks) (λb u e=>bQ _ e) (aA _) ?_,rfl,q _ hf⟩;exact⟨z,us,0,r,dR _ rfl⟩
end
abbrev Sp:=List V->Hp->VK->XK->Prop
abbrev Dd:=List Env->Hp->aha->XK->ahb->aha->Prop
structure tX(P:ag9)(w:ahc)(K:PySem.W.Frag)(mg:Str->Option ahb)(base:Heap)(A:ag6)(outer:List Env)(s:aha)(H:Hp):Prop where
 frames:A.frames=some outer
 mod:Mod K mg base
 bs:∀b o,base.get? b=some o->s.heap.get? b=some o/\H b=none
 EO:base.objs.size<=s.heap.objs.size
 mT:s.heap.FunFrames base outer
 JD:∀b∈frs outer,H b=none
 hok:ng P w H s.heap
 bare:AllBare s.gens
def CE(outer:List Env)(P:ag9)(w:ahc)(H:Hp)(s:aha)(Q:VK)(u:ahb)(s':aha):Prop :=
 ∃v H',s'.os=s.os/\AllBare s'.gens/\Un (frs outer) [] H H' s.heap s'.heap/\ng P w H' s'.heap/\RelV v u/\Q v H'
def CR(CX:Dd)(outer:List Env)(P:ag9)(w:ahc)(H:Hp)(s:aha)(Q:VK)(E:XK)(r:Result)(s':aha):Prop :=
 match r with
 |.ok (.ret u)=>CE outer P w H s Q u s'
 |.ok _=>False
 |.error e=>CX outer H s E e s'
structure FnOk(P:ag9)(w:ahc)(K:PySem.W.Frag)(mg:Str->Option ahb)(base:Heap)(CX:Dd)(k:Nat)(f:ag5)(fd:ag7)(ps:List Str)(sp:Sp):Prop where
 len:∀vs H Q E,sp vs H Q E->vs.length=ps.length
 run:∀(A:ag6)(outer:List Env)(s:aha)(H:Hp)(args:Args)(us:List ahb)(vs:List V)(Q:VK)(E:XK),hX k A->tX P w K mg base A outer s H->BindsTo s fd args (ps.zip us)->Vals vs us->sp vs H Q E->
  ahg (model P w) A (.call (.ref f) args) (CR CX outer P w H s Q E) s
variable{f:ag5}{mg:Str->Option ahb}{base:Heap}{CX:Dd}{fd:ag7}{ps:List Str}{sp:Sp}
theorem FnOk.mono(F:FnOk P w K mg base CX j f fd ps sp)(h:j<=k):
  FnOk P w K mg base CX k f fd ps sp:=⟨F.len,λA outer s H args us vs Q E hr=>F.run A outer s H args us vs Q E (hr.mono h)⟩
variable{outer:List Env}
theorem tX.make(e:tX P w K mg base A outer s H)(C:ag5)(us:List ahb)(kw:List (Str×ahb)):
  tX P w K mg base (A.under (.builtin "type.__call__" ⟨.ref C::us,kw⟩)) outer s H:=⟨by first |exact e.frames |(simpa [MF,Code.envs,Fj,pushEnvs]using e.frames),e.mod,e.bs,e.EO,e.mT,e.JD,e.hok,e.bare⟩
variable{Q:VK}
section
variable {X:Cx}{pins:List (ag5×Obj)}{σ:St}{H:Hp}{s s':aha}
theorem Inv.Kl(I:Inv X pins σ H s):tX X.prog X.w X.K X.mg X.base X.A X.stack s H :=
 ⟨I.ok.frames,I.ok.mod,I.bs,b5 I.ok.EO I.sz,I.stack,I.oi,I.hok,I.bare⟩
theorem Inv.after(I:Inv X pins σ H s)(h:CE X.stack X.prog X.w H s Q u s'):EP X pins σ Q u s':=by obtain⟨v,H',os,bare,un,hok,r,q⟩:=h;obtain⟨hh,g,d,t,os'⟩:=s';obtain rfl:os'=s.os:=os;exact⟨v,H',I.call (h':=hh) (g':=g) (d':=d) (t':=t) (ch:=[]) un hok bare (λb z=>absurd z (by simp)),r,q⟩
end
def Ue(C:ag5)(sp:Sp)(OF:List V)(E:XK)(t:TA):TE:=λσ H Q=>t σ H λvs H1=>∀x dx,H1 x=none->H1 dx=none->dx≠x->
 sp (.ref x::(vs++OF)) (upd (upd H1 dx (.own x)) x (.ins C dx [])) (λv H2=>v= .cG/\Q (.ref x) H2) E
def Binds(K:PySem.W.Frag)(fd:ag7)(ps:List Str)(ds:List ahb):Prop :=
 ∀(s:aha)(us:List ahb),K.In s.heap->(us++ds).length=ps.length->BindsTo s fd ⟨us,[]⟩ (ps.zip (us++ds))
theorem Binds.all(h:∀us:List ahb,us.length=ps.length->bindArgs fd ⟨us,[]⟩=pure (ps.zip us)):Binds K fd ps []:=λs us _ hl=>by rw[iX]at hl ⊢;exact .of_eq (h us hl)
def Passes(CX:Dd)(X:Cx)(E:XK):Prop:=∀(pins:List (ag5×Obj))(σ:St)(H:Hp)(s:aha)(e:ahb)(s':aha),Inv X pins σ H s->CX X.stack H s E e s'->X.xe e s'
variable{vs:List V}
section
variable {X:Cx}{CX:Dd}{k:Nat}{f C:ag5}{fd:ag7}{ps:List Str}{sp:Sp}{OF:List V}{ds:List ahb}{E:XK}{x m:Str}{p pos apos:Pos}{e o:Expr}{es:List Expr}{ta:TE}{t:TA}
structure Mk(K:PySem.W.Frag)(C f:ag5):Prop where
 makes:PySem.W.makesIn K C=true
 init:PySem.W.findIn K (.ref C) "__init__"=some (some (.ref f))
 fn:PySem.W.isFn K (.ref f)=true
 kp:PySem.W.keepIn K (.ref C)=true
theorem Fl(M:Mk X.K C f)(F:FnOk X.prog X.w X.K X.mg X.base CX k f fd ps sp)(hr:hX (k+1) X.A)(hb:Binds X.K fd ps ds)(hd:Vals OF ds)
  (hx:Passes CX X E)(I:Inv X pins σ H s)(r:Vals vs us)
  (h:∀x dx,H x=none->H dx=none->dx≠x->sp (.ref x::(vs++OF)) (upd (upd H dx (.own x)) x (.ins C dx [])) (λv H2=>v= .cG/\Q (.ref x) H2) E):
  ahn (model X.prog X.w) X.A (call (.ref C) us) (EP X pins σ Q) X.xe s:=by
 have hq:=h (s.heap.objs.size+1) s.heap.objs.size (I.hok.fresh (rJ _)) (I.hok.fresh (aA _)) (cQ (Bo _));have I2:=Inv.made (C:=C) I;have r2:Vals (V.ref (s.heap.objs.size+1)::(vs++OF)) (bz (s.heap.objs.size+1)::(us++ds)):=.cons rfl (r.append hd);have hl:(bz (s.heap.objs.size+1)::us++ds).length=ps.length:=by have e:=r2.length;rw[F.len _ _ _ _ hq]at e;exact e.symm
 refine wpAny_call (Fi (f:=f) I.pz M.makes M.init (beq_iff_eq.mp M.fn) (codeAny_mono (F.run _ X.stack _ _ ⟨bz (s.heap.objs.size+1)::us,[]⟩ (bz (s.heap.objs.size+1)::(us++ds)) _ _ E (hr.make C us [])
  (I2.Kl.make C us []) (hb _ (bz (s.heap.objs.size+1)::us) I2.pz hl) r2 hq) λr s' hq'=>?_))
 cases r with
 |error e=>exact hx pins σ _ _ e s' I2 hq'
 |ok fl=>
  cases fl with
  |ret u=>obtain⟨v,H',I3,rv,ev,q3⟩:=I2.after hq';subst ev;exact⟨rv,⟨V.ref (s.heap.objs.size+1),H',I3,rfl,q3⟩⟩
  |next=>exact aa hq'
  |brk=>exact aa hq'
  |cont=>exact aa hq'
theorem Km(M:Mk X.K C f)(F:FnOk X.prog X.w X.K X.mg X.base CX k f fd ps sp)(hr:hX (k+1) X.A)(hg:Gl X x)(hm:X.mg x=some (.ref C))(hb:Binds X.K fd ps ds)(hd:Vals OF ds)(hx:Passes CX X E)
  (ha:PA X (e::es) t)(hdb:(x == ("__debug__":Str))=false:=by decide)(he:ahm (e::es) X.env=(false,eval e X.env)::ahm es X.env:=by rfl)(hpl:(backTo pos (ahm es X.env)).any (·.1)=false:=by rfl):
  PE X (.Call (.Name x p) (e::es) [] pos) (Ue C sp OF E t):=by
 intro pins s σ H Q I h;refine wpAny_Call_Name_kw (mq I hg hm ?_ hdb);refine PySem.W.callWith_K (h₀:=X.base) I.ok.mod.J0 M.kp (bM (ha pos pins s σ H _ I h) λus s1 ⟨vs,H1,I1,r,q⟩=>⟨I1.pz,?_⟩) he hpl;exact Fl M F hr hb hd hx I1 r q
end
structure FnScope(N P:List Str)(sc:Scope):Prop where
 kind:sc.kind= .function
 co:sc.isCoroutine=false
 gen:sc.isGenerator=false
 nd:N.Nodup
 pre:N.take P.length=P
 par:∀x∈P,sc.names.lookup x=some .local\/sc.names.lookup x=some .cell
 OG:∀y∈sc.names,y.2≠.free
theorem uC{kindOf:Str->Option ag8}{x:Str}:∀{binds:List (Str×ahb)}{m:Str->Option ahb},(∀v,(x,v)∉binds)->bindL kindOf binds m x=m x
 |[],_,_=>rfl
 |(n,v)::r,m,h=>by
  unfold bindL;rw[uC λw hw=>h w (b8 _ hw)];split
  ·have:x≠n:=by rintro rfl;exact h v dg
   simp[this]
  ·rfl
theorem uD{kindOf:Str->Option ag8}{x:Str}:∀{binds:List (Str×ahb)}{m:Str->Option ahb},(∀v,(x,v)∉binds)->bindC kindOf binds m x=m x
 |[],_,_=>rfl
 |(n,v)::r,m,h=>by
  unfold bindC;rw[uD λw hw=>h w (b8 _ hw)];split
  ·rfl
  ·have:x≠n:=by rintro rfl;exact h v dg
   simp[this]
theorem uE{kindOf:Str->Option ag8}{x:Str}{v:ahb}:∀{P:List Str}{vs:List ahb}{i:Nat}{m:Str->Option ahb},P.Nodup->P[i]? =some x->vs[i]? =some v->kindOf x=some .local->
  bindL kindOf (P.zip vs) m x=some v
 |[],_,_,_,_,h,_,_=>by simp at h
 |_::_,[],_,_,_,_,h,_=>by simp at h
 |p::P,w::vs,0,m,nd,h1,h2,hk=>by simp at h1 h2;subst h1;subst h2;show bindL kindOf ((p,w)::P.zip vs) m p=_;unfold bindL;rw[uC λv hv=>(List.nodup_cons.mp nd).1 (zK hv).1,if_pos hk];simp
 |p::P,w::vs,i+1,m,nd,h1,h2,hk=>by show bindL kindOf ((p,w)::P.zip vs) m x=_;unfold bindL;exact uE (i:=i) (List.nodup_cons.mp nd).2 (by simpa using h1) (by simpa using h2) hk
theorem uF{kindOf:Str->Option ag8}{x:Str}{v:ahb}:∀{P:List Str}{vs:List ahb}{i:Nat}{m:Str->Option ahb},P.Nodup->P[i]? =some x->vs[i]? =some v->kindOf x≠some .local->
  bindC kindOf (P.zip vs) m x=some v
 |[],_,_,_,_,h,_,_=>by simp at h
 |_::_,[],_,_,_,_,h,_=>by simp at h
 |p::P,w::vs,0,m,nd,h1,h2,hk=>by simp at h1 h2;subst h1;subst h2;show bindC kindOf ((p,w)::P.zip vs) m p=_;unfold bindC;rw[uD λv hv=>(List.nodup_cons.mp nd).1 (zK hv).1,if_neg hk];simp
 |p::P,w::vs,i+1,m,nd,h1,h2,hk=>by show bindC kindOf ((p,w)::P.zip vs) m x=_;unfold bindC;exact uF (i:=i) (List.nodup_cons.mp nd).2 (by simpa using h1) (by simpa using h2) hk
def start(N:List Str)(vs:List V):St:=vs.map some++aR (N.length - vs.length) none
def si(CX:Dd)(P:ag9)(w:ahc)(K:PySem.W.Frag)(mg:Str->Option ahb)(base:Heap)(N:List Str)(qual:Str)(scope:Scope)(f:ag5)(cd:ahb)(A:ag6)(outer:List Env)(s:aha)(H:Hp)(E:XK):Cx where
 prog:=P
 w:=w
 K:=K
 mg:=mg
 base:=base
 A:=A.deeper (envOfC qual scope s.heap.objs.size f cd)
 N:=N
 s₀:=s
 H₀:=H
 env:=envOfC qual scope s.heap.objs.size f cd
 outer:=outer
 stack:=envOfC qual scope s.heap.objs.size f cd::outer
 ex:=[]
 calm:=true
 fn:=λ_=>true
 pn:=[]
 xe:=λe s'=>ahn (model P w) (A.deeper (envOfC qual scope s.heap.objs.size f cd)) (leaving (envOfC qual scope s.heap.objs.size f cd) e) (λ_ s''=>CX outer H s E e s'') (λe' s''=>CX outer H s E e' s'') s'
theorem xH{sc:Scope}(h:sc.names.lookup x=some .cell):∃c,(cellsFrom n sc.names []).lookup x=some c:=by have q:=PySem.W.cellsFrom_some sc.names n [] (.inl h);exact Option.isSome_iff_exists.mp q
variable{qual:Str}{scope:Scope}
theorem uG{cd:ahb}{s1:aha}{E:XK}
  (S:FnScope N ps scope)(hd:A.handled=none)(e0:tX P w K mg base A outer s H)(hl:vs.length=ps.length)(r:Vals vs us)
  (x:InCallC s s.heap.objs.size (bindL (envOfC qual scope s.heap.objs.size f cd).kindOf (ps.zip us) λ_=>none) (cellsFrom (s.heap.objs.size+1) scope.names []) (bindC (envOfC qual scope s.heap.objs.size f cd).kindOf (ps.zip us) λ_=>none) s1):
  Inv (si CX P w K mg base N qual scope f cd A outer s H E) [] (start N vs) H s1:=by
 have hpl:ps.length<=N.length:=by have:=congrArg nu S.pre;rw[lF]at this;omega
 obtain⟨h1,tk,rfl,hk⟩:=x.done;have Ug:∀b:ag5,b∉(si CX P w K mg base N qual scope f cd A outer s H E).ex:=λb z=>absurd (show b∈([]:List ag5) from z) (by simp);refine⟨⟨e0.mod,S.kind,rfl,rfl,aA _,λy z c h1 h2=>?_,λy hy=>?_,λy c _ h=>?_,λ_=>hd,Around.frames_deeper e0.frames,.inr ⟨rfl,rfl⟩,λb z=>absurd z (Ug b),e0.bs,e0.EO,λb _ _=>Ug b,λb z=>absurd z (Ug b),e0.mT,e0.JD⟩,
  rfl,e0.bare,Un.kept hk,⟨_,x.toInCall.ns,λi y v h1 h2 h3=>?_⟩,λy c h=>⟨_,x.cell y c h⟩,e0.hok.fresh (aA _),λy c h=>?_,λp hp=>absurd (show p∈([]:List (ag5×Obj)) from hp) (by simp),e0.hok.kept hk,?_⟩
 ·exact name_of_addr x.apart (PySem.mem_of_lookup h1) (PySem.mem_of_lookup h2)
 ·have hy:scope.names.lookup y=some .cell\/scope.names.lookup y=some .free:=hy;rcases hy with hy |hy
  ·exact xH hy
  ·exact absurd rfl (S.OG _ (PySem.mem_of_lookup hy))
 ·exact Bk (x.above y c (PySem.mem_of_lookup h))
 ·have hi:i < vs.length:=by
   unfold start at h2;by_cases hi:i < vs.length
   ·exact hi
   ·rw[pD (by simpa using hi)]at h2;rw[OH]at h2;split at h2<;>cases h2
  have ha:vs[i]? =some v:=by
   unfold start at h2;rw[jR (by simpa using hi),fZ]at h2;cases e:vs[i]? with
   |none=>rw[e]at h2;cases h2
   |some a=>rw[e]at h2;cases h2;rfl
  obtain⟨u,hu,rv⟩:=r.get ha;have hp:ps[i]? =some y:=by rw[<-S.pre,List.getElem?_take_of_lt (by omega)];exact h1
  have ndP:ps.Nodup:=by rw[<-S.pre];exact S.nd.sublist (List.take_sublist _ _)
  refine⟨u,rv,?_⟩;rcases S.par y (sj hp)with k |k
  ·exact .inl ⟨k,uE ndP hp hu k⟩
  ·obtain⟨c,e⟩:=xH (n:=s.heap.objs.size+1) k;refine .inr ⟨.inl k,c,e,?_⟩;have q:=x.cell y c e;rw[uF ndP hp hu (by show scope.names.lookup y≠_;rw[k];decide)]at q;exact q
 ·exact e0.hok.fresh (Bk (x.above y c (PySem.mem_of_lookup h)))
 ·unfold start;show _=N.length;rw[kI,iW,List.length_replicate];omega
theorem Uh{name:Str}{params:Arguments}{dV kV doc pm cdv ct oc:ahb}{an od:Option ag5}
  {osl:Array (Option ahb)}(lk:K.lookup f=some ⟨oc,od,.func (PySem.W.fnOf name qual params body scope dV kV doc pm an cdv ct),osl⟩)(hcd:PySem.W.codeIn K cdv qual=true)(S:FnScope N ps scope)
  (len:∀vs H Q E,sp vs H Q E->vs.length=ps.length)
  (hbody:∀(A:ag6)(outer:List Env)(s:aha)(H:Hp)(vs:List V)(Q:VK)(E:XK),hX k (A.deeper (envOfC qual scope s.heap.objs.size f cdv))->sp vs H Q E->
   ∃t,EA (si CX P w K mg base N qual scope f cdv A outer s H E) body t/\t { nx:=λ_ H'=>Q .cG H',rt:=Q } (start N vs) H):
  FnOk P w K mg base CX (k+1) f (PySem.W.fnOf name qual params body scope dV kV doc pm an cdv ct) ps sp:=by
 refine⟨len,λA outer s H args us vs Q E hr e0 hb r Kn=>?_⟩;have hl:=len _ _ _ _ Kn;have KX:K.In s.heap:=e0.mod.J0.keeps λb o e=>(e0.bs b o e).1;have lim:s.heap.NoLimit:=e0.mod.nolimit.keeps λb o e=>(e0.bs b o e).1;have hkind:∀y∈ps.zip us,scope.names.lookup y.1=some .local\/(scope.names.lookup y.1=some .cell/\((cellsFrom (s.heap.objs.size+1) scope.names []).lookup y.1).isSome=true):=λ⟨n,v⟩ hy=>by
  rcases S.par n (zK hy).1 with q |q
  ·exact .inl q
  ·exact .inr ⟨q,PySem.W.cellsFrom_some _ _ _ (.inl q)⟩
 refine codeAny_call_function hr.depth (KX _ _ lk) rfl S.co S.gen rfl (PySem.W.codeRec_of KX hcd) (hb _ _ _ _ ?_);refine wpAny_newFunctionEnv_cells S.kind hkind λenv he s1 x=>?_;subst he;refine⟨lim.keeps x.toInCall.keep,codeAny_func ?_⟩;obtain⟨t,ht,hq⟩:=hbody A outer s H vs Q E (hr.deeper _) Kn;have I:Inv (si CX P w K mg base N qual scope f cdv A outer s H E) [] (start N vs) H s1:=uG S hr.hd e0 hl r x;refine ahq (ht [] s1 (start N vs) H _ I hq) (λfl s' hs=>?_) λe s' hs=>hs;have fin:∀{σ':St}{H':Hp}{v:V}{u:ahb},Inv (si CX P w K mg base N qual scope f cdv A outer s H E) [] σ' H' s'->RelV v u->Q v H'->CE outer P w H s Q u s' :=
  λ{σ' H' v u} J rv q=>⟨v,H',J.os,J.bare,J.base,J.hok,rv,q⟩
 cases fl with
 |ret u=>obtain⟨v,σ',H',J,rv,q⟩:=hs;exact fin J rv q
 |next=>obtain⟨σ',H',J,q⟩:=hs;exact fin (v:=V.cG) (u:=c_) J rfl q
 |brk=>obtain⟨_,_,_,q⟩:=hs;exact aa q
 |cont=>obtain⟨_,_,_,q⟩:=hs;exact aa q
section
variable {X:Cx}{x:Str}{p pos:Pos}{e:Expr}{es:List Expr}{t:TA}{id T:String}{r:List V->Hp->VK->Prop}
def tCB(r:List V->Hp->VK->Prop)(t:TA):TE:=λσ H Q=>t σ H λvs H1=>r vs H1 Q
theorem Fm(hc:fc X (.builtin id) r)(hg:Gl X x)(hm:X.mg x=none)(hv:ahf x=some (.builtin id))(ha:PA X (e::es) t)(hn:x≠"__name__":=by decide)(hdb:(x == ("__debug__":Str))=false:=by decide)
  (he:ahm (e::es) X.env=(false,eval e X.env)::ahm es X.env:=by rfl)(hpl:(backTo pos (ahm es X.env)).any (·.1)=false:=by rfl):PE X (.Call (.Name x p) (e::es) [] pos) (tCB r t):=by
 intro pins s σ H Q I h;refine wpAny_Call_Name_kw (r9 I hg hm hv ?_ hn hdb);exact PyProof.Rows.callWith_builtin1 (bM (ha pos pins s σ H _ I h) λus s1 ⟨vs,H1,I1,r1,q1⟩=>hc pins s1 σ H1 vs us Q I1 r1 q1) he hpl
theorem De(hc:fc X (.type T) r)(hg:Gl X x)(hm:X.mg x=none)(hv:ahf x=some (.type T))(ha:PA X (e::es) t)(hn:x≠"__name__":=by decide)(hdb:(x == ("__debug__":Str))=false:=by decide)
  (he:ahm (e::es) X.env=(false,eval e X.env)::ahm es X.env:=by rfl)(hpl:(backTo pos (ahm es X.env)).any (·.1)=false:=by rfl):PE X (.Call (.Name x p) (e::es) [] pos) (tCB r t):=by
 intro pins s σ H Q I h;refine wpAny_Call_Name_kw (r9 I hg hm hv ?_ hn hdb);exact Bn (bM (ha pos pins s σ H _ I h) λus s1 ⟨vs,H1,I1,r1,q1⟩=>hc pins s1 σ H1 vs us Q I1 r1 q1) he hpl
end
end L2
namespace HT
open PySem PyProof.Rows
variable{Q:ahb->aha->Prop}{sl:ag5}
section
variable {prog:ag9}{w:ahc}{A:ag6}{E:ahb->aha->Prop}{s:aha}
theorem Ko{t b:ag5}{vs ws:List ahb}(ht:IsTup s.heap t vs.toArray)(hb:IsTup s.heap b ws.toArray)(hv:vs≠[])
  (h1:ws=[]->Q (.ref t) s)(h2:ws≠[]->Q (.ref s.heap.objs.size) { s with heap:=s.heap.push { cls:=.type "tuple",data:=.seq (vs++ws).toArray } })
  (hsz:vs.length+ws.length<=ahl):ahn (model prog w) A (ahe .Add (.ref t) (.ref b)) Q E s:=by
 obtain⟨⟨cls,dd,data,sl⟩,ho,hc,n,hd⟩:=id ht;obtain⟨⟨Ze,dd2,data2,sl2⟩,ho2,hc2,n2,hd2⟩:=id hb;simp only at hc hd hc2 hd2;subst hc hd hc2 hd2;have e:vs.toArray++ws.toArray=(vs++ws).toArray:=by simp
 by_cases hw:ws=[]
 ·exact concat_meets ⟨_,ho,rfl⟩ ⟨_,ho2,rfl⟩ noFill_tuple_add seq_tuple_add PySem.F.slot_tuple_add PySem.F.entry_tuple_add (PySem.F.args_tuple_add_2 _ _)
   (tuple_addW1 t b vs.toArray ws.toArray n n2 dd dd2 sl sl2 (by simpa using hv) (by simp[hw])) ⟨ho,ho2,h1 hw⟩
 ·refine concat_meets ⟨_,ho,rfl⟩ ⟨_,ho2,rfl⟩ noFill_tuple_add seq_tuple_add PySem.F.slot_tuple_add PySem.F.entry_tuple_add (PySem.F.args_tuple_add_2 _ _)
   (tuple_addW2 t b vs.toArray ws.toArray n n2 dd dd2 sl sl2 (by simpa using hv) (by simpa using hw) (by rw[a8,a8];exact hsz)) ⟨ho,ho2,?_⟩
  rw[e];exact h2 hw
def eu(n d:Nat):Option Int->Nat
 |none=>d
 |some v=>if v < 0 then(v+(n:Int)).toNat else min v.toNat n
theorem Fn(n d:Nat):eu n d none=d:=rfl
theorem rK(n d k:Nat):eu n d (some (k:Int))=min k n:=by show(if(k:Int) < 0 then((k:Int)+(n:Int)).toNat else min (k:Int).toNat n)=min k n;rw[if_neg (by omega),sm]
theorem OI(n d:Nat)(hd:d<=n)(o:Option Int):eu n d o<=n:=by
 cases o with
 |none=>exact hd
 |some v=>
  show(if v < 0 then(v+(n:Int)).toNat else min v.toNat n)<=n;by_cases hv:v < 0
  ·rw[if_pos hv];omega
  ·rw[if_neg hv];exact Bp _ _
theorem Bq(v:Int)(n d:Nat):(if v < 0 then max (v+(n:Int)) 0 else min v (n:Int))=((eu n d (some v):Nat):Int):=by
 show(if v < 0 then max (v+(n:Int)) 0 else min v (n:Int))=(((if v < 0 then(v+(n:Int)).toNat else min v.toNat n):Nat):Int);by_cases hv:v < 0
 ·simp only[if_pos hv];omega
 ·simp only[if_neg hv];omega
theorem zL(lo hi:Option Int)(n:Nat):Fo lo hi 1 (n:Int)=(((eu n 0 lo:Nat):Int),((eu n n hi:Nat):Int)):=by
 have h1:¬((1:Int) < 0):=by omega
 unfold Fo;simp only[h1,if_false];refine Prod.ext ?_ ?_
 ·cases lo with
  |none=>rfl
  |some v=>exact Bq v n 0
 ·cases hi with
  |none=>rfl
  |some v=>exact Bq v n n
theorem zM(i j:Nat):zN (i:Int) (j:Int) 1=j - i:=by
 unfold zN;have h1:(1:Int) > 0:=by omega
 simp only[h1,if_true,Int.ediv_one];split<;>omega
theorem su{v:ahb}{o:Option Int}{Q:Option Int->aha->Prop}(p:IsPart v o)(h:Q o s):ahn (model prog w) A (Builtin.Slice.slicePartIndex v) Q E s:=by
 cases p with
 |none=>exact slicePart_none h
 |int i t=>exact slicePart_int h
theorem j8{vl vu:ahb}{lo hi:Option Int}{n:Nat}{Q:Int×Int×Nat->aha->Prop}(hs:s.heap.IsSliceOf sl vl vu .none)(pl:IsPart vl lo)(pu:IsPart vu hi)
  (h:Q (((eu n 0 lo:Nat):Int),1,eu n n hi - eu n 0 lo) s):ahn (model prog w) A (OJ (.ref sl) (pure (n:Int))) Q E s:=by
 obtain⟨os,hos,hcs,hds⟩:=id hs;unfold OJ Builtin.Slice.sliceFields;refine aho (aho (wpAny_field hos hds (x:=vl) rfl (aho (wpAny_field hos hds (x:=vu) rfl (aho (wpAny_field hos hds (x:=.none) rfl (ahs ?_)))))));refine aho (slicePart_none ?_);show ahn _ _ (if((1:Int) == 0)=true then _ else _) _ _ s;rw[if_neg (by decide)];refine aho (su pl (aho (su pu (aho (ahs ?_)))));show ahn _ _ (match Fo lo hi 1 (n:Int)with |(lo,hi)=>pure (lo,(1:Int),zN lo hi 1)) _ _ s
 rw[zL lo hi n];show ahn _ _ (pure (((eu n 0 lo:Nat):Int),(1:Int),zN ((eu n 0 lo:Nat):Int) ((eu n n hi:Nat):Int) 1)) _ _ s;rw[zM];exact ahs h
theorem Fp(xs:Array ahb)(i k:Nat):((nh k).filterMap λ(m:Nat)=>xs[((i:Int)+(m:Int) * 1).toNat]?).toArray=((xs.toList.drop i).take k).toArray:=by
 have e:(λ(m:Nat)=>xs[((i:Int)+(m:Int) * 1).toNat]?)=λm=>xs[i+m]?:=by
  funext m;have:((i:Int)+(m:Int) * 1).toNat=i+m:=by omega
  rw[this]
 rw[e];have:=pick_run xs i k;rw[List.filterMap_map]at this;have e2:((λx=>xs[x]?) ∘ λx=>i+x)=λm=>xs[i+m]?:=rfl;rw[e2]at this;rw[this]
theorem om{t:ag5}{items:Array ahb}{vl vu:ahb}{lo hi:Option Int}(ht:IsTup s.heap t items)(hs:s.heap.IsSliceOf sl vl vu .none)(pl:IsPart vl lo)(pu:IsPart vu hi)
  (hw:¬(eu items.size 0 lo=0/\eu items.size items.size hi=items.size))
  (h:Q (.ref s.heap.objs.size) { s with heap:=s.heap.push { cls:=.type "tuple",data:=.seq ((items.toList.drop (eu items.size 0 lo)).take (eu items.size items.size hi - eu items.size 0 lo)).toArray } })
  (hsz:items.size<=ahl):ahn (model prog w) A (getItem (.ref t) (.ref sl)) Q E s:=by
 have Br:sizeOk (.seq ((items.toList.drop (eu items.size 0 lo)).take (eu items.size items.size hi - eu items.size 0 lo)).toArray):=by show((items.toList.drop (eu items.size 0 lo)).take (eu items.size items.size hi - eu items.size 0 lo)).toArray.size<=ahl;rw[a8,lF,pE,lD];omega
 have hj:eu items.size items.size hi<=items.size:=OI _ _ (aA _) hi;obtain⟨os,hos,hcs,hds⟩:=id hs;have hTs:s.TypeIs (.ref sl) "slice":=⟨os,hos,hcs⟩;unfold getItem
 try with_reducible refine ahp ?_
 first |refine aho (ahs ?_) |skip
 refine aho (wpAny_sequenceKey ht.typeIs (by decide) ?_);refine aho (wpAny_callSpecial?_slot (name:=vx "__getitem__") ht.typeIs vz
  (wpAny_call_entry vz ht.typeIs entry_tuple_getitem ?_ (args_tuple_getitem _ _)))
 show ahn _ _ (zr (.ref t) >>= _) _ _ s;refine aho (tupleItemsOf_ ht ?_);refine aho (wpAny_typeOf hTs ?_);rw[if_pos (by decide)];refine aho (j8 hs pl pu ?_);have hno:¬((((eu items.size 0 lo:Nat):Int) == 0&&(1:Int) == 1&&(eu items.size items.size hi - eu items.size 0 lo) == items.size)=true):=by intro q;rw[b7,b7]at q;have q1:((eu items.size 0 lo:Nat):Int)=0:=eq_of_beq q.1.1;have q2:eu items.size items.size hi - eu items.size 0 lo=items.size:=eq_of_beq q.2;exact hw ⟨by omega,by omega⟩
 show ahn _ _ (if(((eu items.size 0 lo:Nat):Int) == 0&&(1:Int) == 1&&(eu items.size items.size hi - eu items.size 0 lo) == items.size)=true then _ else _) _ _ s;rw[if_neg hno,Fp]
 first
  |exact aho (m:=zO _) (ahr (ahs ⟨_,rfl,ahs h⟩) Br)
  |exact aho (m:=zO _) (ahr (aho (ahs (ahs ⟨_,rfl,ahs h⟩))) Br)
  |exact aho (aho (m:=zO _) (ahr (ahs (ahs ⟨_,rfl,ahs h⟩)) Br))
  |exact aho (aho (m:=zO _) (ahr (ahs ⟨_,rfl,ahs h⟩) Br))
end
end HT
namespace L2
open PySem PySem.Spec PyProof.Rows
abbrev TO:=St->Hp->(Option Int->Hp->Prop)->Prop
def PO(X:Cx)(e:Option Expr)(t:TO):Prop :=
 ∀(pins:List (ag5×Obj))(s:aha)(σ:St)(H:Hp)(Q:Option Int->Hp->Prop),Inv X pins σ H s->t σ H Q->
  ahn (model X.prog X.w) X.A (evalPart e X.env) (λu s'=>∃o H',Inv X pins σ H' s'/\IsPart u o/\Q o H') X.xe s
def Kp:TO:=λ_ H Q=>Q none H
def Ui(t:TE):TO:=λσ H Q=>t σ H λx H1=>∃i,x= .int i/\Q (some i) H1
variable{r:V->Option Int->Option Int->Hp->VK->Prop}{xs:List V}{us:List ahb}
section
variable {X:Cx}{e:Expr}{te:TE}{lo hi:Option Expr}{tl th:TO}{pos p2:Pos}
theorem Kq:PO X none Kp:=by intro pins s σ H Q I h;rw[evalPart_none];exact ahs ⟨none,H,I,.none,h⟩
theorem Kr(h:PE X e te):PO X (some e) (Ui te):=by intro pins s σ H Q I hw;rw[evalPart_some];refine bM (h pins s σ H _ I hw) λu s1 ⟨x,H1,I1,r1,q1⟩=>?_;obtain⟨i,rfl,q⟩:=q1;obtain⟨t,rfl⟩:=r1;exact⟨some i,H1,I1,.int i t,q⟩
def JF(X:Cx)(r:V->Option Int->Option Int->Hp->VK->Prop):Prop :=
 ∀(pins:List (ag5×Obj))(s:aha)(σ:St)(H:Hp)(x:V)(v vl vu:ahb)(lo hi:Option Int)(sl:ag5)(Q:VK),Inv X pins σ H s->RelV x v->s.heap.IsSliceOf sl vl vu .none->IsPart vl lo->IsPart vu hi->r x lo hi H Q->
  ∃T id,typeLookup (.type T) "__getitem__"=pure (some (.builtin id))/\s.TypeIs v T/\ahn (model X.prog X.w) X.A (getItem v (.ref sl)) (EP X pins σ Q) X.xe s
theorem JF.or{r':V->Option Int->Option Int->Hp->VK->Prop}(h:JF X r)(h':JF X r'):JF X (λx lo hi H Q=>r x lo hi H Q\/r' x lo hi H Q):=by
 intro pins s σ H x v vl vu lo hi sl Q I rx hs pl pu q;rcases q with q |q
 ·exact h pins s σ H x v vl vu lo hi sl Q I rx hs pl pu q
 ·exact h' pins s σ H x v vl vu lo hi sl Q I rx hs pl pu q
def tSl(r:V->Option Int->Option Int->Hp->VK->Prop)(te:TE)(tl th:TO):TE:=λσ H Q=>te σ H λx H1=>tl σ H1 λl H2=>th σ H2 λu H3=>r x l u H3 Q
theorem sv(hr:JF X r)(he:PE X e te)(hl:PO X lo tl)(hu:PO X hi th):PE X (.Subscript e (.Slice lo hi none p2) pos) (tSl r te tl th):=by intro pins s σ H Q I h;refine Subscript_ (bM (he pins s σ H _ I h) λv s1 ⟨x,H1,I1,r1,q1⟩=>?_);refine wpAny_Slice (bM (hl pins s1 σ H1 _ I1 q1) λvl s2 ⟨l,H2,I2,pl,q2⟩=>bM (hu pins s2 σ H2 _ I2 q2) λvu s3 ⟨u,H3,I3,pu,q3⟩=>?_);rw[evalPart_none];refine ahs ?_;have I4:Inv X pins σ H3 { s3 with heap:=s3.heap.push { cls:=.type "slice",data:=.fields #[vl,vu,.none] } }:=I3.kept (t':=s3.toks) λb ob q=>bQ _ q;obtain⟨T,id,hT,ht,hg⟩:=hr pins { s3 with heap:=s3.heap.push { cls:=.type "slice",data:=.fields #[vl,vu,.none] } } σ H3 x v vl vu l u s3.heap.objs.size Q I4 r1 (Heap.IsSliceOf.new ..) pl pu q3;show ahn (model X.prog X.w) X.A (subscriptTail e (.Slice lo hi none p2) v (.ref s3.heap.objs.size)) (EP X pins σ Q) X.xe { s3 with heap:=s3.heap.push { cls:=.type "slice",data:=.fields #[vl,vu,.none] } };exact tail_any (ops:=[.ref s3.heap.objs.size,v]) ht hT hg (by with_unfolding_all rfl)
def tY(xs:List V)(lo hi:Option Int):List V:=(xs.drop (HT.eu xs.length 0 lo)).take (HT.eu xs.length xs.length hi - HT.eu xs.length 0 lo)
theorem qr(xs:List V)(lo hi:Option Int):(tY xs lo hi).length<=xs.length:=by unfold tY;rw[lF,pE];omega
def Zf(K:PySem.W.Frag):V->Option Int->Option Int->Hp->VK->Prop:=λx lo hi H Q=>∃a xs,x= .ref a/\gz K H a xs/\
 ¬(HT.eu xs.length 0 lo=0/\HT.eu xs.length xs.length hi=xs.length)/\∀p,H p=none->Q (.ref p) (upd H p (.tup (tY xs lo hi)))
theorem Fq:JF X (Zf X.K):=by
 intro pins s σ H x v vl vu lo hi sl Q I rx hs pl pu h;obtain⟨a,xs,rfl,hx,hw,q⟩:=h;cases rx;obtain⟨its,r,ht,hz⟩:=I.tuple hx;have hlen:its.toArray.size=xs.length:=by rw[a8];exact r.length.symm
 refine⟨"tuple",_,PyProof.Rows.slot_tuple_getitem.lookup,ht.typeIs,?_⟩;refine HT.om ht hs pl pu (by rw[hlen];exact hw) ?_ (by rw[hlen];exact hz);rw[hlen];refine⟨.ref s.heap.objs.size,_,I.laid (t':=s.toks) (o:=.tup (tY xs lo hi)) (λb ob q=>bQ _ q) (aA _) ?_,rfl,q _ (I.hok.fresh (aA _))⟩;exact⟨b5 (qr xs lo hi) hz,_,(r.drop (HT.eu xs.length 0 lo)).take (HT.eu xs.length xs.length hi - HT.eu xs.length 0 lo),zP _ _,xF.new _ _⟩
def Uj(K:PySem.W.Frag):R2:=λx y H Q=>∃a b xs ys,x= .ref a/\y= .ref b/\gz K H a xs/\gz K H b ys/\xs≠[]/\xs.length+ys.length<=ahl/\
 (ys=[]->Q (.ref a) H)/\(ys≠[]->∀p,H p=none->Q (.ref p) (upd H p (.tup (xs++ys))))
theorem Vals.vA(r:Vals xs us):us=[]↔xs=[]:=by
 cases r with
 |nil=>simp
 |cons _ _=>simp
theorem Ks:hV X (ahe .Add) (Uj X.K):=by intro pins s σ H x y v u Q I rx ry h;obtain⟨a,b,xs,ys,rfl,rfl,ha,hb,hx,hz,q1,q2⟩:=h;cases rx;cases ry;obtain⟨its,r1,p1,_⟩:=I.tuple ha;obtain⟨its2,r2,p2,_⟩:=I.tuple hb;refine HT.Ko p1 p2 (λz=>hx (r1.vA.mp z)) (λz=>⟨.ref a,H,I,rfl,q1 (r2.vA.mp z)⟩) (λz=>?_) (by rw[<-r1.length,<-r2.length];exact hz);refine⟨.ref s.heap.objs.size,_,I.laid (t':=s.toks) (o:=.tup (xs++ys)) (λb ob q=>bQ _ q) (aA _) ?_,rfl,q2 (λw=>z (r2.vA.mpr w)) _ (I.hok.fresh (aA _))⟩;exact⟨by rw[kI];exact hz,_,r1.append r2,zP _ _,xF.new _ _⟩
end
def EC(n:Nat)(i:Int):Option Nat:=if 0<=i then(if i < n then some i.toNat else none)else if -(n:Int)<=i then some (i+n).toNat else none
variable{α:Type}
def qN(xs:List α)(i:Int):Option α:=(EC xs.length i).bind λj=>xs[j]?
variable{n j:Nat}{i:Int}
theorem Bs(h:EC n i=some j):seqIndex? i n=some j/\j < n/\-(n:Int)<=i/\i < n:=by
 unfold EC at h;by_cases h0:0<=i
 ·rw[if_pos h0]at h;by_cases h1:i < n
  ·rw[if_pos h1]at h;have e:i.toNat=j:=Option.some.inj h;exact⟨by rw[seqIndex_of h0 h1,e],by omega,by omega,h1⟩
  ·rw[if_neg h1]at h;cases h
 ·rw[if_neg h0]at h;by_cases h1:-(n:Int)<=i
  ·rw[if_pos h1]at h;have e:(i+n).toNat=j:=Option.some.inj h;exact⟨by rw[seqIndex_neg (by omega) h1,e],by omega,h1,by omega⟩
  ·rw[if_neg h1]at h;cases h
theorem rL{xs:List α}{v:α}(h:qN xs i=some v):∃j,seqIndex? i xs.length=some j/\xs[j]? =some v/\j < xs.length/\-(xs.length:Int)<=i/\i < xs.length:=by
 unfold qN at h;cases e:EC xs.length i with
 |none=>rw[e]at h;cases h
 |some j=>rw[e]at h;obtain⟨h1,h2,h3,h4⟩:=Bs e;exact⟨j,h1,h,h2,h3,h4⟩
theorem eO{xs:List α}{v:α}(h:xs[j]? =some v):qN xs (j:Int)=some v:=by
 have hj:j < xs.length:=(List.getElem?_eq_some_iff.mp h).1;have e:EC xs.length (j:Int)=some j:=by unfold EC;rw[if_pos (by omega),if_pos (by omega)];simp
 unfold qN;rw[e];exact h
def Bt(b:Expr):Prop:=∀o i,subscripted b false o i=operate [o,i] (getItem o i)
def Kt(X:Cx)(r:R2):Prop :=
 ∀(value slice:Expr)(pins:List (ag5×Obj))(s:aha)(σ:St)(H:Hp)(x y:V)(v u:ahb)(Q:VK),Inv X pins σ H s->RelV x v->RelV y u->r x y H Q->
  subscripted slice false v u=operate [v,u] (getItem v u)->ahn (model X.prog X.w) X.A (subscriptTail value slice v u) (EP X pins σ Q) X.xe s
def xI(X:Cx)(id:String)(r:V->List V->Hp->VK->Prop):Prop :=
 ∀(pins:List (ag5×Obj))(s:aha)(σ:St)(H:Hp)(x:V)(xs:List V)(v:ahb)(us:List ahb)(Q:VK),Inv X pins σ H s->RelV x v->Vals xs us->r x xs H Q->
  ahn (model X.prog X.w) X.A (call (.builtin id) (v::us)) (EP X pins σ Q) X.xe s
variable{r:R2}{pins:List (ag5×Obj)}{σ:St}{H:Hp}{s:aha}{p:ag5}{its its':List ahb}{x:V}{u v:ahb}
section
variable {X:Cx}{a b:Expr}{ta tb:TE}{pos:Pos}
theorem Kt.or{r':R2}(h:Kt X r)(h':Kt X r'):Kt X (λx y H Q=>r x y H Q\/r' x y H Q):=by
 intro value slice pins s σ H x y v u Q I rx ry q hs;rcases q with q |q
 ·exact h value slice pins s σ H x y v u Q I rx ry q hs
 ·exact h' value slice pins s σ H x y v u Q I rx ry q hs
theorem xI.or{id:String}{r r':V->List V->Hp->VK->Prop}(h:xI X id r)(h':xI X id r'):xI X id (λx xs H Q=>r x xs H Q\/r' x xs H Q):=by
 intro pins s σ H x xs v us Q I rx rs q;rcases q with q |q
 ·exact h pins s σ H x xs v us Q I rx rs q
 ·exact h' pins s σ H x xs v us Q I rx rs q
theorem Uk(hr:Kt X r)(ha:PE X a ta)(hb:PE X b tb)(hs:Bt b):PE X (.Subscript a b pos) (T3 r ta tb):=by intro pins s σ H Q I h;exact Subscript_ (Ot ha hb I h λv u s2 x y H2 I2 rx ry q=>hr a b pins s2 σ H2 x y v u Q I2 rx ry q (hs _ _))
def Ul(K:PySem.W.Frag):R2:=λx y H Q=>∃p xs i v,x= .ref p/\y= .int i/\nk K H p xs/\qN xs i=some v/\Q v H
def Um(K:PySem.W.Frag):R2:=λx y H Q=>∃p xs i v,x= .ref p/\y= .int i/\gz K H p xs/\qN xs i=some v/\Q v H
def Uo:R2:=λx y H Q=>∃z i c,x= .str z/\y= .int i/\z.length<=ahl/\qN z.cps.toList i=some c/\Q (.str ⟨#[c]⟩) H
theorem Ku:Kt X (Ul X.K):=by
 intro value slice pins s σ H x y v u Q I rx ry h hs;obtain⟨p,xs,i,z,rfl,rfl,hq,he,q⟩:=h;cases rx;obtain⟨t,rfl⟩:=ry;obtain⟨its,r,pl,hz⟩:=I.list hq;obtain⟨j,h1,h2,h3,h4,h5⟩:=rL he;obtain⟨w,ew,rw'⟩:=r.get h2;have hl:=r.length;have hn:=nq;have fin:EP X pins σ Q w s:=⟨z,H,I,rw',q⟩;by_cases h0:0<=i
 ·have hj:i.toNat=j:=by rw[seqIndex_of h0 h5]at h1;exact Option.some.inj h1
  exact item_listR pl.isList h0 (by omega) (by rw[hj];simpa using ew) fin hs
 ·have hj:(i+(its.toArray.size:Int)).toNat=j:=by rw[seqIndex_neg (by omega) h4]at h1;rw[a8,<-hl];exact Option.some.inj h1
  exact subscriptTail_builtinR (x:=w) pl.isList.typeIs slot_list_getitem.lookup
   (wpAny_getItem_list_neg (Q:=λr s'=>r=w/\EP X pins σ Q r s') pl.isList (by omega) (by rw[a8]<;>omega) (by omega) (by rw[hj];simpa using ew) ⟨rfl,fin⟩) hs
theorem OL:Kt X (Um X.K):=by
 intro value slice pins s σ H x y v u Q I rx ry h hs;obtain⟨p,xs,i,z,rfl,rfl,hq,he,q⟩:=h;cases rx;obtain⟨t,rfl⟩:=ry;obtain⟨its,r,pl,hz⟩:=I.tuple hq;obtain⟨j,h1,h2,h3,h4,h5⟩:=rL he;obtain⟨w,ew,rw'⟩:=r.get h2;have hl:=r.length;have hn:=nq;have fin:EP X pins σ Q w s:=⟨z,H,I,rw',q⟩;exact subscriptTail_builtinR (x:=w) pl.typeIs slot_tuple_getitem.lookup
  (getItem_tuple (j:=j) (Q:=λr s'=>r=w/\EP X pins σ Q r s') pl (by omega) (by omega) (by rw[a8,<-hl];exact h1) (by simpa using ew) ⟨rfl,fin⟩) hs
theorem OM:Kt X Uo:=by
 intro value slice pins s σ H x y v u Q I rx ry h hs;obtain⟨z,i,c,rfl,rfl,hz,he,q⟩:=h;obtain⟨t,rfl⟩:=rx;obtain⟨t',rfl⟩:=ry;obtain⟨j,h1,h2,h3,h4,h5⟩:=rL he;have hl:z.cps.toList.length=z.length:=by simp[Str.length]
 rw[hl]at h1 h4 h5;have hn:=nq;exact tail_any (typeIs_str s z t) slot_str_getitem.lookup (getItem_str (c:=c) (by have e1:decide (i < -(2 ^ 63:Int))=false:=decide_eq_false (by omega);have e2:decide (i >= 2 ^ 63)=false:=decide_eq_false (by omega);rw[e1,e2,Fs]) (by rw[h1];simpa using h2) ⟨.str ⟨#[c]⟩,H,I.tok _,⟨_,rfl⟩,q⟩) hs
def rIx(K:PySem.W.Frag):R2:=λx y H Q=>Ul K x y H Q\/Um K x y H Q\/Uo x y H Q
theorem ON:Kt X (rIx X.K):=Ku.or (OL.or OM)
theorem zQ(its:List ahb)(n j:Nat)(u:ahb):oo (·.setIfInBounds j u) { cls:=.type "list",data:=.seq its.toArray n }={ cls:=.type "list",data:=.seq (its.set j u).toArray n }:=by simp[oo]
theorem Inv.lst(I:Inv X pins σ H s)(h:H p=some (.lst xs)):
  ∃(its:List ahb)(n:Nat),Vals xs its/\s.heap.get? p=some { cls:=.type "list",data:=.seq its.toArray n }/\xs.length<=ahl:=by
 obtain⟨z,its,n,r,e⟩:=I.hok p _ h;exact⟨its,n,r,e,z⟩
theorem Inv.OO{ys:List V}{n':Nat}{f:Obj->Obj}(I:Inv X pins σ H s)(h:H p=some (.lst xs))
  (ho:s.heap.get? p=some { cls:=.type "list",data:=.seq its.toArray n })(hf:f { cls:=.type "list",data:=.seq its.toArray n }={ cls:=.type "list",data:=.seq its'.toArray n' })(r:Vals ys its')(hz:ys.length<=ahl)(t:Nat):
  Inv X pins σ (upd H p (.lst ys)) { s with heap:=s.heap.update p f,toks:=t }:=by
 have e:(s.heap.update p f).get? p=some { cls:=.type "list",data:=.seq its'.toArray n' }:=by rw[zR f ho (by rw[hf]<;>rfl),hf]
 refine I.write (x:=p) (e:=p) (by rw[h];trivial) (.inl rfl) (λb u hb q=>(pF _ _ (cR hb)).trans q) ⟨_,e⟩ ?_;exact⟨hz,its',n',r,e⟩
def Up:V->V->V->Hp->(Hp->Prop)->Prop:=λo i v H Q=>∃p xs k j,o= .ref p/\i= .int k/\H p=some (.lst xs)/\EC xs.length k=some j/\Q (upd H p (.lst (xs.set j v)))
theorem set_list:TZ X Up:=by
 intro pins s σ H o i v ov iv u Q I ro ri rv h;obtain⟨p,xs,k,j,rfl,rfl,hp,hj,q⟩:=h;cases ro;obtain⟨t,rfl⟩:=ri;obtain⟨its,n,r,ho,hz⟩:=I.lst hp;obtain⟨h1,h2,h3,h4⟩:=Bs hj;have hl:=r.length;have hn:=nq;have I':Inv X pins σ (upd H p (.lst (xs.set j v))) { s with heap:=s.heap.update p (oo (·.setIfInBounds j u)) } :=
  I.OO hp ho (zQ its n j u) (r.set rv j) (by rw[List.length_set];exact hz) s.toks
 by_cases h0:0<=k
 ·have hk:k.toNat=j:=by rw[seqIndex_of h0 h4]at h1;exact Option.some.inj h1
  exact PySem.W.ki_setAt ho h0 (by omega) (by rw[a8,<-hl];exact h4) (by rw[hk];exact⟨_,I',q⟩)
 ·have hk:(k+(its.toArray.size:Int)).toNat=j:=by rw[seqIndex_neg (by omega) h3]at h1;rw[a8,<-hl];exact Option.some.inj h1
  exact PySem.W.ki_setBack ho (by omega) (by rw[a8,<-hl];exact h3) (by omega) (by rw[hk];exact⟨_,I',q⟩)
theorem vB(lo hi:Option Int)(n:Nat):(sliceBounds lo hi none n).1=((HT.eu n 0 lo:Nat):Int)/\(sliceBounds lo hi none n).2.1=((HT.eu n n hi:Nat):Int)/\(sliceBounds lo hi none n).2.2=1:=by
 refine⟨?_,?_,rfl⟩
 ·cases lo with
  |none=>simp[sliceBounds,HT.eu]
  |some i=>
   simp only[sliceBounds,HT.eu,Option.getD_none,show(1:Int) > 0 by decide,if_true];by_cases h:i < 0
   ·simp only[h,if_true]<;>omega
   ·simp only[h,if_false]<;>omega
 ·cases hi with
  |none=>simp[sliceBounds,HT.eu]
  |some i=>
   simp only[sliceBounds,HT.eu,Option.getD_none,show(1:Int) > 0 by decide,if_true];by_cases h:i < 0
   ·simp only[h,if_true]<;>omega
   ·simp only[h,if_false]<;>omega
theorem tZ(its:List ahb)(lo hi:Option Int):slicePick its.toArray lo hi none=((its.drop (HT.eu its.length 0 lo)).take (HT.eu its.length its.length hi - HT.eu its.length 0 lo)).toArray:=by obtain⟨h1,h2,h3⟩:=vB lo hi its.toArray.size;unfold slicePick;rw[h1,h2,h3];simp only[sliceRange_one,pick_run,a8]<;>rfl
def Zg(K:PySem.W.Frag):V->Option Int->Option Int->Hp->VK->Prop:=λx lo hi H Q=>∃a xs,x= .ref a/\nk K H a xs/\∀p,H p=none->Q (.ref p) (upd H p (.lst (tY xs lo hi)))
theorem Kv:JF X (Zg X.K):=by intro pins s σ H x v vl vu lo hi sl Q I rx hs pl pu h;obtain⟨a,xs,rfl,hx,q⟩:=h;cases rx;obtain⟨its,r,ht,hz⟩:=I.list hx;have hlen:=r.length;refine⟨"list",_,slot_list_getitem.lookup,ht.isList.typeIs,?_⟩;refine wpAny_getItem_list_slice ht.isList hs pl pu .none (by simp) ?_ (by rw[a8]<;>omega);rw[tZ,<-hlen];refine⟨.ref s.heap.objs.size,_,I.laid (t':=s.toks) (o:=.lst (tY xs lo hi)) (λb ob q=>bQ _ q) (aA _) ?_,rfl,q _ (I.hok.fresh (aA _))⟩;exact⟨b5 (qr xs lo hi) hz,_,0,(r.drop (HT.eu xs.length 0 lo)).take (HT.eu xs.length xs.length hi - HT.eu xs.length 0 lo),dR _ rfl⟩
def gA:V->Bool
 |.cG=>true
 |.bl _=>true
 |.int _=>true
 |.str _=>true
 |_=>false
def xJ:V->V->Bool
 |.cG,.cG=>true
 |.bl a,.bl b=>a == b
 |.bl a,.int b=>(if a then 1 else 0) == b
 |.int a,.bl b=>a == (if b then 1 else 0)
 |.int a,.int b=>a == b
 |.str a,.str b=>a == b
 |_,_=>false
theorem OP{A:ag6}{y:V}(ry:RelV y u)(rx:RelV x v)(fy:gA y=true)(fx:gA x=true):SeqAt.EqAt A s u v (xJ y x):=by
 cases y with
 |cG=>
  cases ry;cases x with
  |cG=>cases rx;exact JU _
  |bl b=>cases rx;exact SeqAt.EqAt.none_bool b
  |int b=>obtain⟨t,rfl⟩:=rx;exact JQ b t
  |str b=>obtain⟨t,rfl⟩:=rx;exact JR b t
  |_=>exact absurd (show false=true from fx) dh
 |bl a=>
  cases ry;cases x with
  |cG=>cases rx;exact SeqAt.EqAt.bool_none a
  |bl b=>cases rx;exact SeqAt.EqAt.bool_bool a b
  |int b=>obtain⟨t,rfl⟩:=rx;exact SeqAt.EqAt.bool_int a b t
  |str b=>obtain⟨t,rfl⟩:=rx;exact SeqAt.EqAt.bool_str a b t
  |_=>exact absurd (show false=true from fx) dh
 |int a=>
  obtain⟨t',rfl⟩:=ry;cases x with
  |cG=>cases rx;exact JM a t'
  |bl b=>cases rx;exact SeqAt.EqAt.int_bool a t' b
  |int b=>obtain⟨t,rfl⟩:=rx;exact SeqAt.EqAt.int_int a t' b t
  |str b=>obtain⟨t,rfl⟩:=rx;exact JL a t' b t
  |_=>exact absurd (show false=true from fx) dh
 |str a=>
  obtain⟨t',rfl⟩:=ry;cases x with
  |cG=>cases rx;exact JP a t'
  |bl b=>cases rx;exact SeqAt.EqAt.str_bool a t' b
  |int b=>obtain⟨t,rfl⟩:=rx;exact JN a t' b t
  |str b=>obtain⟨t,rfl⟩:=rx;exact SeqAt.EqAt.str_str a t' b t
  |_=>exact absurd (show false=true from fx) dh
 |_=>exact absurd (show false=true from fy) dh
def zS(x:V)(u:ahb):Bool:=match u with
 |.none=>xJ .cG x
 |.bool b=>xJ (.bl b) x
 |.int i _=>xJ (.int i) x
 |.str z _=>xJ (.str z) x
 |_=>false
theorem sx{y:V}(r:RelV y u)(f:gA y=true):zS x u=xJ y x:=by
 cases y with
 |cG=>cases r;rfl
 |bl b=>cases r;rfl
 |int i=>obtain⟨t,rfl⟩:=r;rfl
 |str z=>obtain⟨t,rfl⟩:=r;rfl
 |_=>exact absurd (show false=true from f) dh
theorem vC{x:V}:∀{xs:List V}{us:List ahb},Vals xs us->xs.all gA=true->us.any (zS x)=xs.any λy=>xJ y x
 |_,_,.nil,_=>rfl
 |y::xs,u::us,.cons r t,f=>by rw[cC,b7]at f;rw[sy,sy,sx r f.1,vC t f.2]
theorem j9{A:ag6}{s:aha}{x:V}{v:ahb}(rx:RelV x v)(fx:gA x=true):∀{xs:List V}{us:List ahb},Vals xs us->xs.all gA=true->∀u∈us,SeqAt.EqAt A s u v (zS x u)
 |_,_,.nil,_=>λu hu=>by cases hu
 |y::xs,u::us,.cons r t,f=>λu' hu=>by
  rw[cC,b7]at f;rcases List.mem_cons.mp hu with rfl |hu
  ·rw[sx r f.1];exact OP r rx f.1 fx
  ·exact j9 rx fx t f.2 u' hu
def Xt(x:V)(xs:List V):Bool:=xs.any λy=>xJ y x
def rIn(K:PySem.W.Frag)(neg:Bool):R2:=λx y H Q=>∃p xs,y= .ref p/\(nk K H p xs\/gz K H p xs)/\gA x=true/\xs.all gA=true/\Q (.bl (if neg then !Xt x xs else Xt x xs)) H
theorem Df:hV X (ahi .In) (rIn X.K false):=by
 intro pins s σ H x y v u Q I rx ry h;obtain⟨p,xs,rfl,hq,fx,fs,q⟩:=h;cases ry;rcases hq with hq |hq
 ·obtain⟨its,r,pl,hz⟩:=I.list hq;refine SeqAt.in_listAt (zS x) pl.isList (λw hw=>j9 rx fx r fs w (by simpa using hw)) ⟨.bl _,H,I,rfl,?_⟩;rw[show its.toArray.any (zS x)=its.any (zS x) by simp,vC r fs];exact q
 ·obtain⟨its,r,pl,hz⟩:=I.tuple hq;refine SeqAt.in_tupleAt (zS x) pl (λw hw=>j9 rx fx r fs w (by simpa using hw)) ⟨.bl _,H,I,rfl,?_⟩;rw[show its.toArray.any (zS x)=its.any (zS x) by simp,vC r fs];exact q
theorem vD:fc X (.builtin "len") (λxs H Q=>∃p ys,xs=[.ref p]/\(nk X.K H p ys\/gz X.K H p ys)/\Q (.int ys.length) H):=by
 intro pins s σ H xs us Q I r h;obtain⟨p,ys,rfl,hq,q⟩:=h;obtain⟨u,rfl,rx⟩:=vals1 r;cases rx;have hn:=nq;rcases hq with hq |hq
 ·obtain⟨its,r',pl,hz⟩:=I.list hq;have hlen:=r'.length;exact Calls.call_len_list pl.isList (by simp only[a8]<;>omega) ⟨.int ys.length,H,I.tok _,⟨s.toks+1,by rw[a8,hlen]⟩,q⟩
 ·obtain⟨its,r',pl,hz⟩:=I.tuple hq;have hlen:=r'.length;exact len_tuple pl (by simp only[a8]<;>omega) ⟨.int ys.length,H,I.tok _,⟨s.toks+1,by rw[a8,hlen]⟩,q⟩
theorem vE:fc X (.builtin "len") (λxs H Q=>∃z,xs=[.str z]/\z.length<=ahl/\Q (.int z.length) H):=by intro pins s σ H xs us Q I r h;obtain⟨z,rfl,hz,q⟩:=h;obtain⟨u,rfl,t,rfl⟩:=vals1 r;have hn:=nq;exact len_str (by omega) ⟨.int z.length,H,I.tok _,⟨_,rfl⟩,q⟩
theorem fc.or{f:ahb}{r r':List V->Hp->VK->Prop}(h:fc X f r)(h':fc X f r'):fc X f (λxs H Q=>r xs H Q\/r' xs H Q):=by
 intro pins s σ H xs us Q I rs q;rcases q with q |q
 ·exact h pins s σ H xs us Q I rs q
 ·exact h' pins s σ H xs us Q I rs q
theorem t5:fc X (.type "tuple") (λxs H Q=>∃p ys,xs=[.ref p]/\((nk X.K H p ys/\∀l,H l=none->Q (.ref l) (upd H l (.tup ys)))\/(gz X.K H p ys/\Q (.ref p) H))):=by
 intro pins s σ H xs us Q I r h;obtain⟨p,ys,rfl,h⟩:=h;obtain⟨u,rfl,rx⟩:=vals1 r;cases rx;rcases h with ⟨hq,q⟩ |⟨hq,q⟩
 ·obtain⟨its,r',pl,hz⟩:=I.list hq;have hlen:=r'.length;refine call_tuple_list pl.isList (λh' kp=>?_) (by simp only[a8]<;>omega);have I1:Inv X pins σ H { s with heap:=h' }:=I.kept (t':=s.toks) kp;have I2:Inv X pins σ (upd H h'.objs.size (.tup ys)) { s with heap:=h'.push { cls:=.type "tuple",data:=.seq its.toArray } } :=
   I1.laid (t':=s.toks) (λb o e=>bQ _ e) (aA _) (show iC X.prog X.w _ _ _ (.tup ys) from⟨hz,its,r',zP _ _,xF.new _ _⟩)
  exact⟨.ref h'.objs.size,_,I2,rfl,q _ (I1.hok.fresh (aA _))⟩
 ·obtain⟨its,r',pl,hz⟩:=I.tuple hq;exact call_tuple_same pl ⟨.ref p,H,I,rfl,q⟩
def Zh(K:PySem.W.Frag)(T:String)(x:V)(H:Hp):Prop:=match x with
 |.str _=>T="str"
 |.int _=>T="int"
 |.ref p=>(T="list"/\∃xs,nk K H p xs)\/(T="tuple"/\((∃o,K.lookup p=some o/\o.cls= .type "tuple"/\o.dict=none)\/∃xs,H p=some (.tup xs)))\/
   (T="dict"/\((∃kvs,H p=some (.dK kvs))\/∃kvs,H p=some (.dT kvs)))\/(T="set"/\∃S n,H p=some (.set S n))\/(T="dict"/\∃kvs,H p=some (.dN kvs))
 |_=>False
theorem Ft{T:String}(I:Inv X pins σ H s)(r:RelV x v)(ty:Zh X.K T x H):
  s.TypeIs v T/\∀a,v= .ref a->∃ob,s.heap.get? a=some ob/\ob.dict=none:=by
 cases x with
 |str z=>obtain⟨t,rfl⟩:=r;cases (show T="str" from ty);exact⟨typeIs_str s z t,λ_ e=>nomatch e⟩
 |int i=>obtain⟨t,rfl⟩:=r;cases (show T="int" from ty);exact⟨typeIs_int s i t,λ_ e=>nomatch e⟩
 |ref p=>
  cases r;rcases ty with ⟨rfl,xs,hq⟩ |⟨rfl,⟨o,hk,hc,hd⟩ |⟨xs,hk⟩⟩ |⟨rfl,hk⟩ |⟨rfl,S,n,hk⟩ |⟨rfl,kvs,hk⟩
  ·obtain⟨its,_,pl,_⟩:=I.list hq;refine⟨pl.isList.typeIs,λa e=>?_⟩;cases e;obtain⟨o,n,e,c,hd,_⟩:=pl;exact⟨o,e,hd⟩
  ·refine⟨⟨o,I.pz p o hk,hc⟩,λa e=>?_⟩;cases e;exact⟨o,I.pz _ o hk,hd⟩
  ·obtain⟨_,_,_,⟨o,e1,e2,_⟩,nd⟩:=I.hok p _ hk;refine⟨⟨o,e1,e2⟩,λa e=>?_⟩;cases e;exact⟨o,e1,nd o e1⟩
  ·have z:∃o,s.heap.get? p=some o/\o.ExactDict:=by
    rcases hk with ⟨kvs,hk⟩ |⟨kvs,hk⟩
    ·obtain⟨_,_,_,_,o,_,_,e,ex,_⟩:=I.hok p _ hk;exact⟨o,e,ex⟩
    ·obtain⟨_,_,_,_,o,_,_,e,ex,_⟩:=I.hok p _ hk;exact⟨o,e,ex⟩
   obtain⟨o,e,ex⟩:=z;refine⟨⟨o,e,ex.1⟩,λa e2=>?_⟩;cases e2;exact⟨o,e,ex.2.1⟩
  ·obtain⟨o,_,_,_,e,ex,_⟩:=I.hok p _ hk;refine⟨⟨o,e,ex.1⟩,λa e2=>?_⟩;cases e2;exact⟨o,e,ex.2.1⟩
  ·obtain⟨_,_,_,_,o,_,_,e,ex,_⟩:=I.hok p _ hk;refine⟨⟨o,e,ex.1⟩,λa e2=>?_⟩;cases e2;exact⟨o,e,ex.2.1⟩
 |_=>exact aa ty
def tBM(K:PySem.W.Frag)(T:String)(r:V->List V->Hp->VK->Prop)(to:TE)(t:TA):TE:=λσ H Q=>to σ H λx H1=>Zh K T x H1/\t σ H1 λxs H2=>r x xs H2 Q
variable {o e:Expr}{es:List Expr}{to:TE}{t:TA}{name:Str}{apos cpos:Pos}{T id:String}{r:V->List V->Hp->VK->Prop}
theorem Fv(pa:PlainAttrs T)(slot:Slot T name id)(hty:typeOf (.builtin id)=pure (.type "method_descriptor"))(hm:xI X id r)(ho:PE X o to)(ha:PA X (e::es) t)
  (hbase:attributeBase o name X.env (eval o X.env)=eval o X.env:=by rfl)
  (hfew:((backTo cpos (ahm (e::es) X.env)).all (λx=> !x.1)&&(backToKw cpos (keywordEach [] X.env)).all (λx=>x.1.isSome)
   &&decide ((e::es).length+([]:List Keyword).length+(if([]:List Keyword).isEmpty then 0 else 1) < 30))=true:=by rfl)
  (hline:(apos.endLine == cpos.line)=true:=by rfl)(hs:ahm (e::es) X.env=(false,eval e X.env)::ahm es X.env:=by rfl)(hplain:(backTo cpos (ahm es X.env)).any (·.1)=false:=by rfl):
  PE X (.Call (.Attribute o name apos) (e::es) [] cpos) (tBM X.K T r to t):=by
 intro pins s σ H Q I h;refine wpAny_Call_method_late hbase hfew hline rfl (bM (ho pins s σ H _ I h) λv s1 ⟨x,H1,I1,r1,ty,q1⟩=>?_);obtain⟨h1,h2⟩:=Ft I1 r1 ty;refine⟨T,id,pa,slot,hty,h1,h2,?_⟩;have hA:=ha cpos pins s1 σ H1 _ I1 q1;rw[hs]at hA ⊢;refine OQ (by show(false||(backTo cpos (ahm es X.env)).any (·.1))=false;rw[hplain]<;>rfl) (OR ?_);exact bM hA λus s2 ⟨vs,H2,I2,r2,q2⟩=>hm pins s2 σ H2 x vs v us Q I2 r1 r2 q2
/- xs.append(e),list.index on a Fw tuple .. are xI facts of 06m -/
end
def Xu(X:Cx)(id:String)(r:V->List V->Hp->VK->Prop):Prop :=
 ∀(pins:List (ag5×Obj))(s:aha)(σ:St)(H:Hp)(x:V)(xs:List V)(v:ahb)(us:List ahb)(Q:VK),Inv X pins σ H s->RelV x v->Vals xs us->r x xs H Q->
  ahn (model X.prog X.w) X.A (call (.builtin id) (v::us)) (EP X pins σ Q) X.xe s
theorem Vals.one:∀{x:V}{us:List ahb},Vals [x] us->∃u,us=[u]/\RelV x u
 |_,_,.cons r .nil=>⟨_,rfl,r⟩
theorem Vals.zero:∀{us:List ahb},Vals [] us->us=[]
 |_,.nil=>rfl
theorem Vals.dropLast(h:Vals xs us):Vals xs.dropLast us.dropLast:=by
 induction h with
 |nil=>exact .nil
 |cons r t ih=>
  cases t with
  |nil=>exact .nil
  |cons q t'=>exact .cons r ih
theorem Vals.rep{xs:List V}{us:List ahb}(h:Vals xs us):∀k:Nat,Vals (aR k xs).flatten (aR k us).flatten
 | 0=> .nil
 |k+1=>by rw[iY,iY,pG,pG];exact Vals.append h (Vals.rep h k)
theorem zT(l:List α):l.eraseIdx (l.length - 1)=l.dropLast:=by
 induction l with
 |nil=>rfl
 |cons a r ih=>
  cases r with
  |nil=>rfl
  |cons b r=>
   have e:(a::b::r).length - 1=((b::r).length - 1)+1:=by have h1:(a::b::r).length=r.length+2:=rfl;have h2:(b::r).length=r.length+1:=rfl;omega
   rw[e,List.eraseIdx_cons_succ,ih]
   all_goals rfl
theorem foldl_rep(its:List ahb):∀(k:Nat)(acc:List ahb),
  sA (λx1 x2=>x1++x2) acc.toArray (aR k its.toArray)=(acc++(aR k its).flatten).toArray
 | 0,acc=>by simp
 |k+1,acc=>by
  have e:acc.toArray++its.toArray=(acc++its).toArray:=by simp
  have e2:(acc++its)++(aR k its).flatten=acc++(aR (k+1) its).flatten:=by rw[iY,pG,List.append_assoc]
  rw[<-e2,<-foldl_rep its k (acc++its),<-e,iY,zU]
variable{t':Nat}
section
variable {X:Cx}{pins:List (ag5×Obj)}{σ:St}{H:Hp}{s:aha}{l b:ag5}{xs ys zs:List V}
theorem Inv.Kx{f:Array ahb->Array ahb}(I:Inv X pins σ H s)(hH:H l=some (.lst xs))
  (e:s.heap.get? l=some { cls:=.type "list",data:=.seq its.toArray n })(hf:f its.toArray=its'.toArray)(hv:Vals ys its')(hz:ys.length<=ahl):
  Inv X pins σ (upd H l (.lst ys)) { s with heap:=s.heap.update l (oo f),toks:=t' }:=by
 have q:=PySem.IsL.update e f;rw[hf]at q;refine I.write (x:=l) (e:=l) (by rw[hH];exact trivial) (.inl rfl) (λb' u hb hu=>(pF s.heap (oo f) (cR hb)).trans hu) ⟨_,q⟩ ?_;exact⟨hz,its',_,hv,q⟩
theorem Inv.OS(I:Inv X pins σ H s)(hv:Vals ys its)(hz:ys.length<=ahl):
  Inv X pins σ (upd H s.heap.objs.size (.lst ys)) { s with heap:=s.heap.push { cls:=.type "list",data:=.seq its.toArray },toks:=t' } :=
 I.laid (λ_ _ q=>bQ _ q) (aA _) ⟨hz,its,0,hv,dR _ rfl⟩
theorem Inv.fresh(I:Inv X pins σ H s):H s.heap.objs.size=none:=I.hok.fresh (aA _)
theorem Inv.Dg(I:Inv X pins σ H s)(hH:H l=some (.lst xs)):xs.length<=ahl/\∃(its:List ahb)(n:Nat),Vals xs its/\xs.length=its.length/\s.heap.get? l=some { cls:=.type "list",data:=.seq its.toArray n }:=by obtain⟨z,its,n,r,e⟩:=I.hok l _ hH;exact⟨z,its,n,r,r.length,e⟩
theorem sC(h:n<=ahl):sD n=false:=by unfold sD;exact decide_eq_false (by omega)
end
section
variable {X:Cx}
def Ky:V->List V->Hp->VK->Prop:=λx vs H Q=>∃l xs y,x= .ref l/\vs=[y]/\H l=some (.lst xs)/\xs.length < ahl/\Q .cG (upd H l (.lst (xs++[y])))
theorem Dh:Xu X "list.append" Ky:=by intro pins s σ H x vs v us Q I rx rv h;obtain⟨l,xs,y,rfl,rfl,hH,hz,q⟩:=h;cases rx;obtain⟨u,rfl,ru⟩:=rv.one;obtain⟨z,its,n,r,hl,e⟩:=I.Dg hH;refine call_meets F.slot_list_append ⟨_,e,rfl⟩ F.entry_list_append (F.args_list_append_2 _ _) (PySem.list_append l its.toArray n u (by rw[a8];omega)) ⟨e,?_⟩;refine⟨.cG,_,I.Kx (its':=its++[u]) hH e (by simp) (r.append (.cons ru .nil)) ?_,rfl,q⟩;rw[kI,List.length_singleton];omega
def Kz:V->List V->Hp->VK->Prop:=λx vs H Q=>∃l b xs zs,x= .ref l/\vs=[.ref b]/\H l=some (.lst xs)/\H b=some (.lst zs)/\xs.length+zs.length<=ahl/\Q .cG (upd H l (.lst (xs++zs)))
theorem Di:Xu X "list.extend" Kz:=by
 intro pins s σ H x vs v us Q I rx rv h;obtain⟨l,b,xs,zs,rfl,rfl,hH,hB,hz,q⟩:=h;cases rx;obtain⟨u,rfl,ru⟩:=rv.one;cases ru;obtain⟨z,its,n,r,hl,e⟩:=I.Dg hH;obtain⟨z2,its2,n2,r2,hl2,e2⟩:=I.Dg hB;have hsz:its.toArray.size+its2.toArray.size<=ahl:=by rw[a8,a8];omega
 have xK:¬(!its.toArray.isEmpty&&sD (its.toArray.size+its2.toArray.size))=true:=by rw[sC hsz,Bool.and_false];exact dh
 refine call_meets F.slot_list_extend ⟨_,e,rfl⟩ F.entry_list_extend (F.args_list_extend_2 _ _)
  (AutoSeq1.list_extend_list_list_0 l its.toArray n b its2.toArray n2 xK (by rw[a8];omega) (by omega)) ⟨e,e2,?_⟩
 refine⟨.cG,_,I.Kx (its':=its++its2) hH e (by simp) (r.append r2) ?_,rfl,q⟩;rw[kI];omega
def Uq:V->List V->Hp->VK->Prop:=λx vs H Q=>∃l xs y,x= .ref l/\vs=[]/\H l=some (.lst xs)/\xs[xs.length - 1]? =some y/\Q y (upd H l (.lst xs.dropLast))
theorem OT:Xu X "list.pop" Uq:=by
 intro pins s σ H x vs v us Q I rx rv h;obtain⟨l,xs,y,rfl,rfl,hH,hy,q⟩:=h;cases rx;have Zi:=rv.zero;subst Zi;obtain⟨z,its,n,r,hl,e⟩:=I.Dg hH;obtain⟨u,hu,ru⟩:=r.get hy;have hy':its.toArray[its.toArray.size - 1]? =some u:=by show its.toArray[its.length - 1]? =some u;rw[<-Array.getElem?_toList,<-hl];exact hu
 refine call_meets F.slot_list_pop ⟨_,e,rfl⟩ F.entry_list_pop (F.args_list_pop_1 _) (MeetsSeq.list_pop_last l its.toArray n u hy' (by rw[a8];omega)) ⟨e,?_⟩;refine⟨y,_,I.Kx (its':=its.dropLast) hH e ?_ r.dropLast ?_,ru,q⟩
 ·show its.toArray.eraseIdxIfInBounds (its.toArray.size - 1)=its.dropLast.toArray;rw[a8,List.eraseIdxIfInBounds_toArray,zT]
 ·rw[List.length_dropLast];omega
def Zj:R2:=λx y H Q=>∃l k xs,x= .ref l/\y= .int k/\H l=some (.lst xs)/\-(2 ^ 63)<=k/\k < 2 ^ 63/\xs.length * k.toNat<=ahl/\
 ∀p,H p=none->Q (.ref p) (upd H p (.lst (aR k.toNat xs).flatten))
theorem len_rep(xs:List α)(k:Nat):(aR k xs).flatten.length=k * xs.length:=by
 induction k with
 |zero=>simp
 |succ k ih=>rw[iY,pG,kI,ih,Nat.succ_mul,Nat.add_comm]
theorem OU:hV X (ahe .Mult) Zj:=by
 intro pins s σ H x y v u Q I rx ry h;obtain⟨l,k,xs,rfl,rfl,hH,h1,h2,hz,q⟩:=h;cases rx;obtain⟨t,rfl⟩:=ry;obtain⟨z,its,n,r,hl,e⟩:=I.Dg hH;have hlen:its.toArray.size * k.toNat<=ahl:=by rw[a8,<-hl];exact hz
 have hcap:¬its.toArray.size * k.toNat > (2 ^ 63 - 1) / 8:=by
  have:(ahl:Nat)<=(2 ^ 63 - 1) / 8:=by decide
  omega
 have hfit:¬(!Builtin.List.listFitsIndex k)=true:=by rw[fitsIndex_both h1 h2];exact dh
 have xK:¬sD (its.toArray.size * k.toNat)=true:=by rw[sC hlen];exact dh
 have hnew:sA (λx1 x2=>x1++x2) #[] (aR (if its.toArray.isEmpty=true then 0 else k.toNat) its.toArray)=(aR k.toNat its).flatten.toArray:=by
  have f0:∀m:Nat,sA (λx1 x2=>x1++x2) #[] (aR m its.toArray)=(aR m its).flatten.toArray:=λm=>by have:=foldl_rep its m [];rw[zV]at this;exact this
  rw[f0];cases its with
  |nil=>simp
  |cons a r'=>rw[if_neg (by simp)]
 refine wpAny_binaryOp_repeat_ref (T:="list") (U:="int") (by decide) ⟨_,e,rfl⟩ (λs'=>typeIs_int s' k t) noFill_list_mul F.fills_int_mul zW repeat_list F.slot_int_index.lookup
  (call_meets zW (typeIs_int s k t) F.entry_int_rmul (F.args_int_rmul_2 _ _) (int___rmul___int_list k t l its.toArray n)
   ⟨e,rfl,⟨_,e,rfl⟩,call_meets F.slot_list_mul ⟨_,e,rfl⟩ F.entry_list_mul (F.args_list_mul_2 _ _) (AutoListH.list___mul___list_int_3 l its.toArray n k t hfit hcap xK) ⟨e,?_⟩⟩)
 rw[hnew];exact⟨.ref _,_,I.OS (t':=s.toks) (r.rep k.toNat) (by rw[len_rep,Bu];exact hz),rfl,q _ I.fresh⟩
end
end L2
namespace Att
open PySem PySem.W PySem.Calls PyProof.Rows
variable{P:Params}{h:Heap}
theorem qO:∀(ns:List Int)(vs:List ahb),WellAll P h vs (ns.map WData.int)->IntsAre vs ns:=by
 intro ns
 induction ns with
 |nil=>intro vs w;rw[List.map_nil]at w;cases w;exact .nil
 |cons n ns ih=>
  intro vs w;rw[iT]at w;cases w with
  |cons a b=>cases a;exact .cons _ _ (ih _ b)
variable{l:OpenLaw}{n:Nat}
theorem Dj(hn:l.most=some n){args:List WData}{vals:List ahb}
  (hpre:l.row.toRowW.claim.pre args=true)(hwl:WellAll P h vals args):
  ∃a vs ns,vals=[bz a]/\args=[WData.list (ns.map WData.int)]/\h.get? a=some { cls:=.type "list",data:=.seq vs.toArray }/\IntsAre vs ns/\ns.length<=n:=by
 have hsh:WShape.hasAll [] args [.list .int]=true:=(pre_splitW hpre).1;have hc:l.pre.holds [] { args:=args }=true:=(pre_splitW hpre).2;obtain⟨d,r,rfl,h1,h2⟩:=hasAllW_cons hsh;obtain rfl:=hasAllW_nil h2;obtain⟨xs,rfl,h3⟩:=hasW_list h1;obtain⟨ns,rfl⟩:=items_int h3;have hlen:ns.length<=n:=by
  unfold OpenLaw.pre at hc;have h4:(WTm.not (.lt (.lit (.int (n:Int))) (.len (.arg 0)))).holds [] { args:=[.list (ns.map .int)] }=true:=by have h4:=(holds_andW hc).1;rw[hn]at h4;exact h4
  have h5:=condW_of h4 (w_not (w_lt w_lit (w_len_list (w_arg rfl))));rw[iW]at h5;refine Nat.le_of_not_lt λq=>?_;have q':(n:Int) < ((ns.length:Nat):Int):=by omega
  first
   |(rw[decide_eq_true q']at h5;exact absurd h5 (by decide))
   |(simp at h5;omega)
 cases hwl with
 |cons w1 w2=>
  cases w2;cases w1 with
  |list ho hall=>exact⟨_,_,ns,rfl,rfl,ho,qO ns _ hall,hlen⟩
theorem Dk(l:OpenLaw)(args:List WData):l.row.toRowW.claim.post args (.bool true) args=true :=
 postW_of (r:=l.row.toRowW) (X:=(true == true))
  (show WShape.has [] (.bool true) .bool=true by first |rfl |decide |simp[WShape.has,WShape.arms,WShape.armsAll])
  (show(WTm.eq .res (.lit (.bool true))).value [] { args:=args,res:=some (.bool true),after:=args }=some (.bool (true == true)) from w_eq_bool (w_res rfl) w_lit) rfl
theorem xM{q:ag9}{loose:List Str}{XP:(Str->Option ahb)->Heap->Prop}{YP:ahc->Heap->Prop}{d:DefRec}
  (hn:l.most=some n)(hdf:d.params.defaults=[])
  (call:∀(w:ahc)(s₀ s₁:aha)(mg mb:Str->Option ahb)(fa:ag5)(o:Obj)(pm cd doc:ahb)(a:ag5)(vs:List ahb)(ns:List Int),
   Ground q loose [] XP w s₀ mg mb s₁.heap->YP w s₁.heap->
   s₁.heap.get? fa=some o->o.data= .func (docDef d.name d.params d.body d.scope pm cd doc)->s₁.heap.CodeRec cd d.name->mg d.name=some (.ref fa)->
   s₁.heap.get? a=some { cls:=.type "list",data:=.seq vs.toArray }->IntsAre vs ns->ns.length<=n->s₁.gens=#[]->
   ahg (model l.prog w) callerA (.call (.ref fa) ⟨[.ref a],[]⟩) (λr s'=>r= .ok (.ret (.bool true))/\OldK s₁.heap s'.heap/\s'.os=s₁.os/\AllBare s'.gens) s₁):
  WalkO q loose XP YP l.row.toRowW d [] (λf vs=>PySem.call f vs):=by
 intro w s₀ s₁ mg mb G Y fa o pm cd doc dV kV ho hd hcd hD hmg hg args vals as hpre hlay hrd hwl hlo;obtain rfl:dV= .none:=Dflts.none hD hdf;obtain rfl:kV= .none:=Dflts.noKw hD;obtain⟨a,vs,ns,rfl,rfl,hobj,hints,hlen⟩:=Dj hn hpre hwl;refine enter_call (codeAny_mono (call w s₀ s₁ mg mb fa o pm cd doc a vs ns G Y ho (fd_plain hd) hcd hmg hobj hints hlen hg) λr s' hq=>?_);obtain⟨rfl,h2,h3,h4⟩:=hq;exact⟨.inl ⟨.bool true,.bool true,[],rfl,λ_=>rfl,.bool true,Dk l _,λ_=>⟨List.Pairwise.nil,λ_ hm=>(nomatch hm)⟩⟩,h2,h3,h4⟩
end Att
namespace L2
open PySem PySem.Spec PyProof.Rows
theorem uH:∀{vs:List ahb}{ns:List Int},IntsAre vs ns->Vals (ns.map V.int) vs
 |_,_,.nil=> .nil
 |_,_,.cons n t h=> .cons ⟨t,rfl⟩ (uH h)
def KC(H:Hp):Prop:=∀b,H b=none\/∃o xs,H b=some (.jy o (.lst xs))
variable{k:Nat}{x:Str}
theorem Fx{P:ag9}{w:ahc}{K:PySem.W.Frag}{mg mb:Str->Option ahb}{CX:Dd}{fa a:ag5}{fd:ag7}{sp:Sp}{s₁:aha}{vs:List ahb}{ns:List Int}
  (KX:K.In s₁.heap)(hns:s₁.heap.Ns ahk mg)(hb:s₁.heap.Ns builtinsNs mb)(hbb:∀x:Str,x≠"__name__"->mb x=ahf x)(hlim:s₁.heap.NoLimit)(hg:s₁.gens=#[])
  (ha:s₁.heap.get? a=some { cls:=.type "list",data:=.seq vs.toArray })(hi:IntsAre vs ns)(hl:ns.length<=ahl)(hr:hX k callerA)
  (F:∀base:Heap,K.In base->base.Ns ahk mg->FnOk P w K mg base CX k fa fd [x] sp)(hbind:∀(s:aha)(u:ahb),BindsTo s fd ⟨[u],[]⟩ [(x,u)])
  (Kn:∀H:Hp,KC H->nk K H a (ns.map V.int)->sp [.ref a] H (λv _=>v= .bl true) λ_ _ _=>False)
  (Zk:∀H e s',CX [] H s₁ (λ_ _ _=>False) e s'->False):
  ahg (model P w) callerA (.call (.ref fa) ⟨[.ref a],[]⟩) (λr s'=>r= .ok (.ret (.bool true))/\OldK s₁.heap s'.heap/\s'.os=s₁.os/\AllBare s'.gens) s₁:=by
 have rv:=uH hi;have Zl:=hi.length
 -- from an abstract heap in which nothing but the script may be tracked
 have core:∀H:Hp,KC H->nk K H a (ns.map V.int)->ng P w H s₁.heap->(∀b,H b≠none->b=a)->(H a≠none->K.lookup a=none)->
   ahg (model P w) callerA (.call (.ref fa) ⟨[.ref a],[]⟩) (λr s'=>r= .ok (.ret (.bool true))/\OldK s₁.heap s'.heap/\s'.os=s₁.os/\AllBare s'.gens) s₁:=by
  intro H hO hS hok hA hK;have Bv:∀{b:ag5}{o:Obj},s₁.heap.get? b=some o->H b=none->(vn s₁.heap H).get? b=some o:=λe n=>EN e n;have Ug:∀{b:ag5}{o:Obj}{es:Array DictEntry}{ep:Nat},s₁.heap.get? b=some o->o.data= .dict es ep->H b=none:=λ{b o es ep} e d=>by
   cases q:H b with
   |none=>rfl
   |some u=>have e':b=a:=hA b (by rw[q];simp);subst e';rw[ha]at e;cases e;have d':Data.seq vs.toArray _=Data.dict es ep:=d;cases d'
  have Xv:∀{b:ag5}{m:Str->Option ahb},s₁.heap.Ns b m->(vn s₁.heap H).Ns b m:=λ{b m} ⟨o,es,ep,e,d,r⟩=>⟨o,es,ep,Bv e (Ug e d),d,r⟩;have hKb:K.In (vn s₁.heap H):=λb o e=>Bv (KX b o e) (by
   cases q:H b with
   |none=>rfl
   |some u=>have e':b=a:=hA b (by rw[q];simp);subst e';rw[hK (by rw[q];simp)]at e;cases e)
  have hM:Mod K mg (vn s₁.heap H):=⟨hKb,Xv hns,⟨mb,Xv hb,hbb⟩,let ⟨mc,h1,h2⟩:=hlim;⟨mc,Xv h1,h2⟩⟩;have e0:tX P w K mg (vn s₁.heap H) callerA [] s₁ H:=⟨rfl,hM,λb o e=>JZ e,rH (CT _ _),trivial,λb hb=>absurd (show b∈([]:List ag5) from hb) (by simp),hok,.of_eq hg⟩;refine codeAny_mono ((F _ hKb (Xv hns)).run callerA [] s₁ H ⟨[.ref a],[]⟩ [.ref a] [.ref a] _ _ hr e0 (hbind s₁ (.ref a)) (.cons rfl .nil) (Kn H hO hS)) λr s' h=>?_;cases r with
  |error e=>exact(Zk H e s' h).elim
  |ok fl=>
   cases fl with
   |next=>exact aa h
   |brk=>exact aa h
   |cont=>exact aa h
   |ret u=>
    obtain⟨v,H',os,bare,un,Zm,r',q⟩:=h;have q':v= .bl true:=q;subst q';obtain rfl:u=og true:=r';refine⟨rfl,OldK.of_keep λb o e=>?_,os,bare⟩;cases q:H b with
    |none=>exact un.keep b o e q (by intro z;exact absurd (show b∈([]:List ag5) from z) (by simp)) (by simp)
    |some u=>
     rcases hO b with z |⟨ob,xs,z⟩
     ·rw[q]at z;cases z
     ·have z2:=un.lx b ob _ z;obtain⟨e1,_⟩:=hok b _ z;obtain⟨e2,_⟩:=Zm b _ z2;rw[e]at e1;cases e1;exact e2
 cases hk:K.lookup a with
 |some o=>
  -- the script is one of the Fw own objects
  have e:=KX a o hk;rw[ha]at e;cases e;refine core (λ_=>none) (λ_=> .inl rfl) (.inr ⟨_,vs.toArray,_,hk,rfl,rfl,rfl,by rw[a8,Zl];exact hl,by simpa using rv⟩) (λb u z=>by have z':(none:Option HO)=some u:=z;cases z') (λb z=>absurd rfl z) λz=>absurd rfl z
 |none=>
  refine core (λb=>if b=a then some (.jy { cls:=.type "list",data:=.seq vs.toArray } (.lst (ns.map V.int)))else none) (λb=>?_) (.inl (.inr ⟨{ cls:=.type "list",data:=.seq vs.toArray },if_pos rfl⟩)) (λb u z=>?_) (λb z=>?_) λ_=>hk
  ·by_cases hb:b=a
   ·exact .inr ⟨_,_,if_pos hb⟩
   ·exact .inl (if_neg hb)
  ·by_cases hb:b=a
   ·have z':=(if_pos hb).symm.trans z;cases z';subst hb;exact⟨ha,by rw[iW];exact hl,vs,_,rv,ha⟩
   ·have z':=(if_neg hb).symm.trans z;cases z'
  ·by_cases hb:b=a
   ·exact hb
   ·exact absurd (if_neg hb) z
abbrev KOf{K:PySem.W.Frag}{h:Heap}(_:K.In h):PySem.W.Frag:=K
theorem walk_of{l:PySem.W.OpenLaw}{n:Nat}{q:ag9}{loose:List Str}{XP:(Str->Option ahb)->Heap->Prop}{YP:ahc->Heap->Prop}{d:DefRec}{K:Params->PySem.W.Frag}{CX:ahc->Dd}{sp:ahc->Sp}
  (hn:l.most=some n)(hn2:n<=ahl)(hdf:d.params.defaults=[])(hr:hX k callerA)
  (hY:∀(w:ahc)(h:Heap),YP w h->(K w.params).In h)
  (F:∀(w:ahc)(mg:Str->Option ahb)(fa:ag5)(h:Heap),(K w.params).In h->h.Ns ahk mg->mg d.name=some (.ref fa)->
   ∃fd:ag7,(∀(s:aha)(u:ahb),BindsTo s fd ⟨[u],[]⟩ [(x,u)])/\
    ∀base:Heap,(K w.params).In base->base.Ns ahk mg->FnOk l.prog w (K w.params) mg base (CX w) k fa fd [x] (sp w))
  (Kn:∀(w:ahc)(H:Hp)(a:ag5)(ns:List Int),ns.length<=n->KC H->nk (K w.params) H a (ns.map V.int)->sp w [.ref a] H (λv _=>v= .bl true) λ_ _ _=>False)
  (Zk:∀(w:ahc)(H:Hp)(s:aha)(e:ahb)(s':aha),CX w [] H s (λ_ _ _=>False) e s'->False):
  PySem.W.WalkO q loose XP YP l.row.toRowW d [] (λf vs=>PySem.call f vs):=by
 refine Att.xM hn hdf λw s₀ s₁ mg mb fa o pm cd doc a vs ns G Y ho hd hcd hmg hobj hints hlen hg=>?_;have KX:=hY w _ Y;obtain⟨fd,hb,hF⟩:=F w mg fa _ KX G.T.g hmg;exact Fx KX G.T.g G.T.b G.T.builtins G.T.nolimit hg hobj hints (b5 hlen hn2) hr hF hb (λH hO hS=>Kn w H a ns hlen hO hS) λH e s'=>Zk w H s₁ e s'
end L2
/- THE aer Xw (shape;LID,My.* are acS):
   My.Adr: a structure of the addresses aes your acT names (classes,SR);My.Txt K t: a structure (Prop) of the equations over K;
   My.OV:{K}{implicit addresses ..} (e1:nsIn K ahk "law"=some (some (.ref f))) (e2:K.lookup f=some ⟨oc,od,.func (fnOf "law" "law" params body scope dV kV doc pm an cdv ct),sl⟩) (e3:codeIn K cdv "law"=true) ..:∃t,My.Txt K t
set_option maxRecDepth 100000 in
set_option maxHeartbeats 0 in
theorem PySem.Challenge.cw_LID_holds:PySem.Challenge.rw_LID.Holds:=by
 w_on;o_law;k_head;(case hw=>w_witness2)
 k_fill
 refine L2.walk_of (l:=PySem.Challenge.rw_LID) (n:=63) (k:=40) (x:="script") (CX:=fun w => ..) (sp:=fun _ => My.sp_law) rfl (by decide) rfl ⟨rfl,by decide,by decide⟩ (fun w h Y => PySem.W.kIn_of Y) ?F ?S ?C
 case F=>
  intro w mg fa h KX G hmg;have T:∃t,My.Txt (L2.KOf KX) t:=by
   dsimp only[L2.KOf] -- K aet stand as «<heap const> w.params» for k_is;refine' My.OV ?e1 ?e2 ?e3 ..
   (case e1=>PySem.W.k_is) -- in the order: a name -> its address -> its object -> its parts
   (case e2=>PySem.W.k_is)
   ..
  obtain⟨t,T⟩:=T;have e0:=hmg.symm.trans (PySem.W.mg_of KX G T.law);cases e0 -- fa is the acU own address;exact⟨_,λs u=> .of_eq rfl,λbase kb nb=>My.OW T kb nb⟩ -- if «.of_eq rfl» comes too early: refine' ⟨_,?b,λbase kb nb=>My.OW T kb nb⟩;exact λs u=> .of_eq rfl
 case S=>exact λw H a ns hl hO hS=> ..
 case C=>exact ..
(the tactic k_is has no namespace: write k_is) -/
namespace L2
open PySem PySem.Spec PyProof.Rows
def inClass(s:Stmt)(j:Nat):Stmt:=match s with
 |.ClassDef _ _ _ body _ _ _ _ _ _ _=>body.getD j (.Pass ⟨0,0,0,0⟩)
 |_=> .Pass ⟨0,0,0,0⟩
def defArgs(s:Stmt):Arguments:=match s with
 |.FunctionDef _ a _ _ _ _ _ _ _ _=>a
 |_=>{ posonlyargs:=[],args:=[],vararg:=none,kwonlyargs:=[],kw_defaults:=[],kwarg:=none,defaults:=[] }
def defBody(s:Stmt):List Stmt:=match s with
 |.FunctionDef _ _ b _ _ _ _ _ _ _=>b
 |_=>[]
def defScope(s:Stmt):Scope:=match s with
 |.FunctionDef _ _ _ _ _ _ sc _ _ _=>sc
 |_=>{ kind:=.function,names:=[],isGenerator:=false,isCoroutine:=false }
abbrev CX0:Dd:=λ_ _ _ _ _ _=>False
abbrev E0:XK:=λ_ _ _=>False
structure JG(K:PySem.W.Frag)(x qual:Str)(st:Stmt)(f:ag5)(fd:ag7):Prop where
 ex:∃(oc:ahb)(od:Option ag5)(kV doc pm:ahb)(an:Option ag5)(cdv ct:ahb)(osl:Array (Option ahb)),
  fd=PySem.W.fnOf x qual (defArgs st) (defBody st) (defScope st) .none kV doc pm an cdv ct/\K.lookup f=some ⟨oc,od,.func fd,osl⟩/\PySem.W.codeIn K cdv qual=true
 kp:PySem.W.keepIn K (.ref f)=true
variable{qual:Str}{st:Stmt}{f:ag5}
section
variable {P:ag9}{w:ahc}{K:PySem.W.Frag}{mg:Str->Option ahb}{base:Heap}
theorem JG.binds{x:Str}{fd:ag7}{ps:List Str}(F:JG K x qual st f fd)
  (h:∀(kV doc pm:ahb)(an:Option ag5)(cdv ct:ahb)(us:List ahb),us.length=ps.length->bindArgs (PySem.W.fnOf x qual (defArgs st) (defBody st) (defScope st) .none kV doc pm an cdv ct) ⟨us,[]⟩=pure (ps.zip us)):Binds K fd ps []:=by
 obtain⟨oc,od,kV,doc,pm,an,cdv,ct,osl,rfl,lk,hcd⟩:=F.ex;exact .all (h kV doc pm an cdv ct)
theorem zX{x:Str}{oc:ahb}{od an:Option ag5}{osl:Array (Option ahb)}{kV doc pm cdv ct:ahb}(l:K.lookup f=some ⟨oc,od,.func (PySem.W.fnOf x qual (defArgs st) (defBody st) (defScope st) .none kV doc pm an cdv ct),osl⟩)
  (c:PySem.W.codeIn K cdv qual=true)(k:PySem.W.keepIn K (.ref f)=true):JG K x qual st f (PySem.W.fnOf x qual (defArgs st) (defBody st) (defScope st) .none kV doc pm an cdv ct):=⟨⟨oc,od,kV,doc,pm,an,cdv,ct,osl,rfl,l,c⟩,k⟩
end
def OX(i: Expr): Prop := ∀ov iv, subscripted i false ov iv=operate [ov, iv] (getItem ov iv)
theorem KG{prog: ag9}{w: ahc}{A: ag6}{E: ahb->aha->Prop}{s: aha}{env: Env}{value slice: Expr}{pos: Pos}{T id: String}{Q: ahb->aha->Prop}
  (hl: typeLookup (.type T) "__getitem__"=pure (some (.builtin id)))(hs: OX slice)
  (h: ahn (model prog w) A (eval value env) (λo s₁=>ahn (model prog w) A (eval slice env) (λi s₂=>s₂.TypeIs o T/\ahn (model prog w) A (getItem o i) Q E s₂) E s₁) E s):
  ahn (model prog w) A (eval (.Subscript value slice pos) env) Q E s := by
 refine Subscript_ (ahq h (λo s₁ h₁=>ahq h₁ (λi s₂ h₂=>?_) λ_ _ x=>x) λ_ _ x=>x);obtain⟨hT, h₂⟩ := h₂;unfold subscriptTail;refine aho ?_;rw[getitemInPython_of_ne hT.not_modules];refine aho (wpAny_specialOf hT hl ?_);have fin: ahn (model prog w) A (subscripted slice false o i) (λr s₃=>ahn (model prog w) A (letTemporaryGo value o r >>= λ_=>pure r) Q E s₃) E s₂ := by rw[hs o i];exact wpAny_operating (ahq h₂ (λr s₃ h₃=>aho (wpAny_letTemporaryGo (ahs h₃))) λ_ _ x=>x)
 first
  |exact ahs (aho fin)
  |exact aho (ahs (aho fin))
  |exact aho fin
end L2
set_option maxHeartbeats 4000000
namespace J
open PySem PySem.Spec PyProof.Rows L2
def Xx(h base:Heap)(e:ag5)(cls a0 fl:ahb):Prop :=
 ∃ox us T ot ws,h.get? e=some ox/\(ox.cls=cls/\us[2]? =some c_)/\ox.data= .fields us/\us[1]? =some (.ref T)/\base.get? T=none/\T≠e/\h.get? T=some ot/\ot.data= .fields ws/\ws[3]? =some fl
abbrev KH(base:Heap)(l:List Env)(e:ag5)(cls a0 fl:ahb)(h:Heap):Prop:=base.StaysIn h/\base.get? e=none/\h.FunFrames base l/\Xx h base e cls a0 fl
def Fy(base:Heap)(l:List Env)(e:ag5)(cls a0:ahb)(L:ag5)(h:Heap):Prop:=KH base l e cls a0 (rawInt L) h
def vF(base:Heap)(l:List Env)(e:ag5)(cls a0:ahb)(h:Heap):Prop:=KH base l e cls a0 .none h
variable{h:Heap}{cls:ahb}
theorem vF.first{base:Heap}{l:List Env}{e:ag5}{a0:ahb}(x:vF base l e cls a0 h):∃ox us,h.get? e=some ox/\ox.cls=cls/\ox.data= .fields us/\us[2]? =some c_ :=
 let ⟨_,_,_,ox,us,_,_,_,g1,g2,g3,_⟩:=x;⟨ox,us,g1,g2.1,g3,g2.2⟩
variable{ox:Obj}{us:Array ahb}
section
variable {M:Model}{A:ag6}{E:ahb->aha->Prop}{s:aha}{base:Heap}{env:Env}{outer l:List Env}{L e:ag5}{cls a0 nt:ahb}{Q:Unit->aha->Prop}
theorem zY{h1:Heap}{S:List ag5}{ob:Obj}{ws:Array ahb}(so:Heap.SlotsOnly S h h1)(hS:S=l.filterMap (·.frame))(fs:h.FunFrames base l)(g1:h.get? e=some ox)(g3:ox.data= .fields us)(st:base.StaysIn h)(ne:base.get? e=none)(sz:1 < us.size)(g2:us[2]? =some c_)
  (d:ob.data= .fields ws)(w3:ws[3]? =some nt)(nf:ob.isFreed=false):
  KH base l e ox.cls a0 nt ((h1.push ob).update e (oq (·.setIfInBounds 1 (.ref h1.objs.size))))/\h.UpToSlots ((h1.push ob).update e (oq (·.setIfInBounds 1 (.ref h1.objs.size)))):=by
 have nS:e∉S:=λz=>by rw[hS]at z;obtain⟨_,o2,q2,d2⟩:=fs.mem z;rw[g1]at q2;cases q2;exact d2 us g3
 have q1:h1.get? e=some ox:=(so.2.1 e nS).trans g1;have lt:e≠h1.objs.size:=cQ (bx q1);have oth:∀b o,b≠e->h1.get? b=some o->((h1.push ob).update e (oq (·.setIfInBounds 1 (.ref h1.objs.size)))).get? b=some o:=λb o n q=>(pF _ _ (cR n)).trans (bQ _ q);have up:h.UpToSlots ((h1.push ob).update e (oq (·.setIfInBounds 1 (.ref h1.objs.size)))):=λb o q n=>by obtain⟨sl,q2⟩:=so.2.2 b o q;exact⟨sl,oth b _ (λz=>by rw[z,g1]at q;cases q;exact n us g3) q2⟩
 have stay:base.StaysIn h1:=λb o q=>(so.2.1 b λz=>by rw[hS]at z;rw[(fs.mem z).1]at q;cases q).trans (st b o q);have fresh:base.get? h1.objs.size=none:=by
  cases z:base.get? h1.objs.size with
  |none=>rfl
  |some o=>exact absurd (bx (stay _ _ z)) (fX _)
 have d1:=Bw g3 (·.setIfInBounds 1 (bz h1.objs.size));refine⟨⟨λb o q=>oth b o (λz=>by rw[z,ne]at q;cases q) (stay b o q),ne,fs.of_keeps λb o q n=>?_,_,_,h1.objs.size,ob,ws,zR _ (bQ _ q1) (KI d1),⟨Obj.cls_mapFields _ _,?_⟩,d1,by simp[sz],fresh,cR lt,?_,d,w3⟩,up⟩
 ·obtain⟨sl,q2⟩:=up b o q n;exact⟨_,q2,rfl⟩
 ·rw[Array.getElem?_setIfInBounds_ne (by decide)];exact g2
 ·exact(pF _ _ lt).trans (dR _ nf)
theorem Fz{head:ahb}{had:Bool}(hfr:A.frames=some (env::outer))(fs:s.heap.FunFrames base (env::outer))(hf:env.frame=some L)(g1:s.heap.get? e=some ox)(st:base.StaysIn s.heap)(ne:base.get? e=none)(g3:ox.data= .fields us)(sz:1 < us.size)(g2:us[2]? =some c_)
  (k:∀h',Fy base (env::outer) e ox.cls a0 L h'->s.heap.UpToSlots h'->Q () { s with heap:=h' }):
  ahn M A (do let a <-frameOf env;let pl <-entryPlaceOf L had;let b <-OY head a .none (rawInt L) .none pl;setField (.ref e) 1 b) Q E s:=by
 refine aho (wpAny_frameOf_fun hfr fs hf λh1 so=>aho (wpAny_entryPlaceOf λpl pp=>?_));have nS:e∉(env::outer).filterMap (·.frame):=λz=>by obtain⟨_,o2,q2,d2⟩:=fs.mem z;rw[g1]at q2;cases q2;exact d2 us g3
 have q1:h1.get? e=some ox:=(so.2.1 e nS).trans g1;simp only[OY,newFields];refine aho (ahr (wpAny_setField (bQ _ q1) g3 sz ?_) (pp.sizeOk5 _ _ _ _ _));obtain⟨m,up⟩:=zY (a0:=a0) (nt:=rawInt L) so rfl fs g1 g3 st ne sz g2 (ob:={ cls:=.type "traceback",dict:=none,data:=.fields ([head,.ref L,.none,rawInt L,.none]++(if pl.isEmpty then aR 6 c_ else pl)).toArray }) rfl (by first |(simp;done) |(rcases pp with rfl |⟨_,_,_,_,_,_,_,rfl⟩<;>simp)) rfl;exact k _ m up
theorem OZ(hf:env.frame=some L)(x:Xx s.heap base e cls a0 (rawInt L))(k:Q () s):ahn M A (noteFrame (.ref e) env) Q E s:=by obtain⟨ox,us,T,ot,ws,g1,g2,g3,g4,g5,g6,g7,g8,g9⟩:=x;unfold noteFrame;simp only[hf];refine aho (wpAny_field g1 g3 g4 ?_);rw[if_pos (by simp)];refine aho (wpAny_field g7 g8 g9 ?_);rw[if_pos (by simp)];exact ahs k
theorem xN(x:KH base l e cls a0 nt s.heap)(k:∀h',vF base l e cls a0 h'->s.heap.UpToSlots h'->Q () { s with heap:=h' }):ahn M A (setFlight (.ref e) none) Q E s:=by
 obtain⟨x1,x2,x3,ox,us,T,ot,ws,g1,g2,g3,g4,g5,g6,g7,g8,g9⟩:=x;have sz:3 < ws.size:=(Array.getElem?_eq_some_iff.mp g9).1;unfold setFlight;refine aho (wpAny_field g1 g3 g4 ?_);rw[if_pos (by simp)];refine wpAny_setField g7 g8 sz ?_;generalize hu:s.heap.update T _=h';have ap:∀b,b≠T->h'.get? b=s.heap.get? b:=λb n=>by rw[<-hu];exact pF _ _ (cR n)
 have pl:∀b o,s.heap.get? b=some o->(∀vs,o.data≠.fields vs)->h'.get? b=some o:=λb o q n=>(ap b λz=>by rw[z,g7]at q;cases q;exact n ws g8).trans q;refine k h' ⟨λb o q=>(ap b λz=>by rw[z,g5]at q;cases q).trans (x1 b o q),x2,x3.of_keeps λb o q n=>⟨o,pl b o q n,rfl⟩,ox,us,T,oq (·.setIfInBounds 3 .none) ot,ws.setIfInBounds 3 .none,(ap e (cR g6)).trans g1,g2,g3,g4,g5,g6,?_,Bw g8 _,?_⟩ λb o q n=>⟨o.slots,pl b o q n⟩
 ·rw[<-hu];exact zR _ g7 (KI (Bw g8 _))
 ·simp[sz]
end
structure Lm where
 a:ag5
 c:ag5
 q:PySem.Str
 xs:List V
inductive Wv where
 |cG
 |bl (b:Bool)
 |int (i:Int)
 |str (x:PySem.Str)
 |tup (ws:List Wv)
 |jS (ws:List Wv)
 |ref (l:Nat)
 |ty (n:String)
 |cls (c:PySem.Str)
 |iP (c:PySem.Str)
 |fn (p:Lm) (ws:List Wv)
inductive Ob where
 |lst (ws:List Wv)
 |t6 (ns:List Int)
 |dct (kvs:List (L2.Key×Wv))
 |ED (kvs:List (List L2.Key×Wv))
 |Dl (kvs:List (List L2.Key×Wv))
 |EE (kvs:List (L2.Key×Wv))
 |FA (kvs:List (NK.KD×Wv))
 |ins (c:PySem.Str) (fs:List (PySem.Str×Wv))
abbrev Hs:=List Ob
abbrev St:=L2.St
abbrev bR:=List (Option Wv)
abbrev Mp:=List ag5
def lG(a C:ag5):Heap->Prop:=λh=>∃o,h.get? a=some o/\o.cls= .ref C/\∃vs,o.data= .fields vs
def Xy(a C:ag5)(u:Option HO):Prop:=∃o vs,u=some (.jy o (.ext (lG a C)))/\o.data= .fields vs/\vs[2]? =some c_
variable{H:Hp}{a:ag5}
theorem MG{P:ag9}{w:ahc}{C:ag5}(ok:ng P w H h)(x:Xy a C (H a)):lG a C h:=let ⟨_,_,e,_⟩:=x;(ok a _ e).2.1
def ClsAt(K:PySem.W.Frag)(c:PySem.Str)(C:ag5):Prop:=PySem.W.nsIn K ahk c=some (some (.ref C))
def FC(c:ag5)(q:PySem.Str):Heap->Prop:=λh=>h.CodeRec (.ref c) q
def cx:List PySem.Str:=["form_of","formula_by","turned","readied_content","ordered","fresh_book","support_of","behind","book_behind"]
def kJ(K:PySem.W.Frag)(q:PySem.Str):Option ag5:=match PySem.W.tabIn K q with
 |some (_,P)=>if(K.lookup P).isNone=true then some P else none
 |none=>none
def Zn(q:PySem.Str):PySem.Str:=(q++".<locals>.")++"<lambda>"
def vG(K:PySem.W.Frag)(H:Hp):Prop:=∀q P,q∈cx->kJ K q=some P->∃ps,H P=some (.fW ps)/\TriplesOk ps.toList/\∀pos cv,codeAmong pos ps.toList=some cv->∃c,cv= .ref c/\H c=some (.ext (FC c (Zn q)))
variable{K:PySem.W.Frag}
theorem vG.keep{H':Hp}(t:vG K H)(h1:∀a ps,H a=some (.fW ps)->H' a=some (.fW ps))(h2:∀a φ,H a=some (.ext φ)->H' a=some (.ext φ)):vG K H':=λq P hq hP=>by obtain⟨ps,e1,e2,e3⟩:=t q P hq hP;refine⟨ps,h1 _ _ e1,e2,λpos cv e=>?_⟩;obtain⟨c,f1,f2⟩:=e3 pos cv e;exact⟨c,f1,h2 _ _ f2⟩
def Ur(K:PySem.W.Frag)(a:ag5)(xs:List V):Prop:=∃(o:Obj)(its:Array ahb)(n:Nat),K.lookup a=some o/\o.cls= .type "tuple"/\o.data= .seq its n/\its.size<=ahl/\Vals xs its.toList
mutual
def ak(K:PySem.W.Frag)(m:Mp)(H:Hp):Wv->V->Prop
 |.cG,v=>v= .cG
 |.bl b,v=>v= .bl b
 |.int i,v=>v= .int i
 |.str x,v=>v= .str x/\aW x=true
 |.tup ws,v=>∃a xs,v= .ref a/\H a=some (.tup xs)/\ai K m H ws xs
 |.jS ws,v=>∃a xs,v= .ref a/\Ur K a xs/\ai K m H ws xs
 |.ref l,v=>∃a,v= .ref a/\m[l]? =some a
 |.ty n,v=>v= .ty n
 |.cls c,v=>∃C,v= .ref C/\ClsAt K c C
 |.iP c,v=>∃a C,v= .ref a/\ClsAt K c C/\Xy a C (H a)
 |.fn p ws,v=>v= .ref p.a/\H p.c=some (.ext (FC p.c p.q))/\ai K m H ws p.xs
def ai(K:PySem.W.Frag)(m:Mp)(H:Hp):List Wv->List V->Prop
 |[],xs=>xs=[]
 |w::ws,xs=>∃x r,xs=x::r/\ak K m H w x/\ai K m H ws r
end
structure Ext(K:PySem.W.Frag)(m:Mp)(H:Hp)(m':Mp)(H':Hp):Prop where
 pre:∀(l:Nat)(a:ag5),m[l]? =some a->m'[l]? =some a
 tup:∀(a:ag5)(xs:List V),H a=some (.tup xs)->H' a=some (.tup xs)
 ext:∀(a:ag5)(φ:Heap->Prop),H a=some (.ext φ)->H' a=some (.ext φ)
 jy:∀(a:ag5)(o:Obj)(u:HO),H a=some (.jy o u)->H' a=some (.jy o u)
variable{ws:List Wv}{w:Wv}{xs:List V}
section
variable {K:PySem.W.Frag}{m m1 m2:Mp}{H H1 H2:Hp}
theorem Ext.refl:Ext K m H m H:=⟨λ_ _ h=>h,λ_ _ h=>h,λ_ _ h=>h,λ_ _ _ h=>h⟩
theorem Ext.trans(a:Ext K m H m1 H1)(b:Ext K m1 H1 m2 H2):Ext K m H m2 H2 :=
 ⟨λl x h=>b.pre l x (a.pre l x h),λx xs h=>b.tup x xs (a.tup x xs h),λx φ h=>b.ext x φ (a.ext x φ h),λx o u h=>b.jy x o u (a.jy x o u h)⟩
structure O0(K:PySem.W.Frag)(m:Mp)(H:Hp)(m':Mp)(H':Hp):Prop where
 pre:∀(l:Nat)(a:ag5),m[l]? =some a->m'[l]? =some a
 tup:∀(a:ag5)(xs:List V),H a=some (.tup xs)->H' a=some (.tup xs)
 ext:∀(a:ag5)(φ:Heap->Prop),H a=some (.ext φ)->H' a=some (.ext φ)
 fx:∀(a:ag5)(o:Obj)(φ:Heap->Prop),H a=some (.jy o (.ext φ))->H' a=some (.jy o (.ext φ))
theorem Ext.z(e:Ext K m H m1 H1):O0 K m H m1 H1:=⟨e.pre,e.tup,e.ext,λa o φ h=>e.jy a o _ h⟩
mutual
theorem ak.qs(e:O0 K m H m1 H1):∀(w:Wv)(v:V),ak K m H w v->ak K m1 H1 w v
 |.cG,v,h=>by unfold ak at h ⊢;exact h
 |.bl b,v,h=>by unfold ak at h ⊢;exact h
 |.int i,v,h=>by unfold ak at h ⊢;exact h
 |.str x,v,h=>by unfold ak at h ⊢;exact h
 |.ty n,v,h=>by unfold ak at h ⊢;exact h
 |.cls c,v,h=>by unfold ak at h ⊢;exact h
 |.iP c,v,h=>by unfold ak at h ⊢;obtain⟨a,C,e1,e2,o,vs,e3,e4⟩:=h;exact⟨a,C,e1,e2,o,vs,e.fx _ _ _ e3,e4⟩
 |.ref l,v,h=>by unfold ak at h ⊢;obtain⟨a,e1,e2⟩:=h;exact⟨a,e1,e.pre _ _ e2⟩
 |.tup ws,v,h=>by unfold ak at h ⊢;obtain⟨a,xs,e1,e2,e3⟩:=h;exact⟨a,xs,e1,e.tup _ _ e2,ai.qs e ws xs e3⟩
 |.jS ws,v,h=>by unfold ak at h ⊢;obtain⟨a,xs,e1,e2,e3⟩:=h;exact⟨a,xs,e1,e2,ai.qs e ws xs e3⟩
 |.fn p ws,v,h=>by unfold ak at h ⊢;obtain⟨e1,e2,e3⟩:=h;exact⟨e1,e.ext _ _ e2,ai.qs e ws p.xs e3⟩
theorem ai.qs(e:O0 K m H m1 H1):∀(ws:List Wv)(xs:List V),ai K m H ws xs->ai K m1 H1 ws xs
 |[],xs,h=>by unfold ai at h ⊢;exact h
 |w::ws,xs,h=>by unfold ai at h ⊢;obtain⟨x,r,e1,e2,e3⟩:=h;exact⟨x,r,e1,ak.qs e w x e2,ai.qs e ws r e3⟩
end
theorem ak.mono(e:Ext K m H m1 H1)(w:Wv)(v:V)(h:ak K m H w v):ak K m1 H1 w v:=ak.qs e.z w v h
theorem ai.mono(e:Ext K m H m1 H1)(ws:List Wv)(xs:List V)(h:ai K m H ws xs):ai K m1 H1 ws xs:=ai.qs e.z ws xs h
theorem ai.nil:ai K m H [] []:=by unfold ai;rfl
theorem ai.cons{x:V}(h:ak K m H w x)(t:ai K m H ws xs):ai K m H (w::ws) (x::xs):=by unfold ai;exact⟨x,xs,rfl,h,t⟩
theorem ai.length:∀{ws:List Wv}{xs:List V},ai K m H ws xs->ws.length=xs.length
 |[],xs,h=>by unfold ai at h;subst h;rfl
 |w::ws,xs,h=>by unfold ai at h;obtain⟨x,r,e1,_,e3⟩:=h;subst e1;simp[ai.length e3]
theorem ai.get:∀{ws:List Wv}{xs:List V}{i:Nat}{w:Wv},ai K m H ws xs->ws[i]? =some w->∃x,xs[i]? =some x/\ak K m H w x
 |[],_,i,w,_,e=>by simp at e
 |a::ws,xs,0,w,h,e=>by unfold ai at h;obtain⟨x,r,e1,e2,_⟩:=h;subst e1;simp at e;subst e;exact⟨x,rfl,e2⟩
 |a::ws,xs,i+1,w,h,e=>by unfold ai at h;obtain⟨x,r,e1,_,e3⟩:=h;subst e1;obtain⟨y,f1,f2⟩:=ai.get (i:=i) (w:=w) e3 (by simpa using e);exact⟨y,by simpa using f1,f2⟩
theorem ai.append:∀{ws zs:List Wv}{xs ys:List V},ai K m H ws xs->ai K m H zs ys->ai K m H (ws++zs) (xs++ys)
 |[],_,xs,_,h,g=>by unfold ai at h;subst h;exact g
 |w::ws,zs,xs,ys,h,g=>by unfold ai at h;obtain⟨x,r,e1,e2,e3⟩:=h;subst e1;exact ai.cons e2 (ai.append e3 g)
theorem ai.set:∀{ws:List Wv}{xs:List V}(i:Nat){w:Wv}{x:V},ai K m H ws xs->ak K m H w x->ai K m H (ws.set i w) (xs.set i x)
 |[],xs,i,w,x,h,_=>by unfold ai at h;subst h;exact ai.nil
 |a::ws,xs,0,w,x,h,g=>by unfold ai at h;obtain⟨y,r,e1,e2,e3⟩:=h;subst e1;exact ai.cons g e3
 |a::ws,xs,i+1,w,x,h,g=>by unfold ai at h;obtain⟨y,r,e1,e2,e3⟩:=h;subst e1;exact ai.cons e2 (ai.set i e3 g)
theorem ai.drop:∀{ws:List Wv}{xs:List V}(i:Nat),ai K m H ws xs->ai K m H (ws.drop i) (xs.drop i)
 |ws,xs,0,h=>by simpa using h
 |[],xs,i+1,h=>by unfold ai at h;subst h;simpa using ai.nil
 |a::ws,xs,i+1,h=>by unfold ai at h;obtain⟨y,r,e1,e2,e3⟩:=h;subst e1;simpa using ai.drop i e3
theorem ai.take:∀{ws:List Wv}{xs:List V}(i:Nat),ai K m H ws xs->ai K m H (ws.take i) (xs.take i)
 |ws,xs,0,h=>by simpa using ai.nil
 |[],xs,i+1,h=>by unfold ai at h;subst h;simpa using ai.nil
 |a::ws,xs,i+1,h=>by unfold ai at h;obtain⟨y,r,e1,e2,e3⟩:=h;subst e1;simpa using ai.cons e2 (ai.take i e3)
theorem ai.ints:∀(ns:List Int),ai K m H (ns.map Wv.int) (ns.map V.int)
 |[]=>ai.nil
 |n::ns=>ai.cons (by unfold ak;rfl) (ai.ints ns)
end
def xO(K:PySem.W.Frag)(H:Hp)(a:ag5)(ns:List Int):Prop :=
 (∃o,H a=some (.jy o (.lst (ns.map V.int))))\/
  ∃(o:Obj)(its:Array ahb)(n:Nat),K.lookup a=some o/\o.cls= .type "list"/\o.dict=none/\o.data= .seq its n/\its.size<=ahl/\Vals (ns.map V.int) its.toList
variable{κ:Type}
def RelK(K:PySem.W.Frag)(m:Mp)(H:Hp)(kvs:List (κ×Wv))(xs:List (κ×V)):Prop:=kvs.map (·.1)=xs.map (·.1)/\ai K m H (kvs.map (·.2)) (xs.map (·.2))
def t7(K:PySem.W.Frag)(m:Mp)(H:Hp)(a:ag5):Ob->Prop
 |.lst ws=>∃xs,H a=some (.lst xs)/\ai K m H ws xs
 |.t6 ns=>xO K H a ns
 |.dct kvs=>∃xs,H a=some (.dK xs)/\RelK K m H kvs xs
 |.ED kvs=>∃xs,H a=some (.dT xs)/\RelK K m H kvs xs
 |.Dl kvs=>∃o xs,H a=some (.jy o (.dT xs))/\RelK K m H kvs xs
 |.EE kvs=>∃o xs,H a=some (.jy o (.dK xs))/\RelK K m H kvs xs
 |.FA kvs=>∃xs,H a=some (.dN xs)/\RelK K m H kvs xs
 |.ins c fs=>∃C dx xs,H a=some (.ins C dx xs)/\ClsAt K c C/\RelK K m H fs xs
def Ob.mu:Ob->Bool
 |.t6 _=>false
 |_=>true
def Ob.wm:Ob->Bool
 |.t6 _=>false
 |.Dl _=>false
 |.EE _=>false
 |_=>true
theorem Ob.Us{o:Ob}(h:o.wm=true):o.mu=true:=by cases o<;>first |rfl |cases h
structure b4(K:PySem.W.Frag)(m:Mp)(st:Hs)(H:Hp):Prop where
 len:m.length=st.length
 obj:∀(l:Nat)(a:ag5)(o:Ob),m[l]? =some a->st[l]? =some o->t7 K m H a o
 inj:∀(l l':Nat)(a:ag5)(o o':Ob),m[l]? =some a->m[l']? =some a->st[l]? =some o->st[l']? =some o'->o.mu=true->o'.mu=true->l=l'
 tab:vG K H
def av(st:Hs)(l:Nat):Option (List Wv):=match st[l]? with
 |some (.lst ws)=>some ws
 |some (.t6 ns)=>some (ns.map Wv.int)
 |_=>none
variable{l:Nat}{ob:Ob}{o u:HO}{p b:ag5}{m1:Mp}{H1:Hp}
section
variable {K:PySem.W.Frag}{m:Mp}{H:Hp}{st:Hs}
def Wr(u:Option HO):Prop:=u=none\/(∃ys,u=some (.lst ys))\/(∃ys,u=some (.dK ys))\/(∃ys,u=some (.dT ys))\/(∃ys,u=some (.dN ys))\/∃C dx fs,u=some (.ins C dx fs)
theorem Wr.ne(hp:Wr (H p))(e:H a=some u)(n1:∀ys,u≠.lst ys)(n2:∀ys,u≠.dK ys)(n3:∀ys,u≠.dT ys)(n4:∀ys,u≠.dN ys)(n5:∀C dx fs,u≠.ins C dx fs:=by nofun):a≠p:=λz=>by
 subst z;rcases hp with q |⟨ys,q⟩ |⟨ys,q⟩ |⟨ys,q⟩ |⟨ys,q⟩ |⟨C,dx,fs,q⟩
 ·rw[q]at e;cases e
 ·rw[q]at e;cases e;exact n1 ys rfl
 ·rw[q]at e;cases e;exact n2 ys rfl
 ·rw[q]at e;cases e;exact n3 ys rfl
 ·rw[q]at e;cases e;exact n4 ys rfl
 ·rw[q]at e;cases e;exact n5 C dx fs rfl
theorem FD(hp:Wr (H p))(h:H a=some (.tup xs)):upd H p o a=some (.tup xs):=by rw[bj (hp.ne h nofun nofun nofun nofun)];exact h
theorem FE{ns:List Int}(hp:Wr (H p))(h:xO K H a ns):xO K (upd H p o) a ns:=by
 rcases h with ⟨o',h⟩ |h
 ·exact .inl ⟨o',by rw[bj (hp.ne h nofun nofun nofun nofun)];exact h⟩
 ·exact .inr h
theorem Wr.of{u:Option HO}(h:u=none\/∃ys,u=some (.lst ys)):Wr u:=by
 rcases h with q |q
 ·exact .inl q
 ·exact .inr (.inl q)
theorem Ext.lH(hp:Wr (H p)):Ext K m H m (upd H p o):=⟨λ_ _ h=>h,λ_ _ h=>FD hp h,λa φ h=>by
 rw[bj (hp.ne h nofun nofun nofun nofun)];exact h,λa o u h=>by
 rw[bj (hp.ne h nofun nofun nofun nofun)];exact h⟩
theorem Ext.upd{p:ag5}{o:HO}(hp:H p=none\/∃ys,H p=some (.lst ys)):Ext K m H m (upd H p o):=Ext.lH (Wr.of hp)
theorem RelK.mono{kvs:List (κ×Wv)}{xs:List (κ×V)}(e:Ext K m H m1 H1)(h:RelK K m H kvs xs):RelK K m1 H1 kvs xs:=⟨h.1,ai.mono e _ _ h.2⟩
theorem t7.keep{o:Ob}(ex:Ext K m H m1 (L2.upd H p u))(hp:Wr (H p))(hb:o.mu=true->b≠p)(h:t7 K m H b o):t7 K m1 (L2.upd H p u) b o:=by
 cases o with
 |lst ws=>obtain⟨xs,e1,e2⟩:=h;exact⟨xs,by rw[bj (hb rfl)];exact e1,ai.mono ex _ _ e2⟩
 |dct kvs=>obtain⟨xs,e1,e2⟩:=h;exact⟨xs,by rw[bj (hb rfl)];exact e1,e2.mono ex⟩
 |ED kvs=>obtain⟨xs,e1,e2⟩:=h;exact⟨xs,by rw[bj (hb rfl)];exact e1,e2.mono ex⟩
 |Dl kvs=>obtain⟨o,xs,e1,e2⟩:=h;exact⟨o,xs,by rw[bj (hb rfl)];exact e1,e2.mono ex⟩
 |EE kvs=>obtain⟨o,xs,e1,e2⟩:=h;exact⟨o,xs,by rw[bj (hb rfl)];exact e1,e2.mono ex⟩
 |FA kvs=>obtain⟨xs,e1,e2⟩:=h;exact⟨xs,by rw[bj (hb rfl)];exact e1,e2.mono ex⟩
 |ins c fs=>obtain⟨C,dx,xs,e1,e2,e3⟩:=h;exact⟨C,dx,xs,by rw[bj (hb rfl)];exact e1,e2,e3.mono ex⟩
 |t6 ns=>exact FE hp h
theorem t7.at{b:ag5}{o:Ob}(h:t7 K m H b o)(hm:o.mu=true):∃u,H b=some u:=by
 cases o with
 |lst ws=>obtain⟨xs,e1,e2⟩:=h;exact⟨_,e1⟩
 |dct kvs=>obtain⟨xs,e1,e2⟩:=h;exact⟨_,e1⟩
 |ED kvs=>obtain⟨xs,e1,e2⟩:=h;exact⟨_,e1⟩
 |Dl kvs=>obtain⟨o,xs,e1,e2⟩:=h;exact⟨_,e1⟩
 |EE kvs=>obtain⟨o,xs,e1,e2⟩:=h;exact⟨_,e1⟩
 |FA kvs=>obtain⟨xs,e1,e2⟩:=h;exact⟨_,e1⟩
 |ins c fs=>obtain⟨C,dx,xs,e1,e2⟩:=h;exact⟨_,e1⟩
 |t6 ns=>simp[Ob.mu]at hm
theorem t7.wr{o:Ob}(h:t7 K m H b o)(hm:o.wm=true):Wr (H b):=by
 cases o with
 |lst ws=>obtain⟨xs,e1,e2⟩:=h;exact .inr (.inl ⟨_,e1⟩)
 |dct kvs=>obtain⟨xs,e1,e2⟩:=h;exact .inr (.inr (.inl ⟨_,e1⟩))
 |ED kvs=>obtain⟨xs,e1,e2⟩:=h;exact .inr (.inr (.inr (.inl ⟨_,e1⟩)))
 |FA kvs=>obtain⟨xs,e1,e2⟩:=h;exact .inr (.inr (.inr (.inr (.inl ⟨_,e1⟩))))
 |ins c fs=>obtain⟨C,dx,xs,e1,e2⟩:=h;exact .inr (.inr (.inr (.inr (.inr ⟨_,_,_,e1⟩))))
 |Dl kvs=>cases hm
 |EE kvs=>cases hm
 |t6 ns=>cases hm
theorem vG.lH(t:vG K H)(hp:Wr (H p)):vG K (L2.upd H p o):=t.keep
 (λa ps h=>by rw[bj (hp.ne h nofun nofun nofun nofun)];exact h)
 λa φ h=>by rw[bj (hp.ne h nofun nofun nofun nofun)];exact h
theorem Ext.more:Ext K m H (m++[p]) H:=⟨λl a h=>by
 rw[jR]
 ·exact h
 ·exact(List.getElem?_eq_some_iff.mp h).1,λ_ _ h=>h,λ_ _ h=>h,λ_ _ _ h=>h⟩
theorem b4.fresh(S:b4 K m st H)(hp:H p=none):b4 K m st (upd H p o) :=
 ⟨S.len,λl a ob h1 h2=>by have q:=S.obj l a ob h1 h2;refine q.keep (Ext.lH (.inl hp)) (.inl hp) λhm=>?_;obtain⟨u,e⟩:=q.at hm;exact et e hp,S.inj,S.tab.lH (.inl hp)⟩
theorem b4.sE(S:b4 K m st H)(h1:m[l]? =some a)(h2:st[l]? =some (.lst ws)):∃xs,H a=some (.lst xs)/\ai K m H ws xs:=S.obj l a _ h1 h2
theorem b4.read(S:b4 K m st H)(h1:m[l]? =some a)(h2:av st l=some ws):∃xs,nk K H a xs/\ai K m H ws xs:=by
 unfold av at h2;cases e:st[l]? with
 |none=>rw[e]at h2;cases h2
 |some o=>
  rw[e]at h2;cases o with
  |lst zs=>cases h2;obtain⟨xs,e1,e2⟩:=S.sE h1 e;exact⟨xs,nk.of e1,e2⟩
  |dct kvs=>cases h2
  |ED kvs=>cases h2
  |Dl kvs=>cases h2
  |EE kvs=>cases h2
  |FA kvs=>cases h2
  |ins c fs=>cases h2
  |t6 ns=>
   cases h2;have q:xO K H a ns:=S.obj l a _ h1 e;refine⟨ns.map V.int,?_,ai.ints ns⟩;rcases q with ⟨o,q⟩ |q
   ·exact .inl (.inr ⟨o,q⟩)
   ·exact .inr q
theorem b4.FF(S:b4 K m st H)(hp:H p=none)(r:t7 K (m++[p]) (L2.upd H p u) p ob):b4 K (m++[p]) (st++[ob]) (L2.upd H p u):=by
 have ex:Ext K m H (m++[p]) (L2.upd H p u):=Ext.more.trans (Ext.lH (.inl hp));have FG:∀(l:Nat)(o:Ob),m[l]? =some p->st[l]? =some o->o.mu=true->False:=λl o h1 h2 hm=>by obtain⟨v,e⟩:=(S.obj l p o h1 h2).at hm;rw[hp]at e;cases e
 have old:∀(l:Nat)(a:ag5),(m++[p])[l]? =some a->(l < m.length/\m[l]? =some a)\/(l=m.length/\a=p):=λl a h=>by
  by_cases hl:l < m.length
  ·exact .inl ⟨hl,by rw[jR hl]at h;exact h⟩
  ·have h':=h;rw[pD (by omega)]at h';have z:=List.getElem?_eq_some_iff.mp h';have z1:l - m.length < 1:=by simpa using z.1
   refine .inr ⟨by omega,?_⟩;have e0:l - m.length=0:=by omega
   rw[e0]at h';simpa using h'.symm
 have olds:∀(l:Nat)(o:Ob),l < m.length->(st++[ob])[l]? =some o->st[l]? =some o:=λl o hl h=>by rw[jR (by rw[<-S.len];exact hl)]at h;exact h
 refine⟨by simp[S.len],λl a o h1 h2=>?_,λl l' a zs zs' h1 MH h2 h2' k k'=>?_,S.tab.lH (.inl hp)⟩
 ·rcases old l a h1 with ⟨hl,h1⟩ |⟨hl,rfl⟩
  ·have q:=S.obj l a o h1 (olds l o hl h2);refine q.keep ex (.inl hp) λhm=>?_;obtain⟨v,e⟩:=q.at hm;exact et e hp
  ·have e:o=ob:=by rw[hl,S.len,pD (aA _),vH]at h2;simpa using h2.symm
   subst e;exact r
 ·rcases old l a h1 with ⟨hl,g1⟩ |⟨hl,ea⟩
  ·rcases old l' a MH with ⟨hl',SU⟩ |⟨hl',ea'⟩
   ·exact S.inj l l' a zs zs' g1 SU (olds l _ hl h2) (olds l' _ hl' h2') k k'
   ·rw[ea']at g1;exact(FG l zs g1 (olds l _ hl h2) k).elim
  ·rcases old l' a MH with ⟨hl',SU⟩ |⟨hl',_⟩
   ·rw[ea]at SU;exact(FG l' zs' SU (olds l' _ hl' h2') k').elim
   ·omega
theorem b4.alloc(S:b4 K m st H)(hp:H p=none)(r:ai K m H ws xs):b4 K (m++[p]) (st++[.lst ws]) (upd H p (.lst xs)) :=
 S.FF hp ⟨xs,bF,ai.mono (Ext.more.trans (Ext.lH (.inl hp))) _ _ r⟩
theorem b4.vI{o0:Ob}(S:b4 K m st H)(h1:m[l]? =some a)(h2:st[l]? =some o0)(hw:o0.wm=true)(r:t7 K m (L2.upd H a u) a ob):b4 K m (st.set l ob) (L2.upd H a u):=by
 have wr:Wr (H a):=(S.obj l a o0 h1 h2).wr hw;have hm:=Ob.Us hw;have ex:Ext K m H m (L2.upd H a u):=Ext.lH wr;have hl:l < st.length:=(List.getElem?_eq_some_iff.mp h2).1;have at':∀(k:Nat)(o:Ob),(st.set l ob)[k]? =some o->(k=l/\o=ob)\/(k≠l/\st[k]? =some o):=λk o h=>by
  by_cases e:l=k
  ·subst e;rw[ni hl]at h;exact .inl ⟨rfl,(Option.some.inj h).symm⟩
  ·rw[iu e]at h;exact .inr ⟨λz=>e z.symm,h⟩
 refine⟨by simp[S.len],λk b o g1 g2=>?_,λk k' b us us' g1 SU g2 g2' q q'=>?_,S.tab.lH wr⟩
 ·rcases at' k o g2 with ⟨rfl,rfl⟩ |⟨hk,g2⟩
  ·rw[h1]at g1;cases g1;exact r
  ·have q:=S.obj k b o g1 g2;refine q.keep ex wr λho z=>?_;subst z;exact hk (S.inj k l b o o0 g1 h1 g2 h2 ho hm)
 ·have back:∀(k:Nat)(o:Ob),(st.set l ob)[k]? =some o->o.mu=true->∃o',st[k]? =some o'/\o'.mu=true:=λk o h ho=>by
   rcases at' k _ h with ⟨rfl,_⟩ |⟨_,h⟩
   ·exact⟨o0,h2,hm⟩
   ·exact⟨o,h,ho⟩
  obtain⟨u1,e1,f1⟩:=back k us g2 q;obtain⟨u2,e2,f2⟩:=back k' us' g2' q';exact S.inj k k' b u1 u2 g1 SU e1 e2 f1 f2
theorem b4.write{zs:List Wv}(S:b4 K m st H)(h1:m[l]? =some a)(h2:st[l]? =some (.lst ws))(r:ai K m H zs xs):b4 K m (st.set l (.lst zs)) (upd H a (.lst xs)) :=
 S.vI h1 h2 rfl ⟨xs,bF,ai.mono (Ext.lH ((S.obj l a _ h1 h2).wr rfl)) _ _ r⟩
end
structure aL(K:PySem.W.Frag)(m:Mp)(H:Hp)(ρ:bR)(σ:St):Prop where
 len:ρ.length=σ.length
 get:∀(i:Nat)(w:Wv),ρ[i]? =some (some w)->∃v,σ[i]? =some (some v)/\ak K m H w v
section
variable {K:PySem.W.Frag}{m m1:Mp}{H H1:Hp}{ρ:bR}{σ:St}
theorem aL.mono(R:aL K m H ρ σ)(e:Ext K m H m1 H1):aL K m1 H1 ρ σ:=⟨R.len,λi w h=>let ⟨v,h1,h2⟩:=R.get i w h;⟨v,h1,ak.mono e _ _ h2⟩⟩
theorem aL.set(R:aL K m H ρ σ)(i:Nat){v:V}(h:ak K m H w v):aL K m H (ρ.set i (some w)) (σ.set i (some v)):=by
 refine⟨by simp[R.len],λj u e=>?_⟩;by_cases hj:i=j
 ·subst hj;have hi:i < ρ.length:=by have:=(List.getElem?_eq_some_iff.mp e).1;simpa using this
  rw[ni hi]at e;have e':w=u:=Option.some.inj (Option.some.inj e);subst e';exact⟨v,by rw[ni (by rw[<-R.len];exact hi)],h⟩
 ·rw[iu hj]at e;obtain⟨x,h1,h2⟩:=R.get j u e;exact⟨x,by rw[iu hj];exact h1,h2⟩
end
inductive Re(α:Type) where
 |ok (a:α) (st:Hs)
 |err (c:PySem.Str) (st:Hs)
 |bad
variable{α:Type}
def Re.bind{β:Type}(r:Re α)(f:α->Hs->Re β):Re β:=match r with
 |.ok a st=>f a st
 |.err c st=> .err c st
 |.bad=> .bad
inductive Rs where
 |nx (ρ:bR) (st:Hs)
 |rt (w:Wv) (st:Hs)
 |bk (ρ:bR) (st:Hs)
 |ct (ρ:bR) (st:Hs)
 |err (c:PySem.Str) (ρ:bR) (st:Hs)
 |bad
def Re.bM(ρ:bR)(r:Re α)(f:α->Hs->Rs):Rs:=match r with
 |.ok a st=>f a st
 |.err c st=> .err c ρ st
 |.bad=> .bad
def Re.mv(r:Re α):Re α:=match r with
 |.ok a st=> .ok a st
 |_=> .bad
abbrev GE:=bR->Hs->Re Wv
abbrev GT:=bR->Hs->Re Bool
abbrev GA:=bR->Hs->Re (List Wv)
abbrev GS:=bR->Hs->Rs
def xP(P:ag9)(w:ahc)(outer:List Env)(H:Hp)(s:aha)(H':Hp)(cls:ahb)(e:ahb)(s':aha):Prop :=
 ∃(a:ag5)(a0:ahb)(B:Heap),e= .ref a/\s'.os=s.os/\AllBare s'.gens/\Un (frs outer) [] H H' s.heap s'.heap/\ng P w H' B/\vF B outer a cls a0 s'.heap/\
  (∀b o,s.heap.get? b=some o->b∉frs outer->∃o',B.get? b=some o'/\(H b=none->o'=o))
def lI(X:Cx)(pins:List (ag5×Obj))(H:Hp)(s:aha)(H':Hp)(cls:ahb)(e:ahb)(s':aha):Prop :=
 ∃(a:ag5)(a0 nt:ahb)(B:Heap)(ch:List ag5),e= .ref a/\s'.os=s.os/\AllBare s'.gens/\(∀b∈ch,iG X pins H b)/\Un (frs X.stack) ch H H' s.heap s'.heap/\ng X.prog X.w H' B/\
  (B.StaysIn s'.heap/\B.get? a=none/\s'.heap.FunFrames B X.stack/\Xx s'.heap B a cls a0 nt)/\
  (∀b o,s.heap.get? b=some o->b∉frs X.stack->b∉ch->∃o',B.get? b=some o'/\(H b=none->o'=o))
variable{X:Cx}
theorem xP.any{pins:List (ag5×Obj)}{H':Hp}{s s':aha}{e:ahb}(f:xP X.prog X.w X.stack H s H' cls e s'):lI X pins H s H' cls e s' :=
 let ⟨a,a0,B,e1,e2,e3,un,hok,fl,xQ⟩:=f
 ⟨a,a0,.none,B,[],e1,e2,e3,(λb z=>by cases z),un,hok,fl,λb o q hb _=>xQ b o q hb⟩
def vJ(X:Cx)(σ:St)(H':Hp)(c:PySem.Str)(e:ahb)(s':aha):Prop :=
 ∃(C:ag5)(pins:List (ag5×Obj))(Hc:Hp)(sc:aha),ClsAt X.K c C/\Inv X pins σ Hc sc/\
  (lI X pins Hc sc H' (.ref C) e s'\/(H'=Hc/\∃a args,e= .ref a/\s'.os=sc.os/\s'.gens=sc.gens/\vK sc.heap s'.heap a (.ref C) args))
def SV(X:Cx)(σ:St)(m:Mp)(H:Hp)(c:PySem.Str)(st:Hs):Prop :=
 ∀(m':Mp)(H':Hp)(e:ahb)(s':aha),Ext X.K m H m' H'->b4 X.K m' st H'->vJ X σ H' c e s'->X.xe e s'
variable{σ:St}{m:Mp}{st:Hs}
theorem SV.mono{c:PySem.Str}(h:SV X σ m H c st)(e:Ext X.K m H m1 H1):SV X σ m1 H1 c st :=
 λm' H' x s' e' S r=>h m' H' x s' (e.trans e') S r
def aE(X:Cx)(σ:St)(m:Mp)(H:Hp)(r:Re α)(ok:α->Hs->Prop):Prop:=match r with
 |.ok a st=>ok a st
 |.err c st=>SV X σ m H c st
 |.bad=>False
def sF(r:Re α)(ok:α->Hs->Prop):Prop:=match r with
 |.ok a st=>ok a st
 |_=>False
theorem aE.mv{r:Re α}{ok:α->Hs->Prop}(h:aE X σ m H r.mv ok):sF r ok:=by
 cases r with
 |ok a st=>exact h
 |err c st=>exact h
 |bad=>exact h
theorem aE.bind{β:Type}{r:Re α}{f:α->Hs->Re β}{ok:β->Hs->Prop}(h:aE X σ m H (r.bind f) ok):aE X σ m H r (λa st=>aE X σ m H (f a st) ok):=by
 cases r with
 |ok a st=>exact h
 |err c st=>exact h
 |bad=>exact h
theorem aE.imp{r:Re α}{ok ok':α->Hs->Prop}(h:aE X σ m H r ok)(e:Ext X.K m H m1 H1)(k:∀a st,ok a st->ok' a st):aE X σ m1 H1 r ok':=by
 cases r with
 |ok a st=>exact k a st h
 |err c st=>exact SV.mono (c:=c) (st:=st) h e
 |bad=>exact h
theorem sF.imp{r:Re α}{ok ok':α->Hs->Prop}(h:sF r ok)(k:∀a st,ok a st->ok' a st):sF r ok':=by
 cases r with
 |ok a st=>exact k a st h
 |err c st=>exact h
 |bad=>exact h
def SX(K:PySem.W.Frag)(m:Mp)(H:Hp)(Q:VK)(w:Wv)(st:Hs):Prop:=∀(v:V)(m':Mp)(H':Hp),Ext K m H m' H'->b4 K m' st H'->ak K m' H' w v->Q v H'
def okT(K:PySem.W.Frag)(m:Mp)(H:Hp)(Q:Bool->Hp->Prop)(b:Bool)(st:Hs):Prop:=∀(m':Mp)(H':Hp),Ext K m H m' H'->b4 K m' st H'->Q b H'
def okA(K:PySem.W.Frag)(m:Mp)(H:Hp)(Q:List V->Hp->Prop)(ws:List Wv)(st:Hs):Prop:=∀(vs:List V)(m':Mp)(H':Hp),Ext K m H m' H'->b4 K m' st H'->ai K m' H' ws vs->Q vs H'
abbrev dA(X:Cx)(σ:St)(m:Mp)(H:Hp)(r:Re Wv)(Q:VK):Prop:=aE X σ m H r (SX X.K m H Q)
abbrev j_(X:Cx)(σ:St)(m:Mp)(H:Hp)(r:Re Bool)(Q:Bool->Hp->Prop):Prop:=aE X σ m H r (okT X.K m H Q)
abbrev MI(X:Cx)(σ:St)(m:Mp)(H:Hp)(r:Re (List Wv))(Q:List V->Hp->Prop):Prop:=aE X σ m H r (okA X.K m H Q)
variable{r:Re Wv}{Q:VK}
theorem dA.shift(h:dA X σ m H r Q)(e:Ext X.K m H m1 H1):dA X σ m1 H1 r Q:=h.imp e λ_ _ k v m' H' e'=>k v m' H' (e.trans e')
theorem j_.shift{r:Re Bool}{Q:Bool->Hp->Prop}(h:j_ X σ m H r Q)(e:Ext X.K m H m1 H1):j_ X σ m1 H1 r Q:=h.imp e λ_ _ k m' H' e'=>k m' H' (e.trans e')
abbrev dB(K:PySem.W.Frag)(m:Mp)(H:Hp)(r:Re Wv)(Q:VK):Prop:=sF r (SX K m H Q)
theorem dB.shift(h:dB K m H r Q)(e:Ext K m H m1 H1):dB K m1 H1 r Q:=sF.imp h λ_ _ k v m' H' e'=>k v m' H' (e.trans e')
def bf(X:Cx)(m:Mp)(H:Hp)(r:Rs)(D:Ends):Prop:=match r with
 |.nx ρ st=>∀(σ:St)(m':Mp)(H':Hp),Ext X.K m H m' H'->b4 X.K m' st H'->aL X.K m' H' ρ σ->D.nx σ H'
 |.rt w st=>∀(v:V)(m':Mp)(H':Hp),Ext X.K m H m' H'->b4 X.K m' st H'->ak X.K m' H' w v->D.rt v H'
 |.bk ρ st=>∀(σ:St)(m':Mp)(H':Hp),Ext X.K m H m' H'->b4 X.K m' st H'->aL X.K m' H' ρ σ->D.bk σ H'
 |.ct ρ st=>∀(σ:St)(m':Mp)(H':Hp),Ext X.K m H m' H'->b4 X.K m' st H'->aL X.K m' H' ρ σ->D.ct σ H'
 |.err c ρ st=>∀(σ:St)(m':Mp)(H':Hp)(e:ahb)(s':aha),Ext X.K m H m' H'->b4 X.K m' st H'->aL X.K m' H' ρ σ->vJ X σ H' c e s'->X.xe e s'
 |.bad=>False
variable{D:Ends}
theorem bf.shift{r:Rs}(h:bf X m H r D)(e:Ext X.K m H m1 H1):bf X m1 H1 r D:=by
 cases r with
 |nx ρ st=>exact λσ m' H' e'=>h σ m' H' (e.trans e')
 |rt w st=>exact λv m' H' e'=>h v m' H' (e.trans e')
 |bk ρ st=>exact λσ m' H' e'=>h σ m' H' (e.trans e')
 |ct ρ st=>exact λσ m' H' e'=>h σ m' H' (e.trans e')
 |err c ρ st=>exact λσ m' H' x s' e'=>h σ m' H' x s' (e.trans e')
 |bad=>exact h
variable{ρ:bR}
theorem bf.dS{r:Re α}{f:α->Hs->Rs}(R:aL X.K m H ρ σ)(h:bf X m H (r.bM ρ f) D):aE X σ m H r (λa st=>bf X m H (f a st) D):=by
 cases r with
 |ok a st=>exact h
 |err c st=>exact λm' H' x s' e' S r=>h σ m' H' x s' e' S (R.mono e') r
 |bad=>exact h
def SE(X:Cx)(e:Expr):TE:=λσ H Q=>∀(pins:List (ag5×Obj))(s:aha),Inv X pins σ H s->ahn (model X.prog X.w) X.A (eval e X.env) (EP X pins σ Q) X.xe s
def ST(X:Cx)(e:Expr):TT:=λσ H Q=>∀(pins:List (ag5×Obj))(s:aha),Inv X pins σ H s->ahn (model X.prog X.w) X.A (isTrue e X.env (eval e X.env)) (TP X pins σ Q) X.xe s
def SA(X:Cx)(es:List Expr):TA:=λσ H Q=>∀(pos:Pos)(pins:List (ag5×Obj))(s:aha),Inv X pins σ H s->ahn (model X.prog X.w) X.A (spliced (backTo pos (ahm es X.env))) (AP X pins σ Q) X.xe s
def SS(X:Cx)(st:Stmt):TS:=λD σ H=>∀(pins:List (ag5×Obj))(s:aha),Inv X pins σ H s->ahn (model X.prog X.w) X.A (exec st X.env) (SP X pins D) X.xe s
def Ut(X:Cx)(st:List Stmt):TS:=λD σ H=>∀(pins:List (ag5×Obj))(s:aha),Inv X pins σ H s->ahn (model X.prog X.w) X.A (execs st X.env) (SP X pins D) X.xe s
variable{e:Expr}{es:List Expr}
section
variable {X:Cx}
theorem bg:PE X e (SE X e):=λpins s _ _ _ I h=>h pins s I
theorem qt:PT X e (ST X e):=λpins s _ _ _ I h=>h pins s I
theorem ll:PA X es (SA X es):=λpos pins s _ _ _ I h=>h pos pins s I
theorem MJ{st:Stmt}:PS X st (SS X st):=λpins s _ _ _ I h=>h pins s I
theorem jB{st:List Stmt}:EA X st (Ut X st):=λpins s _ _ _ I h=>h pins s I
end
def JE(X:Cx)(e:Expr)(g:GE):Prop:=∀(ρ:bR)(st:Hs)(σ:St)(H:Hp)(m:Mp)(Q:VK),b4 X.K m st H->aL X.K m H ρ σ->dA X σ m H (g ρ st) Q->SE X e σ H Q
def JT(X:Cx)(e:Expr)(g:GT):Prop:=∀(ρ:bR)(st:Hs)(σ:St)(H:Hp)(m:Mp)(Q:Bool->Hp->Prop),b4 X.K m st H->aL X.K m H ρ σ->j_ X σ m H (g ρ st) Q->ST X e σ H Q
def JA(X:Cx)(es:List Expr)(g:GA):Prop:=∀(ρ:bR)(st:Hs)(σ:St)(H:Hp)(m:Mp)(Q:List V->Hp->Prop),b4 X.K m st H->aL X.K m H ρ σ->MI X σ m H (g ρ st) Q->SA X es σ H Q
def JS(X:Cx)(s:Stmt)(g:GS):Prop:=∀(ρ:bR)(st:Hs)(σ:St)(H:Hp)(m:Mp)(D:Ends),b4 X.K m st H->aL X.K m H ρ σ->bf X m H (g ρ st) D->SS X s D σ H
def pH(X:Cx)(s:List Stmt)(g:GS):Prop:=∀(ρ:bR)(st:Hs)(σ:St)(H:Hp)(m:Mp)(D:Ends),b4 X.K m st H->aL X.K m H ρ σ->bf X m H (g ρ st) D->Ut X s D σ H
variable{g:GA}{t:TS}
section
variable {X:Cx}
theorem JE.of{g:GE}{t:TE}(h:PE X e t)(k:∀(ρ:bR)(st:Hs)(σ:St)(H:Hp)(m:Mp)(Q:VK),b4 X.K m st H->aL X.K m H ρ σ->dA X σ m H (g ρ st) Q->t σ H Q):JE X e g :=
 λρ st σ H m Q S R p pins s I=>h pins s σ H Q I (k ρ st σ H m Q S R p)
theorem JT.of{g:GT}{t:TT}(h:PT X e t)(k:∀(ρ:bR)(st:Hs)(σ:St)(H:Hp)(m:Mp)(Q:Bool->Hp->Prop),b4 X.K m st H->aL X.K m H ρ σ->j_ X σ m H (g ρ st) Q->t σ H Q):JT X e g :=
 λρ st σ H m Q S R p pins s I=>h pins s σ H Q I (k ρ st σ H m Q S R p)
theorem JA.of{t:TA}(h:PA X es t)(k:∀(ρ:bR)(st:Hs)(σ:St)(H:Hp)(m:Mp)(Q:List V->Hp->Prop),b4 X.K m st H->aL X.K m H ρ σ->MI X σ m H (g ρ st) Q->t σ H Q):JA X es g :=
 λρ st σ H m Q S R p pos pins s I=>h pos pins s σ H Q I (k ρ st σ H m Q S R p)
theorem JS.of{e:Stmt}{g:GS}(h:PS X e t)(k:∀(ρ:bR)(st:Hs)(σ:St)(H:Hp)(m:Mp)(D:Ends),b4 X.K m st H->aL X.K m H ρ σ->bf X m H (g ρ st) D->t D σ H):JS X e g :=
 λρ st σ H m D S R p pins s I=>h pins s σ H D I (k ρ st σ H m D S R p)
theorem pH.of{e:List Stmt}{g:GS}(h:EA X e t)(k:∀(ρ:bR)(st:Hs)(σ:St)(H:Hp)(m:Mp)(D:Ends),b4 X.K m st H->aL X.K m H ρ σ->bf X m H (g ρ st) D->t D σ H):pH X e g :=
 λρ st σ H m D S R p pins s I=>h pins s σ H D I (k ρ st σ H m D S R p)
theorem JE.go{g:GE}{T:VK}{ok:Wv->Hs->Prop}(h:JE X e g)(S:b4 X.K m st H)(R:aL X.K m H ρ σ)(p:aE X σ m H (g ρ st) ok)
  (k:∀(w:Wv)(st1:Hs)(v:V)(m1:Mp)(H1:Hp),ok w st1->Ext X.K m H m1 H1->b4 X.K m1 st1 H1->ak X.K m1 H1 w v->T v H1):SE X e σ H T :=
 h ρ st σ H m T S R (p.imp Ext.refl λw st1 q v m1 H1 e1 s1 r1=>k w st1 v m1 H1 q e1 s1 r1)
theorem JT.go{g:GT}{T:Bool->Hp->Prop}{ok:Bool->Hs->Prop}(h:JT X e g)(S:b4 X.K m st H)(R:aL X.K m H ρ σ)(p:aE X σ m H (g ρ st) ok)
  (k:∀(b:Bool)(st1:Hs)(m1:Mp)(H1:Hp),ok b st1->Ext X.K m H m1 H1->b4 X.K m1 st1 H1->T b H1):ST X e σ H T :=
 h ρ st σ H m T S R (p.imp Ext.refl λb st1 q m1 H1 e1 s1=>k b st1 m1 H1 q e1 s1)
theorem JA.go{T:List V->Hp->Prop}{ok:List Wv->Hs->Prop}(h:JA X es g)(S:b4 X.K m st H)(R:aL X.K m H ρ σ)(p:aE X σ m H (g ρ st) ok)
  (k:∀(ws:List Wv)(st1:Hs)(vs:List V)(m1:Mp)(H1:Hp),ok ws st1->Ext X.K m H m1 H1->b4 X.K m1 st1 H1->ai X.K m1 H1 ws vs->T vs H1):SA X es σ H T :=
 h ρ st σ H m T S R (p.imp Ext.refl λw st1 q v m1 H1 e1 s1 r1=>k w st1 v m1 H1 q e1 s1 r1)
end
end J
namespace J
open PySem PySem.Spec PyProof.Rows L2
def lim:Nat:=1000000
variable{n:Nat}
theorem dE(h:n<=lim):n<=ahl:=b5 h (by unfold lim;rw[sizeLine_eq];decide)
theorem O1(h:n < lim):n < ahl:=bY h (by unfold lim;rw[sizeLine_eq];decide)
def af(i:Nat):GE:=λρ st=>match ρ[i]? with
 |some (some w)=> .ok w st
 |_=> .bad
def gC(w:Wv):GE:=λ_ st=> .ok w st
variable{x:Str}{pos:Pos}{i:Int}{b a c e:Expr}{t:Tok}{T:String}{ga gb gc:GE}{r:R2}{ρ:bR}{st st1:Hs}{σ:St}{H H1:Hp}{m m1:Mp}{Q:VK}{o:CmpOp}{g:GA}{rest es:List Expr}{gt:GT}{K:PySem.W.Frag}{ws:List Wv}{vs:List V}
section
variable {X:Cx}
theorem zZ(i:Nat)(hN:X.N[i]? =some x:=by rfl)(hv:Xl X.env.scope x:=by first |exact Or.inl rfl |exact mw (Or.inl rfl) |exact mw (mw rfl))(hd:(x == ("__debug__":Str))=false:=by decide)
  (hcd:(x == ("__classdict__":Str))=false:=by decide):JE X (.Name x pos) (af i):=JE.of (N2 hN hv hd hcd) λρ st σ H m Q S R p=>by
 unfold af at p;cases e:ρ[i]? with
 |none=>rw[e]at p;exact aa p
 |some o=>
  cases o with
  |none=>rw[e]at p;exact aa p
  |some w=>rw[e]at p;obtain⟨v,h1,h2⟩:=R.get i w e;exact⟨v,h1,p v m H Ext.refl S h2⟩
theorem O2{j pos}:JE X (.Constant (.int i) j pos) (gC (.int i)):=JE.of N3 λρ st σ H m Q S R p=>p (.int i) m H Ext.refl S (by unfold ak;rfl)
theorem Uu{b:Bool}{j pos}:JE X (.Constant (.bool b) j pos) (gC (.bl b)):=JE.of TL λρ st σ H m Q S R p=>p (.bl b) m H Ext.refl S (by unfold ak;rfl)
theorem O3{j pos}:JE X (.Constant .none j pos) (gC .cG):=JE.of N4 λρ st σ H m Q S R p=>p .cG m H Ext.refl S (by unfold ak;rfl)
theorem O4{x:PySem.Str}{j pos}(hx:aW x=true:=by decide+kernel):JE X (.Constant (.str x) j pos) (gC (.str x)):=JE.of N5 λρ st σ H m Q S R p=>p (.str x) m H Ext.refl S (by unfold ak;exact⟨rfl,hx⟩)
theorem FH(hg:Gl X x)(hm:X.mg x=some (.int i t))(hd:(x == ("__debug__":Str))=false:=by decide):JE X (.Name x pos) (gC (.int i)) :=
 JE.of (jA (v:=.int i) hg hm ⟨t,rfl⟩ hd) λρ st σ H m Q S R p=>p (.int i) m H Ext.refl S (by unfold ak;rfl)
theorem FI{y:Str}(hg:Gl X x)(hm:X.mg x=some (.str y t))(hy:aW y=true:=by decide+kernel)(hd:(x == ("__debug__":Str))=false:=by decide):JE X (.Name x pos) (gC (.str y)) :=
 JE.of (jA (v:=.str y) hg hm ⟨t,rfl⟩ hd) λρ st σ H m Q S R p=>p (.str y) m H Ext.refl S (by unfold ak;exact⟨rfl,hy⟩)
theorem Uv(hg:Gl X x)(hm:X.mg x=none)(hv:ahf x=some (.type T))(hn:x≠"__name__":=by decide)(hd:(x == ("__debug__":Str))=false:=by decide):JE X (.Name x pos) (gC (.ty T)) :=
 JE.of (J3 (v:=.ty T) hg hm hv rfl hn hd) λρ st σ H m Q S R p=>p (.ty T) m H Ext.refl S (by unfold ak;rfl)
abbrev iQ:=Wv->Wv->Hs->Re Wv
def aj(op:iQ)(ga gb:GE):GE:=λρ st=>(ga ρ st).bind λx st1=>(gb ρ st1).bind λy st2=>(op x y st2).mv
def Bx(X:Cx)(op:iQ)(r:R2):Prop:=∀(x y:Wv)(a b:V)(st:Hs)(H:Hp)(m:Mp)(Q:VK),b4 X.K m st H->ak X.K m H x a->ak X.K m H y b->dB X.K m H (op x y st) Q->r a b H Q
def mz(X:Cx)(f:ahb->ahb->Sem ahb)(op:iQ):Prop:=∃r,hV X f r/\Bx X op r
theorem By{op:iQ}(h2:Bx X op r)(ha:JE X a ga)(hb:JE X b gb)(S:b4 X.K m st H)(R:aL X.K m H ρ σ)(p:dA X σ m H (aj op ga gb ρ st) Q):
  T3 r (SE X a) (SE X b) σ H Q:=by
 refine ha.go S R (aE.bind p) λx st1 v m1 H1 p1 e1 S1 rx=>?_;refine hb.go S1 (R.mono e1) ((aE.bind p1).imp e1 λ_ _ q=>q) λy st2 u m2 H2 p2 e2 S2 ry=>?_;exact h2 x y v u st2 H2 m2 Q S2 (ak.mono e2 _ _ rx) ry (dB.shift (aE.mv p2) (e1.trans e2))
theorem O5{o:Operator}{op:iQ}(ho:mz X (ahe o) op)(ha:JE X a ga)(hb:JE X b gb):JE X (.BinOp a o b pos) (aj op ga gb):=by obtain⟨r,h1,h2⟩:=ho;exact JE.of (T4 h1 bg bg) λρ st σ H m Q S R p=>By h2 ha hb S R p
theorem vL{op:iQ}(ho:mz X (ahi o) op)(ha:JE X a ga)(hb:JE X b gb)(hm:ahd o b=false):JE X (.Compare a [o] [b] pos) (aj op ga gb):=by obtain⟨r,h1,h2⟩:=ho;exact JE.of (Kf h1 bg bg hm) λρ st σ H m Q S R p=>By h2 ha hb S R p
def SY(w:Wv)(st:Hs):Re Bool:=match w with
 |.bl b=> .ok b st
 |_=> .bad
def bp(g:GE):GT:=λρ st=>(g ρ st).bind SY
theorem ou{r:Re Wv}{Q:Bool->Hp->Prop}(p:j_ X σ m H (r.bind SY) Q):dA X σ m H r (λx H'=>∃k,x= .bl k/\Q k H'):=by
 cases r with
 |ok w st=>
  cases w with
  |bl b=>intro v m' H' e S rw';unfold ak at rw';exact⟨b,rw',p m' H' e S⟩
  |_=>exact aa p
 |err c st=>exact p
 |bad=>exact p
theorem z_{op:iQ}(ho:mz X (ahi o) op)(ha:JE X a ga)(hb:JE X b gb)(hm:ahd o b=false):JT X (.Compare a [o] [b] pos) (bp (aj op ga gb)):=by obtain⟨r,h1,h2⟩:=ho;exact JT.of (Kg h1 bg bg hm) λρ st σ H m Q S R p=>By h2 ha hb S R (ou p)
def jT(op op':iQ)(ga gb gc:GE):GE:=λρ st=>(ga ρ st).bind λx st1=>(gb ρ st1).bind λy st2=>(op x y st2).mv.bind λz st3=>match z with
 |.bl true=>(gc ρ st3).bind λu FJ=>(op' y u FJ).mv
 |.bl false=> .ok (.bl false) st3
 |_=> .bad
theorem MK{op op':iQ}{r':R2}(h2:Bx X op r)(h2':Bx X op' r')(ha:JE X a ga)(hb:JE X b gb)(hc:JE X c gc)
  (S:b4 X.K m st H)(R:aL X.K m H ρ σ)(p:dA X σ m H (jT op op' ga gb gc ρ st) Q):zy r r' (SE X a) (SE X b) (SE X c) σ H Q:=by
 refine ha.go S R (aE.bind p) λx st1 v m1 H1 p1 e1 S1 rx=>?_;refine hb.go S1 (R.mono e1) ((aE.bind p1).imp e1 λ_ _ q=>q) λy st2 u m2 H2 p2 e2 S2 ry=>?_;refine h2 x y v u st2 H2 m2 _ S2 (ak.mono e2 _ _ rx) ry (sF.imp (aE.mv (aE.bind p2)) λz st3 p3=>?_);intro z' m3 H3 e3 S3 rz;cases z with
 |bl k=>
  unfold ak at rz;refine⟨k,rz,?_⟩;cases k with
  |true=>rw[if_pos rfl];refine hc.go S3 (R.mono (e1.trans (e2.trans e3))) ((aE.bind p3).imp (e1.trans (e2.trans e3)) λ_ _ q=>q) λq FJ u' m4 H4 p4 e4 S4 rq=>?_;exact h2' y q u u' FJ H4 m4 Q S4 (ak.mono (e3.trans e4) _ _ ry) rq (dB.shift (aE.mv p4) (e1.trans (e2.trans (e3.trans e4))))
  |false=>rw[if_neg dh];exact p3 (.bl false) m3 H3 (e1.trans (e2.trans e3)) S3 (by unfold ak;rfl)
 |_=>exact aa p3
theorem FK{o':CmpOp}{op op':iQ}(ho:mz X (ahi o) op)(ho':mz X (ahi o') op')(ha:JE X a ga)(hb:JE X b gb)(hc:JE X c gc)
  (hm:lastMarks [o,o'] [b,c]=false:=by with_unfolding_all rfl):JE X (.Compare a [o,o'] [b,c] pos) (jT op op' ga gb gc):=by
 obtain⟨r,h1,h2⟩:=ho;obtain⟨r',MH,h2'⟩:=ho';exact JE.of (Fc h1 MH bg bg bg hm) λρ st σ H m Q S R p=>MK h2 h2' ha hb hc S R p
theorem FO{o':CmpOp}{op op':iQ}(ho:mz X (ahi o) op)(ho':mz X (ahi o') op')(ha:JE X a ga)(hb:JE X b gb)(hc:JE X c gc)
  (hm:lastMarks [o,o'] [b,c]=false:=by with_unfolding_all rfl):JT X (.Compare a [o,o'] [b,c] pos) (bp (jT op op' ga gb gc)):=by
 obtain⟨r,h1,h2⟩:=ho;obtain⟨r',MH,h2'⟩:=ho';exact JT.of (Fd h1 MH bg bg bg hm) λρ st σ H m Q S R p=>MK h2 h2' ha hb hc S R (ou p)
def S0(op:Wv->Hs->Re Wv)(ga:GE):GE:=λρ st=>(ga ρ st).bind op
def uI:Wv->Hs->Re Wv
 |.int i,st=> .ok (.int (-i)) st
 |_,_=> .bad
theorem O6(ha:JE X a ga):JE X (.UnaryOp .USub a pos) (S0 uI ga):=by
 refine JE.of (T5 Ox bg) λρ st σ H m Q S R p=>?_;refine ha.go S R (aE.bind p) λx st1 v m1 H1 p1 e1 S1 rx=>?_;cases x with
 |int i=>unfold ak at rx;exact⟨i,rx,p1 _ m1 H1 e1 S1 (by unfold ak;rfl)⟩
 |_=>exact aa p1
def SW(X:Cx)(e:Expr):TT:=λσ H Q=>∀(wh:Sem ahb)(pins:List (ag5×Obj))(s:aha),Inv X pins σ H s->ahn (model X.prog X.w) X.A (isTrue e X.env wh) (TP X pins σ Q) X.xe s
theorem ML:PW X e (SW X e):=λwh pins s _ _ _ I h=>h wh pins s I
def JW(X:Cx)(e:Expr)(g:GT):Prop:=∀(ρ:bR)(st:Hs)(σ:St)(H:Hp)(m:Mp)(Q:Bool->Hp->Prop),b4 X.K m st H->aL X.K m H ρ σ->j_ X σ m H (g ρ st) Q->SW X e σ H Q
theorem JW.of{g:GT}{t:TT}(h:PW X e t)(k:∀(ρ:bR)(st:Hs)(σ:St)(H:Hp)(m:Mp)(Q:Bool->Hp->Prop),b4 X.K m st H->aL X.K m H ρ σ->j_ X σ m H (g ρ st) Q->t σ H Q):JW X e g :=
 λρ st σ H m Q S R p wh pins s I=>h wh pins s σ H Q I (k ρ st σ H m Q S R p)
theorem JW.jt{g:GT}(h:JW X e g):JT X e g:=λρ st σ H m Q S R p pins s I=>h ρ st σ H m Q S R p _ pins s I
def qP(ga gb:GT):GT:=λρ st=>(ga ρ st).bind λb st1=>if b=true then gb ρ st1 else .ok false st1
def JH(ga gb:GT):GT:=λρ st=>(ga ρ st).bind λb st1=>if b=true then .ok true st1 else gb ρ st1
def vM(ga:GT):GT:=λρ st=>(ga ρ st).bind λb st1=> .ok (!b) st1
theorem KJ{ga:GT}(ha:JT X a ga):JW X (.BoolOp .And [a] pos) ga:=JW.of (J4 qt) λρ st σ H m Q S R p=>ha ρ st σ H m Q S R p
theorem O7{ga:GT}(ha:JT X a ga):JW X (.BoolOp .Or [a] pos) ga:=JW.of (N7 qt) λρ st σ H m Q S R p=>ha ρ st σ H m Q S R p
theorem O8{ga gb:GT}(ha:JT X a ga)(hb:JW X (.BoolOp .And (b::rest) pos) gb):JW X (.BoolOp .And (a::b::rest) pos) (qP ga gb):=by
 refine JW.of (N8 qt ML) λρ st σ H m Q S R p=>?_;refine ha.go S R (aE.bind p) λc st1 m1 H1 p1 e1 S1=>?_;cases c with
 |true=>rw[if_pos rfl]at p1 ⊢;exact hb ρ st1 σ H1 m1 Q S1 (R.mono e1) (j_.shift p1 e1)
 |false=>rw[if_neg dh]at p1 ⊢;exact p1 m1 H1 e1 S1
theorem Uw{ga gb:GT}(ha:JT X a ga)(hb:JW X (.BoolOp .Or (b::rest) pos) gb):JW X (.BoolOp .Or (a::b::rest) pos) (JH ga gb):=by
 refine JW.of (TM qt ML) λρ st σ H m Q S R p=>?_;refine ha.go S R (aE.bind p) λc st1 m1 H1 p1 e1 S1=>?_;cases c with
 |true=>rw[if_pos rfl]at p1 ⊢;exact p1 m1 H1 e1 S1
 |false=>rw[if_neg dh]at p1 ⊢;exact hb ρ st1 σ H1 m1 Q S1 (R.mono e1) (j_.shift p1 e1)
theorem O9{ga:GT}(ha:JT X a ga):JT X (.UnaryOp .Not a pos) (vM ga):=by refine JT.of (N9 qt) λρ st σ H m Q S R p=>?_;exact ha.go S R (aE.bind p) λc st1 m1 H1 p1 e1 S1=>p1 m1 H1 e1 S1
def bZ(ga gb:GE):GE:=λρ st=>(ga ρ st).bind λw st1=>match w with
 |.bl true=>gb ρ st1
 |.bl false=> .ok (.bl false) st1
 |_=> .bad
def Aa(ga gb:GE):GE:=λρ st=>(ga ρ st).bind λw st1=>match w with
 |.bl true=> .ok (.bl true) st1
 |.bl false=>gb ρ st1
 |_=> .bad
def xR(ga:GE):GE:=λρ st=>(ga ρ st).bind λw st1=>match w with
 |.bl b=> .ok (.bl (!b)) st1
 |_=> .bad
theorem FP{op}(ha:JE X a ga):JE X (.BoolOp op [a] pos) ga:=JE.of (N_ bg) λρ st σ H m Q S R p=>ha ρ st σ H m Q S R p
theorem O_(ha:JE X a ga)(hb:JE X (.BoolOp .And (b::rest) pos) gb):JE X (.BoolOp .And (a::b::rest) pos) (bZ ga gb):=by
 refine JE.of (Oc bg bg) λρ st σ H m Q S R p=>?_;refine ha.go S R (aE.bind p) λx st1 v m1 H1 p1 e1 S1 rx=>?_;cases x with
 |bl c=>
  unfold ak at rx;refine⟨c,rx,?_⟩;cases c with
  |true=>rw[if_pos rfl];exact hb ρ st1 σ H1 m1 Q S1 (R.mono e1) (dA.shift p1 e1)
  |false=>rw[if_neg dh];exact p1 _ m1 H1 e1 S1 (by unfold ak;rfl)
 |_=>exact aa p1
theorem Ux(ha:JE X a ga)(hb:JE X (.BoolOp .Or (b::rest) pos) gb):JE X (.BoolOp .Or (a::b::rest) pos) (Aa ga gb):=by
 refine JE.of (TR bg bg) λρ st σ H m Q S R p=>?_;refine ha.go S R (aE.bind p) λx st1 v m1 H1 p1 e1 S1 rx=>?_;cases x with
 |bl c=>
  unfold ak at rx;refine⟨c,rx,?_⟩;cases c with
  |true=>rw[if_pos rfl];exact p1 _ m1 H1 e1 S1 (by unfold ak;rfl)
  |false=>rw[if_neg dh];exact hb ρ st1 σ H1 m1 Q S1 (R.mono e1) (dA.shift p1 e1)
 |_=>exact aa p1
theorem Pa(ha:JE X a ga):JE X (.UnaryOp .Not a pos) (xR ga):=by
 refine JE.of (Oe bg) λρ st σ H m Q S R p=>?_;refine ha.go S R (aE.bind p) λx st1 v m1 H1 p1 e1 S1 rx=>?_;cases x with
 |bl c=>unfold ak at rx;exact⟨c,rx,p1 _ m1 H1 e1 S1 (by unfold ak;rfl)⟩
 |_=>exact aa p1
def vN(gt:GT)(ga gb:GE):GE:=λρ st=>(gt ρ st).bind λb st1=>if b=true then ga ρ st1 else gb ρ st1
theorem Uy(hc:JT X c gt)(ha:JE X a ga)(hb:JE X b gb):JE X (.IfExp c a b pos) (vN gt ga gb):=by
 refine JE.of (EV qt bg bg) λρ st σ H m Q S R p=>?_;refine hc.go S R (aE.bind p) λk st1 m1 H1 p1 e1 S1=>?_;cases k with
 |true=>rw[if_pos rfl]at p1 ⊢;exact ha ρ st1 σ H1 m1 Q S1 (R.mono e1) (dA.shift p1 e1)
 |false=>rw[if_neg dh]at p1 ⊢;exact hb ρ st1 σ H1 m1 Q S1 (R.mono e1) (dA.shift p1 e1)
def ag:GA:=λ_ st=> .ok [] st
def ae(ga:GE)(gr:GA):GA:=λρ st=>(ga ρ st).bind λx st1=>(gr ρ st1).bind λxs st2=> .ok (x::xs) st2
theorem vO:JA X [] ag:=JA.of OC λρ st σ H m Q S R p=>p [] m H Ext.refl S ai.nil
theorem vP{gr:GA}(ha:JE X e ga)(hr:JA X es gr)(hs:ahm (e::es) X.env=(false,eval e X.env)::ahm es X.env:=by rfl):JA X (e::es) (ae ga gr):=by refine JA.of (Kk bg ll hs) λρ st σ H m Q S R p=>?_;refine ha.go S R (aE.bind p) λx st1 v m1 H1 p1 e1 S1 rx=>?_;refine hr.go S1 (R.mono e1) ((aE.bind p1).imp e1 λ_ _ q=>q) λxs st2 vs m2 H2 p2 e2 S2 rs=>?_;exact p2 (v::vs) m2 H2 (e1.trans e2) S2 (ai.cons (ak.mono e2 _ _ rx) rs)
def bS(g:GA):GE:=λρ st=>(g ρ st).bind λws st1=>if ws.length<=lim then .ok (.tup ws) st1 else .bad
def hZ(g:GA):GE:=λρ st=>(g ρ st).bind λws st1=>if ws.length<=lim then .ok (.ref st1.length) (st1++[.lst ws])else .bad
theorem Pb{x1 pos}(h:JA X es g):JE X (.Tuple es x1 pos) (bS g):=by
 refine JE.of (OD ll) λρ st σ H m Q S R p=>?_;refine h.go S R (aE.bind p) λws st1 vs m1 H1 p1 e1 S1 rs=>?_;by_cases hl:ws.length<=lim
 ·rw[if_pos hl]at p1;refine⟨by rw[<-rs.length];exact dE hl,λq hq=>?_⟩;have e2:Ext X.K m1 H1 m1 (upd H1 q (.tup vs)):=Ext.upd (.inl hq);exact p1 (.ref q) m1 _ (e1.trans e2) (S1.fresh hq) (by unfold ak;exact⟨q,vs,rfl,bF,ai.mono e2 _ _ rs⟩)
 ·rw[if_neg hl]at p1;exact aa p1
theorem b4.newest(S:b4 K m st H)(q:ag5)(H':Hp):ak K (m++[q]) H' (.ref st.length) (.ref q):=by unfold ak;refine⟨q,rfl,?_⟩;rw[<-S.len,pD (aA _),vH];rfl
theorem lJ(p1:SX X.K m H Q (.ref st1.length) (st1++[.lst ws]))(e1:Ext X.K m H m1 H1)(S1:b4 X.K m1 st1 H1)(rs:ai X.K m1 H1 ws vs)(q:ag5)(hq:H1 q=none):
  Q (.ref q) (upd H1 q (.lst vs)) :=
 p1 (.ref q) (m1++[q]) _ (e1.trans (Ext.more.trans (Ext.upd (.inl hq)))) (S1.alloc hq rs) (S1.newest q _)
theorem Pc{pos}(h:JA X es g):JE X (.List es pos) (hZ g):=by
 refine JE.of (OE ll) λρ st σ H m Q S R p=>?_;refine h.go S R (aE.bind p) λws st1 vs m1 H1 p1 e1 S1 rs=>?_;by_cases hl:ws.length<=lim
 ·rw[if_pos hl]at p1;exact⟨by rw[<-rs.length];exact dE hl,λq hq=>lJ p1 e1 S1 rs q hq⟩
 ·rw[if_neg hl]at p1;exact aa p1
end
variable{x:PySem.Str}{a:V}
section
variable {X:Cx}
theorem hV.or{f:ahb->ahb->Sem ahb}{r':R2}(h:hV X f r)(h':hV X f r'):hV X f (λx y H Q=>r x y H Q\/r' x y H Q):=by
 intro pins s σ H x y v u Q I rx ry q;rcases q with q |q
 ·exact h pins s σ H x y v u Q I rx ry q
 ·exact h' pins s σ H x y v u Q I rx ry q
theorem FQ:hV X (ahe .FloorDiv) (rI (λ_ j=>j≠0/\j.natAbs.log2 < 9000) λi j=> .int (i.fdiv j)):=Xs λi j _ _ _ _ _ hc q=>floordiv_int hc.1 q (.inl (PyProof.noPylong_of_log2 hc.2))
theorem KL:hV X (ahe .Mod) (rI (λ_ j=>j≠0) λi j=> .int (i.fmod j)):=Xs λi j _ _ _ _ _ hc q=>mod_int' hc q
theorem KN:hV X (ahe .Mult) (rI (λi j=>IntMulOk i j) λi j=> .int (i * j)):=Xs λ_ _ _ _ _ _ _ hc q=>mul_int q hc
instance Zo{a b:Int}:Decidable (IntMulOk a b):=by unfold IntMulOk;infer_instance
def lK:iQ
 |.int i,.int j,st=> .ok (.int (i - j)) st
 |_,_,_=> .bad
def lu:iQ
 |.int i,.int j,st=>if j≠0/\j.natAbs.log2 < 9000 then .ok (.int (i.fdiv j)) st else .bad
 |_,_,_=> .bad
def oMod:iQ
 |.int i,.int j,st=>if j≠0 then .ok (.int (i.fmod j)) st else .bad
 |_,_,_=> .bad
def vQ:iQ
 |.int i,.int j,st=>if 0<=j/\j<=1000000/\i.natAbs < 2 ^ 64 then .ok (.int (i ^ j.toNat)) st else .bad
 |_,_,_=> .bad
def Uz:iQ
 |.int i,.int j,st=> .ok (.bl (decide (i < j))) st
 |.str i,.str j,st=> .ok (.bl (decide (i.cps.toList < j.cps.toList))) st
 |_,_,_=> .bad
def UA:iQ
 |.int i,.int j,st=> .ok (.bl (decide (i<=j))) st
 |_,_,_=> .bad
def MM:iQ
 |.int i,.int j,st=> .ok (.bl (decide (j < i))) st
 |_,_,_=> .bad
def UB:iQ
 |.int i,.int j,st=> .ok (.bl (decide (j<=i))) st
 |_,_,_=> .bad
theorem aZ(h:ak X.K m H (.int i) a):a= .int i:=by unfold ak at h;exact h
theorem UC{b:Bool}(h:ak X.K m H (.bl b) a):a= .bl b:=by unfold ak at h;exact h
theorem eB(h:ak X.K m H (.str x) a):a= .str x/\aW x=true:=by unfold ak at h;exact h
theorem mkInt:ak X.K m H (.int i) (.int i):=by unfold ak;rfl
theorem ly{i:Bool}:ak X.K m H (.bl i) (.bl i):=by unfold ak;rfl
theorem Bz:ak X.K m H .cG .cG:=by unfold ak;rfl
theorem mkStr(h:aW x=true):ak X.K m H (.str x) (.str x):=by unfold ak;exact⟨rfl,h⟩
theorem Pd:mz X (ahe .Sub) lK:=⟨_,Ov,λx y a b st H m Q S rx ry p=>by
 cases x with
 |int i=>
  cases y with
  |int j=>exact⟨i,j,aZ rx,aZ ry,p _ m H Ext.refl S mkInt⟩
  |_=>exact aa p
 |_=>cases y<;>exact aa p⟩
theorem KO:mz X (ahe .FloorDiv) lu:=⟨_,FQ,λx y a b st H m Q S rx ry p=>by
 cases x with
 |int i=>
  cases y with
  |int j=>
   dsimp only[lu]at p;by_cases c:j≠0/\j.natAbs.log2 < 9000
   ·rw[if_pos c]at p;exact⟨i,j,aZ rx,aZ ry,c,p _ m H Ext.refl S mkInt⟩
   ·rw[if_neg c]at p;exact aa p
  |_=>exact aa p
 |_=>cases y<;>exact aa p⟩
theorem Pe:mz X (ahe .Mod) oMod:=⟨_,KL,λx y a b st H m Q S rx ry p=>by
 cases x with
 |int i=>
  cases y with
  |int j=>
   dsimp only[oMod]at p;by_cases c:j≠0
   ·rw[if_pos c]at p;exact⟨i,j,aZ rx,aZ ry,c,p _ m H Ext.refl S mkInt⟩
   ·rw[if_neg c]at p;exact aa p
  |_=>exact aa p
 |_=>cases y<;>exact aa p⟩
theorem Pf:mz X (ahe .Pow) vQ:=⟨_,Ow,λx y a b st H m Q S rx ry p=>by
 cases x with
 |int i=>
  cases y with
  |int j=>
   dsimp only[vQ]at p;by_cases c:0<=j/\j<=1000000/\i.natAbs < 2 ^ 64
   ·rw[if_pos c]at p;exact⟨i,j,aZ rx,aZ ry,c,p _ m H Ext.refl S mkInt⟩
   ·rw[if_neg c]at p;exact aa p
  |_=>exact aa p
 |_=>cases y<;>exact aa p⟩
theorem UD:mz X (ahi .Lt) Uz:=⟨_,hV.or T7 C3,λx y a b st H m Q S rx ry p=>by
 cases x with
 |int i=>
  cases y with
  |int j=>exact .inl ⟨i,j,aZ rx,aZ ry,p _ m H Ext.refl S ly⟩
  |_=>exact aa p
 |str i=>
  cases y with
  |str j=>exact .inr ⟨i,j,(eB rx).1,(eB ry).1,p _ m H Ext.refl S ly⟩
  |_=>exact aa p
 |_=>cases y<;>exact aa p⟩
theorem UE:mz X (ahi .LtE) UA:=⟨_,T8,λx y a b st H m Q S rx ry p=>by
 cases x with
 |int i=>
  cases y with
  |int j=>exact⟨i,j,aZ rx,aZ ry,p _ m H Ext.refl S ly⟩
  |_=>exact aa p
 |_=>cases y<;>exact aa p⟩
theorem UG:mz X (ahi .Gt) MM:=⟨_,T9,λx y a b st H m Q S rx ry p=>by
 cases x with
 |int i=>
  cases y with
  |int j=>exact⟨i,j,aZ rx,aZ ry,p _ m H Ext.refl S ly⟩
  |_=>exact aa p
 |_=>cases y<;>exact aa p⟩
theorem UH:mz X (ahi .GtE) UB:=⟨_,T_,λx y a b st H m Q S rx ry p=>by
 cases x with
 |int i=>
  cases y with
  |int j=>exact⟨i,j,aZ rx,aZ ry,p _ m H Ext.refl S ly⟩
  |_=>exact aa p
 |_=>cases y<;>exact aa p⟩
def FR:iQ
 |x,.cG,st=> .ok (.bl (match x with |.cG=>false |_=>true)) st
 |_,_,_=> .bad
theorem UI{x:Wv}(h:ak X.K m H x a):decide (a=V.cG)=(match x with |.cG=>true |_=>false):=by
 cases x with
 |cG=>unfold ak at h;subst h;rfl
 |bl b=>unfold ak at h;subst h;rfl
 |int b=>unfold ak at h;subst h;rfl
 |str b=>unfold ak at h;obtain⟨h,_⟩:=h;subst h;rfl
 |tup b=>unfold ak at h;obtain⟨q,xs,h,_⟩:=h;subst h;rfl
 |jS b=>unfold ak at h;obtain⟨q,xs,h,_⟩:=h;subst h;rfl
 |ref b=>unfold ak at h;obtain⟨q,h,_⟩:=h;subst h;rfl
 |ty b=>unfold ak at h;subst h;rfl
 |cls b=>unfold ak at h;obtain⟨q,h,_⟩:=h;subst h;rfl
 |iP b=>unfold ak at h;obtain⟨q,C,h,_⟩:=h;subst h;rfl
 |fn fp b=>unfold ak at h;obtain⟨h,_⟩:=h;subst h;rfl
theorem FT:mz X (ahi .IsNot) FR:=⟨_,Ke,λx y a b st H m Q S rx ry p=>by
 cases y with
 |cG=>refine⟨by unfold ak at ry;exact ry,?_⟩;rw[UI rx];cases x<;>exact p _ m H Ext.refl S ly
 |_=>cases x<;>exact aa p⟩
theorem ow{a b:PySem.Str}(ha:aW a=true)(hb:aW b=true):aW (a++b)=true:=by unfold aW at *;show((a.cps++b.cps).all _)=true;rw[Array.all_append,ha,hb];rfl
def UJ(K:PySem.W.Frag):R2:=λx y H Q=>∃l b xs zs,x= .ref l/\y= .ref b/\nk K H l xs/\nk K H b zs/\xs.length+zs.length<=ahl/\∀p,H p=none->Q (.ref p) (upd H p (.lst (xs++zs)))
theorem KP:hV X (ahe .Add) (UJ X.K):=by
 intro pins s σ H x y v u Q I rx ry h;obtain⟨l,b,xs,zs,rfl,rfl,hH,hB,hz,q⟩:=h;cases rx;cases ry;obtain⟨its,r,pl,hs⟩:=I.list hH;obtain⟨its2,r2,pl2,hs2⟩:=I.list hB;have hl:=r.length;have hl2:=r2.length;obtain⟨⟨cls,dd,data,sl⟩,ho,hc,n,hd⟩:=id pl.isList;obtain⟨⟨Ze,dd2,data2,sl2⟩,ho2,hc2,n2,hd2⟩:=id pl2.isList;simp only at hc hd hc2 hd2;subst hc hd hc2 hd2;have e:its.toArray++its2.toArray=(its++its2).toArray:=by simp
 refine PySem.concat_meets ⟨_,ho,rfl⟩ ⟨_,ho2,rfl⟩ PySem.noFill_list_add PySem.seq_list_add PySem.F.slot_list_add PySem.F.entry_list_add (PySem.F.args_list_add_2 _ _) (list_addW l b its.toArray its2.toArray n n2 dd dd2 sl sl2 (by simp;omega)) ⟨ho,ho2,?_⟩;rw[e];exact⟨.ref _,_,I.OS (t':=s.toks) (r.append r2) (by rw[kI];omega),rfl,q _ I.fresh⟩
def UK(K:PySem.W.Frag):R2:=λx y H Q=>∃a b ys,x= .ref a/\y= .ref b/\gz K H a []/\gz K H b ys/\Q (.ref b) H
theorem KQ:hV X (ahe .Add) (UK X.K):=by intro pins s σ H x y v u Q I rx ry h;obtain⟨a,b,ys,rfl,rfl,ha,hb,q⟩:=h;cases rx;cases ry;obtain⟨its,r1,p1,_⟩:=I.tuple ha;obtain⟨its2,r2,p2,_⟩:=I.tuple hb;cases r1;obtain⟨⟨c1,d1,t1,l1⟩,g1,k1,n1,j1⟩:=id p1;obtain⟨⟨c2,d2,t2,l2⟩,g2,k2,n2,j2⟩:=id p2;simp only at k1 j1 k2 j2;subst k1 j1 k2 j2;exact PySem.concat_meets ⟨_,g1,rfl⟩ ⟨_,g2,rfl⟩ PySem.noFill_tuple_add PySem.seq_tuple_add PySem.F.slot_tuple_add PySem.F.entry_tuple_add (PySem.F.args_tuple_add_2 _ _) (tuple_addW0 a b #[] its2.toArray n1 n2 d1 d2 l1 l2 (by simp)) ⟨g1,g2,⟨.ref b,H,I,rfl,q⟩⟩
def bA:iQ
 |.int i,.int j,st=> .ok (.int (i+j)) st
 |.str i,.str j,st=>if i.length+j.length<=lim then .ok (.str (i++j)) st else .bad
 |.tup i,.tup j,st=>if i.length+j.length<=lim then .ok (.tup (i++j)) st else .bad
 |.ref l,.ref k,st=>match av st l,av st k with
  |some i,some j=>if i.length+j.length<=lim then .ok (.ref st.length) (st++[.lst (i++j)])else .bad
  |_,_=> .bad
 |_,_,_=> .bad
instance {α:Type}{xs:List α}:Decidable (xs≠[]):=match xs with
 |[]=>isFalse (λh=>h rfl)
 |_::_=>isTrue (λh=>by cases h)
theorem Pg:mz X (ahe .Add) bA:=⟨_,hV.or Ou (hV.or zE (hV.or Ks (hV.or KP KQ))),λx y a b st H m Q S rx ry p=>by
 cases x with
 |int i=>
  cases y with
  |int j=>exact .inl ⟨i,j,aZ rx,aZ ry,p _ m H Ext.refl S mkInt⟩
  |_=>exact aa p
 |str i=>
  cases y with
  |str j=>
   dsimp only[bA]at p;by_cases c:i.length+j.length<=lim
   ·rw[if_pos c]at p;exact .inr (.inl ⟨i,j,(eB rx).1,(eB ry).1,dE c,p _ m H Ext.refl S (mkStr (ow (eB rx).2 (eB ry).2))⟩)
   ·rw[if_neg c]at p;exact aa p
  |_=>exact aa p
 |tup i=>
  cases y with
  |tup j=>
   dsimp only[bA]at p;by_cases c:i.length+j.length<=lim
   ·rw[if_pos c]at p;by_cases c0:i=[]
    ·subst c0;unfold ak at rx ry;obtain⟨a1,xs,rfl,h1,h2⟩:=rx;obtain⟨a2,ys,rfl,h3,h4⟩:=ry;have l1:xs=[]:=Ab h2.length.symm;subst l1;exact .inr (.inr (.inr (.inr ⟨a1,a2,ys,rfl,rfl,gz.of h1,gz.of h3,p (.ref a2) m H Ext.refl S (by rw[zV];unfold ak;exact⟨a2,ys,rfl,h3,h4⟩)⟩)))
    unfold ak at rx ry;obtain⟨a1,xs,rfl,h1,h2⟩:=rx;obtain⟨a2,ys,rfl,h3,h4⟩:=ry;have l1:=h2.length;have l2:=h4.length;have n1:xs≠[]:=λz=>by rw[z]at l1;exact c0 (Ab l1)
    refine .inr (.inr (.inl ⟨a1,a2,xs,ys,rfl,rfl,gz.of h1,gz.of h3,n1,by rw[<-l1,<-l2];exact dE c,λz=>?_,λ_ q hq=>?_⟩))
    ·rw[z]at l2;rw[Ab l2,iX]at p;exact p (.ref a1) m H Ext.refl S (by unfold ak;exact⟨a1,xs,rfl,h1,h2⟩)
    have e2:Ext X.K m H m (upd H q (.tup (xs++ys))):=Ext.upd (.inl hq);exact p (.ref q) m _ e2 (S.fresh hq) (by unfold ak;exact⟨q,xs++ys,rfl,bF,ai.mono e2 _ _ (h2.append h4)⟩)
   ·rw[if_neg c]at p;exact aa p
  |_=>exact aa p
 |ref l=>
  cases y with
  |ref k=>
   dsimp only[bA]at p;unfold ak at rx ry;obtain⟨a1,rfl,h1⟩:=rx;obtain⟨a2,rfl,h2⟩:=ry;cases e1:av st l with
   |none=>rw[e1]at p;exact aa p
   |some i=>
    cases e2:av st k with
    |none=>rw[e1,e2]at p;exact aa p
    |some j=>
     rw[e1,e2]at p;by_cases c:i.length+j.length<=lim
     ·simp only[if_pos c]at p;obtain⟨xs,q1,q2⟩:=S.read h1 e1;obtain⟨ys,q3,q4⟩:=S.read h2 e2;exact .inr (.inr (.inr (.inl ⟨a1,a2,xs,ys,rfl,rfl,q1,q3,by rw[<-q2.length,<-q4.length];exact dE c,λq hq=>lJ p Ext.refl S (q2.append q4) q hq⟩)))
     ·simp only[if_neg c]at p;exact aa p
  |_=>exact aa p
 |_=>cases y<;>exact aa p⟩
def dF(n:Nat)(x:PySem.Str):PySem.Str:=⟨(aR n x.cps).foldl (· ++·) #[]⟩
end
open PySem PySem.Spec PySem.SeqAt PyProof.Rows L2
def oz{α β:Type}(f:α->Option β):List α->Option (List β)
 |[]=>some []
 |w::ws=>match f w,oz f ws with
  |some d,some ds=>some (d::ds)
  |_,_=>none
def bV(st:Hs):Nat->Wv->Option PyData
 | 0,w=>match w with
  |.cG=>some .none
  |.bl b=>some (.bool b)
  |.int i=>some (.int i)
  |.str x=>some (.str x)
  |_=>none
 |n+1,w=>match w with
  |.cG=>some .none
  |.bl b=>some (.bool b)
  |.int i=>some (.int i)
  |.str x=>some (.str x)
  |.tup ws=>(oz (bV st n) ws).map .tuple
  |.jS ws=>(oz (bV st n) ws).map .tuple
  |.ref l=>match av st l with
   |some ws=>(oz (bV st n) ws).map .list
   |none=>none
  |.ty _=>none
  |.cls _=>none
  |.iP _=>none
  |.fn _ _=>none
section
variable {X:Cx}{pins:List (ag5×Obj)}{σ:St}{H:Hp}{s:aha}{m:Mp}{st:Hs}
def MN(h:Heap)(n:Nat)(u:ahb)(d:PyData):Prop:=∃as,Reads h u d as/\d.canLay0=true/\d.depth<=n
theorem mB{n:Nat}(ih:∀(w:Wv)(a:V)(u:ahb)(d:PyData),ak X.K m H w a->RelV a u->bV st n w=some d->MN s.heap n u d):
  ∀(ws:List Wv)(xs:List V)(us:List ahb)(ds:List PyData),ai X.K m H ws xs->Vals xs us->oz (bV st n) ws=some ds->∃as,ReadsAll s.heap us ds as/\rF ds=true/\ky ds<=n
 |[],xs,us,ds,h,r,e=>by unfold ai at h;subst h;cases r;cases e;exact⟨[],.nil,rfl,de _⟩
 |w::ws,xs,us,ds,h,r,e=>by
  unfold ai at h;obtain⟨x,xr,rfl,h1,h2⟩:=h;cases r with
  |cons r1 r2=>
   unfold oz at e;cases e1:bV st n w with
   |none=>rw[e1]at e;cases e
   |some d=>
    cases e2:oz (bV st n) ws with
    |none=>rw[e1,e2]at e;cases e
    |some dr=>
     rw[e1,e2]at e;cases e;obtain⟨as,q1,q2,q3⟩:=ih w x _ d h1 r1 e1;obtain⟨bs,p1,p2,p3⟩:=mB ih ws xr _ dr h2 r2 e2;refine⟨as++bs,.cons q1 p1,?_,?_⟩
     ·show(PyData.canLay0 d&&rF dr)=true;rw[q2,p2];rfl
     ·show max d.depth (ky dr)<=n;omega
theorem h_(I:Inv X pins σ H s)(S:b4 X.K m st H):∀(n:Nat)(w:Wv)(a:V)(u:ahb)(d:PyData),ak X.K m H w a->RelV a u->bV st n w=some d->MN s.heap n u d:=by
 intro n
 induction n with
 |zero=>
  intro w a u d h r e;cases w with
  |cG=>unfold ak at h;subst h;cases r;cases e;exact⟨[],.none,rfl,aA _⟩
  |bl b=>unfold ak at h;subst h;cases r;cases e;exact⟨[],.bool b,rfl,aA _⟩
  |int i=>unfold ak at h;subst h;obtain⟨t,rfl⟩:=r;cases e;exact⟨[],.int i t,rfl,aA _⟩
  |str x=>unfold ak at h;obtain⟨rfl,hx⟩:=h;obtain⟨t,rfl⟩:=r;cases e;exact⟨[],.str x t,hx,aA _⟩
  |tup ws=>cases e
  |jS ws=>cases e
  |ref l=>cases e
  |ty t=>cases e
  |cls t=>cases e
  |iP t=>cases e
  |fn fp t=>cases e
 |succ n ih=>
  intro w a u d h r e;cases w with
  |cG=>unfold ak at h;subst h;cases r;cases e;exact⟨[],.none,rfl,de _⟩
  |bl b=>unfold ak at h;subst h;cases r;cases e;exact⟨[],.bool b,rfl,de _⟩
  |int i=>unfold ak at h;subst h;obtain⟨t,rfl⟩:=r;cases e;exact⟨[],.int i t,rfl,de _⟩
  |str x=>unfold ak at h;obtain⟨rfl,hx⟩:=h;obtain⟨t,rfl⟩:=r;cases e;exact⟨[],.str x t,hx,de _⟩
  |ty t=>cases e
  |cls t=>cases e
  |iP t=>cases e
  |fn fp t=>cases e
  |tup ws=>
   unfold ak at h;obtain⟨p,xs,rfl,h1,h2⟩:=h;cases r;have e':(oz (bV st n) ws).map PyData.tuple=some d:=e;cases e2:oz (bV st n) ws with
   |none=>rw[e2]at e';cases e'
   |some ds=>rw[e2]at e';cases e';obtain⟨its,rv,ht,hz⟩:=I.tuple (gz.of h1);obtain⟨as,q1,q2,q3⟩:=mB ih ws xs its ds h2 rv e2;obtain⟨o,ho,hc,k,hd⟩:=ht;exact⟨as,.tuple ho hc hd (by simpa using q1),q2,vk q3⟩
  |jS ws=>
   unfold ak at h;obtain⟨p,xs,rfl,h1,h2⟩:=h;cases r;have e':(oz (bV st n) ws).map PyData.tuple=some d:=e;cases e2:oz (bV st n) ws with
   |none=>rw[e2]at e';cases e'
   |some ds=>rw[e2]at e';cases e';obtain⟨its,rv,ht,hz⟩:=I.tuple (.inr h1);obtain⟨as,q1,q2,q3⟩:=mB ih ws xs its ds h2 rv e2;obtain⟨o,ho,hc,k,hd⟩:=ht;exact⟨as,.tuple ho hc hd (by simpa using q1),q2,vk q3⟩
  |ref l=>
   unfold ak at h;obtain⟨p,rfl,h1⟩:=h;cases r;have e':(match av st l with |some ws=>(oz (bV st n) ws).map PyData.list |none=>none)=some d:=e
   cases e1:av st l with
   |none=>rw[e1]at e';cases e'
   |some ws=>
    rw[e1]at e';have e'':(oz (bV st n) ws).map PyData.list=some d:=e';cases e2:oz (bV st n) ws with
    |none=>rw[e2]at e'';cases e''
    |some ds=>rw[e2]at e'';cases e'';obtain⟨xs,hq,h2⟩:=S.read h1 e1;obtain⟨its,rv,ht,hz⟩:=I.list hq;obtain⟨as,q1,q2,q3⟩:=mB ih ws xs its ds h2 rv e2;obtain⟨o,ho,hc,k,hd⟩:=ht.isList;exact⟨_,.list ho hc hd (by simpa using q1),q2,vk q3⟩
end
def oEq:iQ:=λx y st=>match bV st 20 x,bV st 20 y with
 |some a,some b=> .ok (.bl (dY a b)) st
 |_,_=> .bad
def j':iQ:=λx y st=>match bV st 20 x,bV st 20 y with
 |some a,some b=> .ok (.bl (!PyData.eqv a b)) st
 |_,_=> .bad
variable{x:Wv}{g:GE}{xs:List V}{z:PySem.Str}{hi:Option Int}
section
variable {X:Cx}
def UL(K:PySem.W.Frag)(neg:Bool):R2:=λa b H Q=>∃m st x y da db,b4 K m st H/\ak K m H x a/\ak K m H y b/\bV st 20 x=some da/\bV st 20 y=some db/\Q (.bl (if neg then !PyData.eqv da db else dY da db)) H
theorem mC{d:PyData}(hn:n<=64)(h:d.canLay0=true)(k:d.depth<=n):shaped d=true:=by unfold shaped;rw[h,decide_eq_true (b5 k hn)];rfl
theorem Ph(hu:X.A.units+64 < cLine):hV X (ahi .Eq) (UL X.K false):=by intro pins s σ H a b v u Q I rx ry h;obtain⟨m,st,x,y,da,db,S,h1,h2,e1,e2,q⟩:=h;obtain⟨as,q1,q2,q3⟩:=h_ I S 20 x a v da h1 rx e1;obtain⟨bs,p1,p2,p3⟩:=h_ I S 20 y b u db h2 ry e2;exact eq_dataH q1 p1 (mC (by decide) q2 q3) (mC (by decide) p2 p3) hu ⟨.bl _,H,I,rfl,q⟩
theorem Pj(hu:X.A.units+64 < cLine):hV X (ahi .NotEq) (UL X.K true):=by intro pins s σ H a b v u Q I rx ry h;obtain⟨m,st,x,y,da,db,S,h1,h2,e1,e2,q⟩:=h;obtain⟨as,q1,q2,q3⟩:=h_ I S 20 x a v da h1 rx e1;obtain⟨bs,p1,p2,p3⟩:=h_ I S 20 y b u db h2 ry e2;exact ne_dataH q1 p1 (mC (by decide) q2 q3) (mC (by decide) p2 p3) hu ⟨.bl _,H,I,rfl,q⟩
theorem UM(hu:X.A.units+64 < cLine):mz X (ahi .Eq) oEq:=⟨_,Ph hu,λx y a b st H m Q S rx ry p=>by
 unfold oEq at p;cases e1:bV st 20 x with
 |none=>rw[e1]at p;exact aa p
 |some da=>
  cases e2:bV st 20 y with
  |none=>rw[e1,e2]at p;exact aa p
  |some db=>rw[e1,e2]at p;exact⟨m,st,x,y,da,db,S,rx,ry,e1,e2,p _ m H Ext.refl S ly⟩⟩
theorem UN(hu:X.A.units+64 < cLine):mz X (ahi .NotEq) j':=⟨_,Pj hu,λx y a b st H m Q S rx ry p=>by
 unfold j' at p;cases e1:bV st 20 x with
 |none=>rw[e1]at p;exact aa p
 |some da=>
  cases e2:bV st 20 y with
  |none=>rw[e1,e2]at p;exact aa p
  |some db=>rw[e1,e2]at p;exact⟨m,st,x,y,da,db,S,rx,ry,e1,e2,p _ m H Ext.refl S ly⟩⟩
def cS:Wv->Bool
 |.cG=>true
 |.bl _=>true
 |.int _=>true
 |.str _=>true
 |_=>false
def Dm:Wv->Wv->Bool
 |.cG,.cG=>true
 |.bl a,.bl b=>a == b
 |.bl a,.int b=>(if a then 1 else 0) == b
 |.int a,.bl b=>a == (if b then 1 else 0)
 |.int a,.int b=>a == b
 |.str a,.str b=>a == b
 |_,_=>false
def oA(st:Hs):Wv->Option (List Wv)
 |.tup ws=>some ws
 |.jS ws=>some ws
 |.ref l=>av st l
 |_=>none
def Zp:iQ:=λx y st=>match oA st y with
 |some ws=>if cS x=true/\ws.all cS=true then .ok (.bl (ws.any λz=>Dm z x)) st else .bad
 |none=> .bad
theorem ka(h:ak X.K m H x a)(f:cS x=true):gA a=true:=by
 cases x with
 |cG=>unfold ak at h;subst h;rfl
 |bl b=>unfold ak at h;subst h;rfl
 |int b=>unfold ak at h;subst h;rfl
 |str b=>unfold ak at h;obtain⟨h,_⟩:=h;subst h;rfl
 |_=>cases f
theorem vR{y:Wv}{b:V}(h:ak X.K m H x a)(k:ak X.K m H y b)(f:cS x=true)(g:cS y=true):xJ a b=Dm x y:=by
 cases x with
 |cG=>
  unfold ak at h;subst h;cases y with
  |str j=>unfold ak at k;obtain⟨k,_⟩:=k;subst k;rfl
  |tup j=>cases g
  |jS j=>cases g
  |ref j=>cases g
  |ty j=>cases g
  |cls j=>cases g
  |iP j=>cases g
  |fn fp j=>cases g
  |_=>unfold ak at k;subst k;rfl
 |bl i=>
  unfold ak at h;subst h;cases y with
  |str j=>unfold ak at k;obtain⟨k,_⟩:=k;subst k;rfl
  |tup j=>cases g
  |jS j=>cases g
  |ref j=>cases g
  |ty j=>cases g
  |cls j=>cases g
  |iP j=>cases g
  |fn fp j=>cases g
  |_=>unfold ak at k;subst k;rfl
 |int i=>
  unfold ak at h;subst h;cases y with
  |str j=>unfold ak at k;obtain⟨k,_⟩:=k;subst k;rfl
  |tup j=>cases g
  |jS j=>cases g
  |ref j=>cases g
  |ty j=>cases g
  |cls j=>cases g
  |iP j=>cases g
  |fn fp j=>cases g
  |_=>unfold ak at k;subst k;rfl
 |str i=>
  unfold ak at h;obtain⟨h,_⟩:=h;subst h;cases y with
  |str j=>unfold ak at k;obtain⟨k,_⟩:=k;subst k;rfl
  |tup j=>cases g
  |jS j=>cases g
  |ref j=>cases g
  |ty j=>cases g
  |cls j=>cases g
  |iP j=>cases g
  |fn fp j=>cases g
  |_=>unfold ak at k;subst k;rfl
 |_=>cases f
theorem uJ{m:Mp}{H:Hp}{x:Wv}{a:V}(h:ak X.K m H x a)(f:cS x=true):∀{ws:List Wv}{xs:List V},ai X.K m H ws xs->ws.all cS=true->xs.all gA=true/\Xt a xs=ws.any λz=>Dm z x
 |[],xs,r,_=>by unfold ai at r;subst r;exact⟨rfl,rfl⟩
 |w::ws,xs,r,g=>by
  unfold ai at r;obtain⟨y,yr,rfl,r1,r2⟩:=r;rw[cC,b7]at g;obtain⟨q1,q2⟩:=uJ h f r2 g.2;constructor
  ·rw[cC,ka r1 g.1,q1];rfl
  ·unfold Xt at q2 ⊢;rw[sy,sy,vR r1 h g.1 f,q2]
theorem vS{y:Wv}{b:V}(S:b4 X.K m st H)(h:ak X.K m H y b)(e:oA st y=some ws):∃p xs,b= .ref p/\(nk X.K H p xs\/gz X.K H p xs)/\ai X.K m H ws xs:=by
 cases y with
 |tup zs=>cases e;unfold ak at h;obtain⟨p,xs,e1,e2,e3⟩:=h;exact⟨p,xs,e1,.inr (gz.of e2),e3⟩
 |jS zs=>cases e;unfold ak at h;obtain⟨p,xs,e1,e2,e3⟩:=h;exact⟨p,xs,e1,.inr (.inr e2),e3⟩
 |ref l=>unfold ak at h;obtain⟨p,e1,e2⟩:=h;obtain⟨xs,q1,q2⟩:=S.read e2 e;exact⟨p,xs,e1,.inl q1,q2⟩
 |_=>cases e
theorem UO:mz X (ahi .In) Zp:=⟨_,Df,λx y a b st H m Q S rx ry p=>by
 unfold Zp at p;cases e:oA st y with
 |none=>rw[e]at p;exact aa p
 |some ws=>
  rw[e]at p;by_cases c:cS x=true/\ws.all cS=true
  ·simp only[if_pos c]at p;obtain⟨q,xs,e1,e2,e3⟩:=vS S ry e;obtain⟨f1,f2⟩:=uJ rx c.1 e3 c.2;refine⟨q,xs,e1,e2,ka rx c.1,f1,?_⟩;rw[f2];exact p _ m H Ext.refl S ly
  ·simp only[if_neg c]at p;exact aa p⟩
def bH:iQ
 |.str z,.int i,st=>if z.length<=lim then(match qN z.cps.toList i with |some c=> .ok (.str ⟨#[c]⟩) st |none=> .bad)else .bad
 |x,.int i,st=>match oA st x with
  |some ws=>(match qN ws i with |some w=> .ok w st |none=> .bad)
  |none=> .bad
 |_,_,_=> .bad
theorem KR{w:Wv}(r:ai X.K m H ws xs)(h:qN ws i=some w):∃x,qN xs i=some x/\ak X.K m H w x:=by
 unfold qN at h ⊢;rw[<-r.length];cases e:EC ws.length i with
 |none=>rw[e]at h;cases h
 |some j=>rw[e]at h;exact r.get h
theorem KS{α:Type}{xs:List α}{v:α}(h:qN xs i=some v):v∈xs:=by obtain⟨j,_,h2,_⟩:=rL h;exact sj h2
theorem Dn{c:Nat}(h:aW z=true)(hc:c∈z.cps.toList):aW ⟨#[c]⟩=true:=by unfold aW at h ⊢;rw[MO]at h;have q:=h c (by simpa using hc);simpa using q
theorem UP{a:Expr}(ha:JE X a ga)(hb:JE X b gb)(hs:Bt b:=by exact λ_ _=>rfl):JE X (.Subscript a b pos) (aj bH ga gb) :=
 JE.of (Uk ON bg bg hs) λρ st σ H m Q S R p=>By (op:=bH) (λx y a b st H m Q S rx ry p=>by
  have seqs:∀(i:Int),y= .int i->(match oA st x with |some ws=>(match qN ws i with |some w=>Re.ok w st |none=> .bad) |none=> .bad)=bH x y st->rIx X.K a b H Q:=λi hy hp=>by
   subst hy;rw[<-hp]at p;cases e:oA st x with
   |none=>rw[e]at p;exact aa p
   |some ws=>
    rw[e]at p;dsimp only at p;cases e1:qN ws i with
    |none=>rw[e1]at p;exact aa p
    |some w=>
     rw[e1]at p;obtain⟨q,xs,e2,e3,e4⟩:=vS S rx e;obtain⟨v,f1,f2⟩:=KR e4 e1;rcases e3 with e3 |e3
     ·exact .inl ⟨q,xs,i,v,e2,aZ ry,e3,f1,p v m H Ext.refl S f2⟩
     ·exact .inr (.inl ⟨q,xs,i,v,e2,aZ ry,e3,f1,p v m H Ext.refl S f2⟩)
  cases y with
  |int i=>
   cases x with
   |str z=>
    dsimp only[bH]at p;by_cases c:z.length<=lim
    ·simp only[if_pos c]at p;cases e1:qN z.cps.toList i with
     |none=>rw[e1]at p;exact aa p
     |some ch=>rw[e1]at p;exact .inr (.inr ⟨z,i,ch,(eB rx).1,aZ ry,dE c,e1,p _ m H Ext.refl S (mkStr (Dn (eB rx).2 (KS e1)))⟩)
    ·simp only[if_neg c]at p;exact aa p
   |_=>exact seqs i rfl rfl
  |_=>cases x<;>exact aa p) ha hb S R p
abbrev GO:=bR->Hs->Re (Option Int)
def SO(X:Cx)(e:Option Expr):TO:=λσ H Q=>∀(pins:List (ag5×Obj))(s:aha),Inv X pins σ H s->ahn (model X.prog X.w) X.A (evalPart e X.env) (λu s'=>∃o H',Inv X pins σ H' s'/\IsPart u o/\Q o H') X.xe s
theorem uK{e:Option Expr}:PO X e (SO X e):=λpins s _ _ _ I h=>h pins s I
def okO(K:PySem.W.Frag)(m:Mp)(H:Hp)(Q:Option Int->Hp->Prop)(o:Option Int)(st:Hs):Prop:=∀(m':Mp)(H':Hp),Ext K m H m' H'->b4 K m' st H'->Q o H'
def JO(X:Cx)(e:Option Expr)(g:GO):Prop:=∀(ρ:bR)(st:Hs)(σ:St)(H:Hp)(m:Mp)(Q:Option Int->Hp->Prop),b4 X.K m st H->aL X.K m H ρ σ->aE X σ m H (g ρ st) (okO X.K m H Q)->SO X e σ H Q
def fA:GO:=λ_ st=> .ok none st
def fe(g:GE):GO:=λρ st=>(g ρ st).bind λw st1=>match w with
 |.int i=> .ok (some i) st1
 |_=> .bad
theorem KU:JO X none fA:=λρ st σ H m Q S R p pins s I=>Kq pins s σ H Q I (p m H Ext.refl S)
theorem KW(h:JE X e g):JO X (some e) (fe g):=λρ st σ H m Q S R p pins s I=>
 Kr bg pins s σ H Q I (h.go S R (aE.bind p) λw st1 v m1 H1 p1 e1 S1 r1=>by
  cases w with
  |int i=>exact⟨i,aZ r1,p1 m1 H1 e1 S1⟩
  |_=>exact aa p1)
theorem JO.go{e:Option Expr}{g:GO}{T:Option Int->Hp->Prop}{ok:Option Int->Hs->Prop}(h:JO X e g)(S:b4 X.K m st H)(R:aL X.K m H ρ σ)(p:aE X σ m H (g ρ st) ok)
  (k:∀(b:Option Int)(st1:Hs)(m1:Mp)(H1:Hp),ok b st1->Ext X.K m H m1 H1->b4 X.K m1 st1 H1->T b H1):SO X e σ H T :=
 h ρ st σ H m T S R (p.imp Ext.refl λb st1 q m1 H1 e1 s1=>k b st1 m1 H1 q e1 s1)
def oB(xs:List Wv)(lo hi:Option Int):List Wv:=(xs.drop (HT.eu xs.length 0 lo)).take (HT.eu xs.length xs.length hi - HT.eu xs.length 0 lo)
def S7(x:Wv)(lo hi:Option Int)(st:Hs):Re Wv:=match x with
 |.tup ws=>if HT.eu ws.length 0 lo=0/\HT.eu ws.length ws.length hi=ws.length then .bad else .ok (.tup (oB ws lo hi)) st
 |.ref l=>match av st l with
  |some ws=> .ok (.ref st.length) (st++[.lst (oB ws lo hi)])
  |none=> .bad
 |_=> .bad
theorem vT{lo:Option Int}(r:ai X.K m H ws xs):ai X.K m H (oB ws lo hi) (tY xs lo hi):=by unfold oB tY;rw[<-r.length];exact(r.drop _).take _
def Ac(ga:GE)(gl gh:GO):GE:=λρ st=>(ga ρ st).bind λx st1=>(gl ρ st1).bind λlo st2=>(gh ρ st2).bind λhi st3=>S7 x lo hi st3
theorem xS{a:Expr}{lo hi:Option Expr}{gl gh:GO}{p2:Pos}(ha:JE X a ga)(hl:JO X lo gl)(hh:JO X hi gh):JE X (.Subscript a (.Slice lo hi none p2) pos) (Ac ga gl gh):=by
 refine JE.of (sv (Fq.or Kv) bg uK uK) λρ st σ H m Q S R p=>?_;refine ha.go S R (aE.bind p) λx st1 v m1 H1 p1 e1 S1 rx=>?_;refine hl.go S1 (R.mono e1) ((aE.bind p1).imp e1 λ_ _ q=>q) λl st2 m2 H2 p2 e2 S2=>?_;refine hh.go S2 (R.mono (e1.trans e2)) ((aE.bind p2).imp (e1.trans e2) λ_ _ q=>q) λh st3 m3 H3 p3 e3 S3=>?_;have EF:=e1.trans (e2.trans e3);have Xz:=ak.mono (e2.trans e3) _ _ rx;cases x with
 |tup ws=>
  have ny:dA X σ m H (if HT.eu ws.length 0 l=0/\HT.eu ws.length ws.length h=ws.length then .bad else .ok (.tup (oB ws l h)) st3) Q:=p3;by_cases c:HT.eu ws.length 0 l=0/\HT.eu ws.length ws.length h=ws.length
  ·rw[if_pos c]at ny;exact aa ny
  ·rw[if_neg c]at ny;unfold ak at Xz;obtain⟨q,xs,rfl,f1,f2⟩:=Xz;refine .inl ⟨q,xs,rfl,gz.of f1,by rw[<-f2.length];exact c,λr hr=>?_⟩;have e4:Ext X.K m3 H3 m3 (upd H3 r (.tup (tY xs l h))):=Ext.upd (.inl hr);exact ny (.ref r) m3 _ (EF.trans e4) (S3.fresh hr) (by unfold ak;exact⟨r,_,rfl,bF,ai.mono e4 _ _ (vT f2)⟩)
 |ref k=>
  have ny:dA X σ m H (match av st3 k with |some ws=> .ok (.ref st3.length) (st3++[.lst (oB ws l h)]) |none=> .bad) Q:=p3
  unfold ak at Xz;obtain⟨q,rfl,f1⟩:=Xz;cases e:av st3 k with
  |none=>rw[e]at ny;exact aa ny
  |some ws=>rw[e]at ny;obtain⟨xs,g1,g2⟩:=S3.read f1 e;exact .inr ⟨q,xs,rfl,g1,λr hr=>lJ ny EF S3 (vT g2) r hr⟩
 |_=>exact aa p3
end
variable{x:Str}{gb:GS}{op:List Wv->Hs->Re Wv}{p pos':Pos}{s:Stmt}{go gi ge:GE}
section
variable {X:Cx}
def ff(X:Cx)(f:ahb)(op:List Wv->Hs->Re Wv):Prop:=∃r,fc X f r/\∀(ws:List Wv)(vs:List V)(st:Hs)(H:Hp)(m:Mp)(Q:VK),b4 X.K m st H->ai X.K m H ws vs->dB X.K m H (op ws st) Q->r vs H Q
def aI(op:List Wv->Hs->Re Wv)(g:GA):GE:=λρ st=>(g ρ st).bind λws st1=>(op ws st1).mv
theorem FU{id:String}{g:GA}(hc:ff X (.builtin id) op)(hg:Gl X x)(hm:X.mg x=none)(hv:ahf x=some (.builtin id))(ha:JA X (e::es) g)
  (hn:x≠"__name__":=by decide)(hdb:(x == ("__debug__":Str))=false:=by decide)(he:ahm (e::es) X.env=(false,eval e X.env)::ahm es X.env:=by rfl)(hpl:(backTo pos (ahm es X.env)).any (·.1)=false:=by rfl):
  JE X (.Call (.Name x p) (e::es) [] pos) (aI op g):=by
 obtain⟨r,h1,h2⟩:=hc;refine JE.of (Fm h1 hg hm hv ll hn hdb he hpl) λρ st σ H m Q S R p=>?_;exact ha.go S R (aE.bind p) λws st1 vs m1 H1 p1 e1 S1 rs=>h2 ws vs st1 H1 m1 Q S1 rs (dB.shift (aE.mv p1) e1)
theorem Dp{g:GA}(hc:ff X (.type T) op)(hg:Gl X x)(hm:X.mg x=none)(hv:ahf x=some (.type T))(ha:JA X (e::es) g)
  (hn:x≠"__name__":=by decide)(hdb:(x == ("__debug__":Str))=false:=by decide)(he:ahm (e::es) X.env=(false,eval e X.env)::ahm es X.env:=by rfl)(hpl:(backTo pos (ahm es X.env)).any (·.1)=false:=by rfl):
  JE X (.Call (.Name x p) (e::es) [] pos) (aI op g):=by
 obtain⟨r,h1,h2⟩:=hc;refine JE.of (De h1 hg hm hv ll hn hdb he hpl) λρ st σ H m Q S R p=>?_;exact ha.go S R (aE.bind p) λws st1 vs m1 H1 p1 e1 S1 rs=>h2 ws vs st1 H1 m1 Q S1 rs (dB.shift (aE.mv p1) e1)
theorem ke{w:Wv}(r:ai X.K m H [w] vs):∃v,vs=[v]/\ak X.K m H w v:=by unfold ai at r;obtain⟨v,t,rfl,h1,h2⟩:=r;unfold ai at h2;subst h2;exact⟨v,rfl,h1⟩
theorem Dq{w w':Wv}(r:ai X.K m H [w,w'] vs):∃v v',vs=[v,v']/\ak X.K m H w v/\ak X.K m H w' v':=by unfold ai at r;obtain⟨v,t,rfl,h1,h2⟩:=r;obtain⟨v',rfl,h3⟩:=ke h2;exact⟨v,v',rfl,h1,h3⟩
def dJ:List Wv->Hs->Re Wv
 |[.str z],st=>if z.length<=lim then .ok (.int z.length) st else .bad
 |[x],st=>match oA st x with
  |some ws=> .ok (.int ws.length) st
  |none=> .bad
 |_,_=> .bad
theorem Pk:ff X (.builtin "len") dJ:=⟨_,vD.or vE,λws vs st H m Q S r p=>by
 match ws,r,p with
 |[],r,p=>exact aa p
 |x::y::t,r,p=>cases x<;>exact aa p
 |[x],r,p=>
  obtain⟨v,rfl,rx⟩:=ke r;have seqs:(match oA st x with |some ws=>Re.ok (Wv.int ws.length) st |none=> .bad)=dJ [x] st->(∃p ys,[v]=[V.ref p]/\(nk X.K H p ys\/gz X.K H p ys)/\Q (.int ys.length) H):=λhp=>by
   rw[<-hp]at p;cases e:oA st x with
   |none=>rw[e]at p;exact aa p
   |some ws=>rw[e]at p;obtain⟨q,xs,rfl,e2,e3⟩:=vS S rx e;refine⟨q,xs,rfl,e2,?_⟩;rw[<-e3.length];exact p _ m H Ext.refl S mkInt
  cases x with
  |str z=>
   have p':dB X.K m H (if z.length<=lim then .ok (.int z.length) st else .bad) Q:=p;by_cases c:z.length<=lim
   ·rw[if_pos c]at p';obtain⟨rfl,_⟩:=eB rx;exact .inr ⟨z,rfl,dE c,p' _ m H Ext.refl S mkInt⟩
   ·rw[if_neg c]at p';exact aa p'
  |_=>exact .inl (seqs rfl)⟩
def KY:List Wv->Hs->Re Wv
 |[.int i],st=> .ok (.int (if i < 0 then -i else i)) st
 |_,_=> .bad
theorem Pl:ff X (.builtin "abs") KY:=⟨_,Ff,λws vs st H m Q S r p=>by
 match ws,r,p with
 |[],r,p=>exact aa p
 |x::y::t,r,p=>cases x<;>exact aa p
 |[x],r,p=>
  obtain⟨v,rfl,rx⟩:=ke r;cases x with
  |int i=>cases aZ rx;exact⟨i,rfl,p _ m H Ext.refl S mkInt⟩
  |_=>exact aa p⟩
def XA(st:Hs)(T:String):Wv->Option Bool
 |.cG=>some false
 |.bl _=>some (T == "bool"||T == "int")
 |.int _=>some (T == "int")
 |.str _=>some (T == "str")
 |.tup _=>some (T == "tuple")
 |.jS _=>none
 |.ref l=>(av st l).map λ_=>T == "list"
 |.ty _=>none
 |.cls _=>none
 |.iP _=>none
 |.fn _ _=>none
def qQ(T:String):Bool:=T == "int"||T == "str"||T == "bool"||T == "tuple"||T == "list"
def UQ:List Wv->Hs->Re Wv
 |[x,.ty T],st=>if qQ T=true then(match XA st T x with |some b=> .ok (.bl b) st |none=> .bad)else .bad
 |_,_=> .bad
def Zq(K:PySem.W.Frag):List V->Hp->VK->Prop:=λvs H Q=>∃m st x T v b,vs=[v,.ty T]/\b4 K m st H/\ak K m H x v/\qQ T=true/\XA st T x=some b/\Q (.bl b) H
theorem gD(h:qQ T=true):T="int"\/T="str"\/T="bool"\/T="tuple"\/T="list":=by unfold qQ at h;simp only[Bool.or_eq_true,beq_iff_eq]at h;rcases h with (((h |h) |h) |h) |h<;>simp[h]
theorem FV(h:qQ T=true):PySem.W.kitOne K (.type "NoneType") (.type T)=some false:=by rcases gD h with rfl |rfl |rfl |rfl |rfl<;>kernel_rfl
theorem FW(h:qQ T=true):PySem.W.kitOne K (.type "bool") (.type T)=some (T == "bool"||T == "int"):=by rcases gD h with rfl |rfl |rfl |rfl |rfl<;>kernel_rfl
theorem KZ(h:qQ T=true):PySem.W.kitOne K (.type "int") (.type T)=some (T == "int"):=by rcases gD h with rfl |rfl |rfl |rfl |rfl<;>kernel_rfl
theorem K1(h:qQ T=true):PySem.W.kitOne K (.type "str") (.type T)=some (T == "str"):=by rcases gD h with rfl |rfl |rfl |rfl |rfl<;>kernel_rfl
theorem K3(h:qQ T=true):PySem.W.kitOne K (.type "tuple") (.type T)=some (T == "tuple"):=by rcases gD h with rfl |rfl |rfl |rfl |rfl<;>kernel_rfl
theorem FX(h:qQ T=true):PySem.W.kitOne K (.type "list") (.type T)=some (T == "list"):=by rcases gD h with rfl |rfl |rfl |rfl |rfl<;>kernel_rfl
theorem FY:fc X (.builtin "isinstance") (Zq X.K):=by
 intro pins s σ H xs us Q I r h;obtain⟨m,st,x,T,v,b,rfl,S,rx,hT,hb,q⟩:=h;obtain⟨u,u',rfl,r1,r2⟩:=vals2 r;cases r2;have fin:∀tk,EP X pins σ Q (.bool b) { s with toks:=tk }:=λtk=>⟨.bl b,H,I.tok tk,rfl,q⟩;cases x with
 |cG=>unfold ak at rx;subst rx;cases r1;cases hb;exact PySem.W.kia_one PySem.W.kitx_none I.pz trivial (FV hT) (by intro z;cases z) fin
 |bl c=>unfold ak at rx;subst rx;cases r1;cases hb;exact PySem.W.kia_one PySem.W.kitx_bool I.pz trivial (FW hT) (by intro z;cases z) fin
 |int c=>unfold ak at rx;subst rx;obtain⟨t,rfl⟩:=r1;cases hb;exact PySem.W.kia_one PySem.W.kitx_int I.pz trivial (KZ hT) (by intro z;cases z) fin
 |str c=>obtain⟨rfl,_⟩:=eB rx;obtain⟨t,rfl⟩:=r1;cases hb;exact PySem.W.kia_one PySem.W.kitx_str I.pz trivial (K1 hT) (by intro z;cases z) fin
 |tup ws=>unfold ak at rx;obtain⟨a,xs,rfl,h1,h2⟩:=rx;cases r1;cases hb;obtain⟨its,rv,⟨o,ho,hc,_⟩,hz⟩:=I.tuple (gz.of h1);exact PySem.W.kia_one PySem.W.kitx_tuple I.pz ⟨o,ho,hc⟩ (K3 hT) (by intro z;cases z) fin
 |ref l=>
  unfold ak at rx;obtain⟨a,rfl,h1⟩:=rx;cases r1;have hb':(av st l).map (λ_=>T == "list")=some b:=hb;cases e:av st l with
  |none=>rw[e]at hb';cases hb'
  |some ws=>rw[e]at hb';cases hb';obtain⟨xs,hq,h2⟩:=S.read h1 e;obtain⟨its,rv,ht,hz⟩:=I.list hq;obtain⟨o,ho,hc,_⟩:=ht.isList;exact PySem.W.kia_one PySem.W.kitx_list I.pz ⟨o,ho,hc⟩ (FX hT) (by intro z;cases z) fin
 |_=>cases hb
theorem Pm:ff X (.builtin "isinstance") UQ:=⟨_,FY,λws vs st H m Q S r p=>by
 match ws,r,p with
 |[],r,p=>exact aa p
 |[x],r,p=>cases x<;>exact aa p
 |x::y::z::t,r,p=>cases y<;>exact aa p
 |[x,y],r,p=>
  obtain⟨v,v',rfl,rx,ry⟩:=Dq r;cases y with
  |ty T=>
   unfold ak at ry;subst ry;have p':dB X.K m H (if qQ T=true then(match XA st T x with |some b=> .ok (.bl b) st |none=> .bad)else .bad) Q:=p
   by_cases c:qQ T=true
   ·rw[if_pos c]at p';cases e:XA st T x with
    |none=>rw[e]at p';exact aa p'
    |some b=>rw[e]at p';exact⟨m,st,x,T,v,b,rfl,S,rx,c,e,p' _ m H Ext.refl S ly⟩
   ·rw[if_neg c]at p';exact aa p'
  |_=>exact aa p⟩
def bt:GS:=λρ st=> .nx ρ st
def aC(g h:GS):GS:=λρ st=>match g ρ st with
 |.nx ρ' st'=>h ρ' st'
 |r=>r
theorem K4:pH X [] bt:=pH.of J5 λρ st σ H m D S R p=>p σ m H Ext.refl S R
theorem FZ{rest:List Stmt}{g h:GS}(h1:JS X s g)(h2:pH X rest h):pH X (s::rest) (aC g h) :=
 pH.of (EY MJ jB) λρ st σ H m D S R p=>h1 ρ st σ H m _ S R (by
  unfold aC at p;cases e:g ρ st with
  |nx ρ' st'=>rw[e]at p;exact λσ' m' H' e' S' R'=>h2 ρ' st' σ' H' m' D S' R' (bf.shift p e')
  |rt w st'=>rw[e]at p;exact p
  |bk ρ' st'=>rw[e]at p;exact p
  |ct ρ' st'=>rw[e]at p;exact p
  |err c ρ' st'=>rw[e]at p;exact p
  |bad=>rw[e]at p;exact p)
theorem K5{g:GS}(h1:JS X s g):pH X [s] g:=pH.of (J6 MJ) λρ st σ H m D S R p=>h1 ρ st σ H m D S R p
def bb(g:GE):GS:=λρ st=>(g ρ st).bM ρ λw st'=> .rt w st'
theorem Pn(h:JE X e g):JS X (.Return (some e) pos) (bb g) :=
 JS.of (Of bg) λρ st σ H m D S R p=>h.go S R (bf.dS R p) λw st1 v m1 H1 q e1 S1 r1=>q v m1 H1 e1 S1 r1
theorem K6:JS X (.Pass pos) bt:=JS.of J7 λρ st σ H m D S R p=>p σ m H Ext.refl S R
def fQ(g:GE):GS:=λρ st=>(g ρ st).bM ρ λ_ st'=> .nx ρ st'
theorem K7(h:JE X e g)(hs:swapsWith e none pos.line X.env=pure false:=by rfl):JS X (.Expr e pos) (fQ g) :=
 JS.of (J8 bg hs) λρ st σ H m D S R p=>h.go S R (bf.dS R p) λw st1 v m1 H1 q e1 S1 r1=>q σ m1 H1 e1 S1 (R.mono e1)
def iH(gt:GT)(ga gb:GS):GS:=λρ st=>(gt ρ st).bM ρ λb st'=>if b=true then ga ρ st' else gb ρ st'
theorem UR{a b:List Stmt}{ga:GS}(hc:JT X c gt)(ha:pH X a ga)(hb:pH X b gb):JS X (.If c a b pos) (iH gt ga gb) :=
 JS.of (TX qt jB jB) λρ st σ H m D S R p=>hc.go S R (bf.dS R p) λk st1 m1 H1 q e1 S1=>by
  cases k with
  |true=>rw[if_pos rfl]at q ⊢;exact ha ρ st1 σ H1 m1 D S1 (R.mono e1) (bf.shift q e1)
  |false=>rw[if_neg dh]at q ⊢;exact hb ρ st1 σ H1 m1 D S1 (R.mono e1) (bf.shift q e1)
def bq(i:Nat)(g:GE):GS:=λρ st=>(g ρ st).bM ρ λw st'=> .nx (ρ.set i (some w)) st'
theorem F0(i:Nat)(hN:X.N.Nodup)(h:JE X e g)(hi:X.N[i]? =some x:=by rfl)(hx:Loc X.env.scope x:=by first |exact Or.inl rfl |exact mw rfl)(hs:swapsWith e (some (.Name x pos')) pos.line X.env=pure false:=by rfl)
  (hf:X.fn x=true\/X.env.scope.names.lookup x=some .local:=by first |exact .inl rfl |exact .inr rfl |assumption):JS X (.Assign [.Name x pos'] e pos) (bq i g) :=
 JS.of (Oi hN hi hx bg hs hf) λρ st σ H m D S R p=>h.go S R (bf.dS R p) λw st1 v m1 H1 q e1 S1 r1=>q _ m1 H1 e1 S1 ((R.mono e1).set i r1)
def cH:GS:=λ_ _=> .bad
theorem bG:JS X s cH:=JS.of E2 λρ st σ H m D S R p=>p
theorem Dr{s:List Stmt}:pH X s cH:=pH.of CY λρ st σ H m D S R p=>p
def US(o i v:Wv)(ρ:bR)(st:Hs):Rs:=match o,i with
 |.ref l,.int k=>match st[l]? with
  |some (.lst ws)=>(match EC ws.length k with |some j=> .nx ρ (st.set l (.lst (ws.set j v))) |none=> .bad)
  |_=> .bad
 |_,_=> .bad
def BA(ge go gi:GE):GS:=λρ st=>(ge ρ st).bM ρ λv st1=>(go ρ st1).bM ρ λo st2=>(gi ρ st2).bM ρ λi st3=>US o i v ρ st3
theorem K8{o i:Expr}(he:JE X e ge)(ho:JE X o go)(hi:JE X i gi)(hs:swapsWithSole [.Subscript o i pos'] e pos.line X.env=pure false:=by rfl)(hw:swappedStores [.Subscript o i pos'] e X.env=pure none:=by rfl)
  (h1:(assignEach [.Subscript o i pos'] X.env).map (·.2)=[assign (.Subscript o i pos') X.env]:=by rfl)
  (ha:∀v,assign (.Subscript o i pos') X.env v=(do
   let ov <-holding [v] (eval o X.env)
   let iv <-holding [v,ov] (eval i X.env)
   standAt pos'
   holding [v,ov,iv] (setItem ov iv v)
   release [v,ov,iv] []):=by intro _;rfl):JS X (.Assign [.Subscript o i pos'] e pos) (BA ge go gi):=by
 refine JS.of (E4 bg (Oh bg bg set_list ha) hs hw h1) λρ st σ H m D S R p=>?_;refine he.go S R (bf.dS R p) λv st1 vv m1 H1 p1 e1 S1 rv=>?_;refine ho.go S1 (R.mono e1) ((bf.dS (m:=m) (H:=H) R p1).imp e1 λ_ _ q=>q) λo' st2 ov m2 H2 p2 e2 S2 ro=>?_;refine hi.go S2 (R.mono (e1.trans e2)) ((bf.dS (m:=m) (H:=H) R p2).imp (e1.trans e2) λ_ _ q=>q) λi' st3 iv m3 H3 p3 e3 S3 ri=>?_;have EF:=e1.trans (e2.trans e3);cases o' with
 |ref l=>
  cases i' with
  |int k=>
   have ny:bf X m H (match st3[l]? with |some (.lst ws)=>(match EC ws.length k with |some j=> .nx ρ (st3.set l (.lst (ws.set j v))) |none=> .bad) |_=> .bad) D:=p3
   have ro3:=ak.mono e3 _ _ ro;unfold ak at ro3;obtain⟨a,rfl,f1⟩:=ro3;cases e:st3[l]? with
   |none=>rw[e]at ny;exact aa ny
   |some ob=>
    cases ob with
    |dct kvs=>rw[e]at ny;exact aa ny
    |ED kvs=>rw[e]at ny;exact aa ny
    |Dl kvs=>rw[e]at ny;exact aa ny
    |EE kvs=>rw[e]at ny;exact aa ny
    |FA kvs=>rw[e]at ny;exact aa ny
    |ins _ _=>rw[e]at ny;exact aa ny
    |t6 ns=>rw[e]at ny;exact aa ny
    |lst ws=>
     rw[e]at ny;cases ej:EC ws.length k with
     |none=>simp only[ej]at ny;exact aa ny
     |some j=>simp only[ej]at ny;obtain⟨xs,g1,g2⟩:=S3.sE f1 e;refine⟨a,xs,k,j,rfl,aZ ri,g1,by rw[<-g2.length];exact ej,?_⟩;have rv3:=ak.mono (e2.trans e3) _ _ rv;have e4:Ext X.K m3 H3 m3 (upd H3 a (.lst (xs.set j vv))):=Ext.upd (.inr ⟨xs,g1⟩);exact ny σ m3 _ (EF.trans e4) (S3.write f1 e (g2.set j rv3)) (R.mono (EF.trans e4))
  |_=>exact aa p3
 |_=>cases i'<;>exact aa p3
open Classical in
def forL(i:Nat)(gb:GS)(l:Nat)(all:List Wv):List Wv->bR->Hs->Rs
 |[],ρ,st=> .nx ρ st
 |w::r,ρ,st=>match gb (ρ.set i (some w)) st with
  |.nx ρ' st'=>if av st' l=some all then forL i gb l all r ρ' st' else .bad
  |.ct ρ' st'=>if av st' l=some all then forL i gb l all r ρ' st' else .bad
  |.bk ρ' st'=> .nx ρ' st'
  |.rt w st'=> .rt w st'
  |.err c ρ' st'=> .err c ρ' st'
  |.bad=> .bad
end
def CXJ(P:ag9)(w:ahc):Dd:=λouter H s E e s'=>∃H' C,xP P w outer H s H' (.ref C) e s'/\E (.ref C) none H'
variable{b a L C:ag5}{o:Obj}{s:aha}{h base h2:Heap}{M:Model}{A:ag6}{env:Env}{outer:List Env}{args:List ahb}{P:ag9}
section
variable {X:Cx}{pins:List (ag5×Obj)}{σ:St}{Hc H':Hp}{sc s':aha}{cls e:ahb}{E:ahb->aha->Prop}{Q:Unit->aha->Prop}
theorem old_ne(I:Inv X pins σ Hc sc)(q:X.s₀.heap.get? b=some o):b≠X.env.locals:=λz=>by have h1:=bx q;have h2:=I.ok.above;rw[z]at h1;exact absurd (bY h1 h2) (fX _)
theorem K9(I:Inv X pins σ Hc sc)(hst:X.stack=X.env::X.outer)(hf:X.env.frame=some X.env.locals)(q:X.s₀.heap.get? b=some o)(hb:b∉frs X.outer):b∉frs X.stack:=λz=>by
 rw[hst]at z;unfold frs at z;rw[vo,hf]at z;rcases List.mem_cons.mp z with z |z
 ·exact old_ne I q z
 ·exact hb z
theorem F5(hst:X.stack=X.env::X.outer)(hf:X.env.frame=some X.env.locals)(hb:b∈frs X.outer):b∈frs X.stack:=by rw[hst];unfold frs;rw[vo,hf];exact b8 _ hb
theorem xT{e:ag5}{a0 nt:ahb}(hfr:A.frames=some (env::outer))(hf:env.frame=some L)
  (x:base.StaysIn s.heap/\base.get? e=none/\s.heap.FunFrames base (env::outer)/\Xx s.heap base e cls a0 nt)(k:∀h',Fy base (env::outer) e cls a0 L h'->s.heap.UpToSlots h'->Q () { s with heap:=h' }):
  ahn M A (noteFrame (.ref e) env) Q E s:=by
 obtain⟨x1,x2,x3,x4⟩:=x;by_cases z:nt=rawInt L
 ·subst z;exact OZ hf x4 (k s.heap ⟨x1,x2,x3,x4⟩ (Po _))
 ·obtain⟨ox,us,T,ot,ws,g1,⟨g2,g3⟩,g4,g5,g6,g7,g8,g9,g10⟩:=x4;subst g2;have apart:∀b,b≠T->(s.heap.update T (oq (·.setIfInBounds 3 c_))).get? b=s.heap.get? b:=λb hb=>pF _ _ (cR hb);have plain:∀b o,s.heap.get? b=some o->(∀vs,o.data≠.fields vs)->b≠T:=λb o hb hd q=>by subst q;rw[g8]at hb;cases hb;exact hd ws g9
  unfold noteFrame;simp only[hf];refine aho (wpAny_field g1 g4 g5 ?_);rw[if_pos (show(bz T != c_)=true from by simp)];refine aho (wpAny_field g8 g9 g10 ?_);rw[if_neg (show ¬((nt == rawInt L)=true) from by simpa using z)];refine aho (wpAny_setField g8 g9 (Array.getElem?_eq_some_iff.mp g10).1 ?_);refine Fz (a0:=a0) hfr (x3.of_keeps λb o hb hd=>⟨o,(apart b (plain b o hb hd)).trans hb,rfl⟩) hf ((apart e (cR g7)).trans g1) (λb o hb=>(apart b λq=>by rw[q,g6]at hb;cases hb).trans (x1 b o hb)) x2 g4 (Array.getElem?_eq_some_iff.mp g5).1 g3 λh' y y4=>?_;exact k h' y λb o hb hd=>y4 b o ((apart b (plain b o hb hd)).trans hb) hd
theorem uL(hfr:A.frames=some (env::outer))(hf:env.frame=some L)
  (st:base.StaysIn h)(fs:h.FunFrames base (env::outer))(mk:vK h s.heap a cls args)(k:∀h' a0,Fy base (env::outer) a cls a0 L h'->s.heap.UpToSlots h'->Q () { s with heap:=h' }):
  ahn M A (noteFrame (.ref a) env) Q E s:=by
 obtain⟨t,e1,e2,e3⟩:=mk.there;have fresh:∀b,h.get? b=none->base.get? b=none:=λb hb=>by
  cases q:base.get? b with
  |none=>rfl
  |some o'=>have z:=st b o' q;rw[hb]at z;cases z
 have fs':=fs.of_keeps (h':=s.heap) λb o hb _=>⟨o,mk.keeps b o hb,rfl⟩;unfold noteFrame;simp only[hf];refine aho (wpAny_field e1 rfl (x:=.none) rfl ?_);rw[if_neg (by decide)];exact Fz hfr fs' hf e1 (λb o hb=>mk.keeps b o (st b o hb)) (fresh a mk.new) rfl (by simp) (a0:=.ref t) rfl λh' l1 l4=>k h' (.ref t) l1 l4
theorem F6{ch:List ag5}(hx:X.ex=[])(hst:X.stack=X.env::X.outer)(hf:X.env.frame=some X.env.locals)(I:Inv X pins σ Hc sc){B:Heap}(hch:∀b∈ch,iG X pins Hc b)(un:Un (frs X.stack) ch Hc H' sc.heap s'.heap)(up:s'.heap.UpToSlots h2)(stay:B.StaysIn h2)
  (xQ:∀b o,sc.heap.get? b=some o->b∉frs X.stack->b∉ch->∃o',B.get? b=some o'/\(Hc b=none->o'=o)):
  Un (frs X.outer) [] X.H₀ H' X.s₀.heap h2/\(∀b o,X.s₀.heap.get? b=some o->b∉frs X.outer->∃o',B.get? b=some o'/\(X.H₀ b=none->o'=o)):=by
 have nx:∀b:ag5,b∉X.ex:=λb=>by rw[hx];simp
 have nc:∀b o,X.s₀.heap.get? b=some o->b∉ch:=λb o q z=>by
  rcases(hch b z).2.2.2.1 with y |y
  ·exact nx b y
  ·exact absurd (bY (bx q) y) (fX _)
 have Pp:∀b o,X.s₀.heap.get? b=some o->b∉frs X.outer->∃o',B.get? b=some o'/\(X.H₀ b=none->o'=o):=λb o q hb=>by obtain⟨o1,q1⟩:=I.base.there b o q (nx b);obtain⟨o2,q2,q3⟩:=xQ b o1 q1 (K9 I hst hf q hb) (nc b o q);refine⟨o2,q2,λn=>?_⟩;have q4:=I.base.keep b o q n hb (nx b);rw[q4]at q1;cases q1;exact q3 (I.base.free b o q n (nx b))
 have sl:∀b o,X.s₀.heap.get? b=some o->X.H₀ b=none->b∈frs X.outer->∃sl,h2.get? b=some { o with slots:=sl }:=λb o q n hb=>by obtain⟨s1,q1⟩:=I.base.slot b o q n hb (nx b);obtain⟨s2,q2⟩:=un.slot b _ q1 (I.base.free b o q n (nx b)) (F5 hst hf hb) (nc b o q);obtain⟨_,o3,q3,q4⟩:=I.ok.mT.mem hb;rw[q]at q3;cases q3;obtain⟨s3,q5⟩:=up b _ q2 q4;exact⟨s3,q5⟩
 refine⟨⟨λb o q n hb _=>?_,λb o q n hb _=>sl b o q n hb,λb o q n _=>?_,λb o q _=>?_,λb xs h=>un.tups b xs (I.base.tups b xs h),λb o u h=>un.lx b o u (I.base.lx b o u h),λb ps h=>?_⟩,Pp⟩
 ·obtain⟨o2,q2,q3⟩:=Pp b o q hb;rw[q3 n]at q2;exact stay b o q2
 ·obtain⟨o1,q1⟩:=I.base.there b o q (nx b);exact un.free b o1 q1 (I.base.free b o q n (nx b)) (nc b o q)
 ·by_cases hb:b∈frs X.outer
  ·obtain⟨s3,q3⟩:=sl b o q (I.ok.JD b hb) hb;exact⟨_,q3⟩
  ·obtain⟨o2,q2,_⟩:=Pp b o q hb;exact⟨o2,stay b o2 q2⟩
 ·obtain⟨m1,t1⟩:=I.base.mS b ps h;obtain⟨m2,t2⟩:=un.mS b _ t1;exact⟨m1++m2,by rw[<-Array.append_assoc];exact t2⟩
theorem qu(hx:X.ex=[])(hst:X.stack=X.env::X.outer)(hf:X.env.frame=some X.env.locals)(I:Inv X pins σ Hc sc)(F:lI X pins Hc sc H' cls e s')
  (k:∀s2,xP X.prog X.w X.outer X.H₀ X.s₀ H' cls e s2->Q () s2):ahn (model X.prog X.w) X.A (leaving X.env e) Q E s':=by
 obtain⟨a,a0,nt,B,ch,rfl,os,bare,hch,un,hok,fl,xQ⟩:=F;have hfr:X.A.frames=some (X.env::X.outer):=by rw[I.ok.frames,hst]
 rw[hst]at fl;unfold leaving;refine aho (xT hfr hf fl λh1 hd1 up1=>?_);refine xN hd1 λh2 zp UT=>k _ ?_;obtain⟨k1,k2,⟨_,_,k3⟩,k4⟩:=zp;obtain⟨u2,c2⟩:=F6 hx hst hf I hch un (up1.trans UT) k1 xQ;exact⟨a,a0,B,rfl,os.trans I.os,bare,u2,hok,⟨k1,k2,k3,k4⟩,c2⟩
theorem xU{w:ahc}{l:List ag5}(ok:ng P w H h)(fr:∀b∈l,H b=none):ng P w H (PySem.W.hideAll h l):=λa o q=>
 (ok a o q).stay (λb u hb r=>PySem.W.hideAll_get _ r λz=>by
  have n:=fr b z;rcases hb with hb |hb
  ·rw[hb,q]at n;cases n
  ·rw[hb]at n;cases n) (λ_ r=>r) λ_ _ r=>r
theorem sG(hx:X.ex=[])(hst:X.stack=X.env::X.outer)(hf:X.env.frame=some X.env.locals)(I:Inv X pins σ Hc sc)(ho:s'.os=sc.os)(hgn:s'.gens=sc.gens)
  (M:vK sc.heap s'.heap a (.ref C) args)(k:∀s2,xP X.prog X.w X.outer X.H₀ X.s₀ Hc (.ref C) (.ref a) s2->Q () s2):ahn (model X.prog X.w) X.A (leaving X.env (.ref a)) Q E s':=by
 have hfr:X.A.frames=some (X.env::X.outer):=by rw[I.ok.frames,hst]
 have fs:sc.heap.FunFrames (PySem.W.hideAll sc.heap (frs X.stack)) (X.env::X.outer):=by rw[<-hst];exact PySem.W.funFrames_hide I.stack λenv he b hb=>List.mem_filterMap.mpr ⟨env,he,hb⟩
 unfold leaving;refine aho (uL (base:=PySem.W.hideAll sc.heap (frs X.stack)) hfr hf (λb o q=>PySem.W.of_hideAll _ q) fs M λh1 t hd1 up1=>?_);refine xN hd1 λh2 zp UT=>k _ ?_;have up:=up1.trans UT
 replace zp:vF (PySem.W.hideAll sc.heap (frs X.stack)) X.outer a (.ref C) t h2:=let ⟨k1,k2,⟨_,_,k3⟩,k4⟩:=zp;⟨k1,k2,k3,k4⟩
 obtain⟨u2,c2⟩:=F6 (H':=Hc) (s':=s') (ch:=[]) hx hst hf I (λb z=>by cases z) (Un.kept M.keeps) up zp.1 λb o q hb _=>⟨o,PySem.W.hideAll_get _ q hb,λ_=>rfl⟩;exact⟨a,t,_,rfl,ho.trans I.os,by rw[show({ s' with heap:=h2 }:aha).gens=sc.gens from hgn];exact I.bare,u2,xU I.hok I.oi,zp,c2⟩
end
def MP(K:PySem.W.Frag)(m:Mp)(H:Hp)(r:Re Wv)(Q:VK)(E:XK):Prop:=match r with
 |.ok w st=>SX K m H Q w st
 |.err c st=>∀(m':Mp)(H':Hp)(C:ag5),Ext K m H m' H'->b4 K m' st H'->ClsAt K c C->E (.ref C) none H'
 |.bad=>False
def spW(K:PySem.W.Frag)(n:Nat)(F:List Wv->Hs->Re Wv):Sp:=λvs H Q E=>∃m st ws,b4 K m st H/\ai K m H ws vs/\ws.length=n/\MP K m H (F ws st) Q E
def az(n:Nat)(F:List Wv->Hs->Re Wv)(g:GA):GE:=λρ st=>(g ρ st).bind λws st1=>if ws.length=n then F ws st1 else .bad
variable{f:ag5}{k:Nat}{fd:ag7}{ps:List Str}{F:List Wv->Hs->Re Wv}
section
variable {X:Cx}
theorem K_{g:GA}
  (G:FnOk X.prog X.w X.K X.mg X.base (CXJ X.prog X.w) k f fd ps (spW X.K n F))(hr:hX k X.A)(hm:X.mg x=some (.ref f))(hk:PySem.W.keepIn X.K (.ref f)=true)(hb:Binds X.K fd ps [])(ha:JA X (e::es) g)(hg:Gl X x:=by rfl)
  (hdb:(x == ("__debug__":Str))=false:=by decide)(he:ahm (e::es) X.env=(false,eval e X.env)::ahm es X.env:=by rfl)(hpl:(backTo pos (ahm es X.env)).any (·.1)=false:=by rfl):
  JE X (.Call (.Name x p) (e::es) [] pos) (az n F g):=by
 intro ρ st σ H m Q S R p pins s I;have args:=ha.go (T:=λvs H1=>∃ws st1 m1,dA X σ m H (if ws.length=n then F ws st1 else .bad) Q/\Ext X.K m H m1 H1/\b4 X.K m1 st1 H1/\ai X.K m1 H1 ws vs) S R (aE.bind p)
  λws st1 vs m1 H1 p1 e1 S1 rs=>⟨ws,st1,m1,p1,e1,S1,rs⟩
 refine wpAny_Call_Name_kw (mq I hg hm ?_ hdb);refine PySem.W.callWith_K (h₀:=X.base) I.ok.mod.J0 hk (bM (args pos pins s I) λus s1 ⟨vs,H1,I1,r,ws,st1,m1,p1,e1,S1,rs⟩=>⟨I1.pz,?_⟩) he hpl;by_cases c:ws.length=n
 ·rw[if_pos c]at p1
  let E:XK:=λcl _ H2=>∃c' st2 m2 C,cl= .ref C/\ClsAt X.K c' C/\F ws st1= .err c' st2/\Ext X.K m1 H1 m2 H2/\b4 X.K m2 st2 H2
  have sp:spW X.K n F vs H1 Q E:=by
   refine⟨m1,st1,ws,S1,rs,c,?_⟩;cases er:F ws st1 with
   |ok w st2=>rw[er]at p1;exact dA.shift (r:=.ok w st2) p1 e1
   |err c' st2=>exact λm2 H2 C e2 S2 hC=>⟨c',st2,m2,C,rfl,hC,er,e2,S2⟩
   |bad=>rw[er]at p1;exact aa p1
  have hl:us.length=ps.length:=by rw[<-r.length];exact G.len _ _ _ _ sp
  have bd:=hb s1 us I1.pz (by rw[iX];exact hl);rw[iX]at bd;refine wpAny_call (codeAny_mono (G.run X.A X.stack s1 H1 ⟨us,[]⟩ us vs Q E hr I1.Kl bd r sp) λrr s2 hq=>?_);cases rr with
  |error x=>obtain⟨H2,C,fl,c',st2,m2,C',ec,hC,er,e2,S2⟩:=hq;cases ec;rw[er]at p1;exact p1 m2 H2 x s2 (e1.trans e2) S2 ⟨C,pins,H1,s1,hC,I1,.inl fl.any⟩
  |ok fw=>
   cases fw with
   |ret u=>exact I1.after hq
   |next=>exact aa hq
   |brk=>exact aa hq
   |cont=>exact aa hq
 ·rw[if_neg c]at p1;exact aa p1
end
def aK(n:Nat)(g:GS):List Wv->Hs->Re Wv:=λws st=>match g (ws.map some++aR (n - ws.length) none) st with
 |.nx _ st'=> .ok .cG st'
 |.rt w st'=> .ok w st'
 |.err c _ st'=> .err c st'
 |_=> .bad
variable{N:List Str}
theorem xV(r:ai K m H ws vs)(h:ws.length<=N.length):aL K m H (ws.map some++aR (N.length - ws.length) none) (L2.start N vs):=by
 have hl:=r.length;refine⟨by unfold L2.start;simp[hl],λi w e=>?_⟩;by_cases hi:i < ws.length
 ·rw[jR (by simpa using hi),fZ]at e;cases q:ws[i]? with
  |none=>rw[q]at e;cases e
  |some w'=>rw[q]at e;cases e;obtain⟨x,h1,h2⟩:=r.get q;refine⟨x,?_,h2⟩;unfold L2.start;rw[jR (by simp;omega),fZ,h1];rfl
 ·rw[pD (by simpa using hi),OH]at e;split at e<;>cases e
variable{c:PySem.Str}{qual:Str}{scope:Scope}{cdv:ahb}{s':aha}{H':Hp}
section
variable {P:ag9}{w:ahc}{K:PySem.W.Frag}{mg:Str->Option ahb}{base:Heap}
theorem Ad{E:XK}{e:ahb}
  (r:vJ (si (CXJ P w) P w K mg base N qual scope f cdv A outer s H E) σ H' c e s')(h:∀C,ClsAt K c C->E (.ref C) none H'):(si (CXJ P w) P w K mg base N qual scope f cdv A outer s H E).xe e s':=by
 obtain⟨C,pins,Hc,sc,hC,I,r⟩:=r;rcases r with fl |⟨rfl,a,args,rfl,ho,hg,M⟩
 ·exact qu (X:=si (CXJ P w) P w K mg base N qual scope f cdv A outer s H E) rfl rfl rfl I fl λs2 zp=>⟨H',C,zp,h C hC⟩
 ·exact sG (X:=si (CXJ P w) P w K mg base N qual scope f cdv A outer s H E) rfl rfl rfl I ho hg M λs2 zp=>⟨H',C,zp,h C hC⟩
def F7(K:PySem.W.Frag)(f:ag5)(cdv:ahb):Prop:=∃o,K.lookup f=some o/\∃fd,o.data= .func fd/\fd.code=cdv
theorem BB{st:Stmt}{g:GS}(F:JG K x qual st f fd)(S:FnScope N ps (defScope st))
  (body:∀(cdv:ahb),F7 K f cdv->∀(A:ag6)(outer:List Env)(s:aha)(H:Hp)(E:XK),hX k (A.deeper (envOfC qual (defScope st) s.heap.objs.size f cdv))->pH (si (CXJ P w) P w K mg base N qual (defScope st) f cdv A outer s H E) (defBody st) g):
  FnOk P w K mg base (CXJ P w) (k+1) f fd ps (spW K ps.length (aK N.length g)):=by
 have hpl:ps.length<=N.length:=by have:=congrArg nu S.pre;rw[lF]at this;omega
 obtain⟨oc,od,kV,doc,pm,an,cdv,ct,osl,rfl,lk,hcd⟩:=F.ex;refine Uh lk hcd S (λvs H Q E h=>?_) λA outer s H vs Q E hr h=>?_
 ·obtain⟨m,st',ws,_,r,hl,_⟩:=h;rw[<-r.length];exact hl
 ·obtain⟨m,st',ws,S',r,hl,p⟩:=h;refine⟨_,jB,?_⟩;refine body cdv ⟨_,lk,_,rfl,rfl⟩ A outer s H E hr _ st' _ H m _ S' (xV r (by omega)) ?_;unfold aK at p;cases e:g (ws.map some++aR (N.length - ws.length) none) st' with
  |nx ρ st2=>rw[e]at p;exact λσ m' H' e' S2 R2=>p _ m' H' e' S2 (by unfold ak;rfl)
  |rt w' st2=>rw[e]at p;exact p
  |bk ρ st2=>rw[e]at p;exact aa p
  |ct ρ st2=>rw[e]at p;exact aa p
  |err c ρ st2=>rw[e]at p;exact λσ m' H' x s' e' S2 R2 rz=>Ad rz λC hC=>p m' H' C e' S2 hC
  |bad=>rw[e]at p;exact aa p
end
def OnlyT(H:Hp):Prop:=∀b,H b=none\/(∃o xs,H b=some (.jy o (.lst xs)))\/H b=some (.fW #[])
theorem OnlyT.of(h:KC H):OnlyT H:=λb=>by
 rcases h b with q |q
 ·exact .inl q
 ·exact .inr (.inl q)
theorem law_sp(h:∀ns:List Int,ns.length<=63->∃st,F [.ref 0] [.t6 ns]= .ok (.bl true) st)(H:Hp)(a:ag5)(ns:List Int)(hl:ns.length<=63)(hO:OnlyT H)(hS:nk K H a (ns.map V.int))(hT:vG K H):
  spW K 1 F [.ref a] H (λv _=>v= .bl true) λ_ _ _=>False:=by
 obtain⟨st,e⟩:=h ns hl;refine⟨[a],[.t6 ns],[.ref 0],⟨rfl,λl b o h1 h2=>?_,λl l' b ws ws' _ _ h2 _ k _=>?_,hT⟩,ai.cons (by unfold ak;exact⟨a,rfl,rfl⟩) ai.nil,rfl,?_⟩
 ·cases l with
  |zero=>
   simp at h1 h2;subst h1 h2;show xO K H a ns;rcases hS with (q |⟨o',q⟩) |q
   ·rcases hO a with z |⟨o',xs,z⟩ |z
    ·rw[z]at q;cases q
    ·rw[z]at q;cases q
    ·rw[z]at q;cases q
   ·exact .inl ⟨o',q⟩
   ·exact .inr q
  |succ l=>simp at h1
 ·cases l with
  |zero=>simp at h2;subst h2;simp[Ob.mu]at k
  |succ l=>simp at h2
 ·rw[e];intro v m' H' _ _ r;unfold ak at r;exact r
def F8(w:Wv)(st:Hs):Re Bool:=match w with
 |.cG=> .ok false st
 |.bl b=> .ok b st
 |.int i=> .ok (i != 0) st
 |.str y=>if y.length<=lim then .ok ((y.length:Int) != 0) st else .bad
 |.tup ws=> .ok (!ws.isEmpty) st
 |.jS _=> .bad
 |.ref l=>match av st l with
  |some ws=> .ok (!ws.isEmpty) st
  |none=> .bad
 |.ty _=> .bad
 |.cls _=> .bad
 |.iP _=> .bad
 |.fn _ _=> .bad
def iI(g:GE):GT:=λρ st=>(g ρ st).bind F8
variable{x:PySem.Str}
section
variable {X:Cx}
theorem isE(r:ai X.K m H ws xs):(!ws.isEmpty)= !xs.isEmpty:=by have h:=r.length;cases ws<;>cases xs<;>simp_all
theorem sH(h:JE X e g)(he:∀whole,isTrue e X.env whole=(do let v <-whole;standAt e.pos;holding [v] (truthy v))):JT X e (iI g) :=
 JT.of (Fe bg he) λρ st σ H m Q S R p=>h.go S R (aE.bind p) λw st1 v m1 H1 p1 e1 S1 r1=>by
  cases w with
  |cG=>unfold ak at r1;subst r1;exact⟨false,rfl,p1 m1 H1 e1 S1⟩
  |bl b=>unfold ak at r1;subst r1;exact⟨b,rfl,p1 m1 H1 e1 S1⟩
  |int i=>unfold ak at r1;subst r1;exact⟨_,rfl,p1 m1 H1 e1 S1⟩
  |str y=>
   obtain⟨rfl,_⟩:=eB r1;have p2:j_ X σ m H (if y.length<=lim then .ok ((y.length:Int) != 0) st1 else .bad) Q:=p1;by_cases c:y.length<=lim
   ·rw[if_pos c]at p2;exact⟨_,⟨dE c,rfl⟩,p2 m1 H1 e1 S1⟩
   ·rw[if_neg c]at p2;exact aa p2
  |jS ws=>exact aa p1
  |tup ws=>unfold ak at r1;obtain⟨a,xs,rfl,h1,h2⟩:=r1;refine⟨!xs.isEmpty,.inr (.inl ⟨xs,gz.of h1,rfl⟩),?_⟩;rw[<-isE h2];exact p1 m1 H1 e1 S1
  |ref l=>
   unfold ak at r1;obtain⟨a,rfl,h1⟩:=r1;have p2:j_ X σ m H (match av st1 l with |some ws=> .ok (!ws.isEmpty) st1 |none=> .bad) Q:=p1
   cases el:av st1 l with
   |none=>rw[el]at p2;exact aa p2
   |some ws=>rw[el]at p2;obtain⟨xs,hq,h2⟩:=S1.read h1 el;refine⟨!xs.isEmpty,.inl ⟨xs,hq,rfl⟩,?_⟩;rw[<-isE h2];exact p2 m1 H1 e1 S1
  |ty T=>exact aa p1
  |cls T=>exact aa p1
  |iP T=>exact aa p1
  |fn fp T=>exact aa p1
theorem xW{p:Nat->Bool}{x:Array Nat}(hx:x.all p=true):∀(n:Nat)(a:Array Nat),a.all p=true->((aR n x).foldl (· ++·) a).all p=true
 | 0,a,h=>h
 |n+1,a,h=>by rw[iY,zU];refine xW hx n _ ?_;rw[Array.all_append,h,hx];rfl
theorem Ds(h:aW x=true):aW (dF n x)=true:=by unfold aW at h ⊢;unfold dF;exact xW h n #[] (by simp)
theorem uM{x:Array Nat}:∀(n:Nat)(a:Array Nat),((aR n x).foldl (· ++·) a).size=a.size+x.size * n
 | 0,a=>by simp
 |n+1,a=>by rw[iY,zU,uM n,MQ,Nat.mul_succ];omega
theorem eC:(dF n x).length=x.length * n:=by show((aR n x.cps).foldl (· ++·) #[]).size=x.cps.size * n;rw[uM];simp
def qv(x:PySem.Str)(n:Int):Prop:=1 < n/\n<=100000/\x.length≠0/\x.length * n.toNat<=lim
instance {x n}:Decidable (qv x n):=by unfold qv;infer_instance
theorem K':hV X (ahe .Mult) (λx y H Q=>∃z n,x= .str z/\y= .int n/\qv z n/\Q (.str (dF n.toNat z)) H):=by
 intro pins s σ H x y v u Q I rx ry h;obtain⟨z,n,rfl,rfl,⟨h1,h2,h3,h4⟩,q⟩:=h;obtain⟨t,rfl⟩:=rx;obtain⟨t',rfl⟩:=ry;have n1:¬n < 1:=by omega
 have hlen:z.length<=lim:=by refine b5 ?_ h4;exact Nat.le_mul_of_pos_right _ (by omega)
 have hne:(n == 1||z.length == 0)=false:=by
  have e1:(n == 1)=false:=by rw[beq_eq_false_iff_ne];omega
  have e2:(z.length == 0)=false:=by rw[beq_eq_false_iff_ne];exact h3
  rw[e1,e2];rfl
 have hl:PySem.Builtin.Str.tooLong (z.length * n.toNat)=false:=by
  unfold PySem.Builtin.Str.tooLong;have q:=dE h4
  first
   |exact decide_eq_false (by omega)
   |simp only[decide_eq_false_iff_not];omega
 refine PySem.P.mul_str (by
   have e1:¬n < -(2 ^ 63:Int):=by omega
   have e2:¬n >= 2 ^ 63:=by omega
   rw[decide_eq_false e1,decide_eq_false e2];rfl) (λ_ _=>?_) (λ_ _=>hl) ?_
 ·have e:((2:Int) ^ 63 - 1) / 100000<=(2 ^ 63 - 1) / n:=by refine Int.le_ediv_of_mul_le (by omega) ?_;have:((2:Int) ^ 63 - 1) / 100000 * n<=((2:Int) ^ 63 - 1) / 100000 * 100000:=Int.mul_le_mul_of_nonneg_left h2 (by decide);exact Int.le_trans this (by decide)
  have e':(1000000:Int)<=(2 ^ 63 - 1) / 100000:=by decide
  unfold lim at hlen;omega
 ·rw[if_neg n1,if_neg (by rw[hne];exact dh)];exact⟨by show(dF n.toNat z).length<=_;rw[eC];exact dE h4,.str (dF n.toNat z),H,I.tok _,⟨_,rfl⟩,q⟩
def MR:iQ
 |.int i,.int j,st=>if IntMulOk i j then .ok (.int (i * j)) st else .bad
 |.str z,.int n,st=>if qv z n then .ok (.str (dF n.toNat z)) st else .bad
 |_,_,_=> .bad
theorem La:mz X (ahe .Mult) MR:=⟨_,hV.or KN K',λx y a b st H m Q S rx ry p=>by
 cases x with
 |int i=>
  cases y with
  |int j=>
   cases aZ rx;cases aZ ry;have p':dB X.K m H (if IntMulOk i j then .ok (.int (i * j)) st else .bad) Q:=p;by_cases c:IntMulOk i j
   ·rw[if_pos c]at p';exact .inl ⟨i,j,rfl,rfl,c,p' _ m H Ext.refl S mkInt⟩
   ·rw[if_neg c]at p';exact aa p'
  |_=>exact aa p
 |str z=>
  cases y with
  |int n=>
   obtain⟨rfl,hz⟩:=eB rx;cases aZ ry;have p':dB X.K m H (if qv z n then .ok (.str (dF n.toNat z)) st else .bad) Q:=p;by_cases c:qv z n
   ·rw[if_pos c]at p';exact .inr ⟨z,n,rfl,rfl,c,p' _ m H Ext.refl S (mkStr (Ds hz))⟩
   ·rw[if_neg c]at p';exact aa p'
  |_=>exact aa p
 |_=>exact aa p⟩
def b9:GE:=λ_ _=> .bad
def lL:GT:=λ_ _=> .bad
theorem aO:JE X e b9:=λρ st σ H m Q S R p=>aa p
theorem lM:JT X e lL:=λρ st σ H m Q S R p=>aa p
end
def eP(P:ag9)(w:ahc)(K:PySem.W.Frag)(mg:Str->Option ahb)(base:Heap)(k:Nat)(x:Str)(n:Nat)(F:List Wv->Hs->Re Wv):Prop :=
 ∃f fd ps,FnOk P w K mg base (CXJ P w) k f fd ps (spW K n F)/\mg x=some (.ref f)/\PySem.W.keepIn K (.ref f)=true/\Binds K fd ps []
variable{x:Str}{mg:Str->Option ahb}{j:Nat}
theorem eP.mono{w:ahc}(h:eP P w K mg base j x n F)(l:j<=k):eP P w K mg base k x n F:=by obtain⟨f,fd,ps,G,r⟩:=h;exact⟨f,fd,ps,G.mono l,r⟩
def bh(K:PySem.W.Frag)(x:Str)(st:Stmt):Prop:=∃f fd,PySem.W.nsIn K ahk x=some (some (.ref f))/\JG K x x st f fd
theorem Ae{st:Stmt}{oc:ahb}{od an:Option ag5}{osl:Array (Option ahb)}{kV doc pm ct:ahb}(a:PySem.W.nsIn K ahk x=some (some (.ref f)))
  (l:K.lookup f=some ⟨oc,od,.func (PySem.W.fnOf x x (defArgs st) (defBody st) (defScope st) .none kV doc pm an cdv ct),osl⟩)(c:PySem.W.codeIn K cdv x=true)(k:PySem.W.keepIn K (.ref f)=true):bh K x st:=⟨f,_,a,zX l c k⟩
theorem F9:ahf "isinstance"=some (.builtin "isinstance"):=by decide+kernel
theorem Dt:ahf "abs"=some (.builtin "abs"):=by decide+kernel
theorem Du:ahf "len"=some (.builtin "len"):=by decide+kernel
theorem xX:ahf "int"=some (.type "int"):=by decide+kernel
theorem xY:ahf "str"=some (.type "str"):=by decide+kernel
theorem F_:ahf "bool"=some (.type "bool"):=by decide+kernel
theorem xZ:ahf "tuple"=some (.type "tuple"):=by decide+kernel
theorem F':ahf "list"=some (.type "list"):=by decide+kernel
def Pq:Wv->Option Int
 |.int i=>some i
 |_=>none
theorem Ga{w:Wv}(h:Pq w=some i):w= .int i:=by cases w<;>cases h<;>rfl
def two:List Wv->Option (Int×Int)
 |[x,y]=>(Pq x).bind λi=>(Pq y).map λj=>(i,j)
 |_=>none
theorem two_eq{j:Int}(h:two ws=some (i,j)):ws=[.int i,.int j]:=by
 cases ws with
 |nil=>cases h
 |cons x r=>
  cases r with
  |nil=>cases h
  |cons y r=>
   cases r with
   |cons _ _=>cases h
   |nil=>
    have h:(Pq x).bind (λi=>(Pq y).map λj=>(i,j))=some (i,j):=h;cases e1:Pq x with
    |none=>rw[e1]at h;cases h
    |some a=>
     cases e2:Pq y with
     |none=>rw[e1,e2]at h;cases h
     |some b=>rw[e1,e2]at h;cases h;rw[Ga e1,Ga e2]
@[simp] theorem two_i{j:Int}:two [.int i,.int j]=some (i,j):=rfl
def ju(i:Nat)(gb:GS):List Wv->bR->Hs->Rs
 |[],ρ,st=> .nx ρ st
 |w::r,ρ,st=>match gb (ρ.set i (some w)) st with
  |.nx ρ' st'=>ju i gb r ρ' st'
  |.ct ρ' st'=>ju i gb r ρ' st'
  |.bk ρ' st'=> .nx ρ' st'
  |.rt w st'=> .rt w st'
  |.err c ρ' st'=> .err c ρ' st'
  |.bad=> .bad
variable{ga:GA}{lo:Int}{body:List Stmt}{J':It}{D:Ends}{tg iter:Expr}{tl:TE}{q:Pos}
section
variable {X:Cx}
theorem sI(i:Nat)(hb:pH X body gb)(S1:b4 X.K m1 st1 H1)(R:aL X.K m1 H1 ρ σ)(p1:bf X m1 H1 (ju i gb ws ρ st1) D)
  (hgo:∀(k:Nat)(H:Hp)(m':Mp),Ext X.K m1 H1 m' H->k < ws.length->J'.go k H)(hstop:∀(k:Nat)(H:Hp)(m':Mp),Ext X.K m1 H1 m' H->k=ws.length->J'.stop k H)
  (hy:∀(k:Nat)(hk:k < ws.length)(H:Hp)(x:V)(H':Hp)(m':Mp),Ext X.K m1 H1 m' H->J'.EB k H x H'->H'=H/\ak X.K m' H ws[k] x):
  ∃W:Nat->Nat->St->Hp->Prop,(∃m,W 0 m σ H1)/\∀k n σ H,W k n σ H->
   (J'.stop k H/\D.nx σ H)\/(J'.go k H/\∃N:St->Hp->Prop,(∀σ' H',N σ' H'->∃m',m' < n/\W (k+1) m' σ' H')/\∀x H',J'.EB k H x H'->xG i x σ H' λσ2 H2=>Ut X body { D with nx:=N,ct:=N,bk:=D.nx } σ2 H2):=by
 let Pv:Nat->St->Hp->Prop:=λk σ H=>∃ρ st m',Ext X.K m1 H1 m' H/\b4 X.K m' st H/\aL X.K m' H ρ σ/\bf X m' H (ju i gb (ws.drop k) ρ st) D
 refine⟨λk n σ H=>n=ws.length - k/\k<=ws.length/\Pv k σ H,⟨ws.length,by simp,de _,ρ,st1,m1,Ext.refl,S1,R,p1⟩,?_⟩;rintro k n σ2 H2 ⟨rfl,hk,ρ2,st2,m2,e2,S2,R2,p2⟩;by_cases hlt:k < ws.length
 ·refine .inr ⟨hgo k H2 m2 e2 hlt,Pv (k+1),λσ' H' p'=>⟨ws.length - (k+1),by omega,rfl,hlt,p'⟩,λx H' y=>?_⟩;obtain⟨ee,vU⟩:=hy k hlt H2 x H' m2 e2 y;subst ee;have ed:ws.drop k=ws[k]::ws.drop (k+1):=vV hlt;rw[ed]at p2;refine hb _ st2 _ _ m2 _ S2 (R2.set i vU) ?_;unfold ju at p2;cases eg:gb (ρ2.set i (some ws[k])) st2 with
  |nx ρ3 st3=>rw[eg]at p2;exact λσ3 m3 H3 e3 S3 R3=>⟨ρ3,st3,m3,e2.trans e3,S3,R3,bf.shift p2 e3⟩
  |ct ρ3 st3=>rw[eg]at p2;exact λσ3 m3 H3 e3 S3 R3=>⟨ρ3,st3,m3,e2.trans e3,S3,R3,bf.shift p2 e3⟩
  |bk ρ3 st3=>rw[eg]at p2;exact p2
  |rt w3 st3=>rw[eg]at p2;exact p2
  |err c3 ρ3 st3=>rw[eg]at p2;exact p2
  |bad=>rw[eg]at p2;exact p2
 ·have e:k=ws.length:=by omega
  subst e;rw[Gb]at p2;exact .inl ⟨hstop _ H2 m2 e2 rfl,p2 σ2 m2 H2 Ext.refl S2 R2⟩
def Zr(K:PySem.W.Frag)(tl:TE):TI:=λσ H R=>tl σ H λx H1=>∃a,x= .ref a/\(((∃xs,nk K H1 a xs)/\R (Itl K a) H1)\/((∃xs,gz K H1 a xs)/\R (Y6 K a) H1))
theorem Gd{l:Expr}(hl:PE X l tl):PI X tg l (Zr X.K tl):=by
 intro pins s σ H R I h;refine bM (hl pins s σ H _ I h) λv s1 ⟨x,H1,I1,r1,q1⟩=>?_;obtain⟨a,e,q1⟩:=q1;subst e;cases r1;have frs:∀b∈[s1.heap.objs.size],iG X pins H1 b:=λb hb=>by
  have e:b=s1.heap.objs.size:=by simpa using hb
  subst e;exact I1.E8 (aA _) (I1.hok.fresh (aA _))
 rcases q1 with ⟨⟨xs,hq⟩,q⟩ |⟨⟨xs,hq⟩,q⟩
 ·obtain⟨its,rv,p,hz⟩:=I1.list hq;refine wpAny_pyIter_list p.isList ?_;exact⟨s1.heap.objs.size,[s1.heap.objs.size],_,_,H1,rfl,I1.kept (t':=s1.toks) λb o e=>bQ _ e,CZ a _,⟨_,dR _ rfl,rfl,rfl⟩,frs,q⟩
 ·obtain⟨its,rv,p,hz⟩:=I1.tuple hq;refine wpAny_pyIter_tuple (show s1.heap.IsTuple a its.toArray from p) ?_;exact⟨s1.heap.objs.size,[s1.heap.objs.size],_,_,H1,rfl,I1.kept (t':=s1.toks) λb o e=>bQ _ e,zw a _,⟨_,dR _ rfl,rfl,rfl⟩,frs,q⟩
def Af(i:Nat)(gi:GE)(gb:GS):GS:=λρ st=>(gi ρ st).bM ρ λw st1=>match w with
 |.ref l=>(match av st1 l with |some ws=>forL i gb l ws ws ρ st1 |none=> .bad)
 |.tup ws=>ju i gb ws ρ st1
 |.jS ws=>ju i gb ws ρ st1
 |_=> .bad
theorem Ge(i:Nat)(hN:X.N.Nodup)(hp:PassesOwn (model X.prog X.w) X.A X.env X.xe)(hc:X.calm=true)(hi:JE X iter gi)(hb:pH X body gb)
  (hx:X.N[i]? =some x)(hlo:Loc X.env.scope x)(Zs:X.fn x=true\/X.env.scope.names.lookup x=some .local)
  (hs:∀x,ahj iter X.env x=pure x):JS X (.For (.Name x pos') iter body [] pos) (Af i gi gb):=by
 refine JS.of (E_ hp hc (Gd bg) (vq hN hx hlo Zs) jB hs) λρ st σ H m D S R p=>?_;refine hi.go S R (bf.dS R p) λw st1 v m1 H1 p1 e1 S1 rw'=>?_;cases w with
 |ref l=>
  have p1':bf X m H (match av st1 l with |some ws=>forL i gb l ws ws ρ st1 |none=> .bad) D:=p1
  unfold ak at rw';obtain⟨a,rfl,hla⟩:=rw';cases el:av st1 l with
  |none=>rw[el]at p1';exact aa p1'
  |some ws=>
   rw[el]at p1';obtain⟨Zt,q0,_⟩:=S1.read hla el;refine⟨a,rfl,.inl ⟨⟨Zt,q0⟩,?_⟩⟩
   let Pv:Nat->St->Hp->Prop:=λk σ H=>∃ρ st m',Ext X.K m1 H1 m' H/\b4 X.K m' st H/\aL X.K m' H ρ σ/\av st l=some ws/\bf X m' H (forL i gb l ws (ws.drop k) ρ st) D
   refine⟨λk n σ H=>n=ws.length - k/\k<=ws.length/\Pv k σ H,⟨ws.length,by simp,de _,ρ,st1,m1,Ext.refl,S1,R.mono e1,el,bf.shift p1' e1⟩,?_⟩;rintro k n σ2 H2 ⟨rfl,hk,ρ2,st2,m2,e2,S2,R2,l2,p2⟩;obtain⟨xs,hq,rws⟩:=S2.read (e2.pre _ _ hla) l2;have hlen:=rws.length;by_cases hlt:k < ws.length
   ·have hx':k < xs.length:=by omega
    refine .inr ⟨⟨xs,xs[k],hq,by simp[hx']⟩,Pv (k+1),λσ' H' p'=>⟨ws.length - (k+1),by omega,rfl,hlt,p'⟩,λx H' y=>?_⟩;obtain⟨ee,y⟩:=y;subst ee;have ey:=y xs hq;have ed:ws.drop k=ws[k]::ws.drop (k+1):=vV hlt;obtain⟨x',ex',vU⟩:=rws.get (i:=k) (w:=ws[k]) (fg hlt);rw[ey]at ex';cases ex';rw[ed]at p2;refine hb _ st2 _ _ m2 _ S2 (R2.set i vU) ?_;unfold forL at p2;cases eg:gb (ρ2.set i (some ws[k])) st2 with
    |nx ρ3 st3=>
     rw[eg]at p2;by_cases c:av st3 l=some ws
     ·simp only[if_pos c]at p2;exact λσ3 m3 H3 e3 S3 R3=>⟨ρ3,st3,m3,e2.trans e3,S3,R3,c,bf.shift p2 e3⟩
     ·simp only[if_neg c]at p2;exact aa p2
    |ct ρ3 st3=>
     rw[eg]at p2;by_cases c:av st3 l=some ws
     ·simp only[if_pos c]at p2;exact λσ3 m3 H3 e3 S3 R3=>⟨ρ3,st3,m3,e2.trans e3,S3,R3,c,bf.shift p2 e3⟩
     ·simp only[if_neg c]at p2;exact aa p2
    |bk ρ3 st3=>rw[eg]at p2;exact p2
    |rt w3 st3=>rw[eg]at p2;exact p2
    |err c3 ρ3 st3=>rw[eg]at p2;exact p2
    |bad=>rw[eg]at p2;exact p2
   ·have e:k=ws.length:=by omega
    subst e;rw[Gb]at p2;exact .inl ⟨⟨xs,hq,by omega⟩,p2 σ2 m2 H2 Ext.refl S2 R2⟩
 |tup ws=>
  unfold ak at rw';obtain⟨a,xs,rfl,hq,rws⟩:=rw';have hlen:=rws.length;refine⟨a,rfl,.inr ⟨⟨xs,gz.of hq⟩,?_⟩⟩;refine sI i hb (ws:=ws) S1 (R.mono e1) (bf.shift p1 e1) (λk H m' e hk=>?_) (λk H m' e hk=>?_) λk hk H x H' m' e y=>?_
  ·have hx':k < xs.length:=by omega
   exact⟨xs,xs[k],gz.of (e.tup _ _ hq),by simp[hx']⟩
  ·exact⟨xs,gz.of (e.tup _ _ hq),by omega⟩
  ·obtain⟨ee,y⟩:=y;refine⟨ee,?_⟩;obtain⟨x',ex',vU⟩:=(ai.mono e _ _ rws).get (i:=k) (w:=ws[k]) (fg hk);rw[y xs (gz.of (e.tup _ _ hq))]at ex';cases ex';exact vU
 |jS ws=>
  unfold ak at rw';obtain⟨a,xs,rfl,hq,rws⟩:=rw';have hlen:=rws.length;refine⟨a,rfl,.inr ⟨⟨xs,.inr hq⟩,?_⟩⟩;refine sI i hb (ws:=ws) S1 (R.mono e1) (bf.shift p1 e1) (λk H m' e hk=>?_) (λk H m' e hk=>?_) λk hk H x H' m' e y=>?_
  ·have hx':k < xs.length:=by omega
   exact⟨xs,xs[k],.inr hq,by simp[hx']⟩
  ·exact⟨xs,.inr hq,by omega⟩
  ·obtain⟨ee,y⟩:=y;refine⟨ee,?_⟩;obtain⟨x',ex',vU⟩:=(ai.mono e _ _ rws).get (i:=k) (w:=ws[k]) (fg hk);rw[y xs (.inr hq)]at ex';cases ex';exact vU
 |_=>exact aa p1
def gE(lo:Int)(n:Nat):List Wv:=(nh n).map λk:Nat=>Wv.int (lo+k)
theorem Dv(h:k < n):(gE lo n)[k]? =some (.int (lo+k)):=by unfold gE;rw[fZ,List.getElem?_range h];rfl
theorem x8(h:k < (gE lo n).length):(gE lo n)[k]= .int (lo+k):=by have q:=Dv (lo:=lo) (n:=n) (k:=k) (by unfold gE at h;simpa using h);rw[fg h]at q;exact Option.some.inj q
theorem iZ:(gE lo n).length=n:=by unfold gE;simp
def nz(i:Int):Prop:=-(2 ^ 62)<=i/\i < 2 ^ 62
instance {i}:Decidable (nz i):=Gf _
def nA(i:Nat)(ga:GA)(gb:GS):GS:=λρ st=>(ga ρ st).bM ρ λws st1=>match ws with
 |[.int j]=>if nz j then ju i gb (gE 0 j.toNat) ρ st1 else .bad
 |_=> .bad
theorem Lb(i:Nat)(hb:pH X body gb)(S1:b4 X.K m1 st1 H1)(R:aL X.K m1 H1 ρ σ)(p1:bf X m1 H1 (ju i gb (gE lo n) ρ st1) D):
  ∃W:Nat->Nat->St->Hp->Prop,(∃m,W 0 m σ H1)/\∀k n' σ H,W k n' σ H->
   ((Kb lo n).stop k H/\D.nx σ H)\/((Kb lo n).go k H/\∃N:St->Hp->Prop,(∀σ' H',N σ' H'->∃m',m' < n'/\W (k+1) m' σ' H')/\∀x H',(Kb lo n).EB k H x H'->xG i x σ H' λσ2 H2=>Ut X body { D with nx:=N,ct:=N,bk:=D.nx } σ2 H2) :=
 sI i hb S1 R p1 (λk H m' e hk=>by rw[iZ]at hk;exact hk) (λk H m' e hk=>by rw[iZ]at hk;exact rH hk.symm) λk hk H x H' m' e y=>by obtain⟨y1,y2⟩:=y;refine⟨y1,?_⟩;rw[x8,y2];exact mkInt
theorem Gg(i:Nat){a:Expr}(hN:X.N.Nodup)(hp:PassesOwn (model X.prog X.w) X.A X.env X.xe)(hc:X.calm=true)(hg:Gl X "range")(hm:X.mg "range"=none)(ha:JA X [a] ga)(hb:pH X body gb)
  (hx:X.N[i]? =some x)(hlo:Loc X.env.scope x)(Zs:X.fn x=true\/X.env.scope.names.lookup x=some .local)(hst:ahm [a] X.env=[(false,eval a X.env)]):JS X (.For (.Name x pos') (.Call (.Name "range" p) [a] [] q) body [] pos) (nA i ga gb):=by
 refine JS.of (E_ hp hc (uB hg hm ll hst) (vq hN hx hlo Zs) jB (λ_=>rfl)) λρ st σ H m D S R p=>?_;refine ha.go S R (bf.dS R p) λws st1 vs m1 H1 p1 e1 S1 rs=>?_
 match ws,rs,p1 with
 |[],rs,p1=>exact aa p1
 |x::y::t,rs,p1=>cases x<;>exact aa p1
 |[x],rs,p1=>
  obtain⟨v,rfl,r1⟩:=ke rs;cases x with
  |int j=>
   cases aZ r1;have p2:bf X m H (if nz j then ju i gb (gE 0 j.toNat) ρ st1 else .bad) D:=p1;by_cases c:nz j
   ·rw[if_pos c]at p2;exact⟨j,rfl,c.1,c.2,Lb i hb S1 (R.mono e1) (bf.shift p2 e1)⟩
   ·rw[if_neg c]at p2;exact aa p2
  |_=>exact aa p1
theorem Lc:JS X (.Return none pos) (bb (gC .cG)):=JS.of J9 λρ st σ H m D S R p=>p .cG m H Ext.refl S Bz
end
abbrev BC:List ahb:=[.type "ValueError",.type "Exception",.type "BaseException",.type "object"]
abbrev BD:String:="ValueError.__new__"
structure Gh(K:PySem.W.Frag)(c:PySem.Str)(C:ag5):Prop where
 cls:ClsAt K c C
 exc:PySem.W.excIn K C BC BD=true
theorem kK(KX:K.In h)(q:PySem.W.excIn K C BC BD=true):
  ∃(bm:List ahb)(N:ag5)(nm qn:Str)(bs:List ahb)(hd:Bool)(sn:List Str)(sub:List ahb)(ab:Bool)(col:Option Bool)(dd:Option ag5)(k0 k1 k2 k3 k5:Option ahb)(mN:Str->Option ahb),
   h.get? C=some (excClassObj nm qn C N bs bm hd sn sub ab col dd k0 k1 k2 k3 k5 BD)/\h.Ns N mN/\mN "__init__"=none/\OwnTail h BC bm/\(∀v r,PySem.W.mroIn K C v=some r->(bz C::bm).contains v=r):=by
 unfold PySem.W.excIn at q;split at q
 ·rename_i dd cd sl lk;split at q
  ·rename_i C1 bm k0 k1 k2 k3 n1 k5 em es;simp only[b7,beq_iff_eq,Bool.not_eq_true']at q;obtain⟨⟨⟨⟨⟨q1,q2⟩,q3⟩,q4⟩,q5⟩,q6⟩:=q;subst q1 q2;obtain⟨nm,bs,mro,N,qn,hd,sn,sub,ab,col,del⟩:=cd;dsimp only at em q3 q5 q6;subst em q3;have esl:sl=#[k0,k1,k2,k3,some (.builtin BD),k5]:=by
    cases sl with
    |mk l=>exact congrArg Array.mk es
   subst esl;refine⟨bm,N,nm,qn,bs,hd,sn,sub,ab,col,dd,k0,k1,k2,k3,k5,_,KX _ _ lk,.of_isNs (PySem.W.isNs_of_in KX q5),PySem.W.nsMap_none_of_in KX q5 q6,PySem.W.tail_of_in KX q4,λv r e=>?_⟩;unfold PySem.W.mroIn PySem.W.clsIn at e;rw[lk]at e
   first
    |exact Option.some.inj e
    |(simp at e;exact e)
  ·cases q
 ·cases q
variable{cpos:Pos}
section
variable {X:Cx}
def fJ(c:PySem.Str)(ga:GA):GS:=λρ st=>(ga ρ st).bM ρ λws st1=>if ws.length<=lim then .err c ρ st1 else .bad
theorem Gi{c:Str}{np:Pos}(hc:X.calm=true)(O:Gh X.K c C)(hg:Gl X c)(hm:X.mg c=some (.ref C))(ha:JA X (e::es) ga)(hd:(c == ("__debug__":Str))=false)
  (he:ahm (e::es) X.env=(false,eval e X.env)::ahm es X.env)(hpl:(backTo cpos (ahm es X.env)).any (·.1)=false):JS X (.Raise (some (.Call (.Name c np) (e::es) [] cpos)) none pos) (fJ c ga):=by
 intro ρ st σ H m D S R p pins s I;have args:=ha.go (T:=λvs H1=>∃ws st1 m1,bf X m H (if ws.length<=lim then .err c ρ st1 else .bad) D/\Ext X.K m H m1 H1/\b4 X.K m1 st1 H1/\ai X.K m1 H1 ws vs) S R (bf.dS R p)
  λws st1 vs m1 H1 p1 e1 S1 rs=>⟨ws,st1,m1,p1,e1,S1,rs⟩
 obtain⟨bm,N,nm,qn,bs,S8,sn,sub,ab,col,dd,k0,k1,k2,k3,k5,mN,hC,hN,hni,T,_⟩:=kK I.ok.mod.J0 O.exc;refine wpAny_Raise_call_subU (C:=C) (nm:=nm) (q:=qn) (N:=N) (bs:=bs) (bm:=bm) (hdct:=S8) (sn:=sn) (sub:=sub) (ab:=ab) (col:=col) (dd:=dd) (k0:=k0) (k1:=k1) (k2:=k2) (k3:=k3) (k5:=k5) (bmB:=BC)
  F.excBase_ValueError (by decide) F.excBase_ValueError (mN:=mN) (T.hasType F.excBase_ValueError.hasBase) (I.ok.hd hc) ?_ hni (mq I hg hm ⟨rfl,?_⟩ hd)
 ·rw[he];show(false||(backTo cpos (ahm es X.env)).any (·.1))=false;rw[hpl];rfl
 ·have go:=args cpos pins s I;rw[he]at go ⊢;refine OR (bM go λus s1 ⟨vs,H1,I1,r,ws,st1,m1,p1,e1,S1,rs⟩=>?_);by_cases cl:ws.length<=lim
  ·rw[if_pos cl]at p1;refine⟨rfl,by rw[<-r.length,<-rs.length];exact dE cl,I1.bk _ _ hC,hN.keeps I1.bk,T.keeps I1.bk,λh2 a M=>?_⟩;exact p1 σ m1 H1 _ _ e1 S1 (R.mono e1) ⟨C,pins,H1,s1,O.cls,I1,.inr ⟨rfl,a,us,rfl,rfl,rfl,M⟩⟩
  ·rw[if_neg cl]at p1;exact aa p1
end
structure nB(K:PySem.W.Frag)(C:ag5):Prop where
 exc:PySem.W.excIn K C BC BD=true
 ga:PySem.W.findIn K (.ref C) "__getattribute__"=some (some (.builtin "BaseException.__getattribute__"))
 gx:PySem.W.findIn K (.ref C) "__getattr__"=some none
 cl:PySem.W.findIn K (.ref C) "__class__"=some (some (.builtin "object.__class__"))
variable{Q:Unit->aha->Prop}
section
variable {prog:ag9}{w:ahc}{A:ag6}{E:ahb->aha->Prop}{h:Heap}{g:Array GenState}{d:Drawn}{t:Nat}{os:OsState}{a C:ag5}{o:Obj}{K:PySem.W.Frag}
theorem Pr{R:Result->aha->Prop}(Y:K.In h)(Z:nB K C)(ha:h.get? a=some o)(hc:o.cls= .ref C)(k:R (.ok (.ret (.ref C))) ⟨h,g,d,t,os⟩):
  ahg (model prog w) A (.call (.builtin "getset_descriptor.__get__") ⟨[.builtin "object.__class__",.ref a,.ref C],[]⟩) R ⟨h,g,d,t,os⟩:=by
 obtain⟨bm,N,nm,qn,bs,S8,sn,sub,ab,col,dd,k0,k1,k2,k3,k5,mN,hC,hN,hni,T,_⟩:=kK Y Z.exc;have ty:(⟨h,g,d,t,os⟩:aha).TypeIs (.builtin "object.__class__") "getset_descriptor":=Gj;have own:(bz C::bm).contains (.type (".".intercalate ("object.__class__".cutAt '.').dropLast))=true:=by rw[F.owner_object_class,Ag,T.hasType (X:="object") (b:=true) (by decide)];rfl
 refine codeAny_call_builtin F.slot_gs_get.plain F.entry_gs_get (F.slot_gs_get.check _ _ _ _ _ _ _ _ ty (F.args_gs_get _ _ _) ?_)
 repeat (any_goals (first |assumption |(with_reducible refine wpAny_loadPart_at ha ?_;rw[hc]) |(with_reducible refine wpAny_isSubtype_exc hC ?_;rw[own]) |wp_step))
 refine⟨Code.quiet_builtin _ (by decide+kernel),codeAny_builtin F.entry_object_class ?_⟩
 repeat (any_goals (first |assumption |(with_reducible refine wpAny_loadPart_at ha ?_;rw[hc]) |wp_step))
theorem Gk{tk:Tok}{Q:Fin->aha->Prop}(Y:K.In h)(Z:nB K C)(ha:h.get? a=some o)(hc:o.cls= .ref C)(k:Q (.done (.ret (.ref C))) ⟨h,g,d,t,os⟩):
  ahn (model prog w) A (Builtin.«object.__getattribute__» ⟨[.ref a,.str "__class__" tk],[]⟩) Q E ⟨h,g,d,t,os⟩:=by
 have ty:(⟨h,g,d,t,os⟩:aha).TypeIs (.builtin "object.__class__") "getset_descriptor":=Gj;have t1:=Gj;have t2:=F.slot_gs_get.lookup;have t3:=F.slot_gs_set.lookup;have L:=PySem.W.looks_findIn (M:=model prog w) Y Z.cl
 repeat (any_goals (first |assumption |(with_reducible refine wpAny_loadPart_at ha ?_;rw[hc]) |with_reducible refine L.at ?_ |wp_step))
 refine Pr Y Z ha hc ?_
 repeat (any_goals (first |assumption |wp_step))
theorem Gm{nv:ahb}(Y:K.In h)(Z:nB K C)(ha:h.get? a=some o)(hc:o.cls= .ref C)(k:Q () ⟨h,g,d,t,os⟩):
  ahn M A (checkBuiltinCall "BaseException.__getattribute__" ⟨[.ref a,nv],[]⟩) Q E ⟨h,g,d,t,os⟩:=by
 obtain⟨bm,N,nm,qn,bs,S8,sn,sub,ab,col,dd,k0,k1,k2,k3,k5,mN,hC,hN,hni,T,_⟩:=kK Y Z.exc;have u1:builtinKind "BaseException.__getattribute__"=some .slot:=by decide+kernel
 have u2:splitId "BaseException.__getattribute__"=some ("BaseException","__getattribute__"):=by decide+kernel
 have u3:(bz C::bm).contains (.type "BaseException")=true:=by rw[Ag,T.hasType (X:="BaseException") (b:=true) (by decide)];rfl
 have u4:=F.args_bexc_ga (.ref a) nv;simp only[checkBuiltinCall,u1,u2];refine aho ?_;unfold isInstance
 repeat (first |(with_reducible refine wpAny_loadPart_at ha ?_;rw[hc]) |(with_reducible refine wpAny_isSubtype_exc hC ?_;rw[u3]) |wp_step)
 exact k
theorem UU{tk:Tok}{Q:ahb->aha->Prop}(Y:K.In h)(Z:nB K C)(ha:h.get? a=some o)(hc:o.cls= .ref C)(k:Q (.ref C) ⟨h,g,d,t,os⟩):
  ahn (model prog w) A (getAttrBy (.ref a) (.str "__class__" tk) false) Q E ⟨h,g,d,t,os⟩:=by
 have v1:=F.excAttr_ValueError.ga.bind (.ref a);have v2:(rM "BaseException.__getattribute__" == rM "object.__getattribute__")=false:=by decide+kernel
 have v3:(onTheHeap (bz C)&&rM "BaseException.__getattribute__" == rM "object.__getattribute__")=false:=by rw[v2];rfl
 have v4:(false&&onTheHeap (rM "BaseException.__getattribute__"))=false:=rfl;have L1:=PySem.W.looks_findIn (M:=model prog w) Y Z.ga;have L2:=PySem.W.looks_findIn (M:=model prog w) Y Z.gx
 repeat (any_goals (first |assumption |(with_reducible refine wpAny_loadPart_at ha ?_;rw[hc]) |with_reducible refine L1.at ?_ |with_reducible refine L2.at ?_ |wp_step))
 refine codeAny_call_builtin F.excAttr_ValueError.ga.plain F.entry_bexc_ga (Gm Y Z ha hc (Gk Y Z ha hc ?_))
 repeat (any_goals (first |assumption |wp_step))
theorem Ld{Q:Option ahb->aha->Prop}(Y:K.In h)(Z:nB K C)(ha:h.get? a=some o)(hc:o.cls= .ref C)(k:Q (some (.ref C)) ⟨h,g,d,t+1,os⟩):
  ahn (model prog w) A (getAttr? (.ref a) "__class__") Q E ⟨h,g,d,t,os⟩:=by
 unfold getAttr? getAttrBy?
 repeat (any_goals (first |assumption |with_reducible apply UU Y Z ha hc |wp_step))
end
structure Zu(X:Cx):Prop where
 st:X.stack=X.env::X.outer
 fr:X.env.frame=some X.env.locals
 ex:X.ex=[]
theorem Dw{w:ahc}{o:HO}(x:iC P w H h a o):∃u,h.get? a=some u:=by
 cases o with
 |lst xs=>obtain⟨_,_,_,_,e⟩:=x;exact⟨_,e⟩
 |tup xs=>obtain⟨_,_,_,⟨ob,e,_⟩,_⟩:=x;exact⟨_,e⟩
 |dK kvs=>obtain⟨_,_,_,_,ob,_,_,e,_⟩:=x;exact⟨_,e⟩
 |dT kvs=>obtain⟨_,_,_,_,ob,_,_,e,_⟩:=x;exact⟨_,e⟩
 |dN kvs=>obtain⟨_,_,_,_,ob,_,_,e,_⟩:=x;exact⟨_,e⟩
 |set S n=>obtain⟨ob,_,_,_,e,_⟩:=x;exact⟨_,e⟩
 |ins C dx fs=>obtain⟨_,_,_,e,_⟩:=x;exact⟨_,e⟩
 |own y=>exact x
 |xd fs=>obtain⟨_,⟨_,_,_,e,_⟩,_⟩:=x;exact⟨_,e⟩
 |Xi lo hi=>obtain⟨_,_,_,e⟩:=x;exact⟨_,e⟩
 |jy ob u=>obtain⟨e,_⟩:=x;exact⟨_,e⟩
 |fW ps=>exact⟨_,x⟩
 |met f y=>exact⟨_,x⟩
 |ext φ=>exact x.2.1
def Pt(X:Cx)(a:ag5):Prop:=X.s₀.heap.get? a=none/\(∀xs,X.H₀ a≠some (.tup xs))/\(∀o u,X.H₀ a≠some (.jy o u))/\∀ps,X.H₀ a≠some (.fW ps)
def Dx(o:Obj):Prop:=∃vs,o.data= .fields vs/\vs[2]? =some c_
section
variable {X:Cx}{pins:List (ag5×Obj)}{σ:St}{Hc H':Hp}{sc s':aha}{B h2:Heap}{a C:ag5}{a0:ahb}{ch:List ag5}
theorem mD(I:Inv X pins σ Hc sc)(os:s'.os=sc.os)(bare:AllBare s'.gens)(hch:∀b∈ch,iG X pins Hc b)(un:Un (frs X.stack) ch Hc H' sc.heap s'.heap)(hok:ng X.prog X.w H' B)(fl:vF B X.stack a (.ref C) a0 h2)(up:s'.heap.UpToSlots h2)
  (xQ:∀b o,sc.heap.get? b=some o->b∉frs X.stack->b∉ch->∃o',B.get? b=some o'/\(Hc b=none->o'=o)){tk:Nat}:
  (∃o,Dx o/\Inv X pins σ (upd H' a (.jy o (.ext (lG a C)))) { s' with heap:=h2,toks:=tk })/\H' a=none/\(X.ex=[]->Pt X a):=by
 have stay:=fl.1;obtain⟨oe,vs,XB,hcl,hda,hcx⟩:=fl.first;have isx:lG a C h2:=⟨oe,XB,hcl,vs,hda⟩;have ha:H' a=none:=by
  cases q:H' a with
  |none=>rfl
  |some u=>obtain⟨z,e⟩:=Dw (hok a u q);rw[fl.2.1]at e;cases e
 have nfr:a∉frs X.stack:=λz=>by obtain⟨_,o1,e1,d1⟩:=fl.2.2.1.mem z;rw[XB]at e1;cases e1;exact d1 vs hda
 have N1:∀b∈frs X.stack,b∉ch:=λb hb z=>by
  rcases List.mem_cons.mp (I.rZ b hb)with q |q
  ·exact(hch b z).2.1 q
  ·exact(hch b z).2.2.1 q
 have new:a∉ch->∀o,sc.heap.get? a≠some o:=λhx o e=>by obtain⟨o1,e1,_⟩:=xQ a o e nfr hx;rw[fl.2.1]at e1;cases e1
 have ne:∀b u,H' b=some u->b≠a:=λb u e=>et e ha;have sl:∀b o,sc.heap.get? b=some o->Hc b=none->b∈frs X.stack->∃sl,h2.get? b=some { o with slots:=sl }:=λb o e n hb=>by obtain⟨s1,e1⟩:=un.slot b o e n hb (N1 b hb);obtain⟨_,o1,e2,d1⟩:=I.stack.mem hb;rw[e]at e2;cases e2;obtain⟨s2,e3⟩:=up b _ e1 d1;exact⟨s2,e3⟩
 refine⟨⟨oe,⟨vs,hda,hcx⟩,?_⟩,ha,λhex=>?_⟩
 rotate_left
 ·refine⟨?_,λxs q=>?_,λo u q=>?_,λps q=>?_⟩
  rotate_left
  ·have z:=un.tups _ _ (I.base.tups _ _ q);rw[ha]at z;cases z
  ·have z:=un.lx _ _ _ (I.base.lx _ _ _ q);rw[ha]at z;cases z
  ·obtain⟨_,z⟩:=I.base.mS _ _ q;obtain⟨_,z⟩:=un.mS _ _ z;rw[ha]at z;cases z
  cases q:X.s₀.heap.get? a with
  |none=>rfl
  |some o0=>
   obtain⟨o1,q1⟩:=I.base.there a o0 q (by rw[hex];simp);refine absurd q1 (new (λz=>?_) o1);rcases(hch a z).2.2.2.1 with y |y
   ·rw[hex]at y;cases y
   ·exact absurd (bY (bx q) y) (fX _)
 refine I.Mz (s':={ s' with heap:=h2,toks:=tk }) (ch:=ch) os ?_ ?_ bare (λb z=>⟨(hch b z).2.2.2.1,(hch b z).2.1,(hch b z).2.2.2.2.1,(hch b z).2.2.2.2.2⟩)
 ·refine⟨λb o e n hb hx=>?_,λb o e n hb _=>sl b o e n hb,λb o e n hx=>?_,λb o e hx=>?_,λb xs h=>?_,λb o u h=>?_,λb ps h=>?_⟩
  ·obtain⟨o1,e1,e2⟩:=xQ b o e hb hx;rw[e2 n]at e1;exact stay b o e1
  ·have ba:b≠a:=λz=>by subst z;exact new hx o e
   rw[bj ba];exact un.free b o e n hx
  ·by_cases hb:b∈frs X.stack
   ·obtain⟨s2,e2⟩:=sl b o e (I.oi b hb) hb;exact⟨_,e2⟩
   ·obtain⟨o1,e1,_⟩:=xQ b o e hb hx;exact⟨o1,stay b o1 e1⟩
  ·have q:=un.tups b xs h;rw[bj (ne b _ q)];exact q
  ·have q:=un.lx b o u h;rw[bj (ne b _ q)];exact q
  ·obtain⟨m1,q⟩:=un.mS b ps h;refine⟨m1,?_⟩;rw[bj (ne b _ q)];exact q
 ·intro b u e;by_cases hb:b=a
  ·subst hb;rw[bF]at e;cases e;exact⟨XB,isx,⟨oe,XB⟩,λh3 h4 p k=>let ⟨o1,q1,q2,q3⟩:=p;⟨o1,k o1 q1,q2,q3⟩⟩
  ·rw[bj hb]at e;exact(hok b u e).stay (λc v _ q=>stay c v q) (λc q=>by rw[bj (ne c _ q)];exact q) λc xs q=>by rw[bj (ne c _ q)];exact q
end
variable{E:ahb->aha->Prop}
theorem Dy{D:ag5}{b:Bool}{Q:Bool->aha->Prop}(Y:K.In s.heap)(ZC:PySem.W.excIn K C BC BD=true)(ZD:PySem.W.excIn K D BC BD=true)
  (hm:PySem.W.mroIn K C (.ref D)=some b)(ha:s.heap.get? a=some o)(hc:o.cls= .ref C)(k:Q b s):ahn M A (excMatches (.ref a) (.ref D)) Q E s:=by
 obtain⟨h,g,d,t,os⟩:=s;obtain⟨bm,N,nm,qn,bs,S8,sn,sub,ab,col,dd,k0,k1,k2,k3,k5,mN,hC,hN,hni,T,mr⟩:=kK Y ZC;obtain⟨bm',N',nm',qn',bs',aeF,sn',sub',ab',col',dd',k0',k1',k2',k3',k5',mN',hD,hN',aeH,T',mr'⟩:=kK Y ZD;have e1:(bz C::bm).contains (.ref D)=b:=mr _ _ hm;have e2:(bz D::bm').contains (.type "BaseException")=true:=by rw[Ag,T'.hasType (X:="BaseException") (b:=true) (by decide)];rfl
 have f:=tc_notTuple;unfold excMatches
 repeat (first |(with_reducible refine wpAny_loadPart_at ha ?_;rw[hc]) |with_reducible refine wpAny_loadPart_at hD ?_ |(with_reducible refine wpAny_isSubtype_exc hD ?_;rw[e2]) |(with_reducible refine wpAny_isSubtype_exc hC ?_;rw[e1]) |wp_step)
 cases b<;>(wp_walk;exact k)
theorem x9(Z:nB K C):PySem.W.KitX K (.ref a) (.ref C) (lG a C) where
 ty:=λM h _ p=>by obtain⟨o,h1,h2,_⟩:=p;rw[<-h2];exact(PySem.W.Looks.ld h1).andThen .now
 it:=λM h Y _=>by obtain⟨bm,N,nm,qn,bs,S8,sn,sub,ab,col,dd,k0,k1,k2,k3,k5,mN,hC,_⟩:=kK Y Z.exc;intro A' Q' E' s' k q;unfold isType loadHead;exact aho (wpAny_loadPart (k _ _ hC) (ahs q))
 ne:=λh tp dd its n sl Y e=>by obtain⟨bm,N,nm,qn,bs,S8,sn,sub,ab,col,dd',k0,k1,k2,k3,k5,mN,hC,_⟩:=kK Y Z.exc;refine Bool.eq_false_iff.mpr λq=>?_;have z:C=tp:=Value.ref.inj (beq_iff_eq.mp q);subst z;rw[hC]at e;have z2:oh "type"=oh "tuple":=congrArg Obj.cls (Option.some.inj e);exact absurd z2 (by decide)
 ca:=λ{prog w A E Q s} Y p k=>by obtain⟨o,h1,h2,_⟩:=p;obtain⟨h,g,d,t,os⟩:=s;exact Ld Y Z h1 h2 k
abbrev Tab:=List ((PySem.Str×PySem.Str)×Bool)
abbrev x_:=List ((PySem.Str×String)×Bool)
structure TabOk(K:PySem.W.Frag)(tb:Tab)(tt:x_)(tc:Tab):Prop where
 own:∀c d b C D,tb.lookup (c,d)=some b->ClsAt K c C->ClsAt K d D->nB K C/\PySem.W.kitOne K (.ref C) (.ref D)=some b
 cat:∀c d b C D,tc.lookup (c,d)=some b->ClsAt K c C->ClsAt K d D->PySem.W.excIn K C BC BD=true/\PySem.W.excIn K D BC BD=true/\PySem.W.mroIn K C (.ref D)=some b
 typ:∀c T b C,tt.lookup (c,T)=some b->ClsAt K c C->nB K C/\PySem.W.kitOne K (.ref C) (.type T)=some b
def lN(tb:Tab)(c:PySem.Str):List Wv->Option Bool
 |[]=>some false
 |.cls d::r=>(match tb.lookup (c,d)with
  |some true=>some true
  |some false=>lN tb c r
  |none=>none)
 |_=>none
theorem uN{K:PySem.W.Frag}{m:Mp}{H:Hp}{tb:Tab}{tt:x_}{tc:Tab}(O:TabOk K tb tt tc){c:PySem.Str}{C:ag5}(hC:ClsAt K c C):∀{ds:List Wv}{vs:List V}{its:List ahb}{b:Bool},ai K m H ds vs->Vals vs its->lN tb c ds=some b->PySem.W.kitAny K (.ref C) its=some b
 |[],vs,its,b,r,v,e=>by unfold ai at r;subst r;cases v;cases e;rfl
 |w::ds,vs,its,b,r,v,e=>by
  unfold ai at r;obtain⟨x,t,rfl,r1,r2⟩:=r;cases v with
  |cons h1 h2=>
   cases w with
   |cls d=>
    unfold ak at r1;obtain⟨D,rfl,hD⟩:=r1;cases h1;unfold lN at e;unfold PySem.W.kitAny;cases q:tb.lookup (c,d)with
    |none=>rw[q]at e;cases e
    |some k=>
     rw[q]at e;obtain⟨_,z3⟩:=O.own c d k C D q hC hD;rw[z3];cases k with
     |true=>cases e;rfl
     |false=>exact uN O hC r2 h2 e
   |_=>cases e
def dU(tb:Tab)(tt:x_):List Wv->Hs->Re Wv
 |[.iP c,.cls d],st=>(match tb.lookup (c,d)with |some b=> .ok (.bl b) st |none=> .bad)
 |[.iP c,.ty T],st=>(match tt.lookup (c,T)with |some b=> .ok (.bl b) st |none=> .bad)
 |[.iP c,.tup (.cls d::ds)],st=>(match lN tb c (.cls d::ds)with |some b=> .ok (.bl b) st |none=> .bad)
 |ws,st=>UQ ws st
variable{tb tc:Tab}{tt:x_}
section
variable {X:Cx}
theorem Gn:fc X (.builtin "isinstance") (λvs H Q=>∃a C v c b,vs=[.ref a,v]/\Xy a C (H a)/\nB X.K C/\RelV v c/\PySem.W.kitOne X.K (.ref C) c=some b/\Q (.bl b) H):=by
 intro pins s σ H xs us Q I r h;obtain⟨a,C,v,c,b,rfl,ha,Z,rc,e,q⟩:=h;obtain⟨u,u',rfl,r1,r2⟩:=vals2 r;cases r1;have uc:u'=c:=by
  cases v with
  |int i=>obtain⟨t,rfl⟩:=rc;cases e
  |str i=>obtain⟨t,rfl⟩:=rc;cases e
  |NZ i=>obtain⟨t,rfl⟩:=rc;cases e
  |TH i=>obtain⟨t,rfl⟩:=rc;cases e
  |cG=>cases rc;cases r2;rfl
  |bl i=>cases rc;cases r2;rfl
  |ref i=>cases rc;cases r2;rfl
  |ty i=>cases rc;cases r2;rfl
 subst uc;exact PySem.W.kia_one (x9 Z) I.pz (MG I.hok ha) e (by intro z;cases z) λtk=>⟨.bl b,H,I.tok tk,rfl,q⟩
theorem Dz:fc X (.builtin "isinstance") (λvs H Q=>∃a C p xs b,vs=[.ref a,.ref p]/\Xy a C (H a)/\nB X.K C/\gz X.K H p xs/\(∀its,Vals xs its->PySem.W.kitAny X.K (.ref C) its=some b)/\Q (.bl b) H):=by intro pins s σ H xs us Q I r h;obtain⟨a,C,p,ys,b,rfl,ha,Z,hT,e,q⟩:=h;obtain⟨u,u',rfl,r1,r2⟩:=vals2 r;cases r1;cases r2;obtain⟨its,rv,⟨o,g1,g2,n,g3⟩,z⟩:=I.tuple hT;obtain⟨oc,od,oda,osl⟩:=o;cases g2;cases g3;exact PySem.W.kia_tup (x9 Z) I.pz (MG I.hok ha) g1 (e its rv) (by intro z;cases z) λtk=>⟨.bl b,H,I.tok tk,rfl,q⟩
theorem Pu(O:TabOk X.K tb tt tc):ff X (.builtin "isinstance") (dU tb tt):=by
 obtain⟨r,h1,h2⟩:=Pm (X:=X);refine⟨_,Gn.or (Dz.or h1),λws vs st H m Q S rs p=>?_⟩;unfold dU at p;split at p
 ·rename_i _ c d;cases e:tb.lookup (c,d)with
  |none=>rw[e]at p;exact aa p
  |some b=>rw[e]at p;obtain⟨v,v',rfl,r1,r2⟩:=Dq rs;unfold ak at r1 r2;obtain⟨a,C,rfl,hC,ha⟩:=r1;obtain⟨D,rfl,hD⟩:=r2;obtain⟨z1,z3⟩:=O.own c d b C D e hC hD;exact .inl ⟨a,C,.ref D,.ref D,b,rfl,ha,z1,rfl,z3,p _ m H Ext.refl S ly⟩
 ·rename_i _ c T;cases e:tt.lookup (c,T)with
  |none=>rw[e]at p;exact aa p
  |some b=>rw[e]at p;obtain⟨v,v',rfl,r1,r2⟩:=Dq rs;unfold ak at r1 r2;obtain⟨a,C,rfl,hC,ha⟩:=r1;subst r2;obtain⟨z1,z3⟩:=O.typ c T b C e hC;exact .inl ⟨a,C,.ty T,.type T,b,rfl,ha,z1,rfl,z3,p _ m H Ext.refl S ly⟩
 ·rename_i _ c d ds;cases e:lN tb c (.cls d::ds)with
  |none=>rw[e]at p;exact aa p
  |some b=>
   rw[e]at p;obtain⟨v,v',rfl,r1,r2⟩:=Dq rs;unfold ak at r1;obtain⟨a,C,rfl,hC,ha⟩:=r1;have r2':=r2;unfold ak at r2';obtain⟨t,xs,rfl,hT,rx⟩:=r2';have Z:nB X.K C:=by
    have vU:=rx;unfold ai at vU;obtain⟨x,r,_,rd,_⟩:=vU;unfold ak at rd;obtain⟨D,_,hD⟩:=rd;unfold lN at e;cases q:tb.lookup (c,d)with
    |none=>rw[q]at e;cases e
    |some k=>exact(O.own c d k C D q hC hD).1
   exact .inr (.inl ⟨a,C,t,xs,b,rfl,ha,Z,gz.of hT,λits hv=>uN O hC rx hv e,p _ m H Ext.refl S ly⟩)
 ·exact .inr (.inr (h2 ws vs st H m Q S rs p))
end
variable{A':ag6}{cm:Bool}{lB:List (ag5×Obj)}{u:HO}
section
variable {X:Cx}{pins:List (ag5×Obj)}{σ:St}{H:Hp}{s:aha}
abbrev Le(X:Cx)(A':ag6)(cm:Bool)(pn:List (ag5×Obj))(E:ahb->aha->Prop):Cx:={ X with A:=A',calm:=cm,pn:=pn,xe:=E }
theorem UW{pn:List (ag5×Obj)}(ok:X.Ok)(hf:A'.frames=X.A.frames)(hd:cm=true->A'.handled=none):(Le X A' cm pn E).Ok :=
 ⟨ok.mod,ok.kind,ok.glob,ok.blt,ok.above,ok.inj,ok.has,ok.SQ,hd,hf.trans ok.frames,ok.stk,ok.YR,ok.bs,ok.EO,ok.CU,ok.ER,ok.mT,ok.JD⟩
theorem Gp(I:Inv X pins σ H s)(hf:A'.frames=X.A.frames)(hd:cm=true->A'.handled=none):Inv (Le X A' cm (X.pn++pins) E) [] σ H s :=
 ⟨UW I.ok hf hd,I.os,I.bare,I.base,I.loc,I.cell,I.free,I.jz,λp hp=>I.pin p (by simpa using hp),I.hok,I.len⟩
theorem sJ(ok:X.Ok)(I:Inv (Le X A' cm (X.pn++pins) E) lB σ H s):Inv X pins σ H s :=
 ⟨ok,I.os,I.bare,I.base,I.loc,I.cell,I.free,I.jz,λp hp=>I.pin p (vp _ hp),I.hok,I.len⟩
abbrev UX(X:Cx)(a:ag5)(u:HO)(pn:List (ag5×Obj))(E:ahb->aha->Prop):Cx:={ X with A:=X.A.mark (some (.ref a)),calm:=false,pn:=pn,xe:=E,H₀:=upd X.H₀ a u }
theorem Pw(I:Inv X pins σ H s)(e:H a=some (.jy o u))(n:X.s₀.heap.get? a=none):Inv (UX X a (.jy o u) (X.pn++pins) E) [] σ H s:=by
 have k:=I.ok;have ne:∀b o,X.s₀.heap.get? b=some o->b≠a:=λb o q z=>by rw[z,n]at q;cases q
 have nf:∀b∈X.fs,b≠a:=λb hb=>let ⟨_,o,q,_⟩:=k.mT.mem hb;ne b o q;have up:∀b,b≠a->upd X.H₀ a (.jy o u) b=X.H₀ b:=λb h=>bj h;have dn:∀{b:ag5}{w:Option HO},upd X.H₀ a (.jy o u) b=w->w≠some (.jy o u)->X.H₀ b=w:=λ{b w} q h=>by
  by_cases z:b=a
  ·rw[z,bF]at q;exact absurd q.symm h
  ·rw[up b z]at q;exact q
 have nn:∀{b:ag5},upd X.H₀ a (.jy o u) b=none->X.H₀ b=none:=λq=>dn q (by intro z;cases z);refine⟨⟨k.mod,k.kind,k.glob,k.blt,k.above,k.inj,k.has,k.SQ,(λz=>by cases z),k.frames,k.stk,k.YR,λb ob q=>⟨(k.bs b ob q).1,(up b (ne b ob (k.bs b ob q).1)).trans (k.bs b ob q).2⟩,k.EO,k.CU,k.ER,k.mT,λb hb=>(up b (nf b hb)).trans (k.JD b hb)⟩,I.os,I.bare,?_,I.loc,I.cell,I.free,I.jz,λp hp=>I.pin p (by simpa using hp),I.hok,I.len⟩;have g:=I.base;exact⟨λb ob q h=>g.keep b ob q (nn h),λb ob q h=>g.slot b ob q (nn h),λb ob q h=>g.free b ob q (nn h),g.there,λb xs q=>g.tups b xs (dn q (by intro z;cases z)),λb ob v q=>by
  by_cases z:b=a
  ·subst z;have q':upd X.H₀ b (.jy o u) b=some (.jy ob v):=q;rw[bF]at q';cases q';exact e
  ·exact g.lx b ob v ((up b z).symm.trans q),λb ps q=>g.mS b ps (dn q (by intro z;cases z))⟩
theorem Gq(ok:X.Ok)(n:Pt X a)(I:Inv (UX X a (.jy o u) (X.pn++pins) E) lB σ H s):Inv X pins σ H s:=by
 have ne:∀b o,X.s₀.heap.get? b=some o->b≠a:=λb o q z=>by rw[z,n.1]at q;cases q
 have up:∀b,b≠a->(UX X a (.jy o u) (X.pn++pins) E).H₀ b=X.H₀ b:=λb h=>bj h;have g:=I.base;exact⟨ok,I.os,I.bare,⟨λb ob q h=>g.keep b ob q ((up b (ne b ob q)).trans h),λb ob q h=>g.slot b ob q ((up b (ne b ob q)).trans h),λb ob q h=>g.free b ob q ((up b (ne b ob q)).trans h),g.there,λb xs q=>g.tups b xs ((up b λz=>n.2.1 xs (z ▸ q)).trans q),λb ob v q=>g.lx b ob v ((up b λz=>n.2.2.1 ob v (z ▸ q)).trans q),λb ps q=>g.mS b ps ((up b λz=>n.2.2.2 ps (z ▸ q)).trans q)⟩,I.loc,I.cell,I.free,I.jz,λp hp=>I.pin p (vp _ hp),I.hok,I.len⟩
def Ah(X:Cx):Prop:=X.A.handled=none\/∃a o u,X.A.handled=some (.ref a)/\Dx o/\X.H₀ a=some (.jy o u)
def DA(A:ag6)(H:Hp):Prop:=A.handled=none\/∃a o u,A.handled=some (.ref a)/\Dx o/\H a=some (.jy o u)
theorem Ah.at(h:Ah X)(I:Inv X pins σ H s):DA X.A H:=h.imp id λ⟨a,o,u,h1,h2,h3⟩=>⟨a,o,u,h1,h2,I.base.lx _ _ _ h3⟩
theorem UY{f:Flow}(ok:X.Ok)(h:SP (Le X A' cm (X.pn++pins) E) [] D f s):SP X pins D f s:=by
 cases f with
 |next=>obtain⟨σ',H',I,q⟩:=h;exact⟨σ',H',sJ ok I,q⟩
 |brk=>obtain⟨σ',H',I,q⟩:=h;exact⟨σ',H',sJ ok I,q⟩
 |cont=>obtain⟨σ',H',I,q⟩:=h;exact⟨σ',H',sJ ok I,q⟩
 |ret u=>obtain⟨v,σ',H',I,r,q⟩:=h;exact⟨v,σ',H',sJ ok I,r,q⟩
end
variable{i:Nat}{X:Cx}{pins:List (ag5×Obj)}
theorem uO{n:Str}(I:Inv X pins σ H s)(hN:X.N.Nodup)(hi:X.N[i]? =some n)(hx:X.env.scope.names.lookup n=some .local)
  (k:∀s',Inv X pins (σ.set i none) H s'->Q () s'):ahn M A (do bindName X.env n .none;unbindBehindTheSuite X.env n pos) Q E s:=by
 obtain⟨m,ns,lk⟩:=id I.loc;have pl:(X.env.scope.kind == .class||(X.env.scope.kind == .module&&X.env.locals != X.env.globals))=false:=by rw[I.ok.kind];rfl
 have up:∀b o,X.s₀.heap.get? b=some o->b≠X.env.locals:=λb o e=>old_ne I e;refine wpAny_nameGoes_keeps hx ns pl λh2 v ns2 sb=>k _ ?_;obtain⟨oL,_,_,hoL,_⟩:=id ns;refine⟨I.ok,I.os,I.bare,⟨λb o e f hb hx=>(sb.2 b (up b o e)).trans (I.base.keep b o e f hb hx),λb o e f hb hx=>?_,I.base.free,λb o e hx=>?_,I.base.tups,I.base.lx,I.base.mS⟩,⟨_,ns2,λj y w e1 e2 e3=>?_⟩,λy c e=>?_,I.free,I.jz,λp hp=>?_,λb u e=>?_,by simpa using I.len⟩
 ·obtain⟨sl,e1⟩:=I.base.slot b o e f hb hx;exact⟨sl,(sb.2 b (up b o e)).trans e1⟩
 ·obtain⟨o1,e1⟩:=I.base.there b o e hx;exact⟨o1,(sb.2 b (up b o e)).trans e1⟩
 ·have ji:j≠i:=λz=>by
   subst z;have:j < σ.length:=by have q:=(List.getElem?_eq_some_iff.mp e2).1;simpa using q
   rw[ni this]at e2;cases e2
  rw[iu (cR ji)]at e2;obtain⟨u,r,q⟩:=lk j y w e1 e2 e3;refine⟨u,r,?_⟩;rcases q with ⟨q1,q2⟩ |⟨q1,c,q2,z⟩
  ·have yn:y≠n:=λz=>ji (r6 hN e1 (z ▸ hi));exact .inl ⟨q1,by simp[yn,q2]⟩
  ·exact .inr ⟨q1,c,q2,z.sameBut sb (I.J2 y c q2)⟩
 ·obtain⟨w,z⟩:=I.cell y c e;exact⟨w,z.sameBut sb (I.J2 y c e)⟩
 ·obtain⟨e,f,ne,nf,d⟩:=I.pin p hp;exact⟨(sb.2 p.1 ne).trans e,f,ne,nf,d⟩
 ·refine(I.hok b u e).stay (λc w hc q=>(sb.2 c λz=>?_).trans q) (λ_ q=>q) λ_ _ q=>q;have fr:=I.free;rcases hc with hc |hc
  ·rw[<-z,hc,e]at fr;cases fr
  ·rw[<-z,hc]at fr;cases fr
def DB(cat:PySem.Str->Option Bool)(i:Nat)(gb gs:GS):GS:=λρ st=>match gb ρ st with
 |.err c ρ' st'=>(match cat c with
  |some true=>(match gs (ρ'.set i (some (.iP c))) st' with
   |.nx ρ2 st2=> .nx (ρ2.set i none) st2
   |.rt w st2=> .rt w st2
   |_=> .bad)
  |_=> .bad)
 |r=>r
theorem aL.unset(R:aL K m H ρ σ)(i:Nat):aL K m H (ρ.set i none) (σ.set i none):=by
 refine⟨by simp[R.len],λj w e=>?_⟩;have ji:i≠j:=λz=>by
  subst z;have:i < ρ.length:=by have q:=(List.getElem?_eq_some_iff.mp e).1;simpa using q
  rw[ni this]at e;cases e
 rw[iu ji]at e ⊢;exact R.get j w e
variable{cls:ahb}
section
variable {X:Cx}
theorem DC(hfr:A.frames=some (env::outer))(hf:env.frame=some L)
  (st:base.StaysIn h)(fs:h.FunFrames base (env::outer))(mk:vK h s.heap a cls args)(k:∀h' a0,vF base (env::outer) a cls a0 h'->s.heap.UpToSlots h'->Q () { s with heap:=h' }):
  ahn M A (noteFrame (.ref a) env) (λ_ s2=>ahn M A (setFlight (.ref a) none) Q E s2) E s:=by
 exact uL hfr hf st fs mk λh1 t hd1 up1=>xN hd1 λh2 zp UT=>k h2 t zp (up1.trans UT)
theorem lI.er{b:Bool}{e:ahb}(f:lI (Le X A b (X.pn++pins) E) lB H s H' cls e s'):lI X pins H s H' cls e s' :=
 let ⟨a,a0,nt,B,ch,e1,e2,e3,hch,r⟩:=f
 ⟨a,a0,nt,B,ch,e1,e2,e3,λb hb=>let ⟨h1,h2,h3,h4,h5,h6⟩:=hch b hb;⟨h1,h2,h3,h4,h5,λp hp=>h6 p (vp _ hp)⟩,r⟩
theorem land{Hc:Hp}{sc:aha}{e:ahb}(K0:Zu X)(I:Inv X pins σ Hc sc)
  (r:lI X pins Hc sc H' (.ref C) e s'\/(H'=Hc/\∃a args,e= .ref a/\s'.os=sc.os/\s'.gens=sc.gens/\vK sc.heap s'.heap a (.ref C) args))
  (k:∀(a:ag5)(a0:ahb)(B h5:Heap),e= .ref a->vF B X.stack a (.ref C) a0 h5->(∀h6 tk,vF B X.stack a (.ref C) a0 h6->h5.UpToSlots h6->∃o,Dx o/\Inv X pins σ (upd H' a (.jy o (.ext (lG a C)))) { s' with heap:=h6,toks:=tk })->H' a=none->Pt X a->Q () { s' with heap:=h5 }):
  ahn (model X.prog X.w) X.A (noteFrame e X.env) (λ_ s2=>ahn (model X.prog X.w) X.A (setFlight e none) Q E s2) E s':=by
 have hfr:X.A.frames=some (X.env::X.outer):=by rw[I.ok.frames,K0.st]
 rcases r with ⟨a,a0,nt,B,ch,rfl,os,bare,hch,un,hok,fl,xQ⟩ |⟨rfl,a,args,rfl,ho,hg,M⟩
 ·rw[K0.st]at fl;refine xT hfr K0.fr fl λh4 hd4 Zv=>?_;refine xN hd4 λh5 EG Px=>?_;rw[<-K0.st]at EG;exact k a a0 B h5 rfl EG (λh6 tk UZ U0=>(mD I os bare hch un hok UZ ((Zv.trans Px).trans U0) xQ).1) (mD (tk:=0) I os bare hch un hok EG (Zv.trans Px) xQ).2.1 ((mD (tk:=0) I os bare hch un hok EG (Zv.trans Px) xQ).2.2 K0.ex)
 ·have fs:sc.heap.FunFrames (PySem.W.hideAll sc.heap (frs X.stack)) (X.env::X.outer):=by rw[<-K0.st];exact PySem.W.funFrames_hide I.stack λenv he b hb=>List.mem_filterMap.mpr ⟨env,he,hb⟩
  refine DC (base:=PySem.W.hideAll sc.heap (frs X.stack)) hfr K0.fr (λb o q=>PySem.W.of_hideAll _ q) fs M λh5 a0 EG Px=>?_;rw[<-K0.st]at EG;have bare:AllBare s'.gens:=by rw[hg];exact I.bare
  have hok:ng X.prog X.w H' (PySem.W.hideAll sc.heap (frs X.stack)):=xU I.hok I.oi;have xQ:∀b o,sc.heap.get? b=some o->b∉frs X.stack->b∉([]:List ag5)->∃o',(PySem.W.hideAll sc.heap (frs X.stack)).get? b=some o'/\(H' b=none->o'=o):=λb o q hb _=>⟨o,PySem.W.hideAll_get _ q hb,λ_=>rfl⟩;have nil:∀b∈([]:List ag5),iG X pins H' b:=λb z=>by cases z
  exact k a a0 _ h5 rfl EG (λh6 tk UZ U0=>(mD I ho bare nil (Un.kept M.keeps) hok UZ (Px.trans U0) xQ).1) (mD (tk:=0) I ho bare nil (Un.kept M.keeps) hok EG Px xQ).2.1 ((mD (tk:=0) I ho bare nil (Un.kept M.keeps) hok EG Px xQ).2.2 K0.ex)
theorem Py{n:Str}{D:ag5}{suite:List Stmt}{b₀:Stmt}{gs:GS}{np hp:Pos}(K0:Zu X)(hN:X.N.Nodup)(hi:X.N[i]? =some n)(hx:X.env.scope.names.lookup n=some .local)(hc:X.calm=true)(O:TabOk X.K tb tt tc)
  (hg:Gl X x)(hm:X.mg x=some (.ref D))(hD:ClsAt X.K x D)(hd:(x == ("__debug__":Str))=false)
  (hb:∀(pn:List (ag5×Obj))(E:ahb->aha->Prop),pH (Le X X.A true pn E) body gb)(hs:∀(a:ag5)(o:Obj)(u:HO)(pn:List (ag5×Obj))(E:ahb->aha->Prop),Dx o->pH (UX X a (.jy o u) pn E) (b₀::suite) gs):
  JS X (.Try body [.ExceptHandler (some (.Name x np)) (some n) (b₀::suite) hp] [] [] pos) (DB (λc=>tc.lookup (c,x)) i gb gs):=by
 intro ρ st σ H m D' S R p pins s I;refine wpAny_Try_except ?_
 let hx':ahb->aha->Prop:=λe s1=>ahn (model X.prog X.w) X.A (noteFrame e X.env) (λ_ s2=>ahn (model X.prog X.w) X.A (setFlight e none) (λ_ s3=>
  ahn (model X.prog X.w) X.A (handleBy e X.env [.ExceptHandler (some (.Name x np)) (some n) (b₀::suite) hp]) (SP X pins D') X.xe s3) X.xe s2) X.xe s1
 have hA:X.A.handled=none:=I.ok.hd hc;have Ib:Inv (Le X X.A true (X.pn++pins) hx') [] σ H s:=Gp I rfl λ_=>hA;have post:bf (Le X X.A true (X.pn++pins) hx') m H (gb ρ st) D':=by
  unfold DB at p;cases eb:gb ρ st with
  |nx ρ1 st1=>rw[eb]at p;exact p
  |rt w1 st1=>rw[eb]at p;exact p
  |bk ρ1 st1=>rw[eb]at p;exact p
  |ct ρ1 st1=>rw[eb]at p;exact p
  |bad=>rw[eb]at p;exact p
  |err c ρ1 st1=>
   rw[eb]at p;dsimp only at p;cases ec:tc.lookup (c,x)with
   |none=>rw[ec]at p;exact aa p
   |some bc=>
    cases bc with
    |false=>rw[ec]at p;exact aa p
    |true=>
     rw[ec]at p;dsimp only at p;intro σ1 m1 H1 e s1 e1 S1 R1 rz;obtain⟨C,lB,Hc,sc,hC,Ic,rz⟩:=rz;obtain⟨zC,zD,Zw⟩:=O.cat c x true C D ec hC hD;refine land K0 (sJ I.ok Ic) (rz.imp lI.er id) λa a0 B h5 ea EG inv hn hnew=>?_;subst ea;obtain⟨ox,_,I5⟩:=inv h5 s1.toks EG (Po _);obtain⟨o5,ho5,hc5,_⟩:=(I5.hok a _ bF).2.1;have Im:=Gp (A':=X.A.mark (some (.ref a))) (cm:=false) (E:=λ_ _=>False) I5 rfl (λz=>by cases z);refine wpAny_handleBy_cons (codeAny_handlers_test (mq Im hg hm ?_ hd)) (by intro q;cases q);refine Dy (b:=true) Im.pz zC zD Zw ho5 hc5 ?_;refine codeAny_handlers_suite_as ?_;refine xN EG λh6 UZ U0=>?_;obtain⟨oy,nx,I6⟩:=inv h6 s1.toks UZ U0;have e6:Ext X.K m1 H1 m1 (upd H1 a (.jy oy (.ext (lG a C)))):=Ext.upd (.inl hn);have S6:b4 X.K m1 st1 (upd H1 a (.jy oy (.ext (lG a C)))):=S1.fresh hn;have rv:ak X.K m1 (upd H1 a (.jy oy (.ext (lG a C)))) (.iP c) (.ref a):=by unfold ak;obtain⟨vs,d1,d2⟩:=nx;exact⟨a,C,rfl,hC,oy,vs,bF,d1,d2⟩
     refine lC (v:=.ref a) I6 hN hi (.inl hx) rfl (λs7 I7=>?_) (.inr hx);have XC:=Pw (E:=λ_ _=>False) I7 bF hnew.1;cases es:gs (ρ1.set i (some (.iP c))) st1 with
     |nx ρ2 st2=>
      rw[es]at p
      let D2:Ends:={ nx:=λσ' H'=>D'.nx (σ'.set i none) H',rt:=λ_ _=>False,bk:=λ_ _=>False,ct:=λ_ _=>False }
      have go:=hs a oy (.ext (lG a C)) (X.pn++pins) (λ_ _=>False) nx (ρ1.set i (some (.iP c))) st1 (σ1.set i (some (.ref a))) _ m1 D2 S6 ((R1.mono e6).set i rv) (by rw[es];exact λσ' m' H' e' S' R'=>p (σ'.set i none) m' H' (e1.trans (e6.trans e')) S' (aL.unset R' i)) [] s7 XC;refine ahq go (λf s8 h8=>?_) λ_ _ z=>z.elim;cases f with
      |next=>obtain⟨σ8,H8,I8,q8⟩:=h8;exact uO (Gq I.ok hnew I8) hN hi hx λs9 I9=>⟨_,H8,I9,q8⟩
      |brk=>obtain⟨_,_,_,q8⟩:=h8;exact q8.elim
      |cont=>obtain⟨_,_,_,q8⟩:=h8;exact q8.elim
      |ret u=>obtain⟨_,_,_,_,_,q8⟩:=h8;exact q8.elim
     |rt w2 st2=>
      rw[es]at p
      let D2:Ends:={ nx:=λ_ _=>False,rt:=D'.rt,bk:=λ_ _=>False,ct:=λ_ _=>False }
      have go:=hs a oy (.ext (lG a C)) (X.pn++pins) (λ_ _=>False) nx (ρ1.set i (some (.iP c))) st1 (σ1.set i (some (.ref a))) _ m1 D2 S6 ((R1.mono e6).set i rv) (by rw[es];exact λv' m' H' e' S' R'=>p v' m' H' (e1.trans (e6.trans e')) S' R') [] s7 XC;refine ahq go (λf s8 h8=>?_) λ_ _ z=>z.elim;cases f with
      |next=>obtain⟨_,_,_,q8⟩:=h8;exact q8.elim
      |brk=>obtain⟨_,_,_,q8⟩:=h8;exact q8.elim
      |cont=>obtain⟨_,_,_,q8⟩:=h8;exact q8.elim
      |ret u=>obtain⟨v8,σ8,H8,I8,r8,q8⟩:=h8;exact uO (Gq I.ok hnew I8) hN hi hx λs9 I9=>⟨v8,_,H8,I9,r8,q8⟩
     |bk ρ2 st2=>rw[es]at p;exact aa p
     |ct ρ2 st2=>rw[es]at p;exact aa p
     |err c2 ρ2 st2=>rw[es]at p;exact aa p
     |bad=>rw[es]at p;exact aa p
 refine ahq (hb (X.pn++pins) hx' ρ st σ H m D' S R post [] s Ib) (λf s1 h1=>?_) λe s1 h1=>h1;have h2:=UY I.ok h1;cases f with
 |next=>exact wpAny_execs_nil h2
 |brk=>exact h2
 |cont=>exact h2
 |ret u=>exact h2
end
theorem Gs(x:String):aW (vx x)=true:=by
 unfold aW;rw[MO];intro c hc;have:∃ch:Char,c=ch.toNat:=by rw[Str.ofString_eq_toList]at hc;simp at hc;obtain⟨ch,_,e⟩:=hc;exact⟨ch,e.symm⟩
 obtain⟨ch,rfl⟩:=this;have h:=ch.valid;simp only[decide_eq_true_eq];rcases h with h |⟨_,h⟩
 ·exact vW h (by decide)
 ·exact h
variable{name:Str}{apos:Pos}{mt:Wv->Wv->Hs->Re Wv}
section
variable {X:Cx}
def DD:List Wv->Hs->Re Wv
 |[.int i],st=>if i.natAbs.log2 < 1920 then .ok (.str (toString i:String)) st else .bad
 |_,_=> .bad
theorem Pz:ff X (.type "str") DD:=⟨_,vt,λws vs st H m Q S r p=>by
 match ws,r,p with
 |[],r,p=>exact aa p
 |x::y::t,r,p=>cases x<;>exact aa p
 |[x],r,p=>
  obtain⟨v,rfl,rx⟩:=ke r;cases x with
  |int i=>
   cases aZ rx;have p':dB X.K m H (if i.natAbs.log2 < 1920 then .ok (.str (toString i:String)) st else .bad) Q:=p;by_cases c:i.natAbs.log2 < 1920
   ·rw[if_pos c]at p';exact⟨i,rfl,c,p' _ m H Ext.refl S (mkStr (Gs _))⟩
   ·rw[if_neg c]at p';exact aa p'
  |_=>exact aa p⟩
def pI(o v:Wv)(st:Hs):Re Wv:=match o with
 |.ref l=>(match st[l]? with
  |some (.lst ws)=>if ws.length < lim then .ok .cG (st.set l (.lst (ws++[v])))else .bad
  |_=> .bad)
 |_=> .bad
def U1(o v:Wv)(st:Hs):Re Wv:=match o,v with
 |.ref l,.ref k=>(match st[l]?,st[k]? with
  |some (.lst ws),some (.lst zs)=>if ws.length+zs.length<=lim then .ok .cG (st.set l (.lst (ws++zs)))else .bad
  |_,_=> .bad)
 |_,_=> .bad
def fo(mt:Wv->Wv->Hs->Re Wv)(go ga:GE):GE:=λρ st=>(go ρ st).bind λo st1=>match o with
 |.ref l=>(match av st1 l with
  |some _=>(ga ρ st1).bind λv st2=>(mt o v st2).mv
  |none=> .bad)
 |_=> .bad
def MS(X:Cx)(id:String)(mt:Wv->Wv->Hs->Re Wv):Prop:=∃r,xI X id r/\∀(o w:Wv)(x v:V)(st:Hs)(H:Hp)(m:Mp)(Q:VK),b4 X.K m st H->ak X.K m H o x->ak X.K m H w v->dB X.K m H (mt o w st) Q->r x [v] H Q
theorem Gu:MS X "list.append" pI:=⟨_,Dh,λo w x v st H m Q S ro rw' p=>by
 cases o with
 |ref l=>
  unfold ak at ro;obtain⟨a,rfl,ha⟩:=ro;have p':dB X.K m H (match st[l]? with |some (.lst ws)=>if ws.length < lim then .ok .cG (st.set l (.lst (ws++[w])))else .bad |_=> .bad) Q:=p
  cases e:st[l]? with
  |none=>rw[e]at p';exact aa p'
  |some ob=>
   cases ob with
   |dct kvs=>rw[e]at p';exact aa p'
   |ED kvs=>rw[e]at p';exact aa p'
   |Dl kvs=>rw[e]at p';exact aa p'
   |EE kvs=>rw[e]at p';exact aa p'
   |FA kvs=>rw[e]at p';exact aa p'
   |ins _ _=>rw[e]at p';exact aa p'
   |t6 ns=>rw[e]at p';exact aa p'
   |lst ws=>
    rw[e]at p';dsimp only at p';by_cases c:ws.length < lim
    ·rw[if_pos c]at p';obtain⟨xs,h1,h2⟩:=S.sE ha e;have e4:Ext X.K m H m (upd H a (.lst (xs++[v]))):=Ext.upd (.inr ⟨xs,h1⟩);exact⟨a,xs,v,rfl,rfl,h1,by rw[<-h2.length];exact O1 c,p' _ m _ e4 (S.write ha e (h2.append (ai.cons rw' ai.nil))) Bz⟩
    ·rw[if_neg c]at p';exact aa p'
 |_=>exact aa p⟩
theorem PB:MS X "list.extend" U1:=⟨_,Di,λo w x v st H m Q S ro rw' p=>by
 cases o with
 |ref l=>
  cases w with
  |ref k=>
   unfold ak at ro rw';obtain⟨a,rfl,ha⟩:=ro;obtain⟨b,rfl,hb⟩:=rw';have p':dB X.K m H (match st[l]?,st[k]? with |some (.lst ws),some (.lst zs)=>if ws.length+zs.length<=lim then .ok .cG (st.set l (.lst (ws++zs)))else .bad |_,_=> .bad) Q:=p
   cases e:st[l]? with
   |none=>rw[e]at p';exact aa p'
   |some ob=>
    cases ob with
    |dct kvs=>rw[e]at p';exact aa p'
    |ED kvs=>rw[e]at p';exact aa p'
    |Dl kvs=>rw[e]at p';exact aa p'
    |EE kvs=>rw[e]at p';exact aa p'
    |FA kvs=>rw[e]at p';exact aa p'
    |ins _ _=>rw[e]at p';exact aa p'
    |t6 ns=>rw[e]at p';exact aa p'
    |lst ws=>
     cases e2:st[k]? with
     |none=>rw[e,e2]at p';exact aa p'
     |some ob2=>
      cases ob2 with
      |dct kvs=>rw[e,e2]at p';exact aa p'
      |ED kvs=>rw[e,e2]at p';exact aa p'
      |Dl kvs=>rw[e,e2]at p';exact aa p'
      |EE kvs=>rw[e,e2]at p';exact aa p'
      |FA kvs=>rw[e,e2]at p';exact aa p'
      |ins _ _=>rw[e,e2]at p';exact aa p'
      |t6 ns=>rw[e,e2]at p';exact aa p'
      |lst zs=>
       rw[e,e2]at p';dsimp only at p';by_cases c:ws.length+zs.length<=lim
       ·rw[if_pos c]at p';obtain⟨xs,h1,h2⟩:=S.sE ha e;obtain⟨ys,g1,g2⟩:=S.sE hb e2;have e4:Ext X.K m H m (upd H a (.lst (xs++ys))):=Ext.upd (.inr ⟨xs,h1⟩);exact⟨a,b,xs,ys,rfl,rfl,h1,g1,by rw[<-h2.length,<-g2.length];exact dE c,p' _ m _ e4 (S.write ha e (h2.append g2)) Bz⟩
       ·rw[if_neg c]at p';exact aa p'
  |_=>exact aa p
 |_=>exact aa p⟩
theorem rN{id:String}{ga:GE}(hm:MS X id mt)(slot:Slot "list" name id)(hty:typeOf (.builtin id)=pure (.type "method_descriptor"))(ho:JE X (.Name x p) go)(ha:JE X e ga)
  (hst:ahm [e] X.env=[(false,eval e X.env)])(hline:(apos.endLine == cpos.line)=true):JE X (.Call (.Attribute (.Name x p) name apos) [e] [] cpos) (fo mt go ga):=by
 obtain⟨r,h1,h2⟩:=hm;have hfew:((backTo cpos (ahm [e] X.env)).all (λx=> !x.1)&&(backToKw cpos (keywordEach [] X.env)).all (λx=>x.1.isSome)&&decide ([e].length+([]:List Keyword).length+(if([]:List Keyword).isEmpty then 0 else 1) < 30))=true:=by rw[hst];rfl
 refine JE.of (Fv PySem.F.plainAttrs_list slot hty h1 bg ll rfl hfew hline hst rfl) λρ st σ H m Q S R p=>?_;refine ho.go S R (aE.bind p) λo st1 v m1 H1 p1 e1 S1 ro=>?_;cases o with
 |ref l=>
  dsimp only at p1;cases el:av st1 l with
  |none=>rw[el]at p1;exact aa p1
  |some ws0=>
   rw[el]at p1;dsimp only at p1;have U2:=ro;unfold ak at U2;obtain⟨a,rfl,hla⟩:=U2;obtain⟨xs,hq,_⟩:=S1.read hla el;refine⟨.inl ⟨rfl,xs,hq⟩,?_⟩;refine(vP ha vO hst).go S1 (R.mono e1) (ok:=λws st2=>aE X σ m H (match ws with |[w]=>(mt (.ref l) w st2).mv |_=> .bad) (SX X.K m H Q)) ?_ λws st2 vs m2 H2 p2 e2 S2 rs=>?_
   ·have p3:=(aE.bind p1).imp e1 (λ_ _ q=>q);show aE X σ m1 H1 ((ga ρ st1).bind λx st1=>(ag ρ st1).bind λxs st2=> .ok (x::xs) st2) _;cases eg:ga ρ st1 with
    |ok w st2=>rw[eg]at p3;exact p3
    |err c st2=>rw[eg]at p3;exact p3
    |bad=>rw[eg]at p3;exact p3
   ·match ws,rs,p2 with
    |[],rs,p2=>exact aa p2
    |[w],rs,p2=>obtain⟨v2,rfl,Zx⟩:=ke rs;exact h2 (.ref l) w (.ref a) v2 st2 H2 m2 Q S2 (ak.mono e2 _ _ ro) Zx (dB.shift (aE.mv p2) (e1.trans e2))
    |_::_::_,rs,p2=>exact aa p2
 |_=>exact aa p1
end
section
variable {X:Cx}
def oC:List Wv->Hs->Re Wv
 |[.str z],st=> .ok (.str z) st
 |ws,st=>DD ws st
theorem Ai:fc X (.type "str") (λxs H Q=>∃z,xs=[.str z]/\Q (.str z) H):=by intro pins s σ H xs us Q I r h;obtain⟨z,rfl,q⟩:=h;obtain⟨u,rfl,t,rfl⟩:=vals1 r;exact PySem.P.str_of_str ⟨.str z,H,I,⟨t,rfl⟩,q⟩
theorem Lf:ff X (.type "str") oC:=by
 obtain⟨r,h1,h2⟩:=Pz (X:=X);refine⟨_,Ai.or h1,λws vs st H m Q S rs p=>?_⟩;unfold oC at p;split at p
 ·obtain⟨v,rfl,r1⟩:=ke rs;obtain⟨rfl,hz⟩:=eB r1;exact .inl ⟨_,rfl,p _ m H Ext.refl S (mkStr hz)⟩
 ·exact .inr (h2 ws vs st H m Q S rs p)
def U3:List Wv->Hs->Re Wv
 |[.int i],st=> .ok (.int i) st
 |[.bl b],st=> .ok (.int (if b then 1 else 0)) st
 |_,_=> .bad
theorem PD:ff X (.type "int") U3:=⟨_,C6,λws vs st H m Q S rs p=>by
 match ws,rs,p with
 |[],rs,p=>exact aa p
 |x::y::t,rs,p=>cases x<;>exact aa p
 |[x],rs,p=>
  obtain⟨v,rfl,r1⟩:=ke rs;cases x with
  |int i=>cases aZ r1;exact .inl ⟨i,rfl,p _ m H Ext.refl S mkInt⟩
  |bl b=>cases UC r1;exact .inr ⟨b,rfl,p _ m H Ext.refl S mkInt⟩
  |_=>exact aa p⟩
def PF(ws:List Wv)(st:Hs):Re Wv:=match two ws with
 |some (i,j)=> .ok (.int (if j > i then j else i)) st
 |none=> .bad
theorem PH(hc:X.calm=true):ff X (.builtin "max") PF:=⟨_,C5 hc,λws vs st H m Q S rs p=>by
 unfold PF at p;cases q:two ws with
 |none=>rw[q]at p;exact aa p
 |some t=>obtain⟨i,j⟩:=t;obtain rfl:=two_eq q;rw[q]at p;obtain⟨v,v',rfl,r1,r2⟩:=Dq rs;cases aZ r1;cases aZ r2;exact⟨i,j,rfl,p _ m H Ext.refl S mkInt⟩⟩
def Zy(ws:List Wv)(st:Hs):Re Wv:=match two ws with
 |some (i,j)=> .ok (.int (if j < i then j else i)) st
 |none=> .bad
def DE:List Nat->List Wv->bR->Option bR
 |[],[],ρ=>some ρ
 |i::is,w::ws,ρ=>DE is ws (ρ.set i (some w))
 |_,_,_=>none
def bdT(is:List Nat)(w:Wv)(ρ:bR):Option bR:=match w with
 |.tup ws=>DE is ws ρ
 |_=>none
def Zz:List Nat->MB
 |[]=>L2.ag
 |i::is=>L2.ae (xG i) (Zz is)
theorem ya{m:Mp}{H:Hp}{Q:St->Hp->Prop}:∀{is:List Nat}{ws:List Wv}{xs:List V}{ρ ρ':bR}{σ:St},ai X.K m H ws xs->aL X.K m H ρ σ->DE is ws ρ=some ρ'->(∀σ',aL X.K m H ρ' σ'->Q σ' H)->Zz is xs σ H Q
 |[],[],xs,ρ,ρ',σ,r,R,e,k=>by unfold ai at r;subst r;cases e;exact⟨rfl,k σ R⟩
 |i::is,w::ws,xs,ρ,ρ',σ,r,R,e,k=>by unfold ai at r;obtain⟨x,rr,rfl,h1,h2⟩:=r;exact⟨x,rr,rfl,ya (is:=is) h2 (R.set i h1) e k⟩
 |[],_::_,_,_,_,_,_,_,e,_=>by cases e
 |_::_,[],_,_,_,_,_,_,e,_=>by cases e
theorem yb:∀{is:List Nat}{ws:List Wv}{ρ ρ':bR},DE is ws ρ=some ρ'->ws.length=is.length
 |[],[],_,_,_=>rfl
 |_::is,_::ws,_,_,e=>congrArg (· +1) (yb (is:=is) (ws:=ws) e)
 |[],_::_,_,_,e=>by cases e
 |_::_,[],_,_,e=>by cases e
inductive Slots(X:Cx):List Expr->List Nat->Prop
 |nil:Slots X [] []
 |cons {x:Str}{p:Pos}{i:Nat}{es:List Expr}{is:List Nat}:X.N[i]? =some x->(Loc X.env.scope x/\(X.fn x=true\/X.env.scope.names.lookup x=some .local))->Slots X es is->Slots X (.Name x p::es) (i::is)
theorem uP(hN:X.N.Nodup):∀{es:List Expr}{is:List Nat},Slots X es is->TY X es (Zz is)
 |_,_,.nil=>Ka
 |_,_,.cons h1 h2 r=>E3 (vq hN h1 h2.1 h2.2) (uP hN r) rfl
theorem yc:∀{es:List Expr}{is:List Nat},Slots X es is->(assignEach es X.env).length=is.length
 |_,_,.nil=>rfl
 |_,_,.cons _ _ r=>congrArg (· +1) (yc r)
theorem uQ:∀{es:List Expr}{is:List Nat},Slots X es is->(assignEach es X.env).findIdx? (·.1)=none
 |_,_,.nil=>rfl
 |_,_,.cons (x:=x) (p:=p) (es:=es) _ _ r=>by have q:=uQ r;show List.findIdx? _ ((false,assign (.Name x p) X.env)::assignEach es X.env)=none;rw[Gv];simp[q]
def qw(is:List Nat)(g:GE):GS:=λρ st=>(g ρ st).bM ρ λw st'=>match bdT is w ρ with
 |some ρ'=> .nx ρ' st'
 |none=> .bad
theorem Lg{is:List Nat}(hN:X.N.Nodup)(hc:X.calm=true)(sl:Slots X es is)(h:JE X e g)(hs:swapsWith e (some (.Tuple es k pos')) pos.line X.env=pure false)(hw:swappedStores [.Tuple es k pos'] e X.env=pure none):
  JS X (.Assign [.Tuple es k pos'] e pos) (qw is g) :=
 JS.of (E4 bg (Og hc (uP hN sl) (yc sl) (uQ sl)) (by unfold swapsWithSole;exact hs) hw rfl) λρ st σ H m D S R p=>h.go S R (bf.dS R p) λw st1 v m1 H1 q e1 S1 r1=>by
  cases w with
  |tup ws=>
   have q':bf X m H (match DE is ws ρ with |some ρ'=> .nx ρ' st1 |none=> .bad) D:=q
   cases e2:DE is ws ρ with
   |none=>rw[e2]at q';exact aa q'
   |some ρ'=>rw[e2]at q';unfold ak at r1;obtain⟨a,xs,rfl,f1,f2⟩:=r1;exact⟨a,xs,rfl,gz.of f1,by rw[<-f2.length];exact yb e2,ya f2 (R.mono e1) e2 λσ' R'=>q' σ' m1 H1 e1 S1 R'⟩
  |_=>exact aa q
end
def vX(env:Env):List (Str×ag8)->List (Str×ag5)->List (Str×ag5)
 |[],acc=>acc
 |(n,k)::r,acc=>if k= .free then vX env r ((n,(env.cells.lookup n).getD 0)::acc)else vX env r acc
theorem yd(env:Env):∀(names:List (Str×ag8))(acc:List (Str×ag5)),(∀y∈names,y.2= .free->∃c,env.cells.lookup y.1=some c)->
  (forIn names acc λx r=>match x with
   |(name,kind)=>if(kind == fB)=true then do let c <-cellOf env name;pure (pB ((name,c)::r))else(pure (pB r):Sem _))=pure (vX env names acc)
 |[],acc,_=>rfl
 |(n,k)::r,acc,h=>by
  have ih:=λacc=>yd env r acc λy hy=>h y (b8 _ hy);rw[List.forIn_cons];by_cases hk:k= .free
  ·subst hk;obtain⟨c,e⟩:=h (n,.free) dg rfl;have e':env.cells.lookup n=some c:=e;have cc:cellOf env n=pure c:=by unfold cellOf;rw[e']
   simp only[beq_self_eq_true,if_true,cc];have q:vX env ((n,.free)::r) acc=vX env r ((n,c)::acc):=by show(if fB= .free then vX env r ((n,(env.cells.lookup n).getD 0)::acc)else _)=_;rw[if_pos rfl,e'];rfl
   rw[q,<-ih];rfl
  ·have hb:(k == fB)=false:=by simpa using hk
   simp only[hb,uy,if_false];have q:vX env ((n,k)::r) acc=vX env r acc:=by show(if k= .free then _ else vX env r acc)=_;rw[if_neg hk]
   rw[q,<-ih];rfl
theorem Lh(h:∀y∈scope.names,y.2= .free->∃c,env.cells.lookup y.1=some c):closureFor scope env=pure (vX env scope.names []):=by
 have q:=yd env scope.names [] h;unfold closureFor
 first
  |(rw[<-q];rfl)
  |(simp only[bind_pure];exact q)
theorem vY{env:Env}:∀{names:List (Str×ag8)}{acc:List (Str×ag5)}{y:Str}{c:ag5},(∀y∈names,y.2= .free->∃c,env.cells.lookup y.1=some c)->(∀y c,acc.lookup y=some c->env.cells.lookup y=some c)->(vX env names acc).lookup y=some c->env.cells.lookup y=some c
 |[],acc,y,c,_,ha,e=>ha y c e
 |(n,k)::r,acc,y,c,h,ha,e=>by
  unfold vX at e;by_cases hk:k= .free
  ·rw[if_pos hk]at e;subst hk;obtain⟨c0,e0⟩:=h (n,.free) dg rfl;have e0':env.cells.lookup n=some c0:=e0;refine vY (λy hy=>h y (b8 _ hy)) (λy' c' e'=>?_) e;rw[f6]at e';cases q:y' == n with
   |true=>rw[q]at e';have q':=eq_of_beq q;subst q';rw[e0']at e' ⊢;exact e'
   |false=>rw[q]at e';exact ha y' c' e'
  ·rw[if_neg hk]at e;exact vY (λy hy=>h y (b8 _ hy)) ha e
theorem rO{env:Env}{y:Str}:∀{names:List (Str×ag8)}{acc:List (Str×ag5)},((∃c,acc.lookup y=some c)\/(y,fB)∈names)->∃c,(vX env names acc).lookup y=some c
 |[],acc,h=>by
  rcases h with h |h
  ·exact h
  ·cases h
 |(n,k)::r,acc,h=>by
  unfold vX;by_cases hk:k= .free
  ·rw[if_pos hk];refine rO ?_;rw[f6];cases q:y == n with
   |true=>exact .inl ⟨_,rfl⟩
   |false=>
    rcases h with h |h
    ·exact .inl h
    ·rcases List.mem_cons.mp h with h |h
     ·cases h;simp at q
     ·exact .inr h
  ·rw[if_neg hk];refine rO ?_;rcases h with h |h
   ·exact .inl h
   ·rcases List.mem_cons.mp h with h |h
    ·cases h;exact absurd rfl hk
    ·exact .inr h
theorem lookup_mem{α β:Type}[BEq α][LawfulBEq α]{y:α}{k:β}:∀{names:List (α×β)},names.lookup y=some k->(y,k)∈names
 |[],h=>by cases h
 |(n,j)::r,h=>by
  rw[f6]at h;cases q:y == n with
  |true=>rw[q]at h;cases h;have q':=eq_of_beq q;subst q';exact dg
  |false=>rw[q]at h;exact b8 _ (lookup_mem h)
theorem oE{env:Env}:∀{names:List (Str×ag8)}{y:Str},(names.map λ(n,k)=>if(k == fB&&env.scope.kind == .function&&env.kindOf n == some .cell)then(n,fD)else(n,k)).lookup y=
  (names.lookup y).map λk=>if(k == fB&&env.scope.kind == .function&&env.kindOf y == some .cell)=true then fD else k
 |[],y=>rfl
 |(n,k)::r,y=>by
  have ih:=oE (env:=env) (names:=r) (y:=y);show nr y ((if(k == fB&&env.scope.kind == .function&&env.kindOf n == some .cell)=true then(n,fD)else(n,k))::_)=_;cases q:y == n with
  |true=>
   have q':=eq_of_beq q;subst q';by_cases hc:(k == fB&&env.scope.kind == .function&&env.kindOf y == some .cell)=true
   ·rw[if_pos hc];simp only[f6,beq_self_eq_true,rP];rw[if_pos hc]
   ·rw[if_neg hc];simp only[f6,beq_self_eq_true,rP];rw[if_neg hc]
  |false=>
   by_cases hc:(k == fB&&env.scope.kind == .function&&env.kindOf n == some .cell)=true
   ·rw[if_pos hc];simp only[f6,q];exact ih
   ·rw[if_neg hc];simp only[f6,q];exact ih
open Classical in
def lO(ck:Hs->Prop)(gt:Wv->Hs->Re Bool)(ge:Wv->Hs->Re Wv)(l:Nat):List Wv->Hs->Option Hs
 |[],st=>some st
 |w::r,st=>match gt w st with
  |.ok false st1=>if ck st1 then lO ck gt ge l r st1 else none
  |.ok true st1=>(match ge w st1 with
   |.ok v st2=>(match pI (.ref l) v st2 with
    |.ok _ st3=>if ck st3 then lO ck gt ge l r st3 else none
    |_=>none)
   |_=>none)
  |_=>none
open Classical in
def qx(ck:Hs->Prop)(gt:Wv->Hs->Re Bool)(ge:Wv->Hs->Re Wv)(l:Nat):List Wv->Hs->Re Unit
 |[],st=> .ok () st
 |w::r,st=>match gt w st with
  |.ok false st1=>if ck st1 then qx ck gt ge l r st1 else .bad
  |.ok true st1=>(match ge w st1 with
   |.ok v st2=>(match pI (.ref l) v st2 with
    |.ok _ st3=>if ck st3 then qx ck gt ge l r st3 else .bad
    |_=> .bad)
   |.err c st2=> .err c st2
   |.bad=> .bad)
  |.err c st1=> .err c st1
  |.bad=> .bad
theorem sL{ck:Hs->Prop}{gt:Wv->Hs->Re Bool}{ge:Wv->Hs->Re Wv}{l:Nat}{BE:Hs}:∀(ws:List Wv)(st:Hs),lO ck gt ge l ws st=some BE->qx ck gt ge l ws st= .ok () BE
 |[],st,h=>by cases h;rfl
 |w::r,st,h=>by
  unfold lO at h;unfold qx;cases eg:gt w st with
  |err c st1=>rw[eg]at h;cases h
  |bad=>rw[eg]at h;cases h
  |ok b st1=>
   rw[eg]at h;cases b with
   |false=>
    dsimp only at h ⊢;by_cases c:ck st1
    ·rw[if_pos c]at h ⊢;exact sL r st1 h
    ·rw[if_neg c]at h;cases h
   |true=>
    dsimp only at h ⊢;cases ee:ge w st1 with
    |err c st2=>rw[ee]at h;cases h
    |bad=>rw[ee]at h;cases h
    |ok v st2=>
     rw[ee]at h;dsimp only at h ⊢;cases ea:pI (.ref l) v st2 with
     |err c st3=>rw[ea]at h;cases h
     |bad=>rw[ea]at h;cases h
     |ok u st3=>
      rw[ea]at h;dsimp only at h ⊢;by_cases c:ck st3
      ·rw[if_pos c]at h ⊢;exact sL r st3 h
      ·rw[if_neg c]at h;cases h
abbrev iw:=List (Str×Nat)
def jU(cs:iw)(ρ:bR):bR:=cs.map λp=>(ρ[p.2]?).getD none
def vZ(cs:iw)(σ:St):St:=cs.map λp=>(σ[p.2]?).getD none
theorem Li(cs:iw)(R:aL K m H ρ σ):aL K m H (jU cs ρ) (vZ cs σ):=by
 refine⟨by unfold jU vZ;simp,λi w e=>?_⟩;unfold jU at e;rw[fZ]at e;cases q:cs[i]? with
 |none=>rw[q]at e;cases e
 |some p=>
  rw[q]at e;have e':(ρ[p.2]?).getD none=some w:=by simpa using e
  cases q2:ρ[p.2]? with
  |none=>rw[q2]at e';cases e'
  |some o=>rw[q2]at e';have e2:o=some w:=e';subst e2;obtain⟨v,h1,h2⟩:=R.get _ _ q2;refine⟨v,?_,h2⟩;unfold vZ;rw[fZ,q];simp[h1]
def zq(X:Cx)(scope:Scope)(C:ag5):List (Str×ag5):=cellsFrom (C+1) scope.names (vX X.env scope.names [])
theorem oF:∀{names:List (Str×ag8)}(n:Nat)(acc:List (Str×ag5))(h:Heap),(names.filter λy=>y.2 == .cell)=[]->cellsFrom n names acc=acc/\pushCells h names=h
 |[],_,_,_,_=>⟨rfl,rfl⟩
 |(y,k)::r,n,acc,h,e=>by
  cases q:(k == fD)with
  |true=>rw[Gw (by exact q)]at e;cases e
  |false=>rw[Gx (by show ¬(k == fD)=true;rw[q];exact dh)]at e;unfold cellsFrom pushCells;rw[q];exact oF n acc h e
theorem kf{x:Str}:∀{names:List (Str×ag8)}(n:Nat)(acc:List (Str×ag5))(h:Heap),(names.filter λy=>y.2 == .cell)=[(x,.cell)]->cellsFrom n names acc=(x,n)::acc/\pushCells h names=h.push { cls:=.type "cell",data:=.cell none }
 |[],_,_,_,e=>by cases e
 |(y,k)::r,n,acc,h,e=>by
  cases q:(k == fD)with
  |true=>rw[Gw (by exact q)]at e;have e1:=(List.cons.inj e).1;have e2:=(List.cons.inj e).2;cases e1;unfold cellsFrom pushCells;rw[q];exact oF _ _ _ e2
  |false=>rw[Gx (by show ¬(k == fD)=true;rw[q];exact dh)]at e;unfold cellsFrom pushCells;rw[q];exact kf n acc h e
theorem sM{globals:ag5}{closure:List (Str×ag5)}{Q:Env->aha->Prop}
  (hQ:Q (newEnv scope s.heap.objs.size globals (cellsFrom (s.heap.objs.size+1) scope.names closure) qual none .none (some env) builtinsNs) { s with heap:=pushCells (s.heap.push { cls:=.type "dict",data:=.dict #[] }) scope.names }):
  ahn M A (newFunctionEnv scope globals closure [] qual none .none (some env)) Q E s:=by
 simp only[newFunctionEnv,Option.isSome_some,if_true];refine aho (wpAny_alloc ?_);refine aho (wpAny_layCells _ (λname kind cells=>by cases hkc:kind == fD<;>simp[hkc]) _ _ _ _ ?_);rw[show({ s with heap:=s.heap.push { cls:=.type "dict",data:=.dict #[] } }:aha).heap.objs.size=s.heap.objs.size+1 from zH ..];rw[List.forIn_nil];exact aho (ahs (ahs hQ))
def iD(X:Cx)(scope:Scope)(x:Str)(cs:iw)(C:ag5)(s0:aha)(H0:Hp)(fp:List ag5)(pn:List (ag5×Obj))(E:ahb->aha->Prop):Cx where
 prog:=X.prog
 w:=X.w
 K:=X.K
 mg:=X.mg
 base:=X.base
 A:=X.A
 N:=x::cs.map (·.1)
 s₀:=s0
 H₀:=H0
 env:=compEnvC scope (zq X scope C) C X.env
 outer:=X.stack
 stack:=X.stack
 ex:=fp
 fn:=λy=>scope.names.lookup y == some .cell
 calm:=X.calm
 pn:=pn
 xe:=E
structure dW(X:Cx)(scope:Scope)(x:Str)(cs:iw):Prop where
 kind:scope.kind= .function
 look:∀y∈scope.names,scope.names.lookup y.1=some y.2
 own:(scope.names.filter λy=>y.2 == .cell)=[]\/(scope.names.filter λy=>y.2 == .cell)=[(x,.cell)]
 var:scope.names.lookup x=some .local\/scope.names.lookup x=some .cell
 cap:∀y∈scope.names,y.2= .free->X.env.kindOf y.1=some .cell\/X.env.kindOf y.1=some .free
 at_:∀p∈cs,X.N[p.2]? =some p.1/\scope.names.lookup p.1=some .free
 nd:(x::cs.map (·.1)).Nodup
variable{fp:List ag5}{He:Hp}{se:aha}
section
variable {X:Cx}{pins:List (ag5×Obj)}{σ:St}{H:Hp}{s:aha}{scope:Scope}{x:Str}{cs:iw}
theorem ye(I:Inv X pins σ H s)(f:iG X pins H b):b∉frs X.stack:=λz=>by
 rcases List.mem_cons.mp (I.rZ b z)with q |q
 ·exact f.2.1 q
 ·exact f.2.2.1 q
theorem dW.has(S:dW X scope x cs)(ok:X.Ok):∀y∈scope.names,y.2= .free->∃c,X.env.cells.lookup y.1=some c:=λy hy e=>ok.has y.1 (S.cap y hy e)
theorem dW.Gy(S:dW X scope x cs){y:Str}(e:scope.names.lookup y=some .cell):y=x/\(scope.names.filter λy=>y.2 == .cell)=[(x,.cell)]:=by
 have h:(y,fD)∈scope.names.filter λy=>y.2 == .cell:=List.mem_filter.mpr ⟨lookup_mem e,rfl⟩;rcases S.own with z |z
 ·rw[z]at h;cases h
 ·rw[z]at h;have:=List.mem_singleton.mp h;cases this;exact⟨rfl,z⟩
theorem dW.sub(S:dW X scope x cs)(ok:X.Ok){y:Str}{c:ag5}(e:(zq X scope C).lookup y=some c):(c=C+1/\y=x/\(scope.names.filter λy=>y.2 == .cell)=[(x,.cell)])\/(X.env.cells.lookup y=some c/\scope.names.lookup y≠some .cell):=by
 have old:∀{y:Str}{c:ag5},(vX X.env scope.names []).lookup y=some c->X.env.cells.lookup y=some c:=λe=>vY (S.has ok) (λ_ _ z=>by cases z) e;unfold zq at e;rcases S.own with z |z
 ·rw[(oF _ _ X.base z).1]at e;refine .inr ⟨old e,λq=>?_⟩;rw[(S.Gy q).2]at z;cases z
 ·rw[(kf _ _ X.base z).1,f6]at e;cases q:(y == x)with
  |true=>rw[q]at e;cases e;exact .inl ⟨rfl,eq_of_beq q,z⟩
  |false=>rw[q]at e;exact .inr ⟨old e,λw=>by rw[(S.Gy w).1]at q;simp at q⟩
theorem dW.to(S:dW X scope x cs){y:Str}{c:ag5}(e:(vX X.env scope.names []).lookup y=some c)(n:scope.names.lookup y≠some .cell):(zq X scope C).lookup y=some c:=by
 unfold zq;rcases S.own with z |z
 ·rw[(oF _ _ X.base z).1];exact e
 ·rw[(kf _ _ X.base z).1,f6];have hx:scope.names.lookup x=some .cell:=by
   have hm:(x,fD)∈scope.names.filter λy=>y.2 == .cell:=by rw[z];exact dg
   exact S.look _ (List.mem_filter.mp hm).1
  cases q:(y == x)with
  |true=>exact absurd (by rw[eq_of_beq q];exact hx) n
  |false=>exact e
theorem dW.PJ(S:dW X scope x cs){y:Str}(h:(compEnvC scope (zq X scope C) C X.env).kindOf y=some .cell\/(compEnvC scope (zq X scope C) C X.env).kindOf y=some .free):scope.names.lookup y=some .free\/scope.names.lookup y=some .cell:=by
 have q:(compEnvC scope (zq X scope C) C X.env).kindOf y=(scope.names.lookup y).map λk=>if(k == fB&&X.env.scope.kind == .function&&X.env.kindOf y == some .cell)=true then fD else k:=oE
 rw[q]at h;cases e:scope.names.lookup y with
 |none=>rw[e]at h;simp at h
 |some k=>
  rw[e]at h;simp only[rP,Option.some.injEq]at h;by_cases hk:k= .free
  ·rw[hk];exact .inl rfl
  ·have hb:(k == fB)=false:=by simpa using hk
   rw[hb]at h;simp only[Bool.false_and,uy,if_false]at h;rcases h with h |h
   ·rw[h];exact .inr rfl
   ·exact absurd h hk
theorem dW.Gz(S:dW X scope x cs){y:Str}(e:scope.names.lookup y=some .free):(compEnvC scope (zq X scope C) C X.env).kindOf y=some .cell\/(compEnvC scope (zq X scope C) C X.env).kindOf y=some .free:=by
 have q:(compEnvC scope (zq X scope C) C X.env).kindOf y=(scope.names.lookup y).map λk=>if(k == fB&&X.env.scope.kind == .function&&X.env.kindOf y == some .cell)=true then fD else k:=oE
 rw[q,e];simp only[rP];split
 ·exact .inl rfl
 ·exact .inr rfl
theorem GB{tk:Nat}(S:dW X scope x cs)(I:Inv X pins σ H s)(hf:∀b∈fp,iG X pins H b)(hl:∀b∈fp,b < s.heap.objs.size):
  Inv (iD X scope x cs s.heap.objs.size s H fp (X.pn++pins) E) [] (none::vZ cs σ) H { s with heap:=pushCells (s.heap.push { cls:=.type "dict",data:=.dict #[] }) scope.names,toks:=tk }:=by
 have keep:∀b o,s.heap.get? b=some o->(pushCells (s.heap.push { cls:=.type "dict",data:=.dict #[] }) scope.names).get? b=some o:=λb o e=>pushCells_keeps _ _ b o (bQ _ e);have ns:(pushCells (s.heap.push { cls:=.type "dict",data:=.dict #[] }) scope.names).Ns s.heap.objs.size λ_=>none:=(Heap.Ns.new s.heap (.type "dict")).keeps (pushCells_keeps _ _);have own:(scope.names.filter λy=>y.2 == .cell)=[(x,.cell)]->(pushCells (s.heap.push { cls:=.type "dict",data:=.dict #[] }) scope.names).IsCell (s.heap.objs.size+1) none:=λz=>by rw[(kf 0 [] _ z).2];have:=dR (s.heap.push { cls:=.type "dict",data:=.dict #[] }) (o:={ cls:=.type "cell",data:=.cell none }) rfl;rw[zH]at this;exact⟨_,this,rfl⟩
 generalize (pushCells (s.heap.push { cls:=.type "dict",data:=.dict #[] }) scope.names)=h2 at keep ns own ⊢;have sub:=λ{y:Str}{c:ag5}(e:(zq X scope s.heap.objs.size).lookup y=some c)=>S.sub I.ok e;have cellK:∀y c,X.env.cells.lookup y=some c->∀v,s.heap.IsCell c v->h2.IsCell c v:=λy c _ v ⟨o,ho,hd⟩=>⟨o,keep c o ho,hd⟩;have lt:∀{y:Str}{c:ag5},X.env.cells.lookup y=some c->c < s.heap.objs.size:=λ{y c} e=>by obtain⟨v,z⟩:=I.cell y c e;exact z.lt
 refine⟨⟨I.ok.mod,S.kind,I.ok.glob,I.ok.blt,aA _,(λy z c e1 e2=>?_),λy h=>?_,(λy c e1 e2=>?_),I.ok.hd,I.ok.frames,.inl rfl,λb hb=>⟨cQ (hl b hb),λy c e=>?_⟩,I.bs,b5 I.ok.EO I.sz,λb o e hb=>?_,λb hb=>ye I (hf b hb),I.stack,I.oi⟩,rfl,I.bare,Un.kept keep,⟨_,ns,λi y v e1 e2 e3=>?_⟩,(λy c e=>?_),I.fresh,(λy c e=>?_),λp hp=>?_,I.hok.kept keep,by unfold iD vZ;simp⟩
 ·rcases sub e1 with ⟨q1,q2,_⟩ |⟨q1,_⟩<;>rcases sub e2 with ⟨q3,q4,_⟩ |⟨q3,_⟩
  ·rw[q2,q4]
  ·exact absurd (lt q3) (by rw[q1];exact Nat.not_lt.mpr (rJ _))
  ·exact absurd (lt q1) (by rw[q3];exact Nat.not_lt.mpr (rJ _))
  ·exact I.ok.inj y z c q1 q3
 ·rcases S.PJ h with k |k
  ·obtain⟨c,e⟩:=rO (env:=X.env) (y:=y) (names:=scope.names) (acc:=[]) (.inr (lookup_mem k));exact⟨c,S.to e (by rw[k];decide)⟩
  ·obtain⟨rfl,z⟩:=S.Gy k;refine⟨s.heap.objs.size+1,?_⟩;show(zq X scope s.heap.objs.size).lookup y=_;unfold zq;rw[(kf _ _ s.heap z).1,f6,beq_self_eq_true]
 ·rcases sub e2 with ⟨q1,_,_⟩ |⟨_,q2⟩
  ·rw[q1];exact rJ _
  ·exact absurd (eq_of_beq e1) q2
 ·rcases sub e with ⟨q1,_,_⟩ |⟨q1,_⟩
  ·rw[q1];exact Bm (Nat.lt_succ_of_lt (hl b hb))
  ·exact(hf b hb).2.2.2.2.1 y c q1
 ·rcases(hf b hb).2.2.2.1 with z |z
  ·exact I.ok.CU b o e z
  ·exact absurd (bY (bx e) (b5 I.ok.EO z)) (fX _)
 ·cases i with
  |zero=>cases e2
  |succ i=>
   have uR:(cs.map (·.1))[i]? =some y:=e1;have S_:(vZ cs σ)[i]? =some (some v):=e2;unfold vZ at S_;rw[fZ]at uR S_;cases q:cs[i]? with
   |none=>rw[q]at uR;cases uR
   |some p=>
    rw[q]at uR S_;have y1:p.1=y:=by simpa using uR
    have e4:(σ[p.2]?).getD none=some v:=by simpa using S_
    have e5:σ[p.2]? =some (some v):=by
     cases q2:σ[p.2]? with
     |none=>rw[q2]at e4;cases e4
     |some o=>rw[q2]at e4;have:o=some v:=e4;rw[this]
    have hp:=S.at_ p (List.mem_iff_getElem?.mpr ⟨i,q⟩);rw[y1]at hp;have kd:=S.cap (y,.free) (lookup_mem hp.2) rfl;obtain⟨m,hn,hl'⟩:=I.loc;obtain⟨u,r,l⟩:=hl' p.2 y v hp.1 e5 (.inr kd);refine⟨u,r,.inr ⟨S.Gz hp.2,?_⟩⟩;rcases l with ⟨l,_⟩ |⟨_,c,e,z⟩
    ·rcases kd with kd |kd
     ·have ZA:X.env.kindOf y=some .cell:=kd;rw[ZA]at l;cases l
     ·have ZA:X.env.kindOf y=some .free:=kd;rw[ZA]at l;cases l
    ·obtain⟨c',e'⟩:=rO (env:=X.env) (y:=y) (names:=scope.names) (acc:=[]) (.inr (lookup_mem hp.2));have e6:=S.to (C:=s.heap.objs.size) e' (by rw[hp.2];decide);rcases sub e6 with ⟨_,w1,w2⟩ |⟨w1,_⟩
     ·have hm:(x,fD)∈scope.names.filter λy=>y.2 == .cell:=by rw[w2];exact dg
      have:=S.look _ (List.mem_filter.mp hm).1;rw[<-w1,hp.2]at this;cases this
     ·rw[e]at w1;cases w1;exact⟨c,e6,cellK y c e _ z⟩
 ·rcases sub e with ⟨rfl,_,q2⟩ |⟨q1,_⟩
  ·exact⟨none,own q2⟩
  ·obtain⟨v,z⟩:=I.cell y c q1;exact⟨v,cellK y c q1 v z⟩
 ·rcases sub e with ⟨rfl,_,_⟩ |⟨q1,_⟩
  ·exact I.hok.fresh (rJ _)
  ·exact I.jz y c q1
 ·rw[iX]at hp;obtain⟨e,n,ne,nf,d⟩:=I.pin p hp;refine⟨keep _ _ e,n,cQ (bx e),λz=>?_,d⟩;rcases List.mem_cons.mp (I.rZ p.1 z)with q |q
  ·exact ne q
  ·exact nf q
theorem GC{Hb:Hp}{sb:aha}{σ':St}(I:Inv X pins σ Hb sb)(hf:∀b∈fp,iG X pins Hb b)(J:Inv (iD X scope x cs C sb Hb fp (X.pn++pins) E) lB σ' He se):Inv X pins σ He se:=by have un:Un (frs X.stack) fp Hb He sb.heap se.heap:=J.base;exact I.Mz (ch:=fp) J.os un J.hok J.bare λb hb=>⟨(hf b hb).2.2.2.1,(hf b hb).2.1,(hf b hb).2.2.2.2.1,λp hp=>(hf b hb).2.2.2.2.2 p hp⟩
theorem uS(I:Inv X pins σ He se)(f:iG X pins He C)(same:vm C se.heap h2):Inv X pins σ He { se with heap:=h2 } :=
 I.turned (t':=se.toks) (it:=C) (λb o hb e=>(same.2 b hb).trans e) f.1 f.2.1 f.2.2.2.1 f.2.2.2.2.1 f.2.2.2.2.2
end
def GD(X:Cx):Prop:=∃(env:Env)(outer:List Env)(L:ag5),X.stack=env::outer/\env.frame=some L/\X.env.frame=some L
structure BF(Y:Cx->Prop)(P:ag9)(w:ahc)(K:PySem.W.Frag)(tg:Expr)(J:It)(fp:List ag5)(it:ag5)(tn:Nat->Heap->Prop):Prop where
 obj:∀i h,tn i h->∀b∈fp,∃o,h.get? b=some o/\∀v,o.data≠.cell v
 keep:∀i h h',tn i h->(∀b∈fp,∀o,h.get? b=some o->h'.get? b=some o)->tn i h'
 item:∀(X:Cx),X.prog=P->X.w=w->X.K=K->Y X->∀(i:Nat)(pins:List (ag5×Obj))(s:aha)(σ:St)(H:Hp)(E:ahb->aha->Prop),Inv X pins σ H s->(∀b∈fp,iG X pins H b)->tn i s.heap->J.go i H->ahn (model P w) X.A (pyNext (.ref it)) (λr s1=>∃u,r=some u/\
  ahn (model P w) X.A (letOwnedTupleGo tg (.ref it) u) (λ_ s2=>∃x H',Inv X pins σ H' s2/\RelV x u/\J.EB i H x H'/\tn (i+1) s2.heap/\∀b∈fp,H' b=none) E s1) E s
 done:∀(X:Cx),X.prog=P->X.w=w->X.K=K->Y X->∀(i:Nat)(pins:List (ag5×Obj))(s:aha)(σ:St)(H:Hp)(E:ahb->aha->Prop),Inv X pins σ H s->(∀b∈fp,iG X pins H b)->tn i s.heap->J.stop i H->ahn (model P w) X.A (pyNext (.ref it)) (λr s1=>r=none/\Inv X pins σ H s1) E s
 self:∀(A:ag6)(i:Nat)(s:aha)(Q:ahb->aha->Prop)(E:ahb->aha->Prop),tn i s.heap->Q (.ref it) s->ahn (model P w) A (pyIter (.ref it)) Q E s
abbrev Calm(X:Cx):Prop:=X.calm=true
variable{it:ag5}{tn:Nat->Heap->Prop}
theorem _root_.L2.Turn.y{w:ahc}{J:It}(T:Turn P w K tg J fp it tn):BF Calm P w K tg J fp it tn:=⟨T.obj,T.keep,T.item,T.done,T.self⟩
def Tj(Y:Cx->Prop)(X:Cx):Prop:=∀{pins:List (ag5×Obj)}{σ:St}{H:Hp}{s:aha}(scope:Scope)(x:Str)(cs:iw)(C:ag5)(s0:aha)(fp:List ag5)(pn:List (ag5×Obj))(E:ahb->aha->Prop),Inv X pins σ H s->Y (iD X scope x cs C s0 H fp pn E)
theorem yf(hc:X.calm=true):Tj Calm X:=λ_ _ _ _ _ _ _ _ _=>hc
def PK(X:Cx)(ifs:List Expr)(g:GT):Prop:=∀(ρ:bR)(st:Hs)(σ:St)(H:Hp)(m:Mp)(Q:Bool->Hp->Prop),b4 X.K m st H->aL X.K m H ρ σ->j_ X σ m H (g ρ st) Q->∀(pins:List (ag5×Obj))(s:aha),Inv X pins σ H s->
 ahn (model X.prog X.w) X.A (forIn ifs true λc r=>if r=true then do let ok <-isTrue c X.env (eval c X.env);pure (pB ok)else pure (pB r)) (TP X pins σ Q) X.xe s
variable{Q:ahb->aha->Prop}{cs:iw}{px:Pos}{elt:Expr}{ifs:List Expr}{use:Option (ahb->Sem Unit)}{Y:Cx->Prop}
section
variable {X:Cx}
theorem Lj:PK X [] (λ_ st=> .ok true st):=λρ st σ H m Q S R p pins s I=>wpAny_tests_nil ⟨H,I,p m H Ext.refl S⟩
theorem Aj{ck:Hs->Prop}
  {res:Re Unit}
  {H2:Hp}{s2:aha}(fr:GD X)(S:dW X scope x cs)(hY:Tj Y X)(hH:Ah X)(I2:Inv X pins σ H2 s2)(T:BF Y X.prog X.w X.K (.Name x px) J' fp it tn)(t0:tn 0 s2.heap)(f2:∀b∈fp,iG X pins H2 b)
  (S1:b4 X.K m1 st1 H2)(R:aL X.K m1 H2 ρ σ)(hck:ck (st1++[.lst []]))(run:qx ck (λw=>gt (some w::jU cs ρ)) (λw=>ge (some w::jU cs ρ)) st1.length ws (st1++[.lst []])=res)(nb:res≠.bad)(hx:∀c stE,res≠.err c stE)
  (hE:∀C s0 H0 pn E,DA X.A H0->JE (iD X scope x cs C s0 H0 fp pn E) elt ge)(hT:∀C s0 H0 pn E,DA X.A H0->PK (iD X scope x cs C s0 H0 fp pn E) ifs gt)
  (hgo:∀(k:Nat)(H:Hp)(m':Mp)(st:Hs),Ext X.K m1 H2 m' H->b4 X.K m' st H->ck st->k < ws.length->J'.go k H)(hstop:∀(k:Nat)(H:Hp)(m':Mp)(st:Hs),Ext X.K m1 H2 m' H->b4 X.K m' st H->ck st->k=ws.length->J'.stop k H)
  (hy:∀(k:Nat)(hk:k < ws.length)(H:Hp)(v:V)(H':Hp)(m':Mp)(st:Hs),Ext X.K m1 H2 m' H->b4 X.K m' st H->ck st->J'.EB k H v H'->H'=H/\ak X.K m' H ws[k] v)
  (fin:∀(BE:Hs),res= .ok () BE->∀(D C:ag5)(mm:Str->Option ahb)(m':Mp)(H':Hp)(s':aha),Ext X.K m1 H2 m' H'->b4 X.K m' BE H'->m'[st1.length]? =some D->Inv X pins σ H' s'->iG X pins H' C->s'.heap.Ns C mm->(∀y c,X.env.cells.lookup y=some c->c≠C)->ahh (model X.prog X.w) X.A X.xe use Q (.ref D) C (.ok .next) s'):
  ahn (model X.prog X.w) X.A (newList []) (λacc s3=>ahn (model X.prog X.w) X.A (newFunctionEnv scope X.env.globals (vX X.env scope.names []) [] X.env.qual none .none (some X.env)) (λcenv s4=>
   ahg (model X.prog X.w) X.A (.compStart (.ListComp elt [⟨.Name x px,iter,ifs,0⟩] scope pos) 0 (.ref it) acc { cenv with scope:=relabel scope X.env }) (ahh (model X.prog X.w) X.A X.xe use Q acc cenv.locals) s4) E s3) E s2:=by
 refine wpAny_newList ?_;have I3:Inv X pins σ (upd H2 s2.heap.objs.size (.lst [])) { s2 with heap:=s2.heap.push { cls:=.type "list",data:=.seq ([]:List ahb).toArray } }:=I2.OS (ys:=[]) (its:=[]) (t':=s2.toks) .nil (de _);have lt2:∀b∈fp,b < s2.heap.objs.size:=λb hb=>by obtain⟨o,e,_⟩:=T.obj _ _ t0 b hb;exact bx e
 have hD:H2 s2.heap.objs.size=none:=I2.fresh;have f3:∀b∈fp,iG X pins (upd H2 s2.heap.objs.size (.lst [])) b:=λb hb=>⟨by rw[bj (cQ (lt2 b hb))];exact(f2 b hb).1,(f2 b hb).2⟩;have S3:=S1.alloc (ws:=[]) (xs:=[]) hD ai.nil;have e3:Ext X.K m1 H2 (m1++[s2.heap.objs.size]) (upd H2 s2.heap.objs.size (.lst [])):=Ext.more.trans (Ext.upd (.inl hD));have XD:(m1++[s2.heap.objs.size])[st1.length]? =some s2.heap.objs.size:=by rw[<-S1.len,pD (aA _),vH];rfl
 generalize ZE:({ s2 with heap:=s2.heap.push { cls:=.type "list",data:=.seq ([]:List ahb).toArray } }:aha)=s3 at I3;have k23:∀b o,s2.heap.get? b=some o->s3.heap.get? b=some o:=λb o e=>by rw[<-ZE];exact bQ _ e
 have ZF:∀b∈fp,b < s3.heap.objs.size:=λb hb=>by obtain⟨o,e,_⟩:=T.obj _ _ t0 b hb;exact bx (k23 b o e)
 generalize hDD:s2.heap.objs.size=D at *;generalize hH3:upd H2 D (.lst [])=H3 at *;generalize hm3:m1++[D]=m3 at *;have R3:aL X.K m3 H3 (jU cs ρ) (vZ cs σ):=(Li cs R).mono e3;generalize hrr:jU cs ρ=ρc at *;generalize hss:vZ cs σ=σc at *;refine sM ?_;have Ic:=λE=>GB (E:=E) (tk:=s3.toks) S I3 f3 ZF;have k34:∀b o,s3.heap.get? b=some o->(pushCells (s3.heap.push { cls:=.type "dict",data:=.dict #[] }) scope.names).get? b=some o:=λb o e=>pushCells_keeps _ _ b o (bQ _ e);generalize (pushCells (s3.heap.push { cls:=.type "dict",data:=.dict #[] }) scope.names)=h4 at Ic k34 ⊢;have t4:tn 0 h4:=T.keep _ _ _ t0 λb _ o e=>k34 b o (k23 b o e)
 let EX:ahb->aha->Prop:=notedBy (model X.prog X.w) X.A (compEnvC scope (zq X scope s3.heap.objs.size) s3.heap.objs.size X.env) λe s'=>ahh (model X.prog X.w) X.A X.xe use Q (.ref D) s3.heap.objs.size (.error e) s'
 let Xc:=iD X scope x cs s3.heap.objs.size s3 H3 fp (X.pn++pins) EX
 have noted:∀{σ':St}{m:Mp}{H:Hp}{c:Str}{st:Hs},Ext X.K m1 H2 m H->res= .err c st->SV Xc σ' m H c st:=λ_ er=>(hx _ _ er).elim;have vis:Loc Xc.env.scope x/\(Xc.fn x=true\/Xc.env.scope.names.lookup x=some .local):=by
  rcases S.var with v |v
  ·exact⟨.inl (lookup_relabel_local v),.inr (lookup_relabel_local v)⟩
  ·have q:Xc.env.scope.names.lookup x=some .cell:=by show(scope.names.map _).lookup x=_;rw[oE,v];rfl
   exact⟨.inr q,.inl (by show(scope.names.lookup x == some .cell)=true;rw[v];rfl)⟩
 have ZG:∀(H':Hp),(∀b∈fp,H' b=none)->∀b∈fp,iG Xc [] H' b:=λH' hn b hb=>⟨hn b hb,cQ (ZF b hb),ye I3 (f3 b hb),.inl hb,λy c e=>(by
  rcases S.sub I3.ok e with ⟨q1,_,_⟩ |⟨q1,_⟩
  ·rw[q1];exact Bm (Nat.lt_succ_of_lt (ZF b hb))
  ·exact(f3 b hb).2.2.2.2.1 y c q1),λp hp=>(f2 b hb).2.2.2.2.2 p (by have hp':p∈(X.pn++pins)++[]:=hp;rw[iX]at hp';exact hp')⟩
 let Pv:Nat->aha->Prop:=λk s'=>∃z H' st m',Inv Xc [] (z::σc) H' s'/\tn k s'.heap/\(∀b∈fp,H' b=none)/\Ext X.K m3 H3 m' H'/\b4 X.K m' st H'/\ck st/\qx ck (λw=>gt (some w::ρc)) (λw=>ge (some w::ρc)) st1.length (ws.drop k) st=res
 have loop:∀s4:aha,Pv 0 s4->ahg (model X.prog X.w) X.A (.compLoop (.ListComp elt [⟨.Name x px,iter,ifs,0⟩] scope pos) 0 (.ref it) (.ref D) (compEnvC scope (zq X scope s3.heap.objs.size) s3.heap.objs.size X.env)) (ahh (model X.prog X.w) X.A X.xe use Q (.ref D) s3.heap.objs.size) s4:=λs4 p0=>by
  refine codeAny_compLoop_tests (λn s'=>∃k,n=ws.length - k/\k<=ws.length/\Pv k s') ?_ ws.length ⟨0,by simp,de _,p0⟩;rintro n s5 ⟨k,rfl,hk,z5,H5,Fb,m5,I5,tn5,Xr,e5,S5,c5,fK⟩;have Tn:=e3.trans e5;by_cases hlt:k < ws.length
  ·refine bM (T.item Xc rfl rfl rfl (hY _ _ _ _ _ _ _ _ I3) k [] s5 (z5::σc) H5 _ I5 (ZG H5 Xr) tn5 (hgo k H5 m5 Fb Tn S5 c5 hlt)) λr s6 h6=>?_;obtain⟨u,rfl,h6⟩:=h6;show ahn (model X.prog X.w) X.A (pure () >>= λ_=>assign (.Name x px) Xc.env u) _ _ s6;refine aho (bM h6 λ_ s7 h7=>?_);obtain⟨v,H7,I7,rv,yl,ZH,fr7⟩:=h7;obtain⟨rfl,rw7⟩:=hy k hlt H5 v H7 m5 Fb Tn S5 c5 yl;have XC:=I7.pinned (ZG H7 fr7) (T.obj _ _ ZH);refine wpAny_assign_Name (lC (i:=0) XC S.nd rfl vis.1 rv (λs8 I8=>?_) vis.2);have I8':Inv Xc ([]++iU fp s7.heap) (some v::σc) H7 s8:=I8;have R8:aL X.K m5 H7 (some ws[k]::ρc) (some v::σc):=by
    have R5:=R3.mono e5;refine⟨by simp[R5.len],λi w e=>?_⟩;cases i with
    |zero=>cases e;exact⟨v,rfl,rw7⟩
    |succ i=>exact R5.get i w e
   have ed:ws.drop k=ws[k]::ws.drop (k+1):=vV hlt;rw[ed]at fK;unfold qx at fK;have back:∀{H':Hp}{s':aha}{m':Mp}{st:Hs},Inv Xc ([]++iU fp s7.heap) (some v::σc) H' s'->Ext X.K m3 H3 m' H'->b4 X.K m' st H'->ck st->qx ck (λw=>gt (some w::ρc)) (λw=>ge (some w::ρc)) st1.length (ws.drop (k+1)) st=res->∃n',n' < ws.length - k/\∃k',n'=ws.length - k'/\k'<=ws.length/\Pv k' s' :=
    λ{H' s' m' st} I' e' S' c' r'=>⟨ws.length - (k+1),by omega,k+1,rfl,hlt,some v,H',st,m',I'.oj,T.keep _ _ _ ZH λb hb o e=>(I'.pin (b,o) (kH _ (kH _ (kG hb e)))).1,λb hb=>by obtain⟨o,e,_⟩:=T.obj _ _ ZH b hb;exact(I'.pin (b,o) (kH _ (kH _ (kG hb e)))).2.1,e',S',c',r'⟩
   cases eg:gt (some ws[k]::ρc) Fb with
   |err c To=>rw[eg]at fK;refine ahq (hT s3.heap.objs.size s3 H3 (X.pn++pins) EX (hH.at I3) (some ws[k]::ρc) Fb (some v::σc) H7 m5 (λ_ _=>False) S5 R8 (by rw[eg];exact noted Tn fK.symm) ([]++iU fp s7.heap) s8 I8') (λ_ _ h9=>?_) λ_ _ z=>z;obtain⟨_,_,z⟩:=h9;exact z.elim
   |bad=>rw[eg]at fK;exact absurd fK.symm nb
   |ok b To=>
    rw[eg]at fK;have SY:=hT s3.heap.objs.size s3 H3 (X.pn++pins) EX (hH.at I3) (some ws[k]::ρc) Fb (some v::σc) H7 m5 (λb' H'=>b'=b/\∃m',Ext X.K m5 H7 m' H'/\b4 X.K m' To H') S5 R8 (by rw[eg];exact λm' H' e' S'=>⟨rfl,m',e',S'⟩) ([]++iU fp s7.heap) s8 I8';refine ahq SY (λok s9 h9=>?_) λ_ _ z=>z;obtain⟨H9,I9,rfl,m9,e9,S9⟩:=h9;cases ok with
    |false=>
     dsimp only at fK;by_cases c6:ck To
     ·rw[if_pos c6]at fK;rw[if_neg dh];exact back I9 (e5.trans e9) S9 c6 fK
     ·rw[if_neg c6]at fK;exact absurd fK.symm nb
    |true=>
     dsimp only at fK;rw[if_pos rfl];cases ee:ge (some ws[k]::ρc) To with
     |err c XE=>rw[ee]at fK;refine ahq (hE s3.heap.objs.size s3 H3 (X.pn++pins) EX (hH.at I3) (some ws[k]::ρc) To (some v::σc) H9 m9 (λ_ _=>False) S9 (R8.mono e9) (by rw[ee];exact noted (Tn.trans e9) fK.symm) ([]++iU fp s7.heap) s9 I9) (λ_ _ U4=>?_) λ_ _ z=>z;obtain⟨_,_,_,_,z⟩:=U4;exact z.elim
     |bad=>rw[ee]at fK;exact absurd fK.symm nb
     |ok w XE=>
      rw[ee]at fK;dsimp only at fK;cases ea:pI (.ref st1.length) w XE with
      |err c ZI=>rw[ea]at fK;exact absurd fK.symm nb
      |bad=>rw[ea]at fK;exact absurd fK.symm nb
      |ok w2 ZI=>
       rw[ea]at fK;dsimp only at fK;by_cases c8:ck ZI
       ·rw[if_pos c8]at fK;have el:=hE s3.heap.objs.size s3 H3 (X.pn++pins) EX (hH.at I3) (some ws[k]::ρc) To (some v::σc) H9 m9 (λv' H'=>∃m',Ext X.K m9 H9 m' H'/\b4 X.K m' XE H'/\ak X.K m' H' w v') S9 (R8.mono e9) (by rw[ee];exact λv' m' H' e' S' r'=>⟨m',e',S',r'⟩) ([]++iU fp s7.heap) s9 I9;refine ahq el (λu2 EH U4=>?_) λ_ _ z=>z;obtain⟨v2,PL,I10,r2,ZJ,Tp,S10,ZK⟩:=U4;obtain⟨r,h1,h2⟩:=Gu (X:=Xc);have eA:=(e5.trans e9).trans Tp;have ro:ak X.K ZJ PL (.ref st1.length) (.ref D):=by unfold ak;exact⟨D,rfl,eA.pre _ _ XD⟩
        have rd:=h2 (.ref st1.length) w (.ref D) v2 XE PL ZJ (λ_ H'=>∃m',Ext X.K ZJ PL m' H'/\b4 X.K m' ZI H') S10 ro ZK (by rw[ea];exact λv' m' H' e' S' r'=>⟨m',e',S'⟩);refine ahq (h1 ([]++iU fp s7.heap) EH (some v::σc) PL (.ref D) [v2] (.ref D) [u2] _ I10 rfl (.cons r2 .nil) rd) (λ_ XF h11=>?_) λ_ _ z=>z;obtain⟨_,H11,I11,_,m11,U5,S11⟩:=h11;exact back I11 (eA.trans U5) S11 c8 fK
       ·rw[if_neg c8]at fK;exact absurd fK.symm nb
  ·have ek:k=ws.length:=by omega
   subst ek;refine bM (T.done Xc rfl rfl rfl (hY _ _ _ _ _ _ _ _ I3) _ [] s5 (z5::σc) H5 _ I5 (ZG H5 Xr) tn5 (hstop _ H5 m5 Fb Tn S5 c5 rfl)) λr s6 h6=>?_;obtain⟨rfl,I6⟩:=h6;rw[Gb]at fK;obtain⟨mm,ns6,_⟩:=id I6.loc;have fC:=I3.E8 (H':=H5) (aA _) I6.free;exact fin Fb fK.symm D _ mm m5 H5 _ Tn S5 (e5.pre _ _ XD) (GC I3 f3 I6) fC ns6 fC.2.2.2.2.1
 have p0:Pv 0 { s3 with heap:=h4,toks:=s3.toks }:=⟨none,H3,st1++[Ob.lst []],m3,hss ▸ Ic EX,t4,λb hb=>(f3 b hb).1,Ext.refl,S3,hck,by rw[List.drop_zero];exact run⟩;exact codeAny_compStart_list (loop _ p0) (T.self X.A 0 _ _ _ t4 (loop _ p0))
end
abbrev Wk:=Option Nat×List Wv
def nC(w:Wk)(st:Hs):Prop:=match w.1 with
 |some l=>av st l=some w.2
 |none=>True
structure yg(X:Cx)(w:Wk)(m1:Mp)(H1:Hp)(J':It):Prop where
 go:∀(k:Nat)(H:Hp)(m':Mp)(st:Hs),Ext X.K m1 H1 m' H->b4 X.K m' st H->nC w st->k < w.2.length->J'.go k H
 stop:∀(k:Nat)(H:Hp)(m':Mp)(st:Hs),Ext X.K m1 H1 m' H->b4 X.K m' st H->nC w st->k=w.2.length->J'.stop k H
 EB:∀(k:Nat)(hk:k < w.2.length)(H:Hp)(v:V)(H':Hp)(m':Mp)(st:Hs),Ext X.K m1 H1 m' H->b4 X.K m' st H->nC w st->J'.EB k H v H'->H'=H/\ak X.K m' H w.2[k] v
abbrev GI:=bR->Hs->Re Wk
def ZL(Y:Cx->Prop)(X:Cx)(pins:List (ag5×Obj))(σ:St)(tg:Expr)(R:It->Hp->Prop)(itv:ahb)(s2:aha):Prop :=
 ∃(it:ag5)(fp:List ag5)(tn:Nat->Heap->Prop)(J:It)(H':Hp),itv= .ref it/\Inv X pins σ H' s2/\BF Y X.prog X.w X.K tg J fp it tn/\tn 0 s2.heap/\(∀b∈fp,iG X pins H' b)/\R J H'
def ZM(Y:Cx->Prop)(X:Cx)(tg iter:Expr)(wi:TI):Prop:=∀(pins:List (ag5×Obj))(s:aha)(σ:St)(H:Hp)(R:It->Hp->Prop),Inv X pins σ H s->wi σ H R->
 ahn (model X.prog X.w) X.A (eval iter X.env) (λv s1=>ahn (model X.prog X.w) X.A (pyIter v) (ZL Y X pins σ tg R) X.xe s1) X.xe s
theorem _root_.L2.PI.y{wi:TI}(h:PI X tg iter wi):ZM Calm X tg iter wi:=λpins s σ H R I q=>bM (h pins s σ H R I q) λ_ _ h1=>bM h1 λ_ _ h2=>
 let ⟨it,fp,tn,J,H',e,I',T,r⟩:=h2;⟨it,fp,tn,J,H',e,I',T.y,r⟩
def Tq(Y:Cx->Prop)(X:Cx)(tg iter:Expr)(gi:GI):Prop:=∃wi,ZM Y X tg iter wi/\∀(ρ:bR)(st:Hs)(σ:St)(H:Hp)(m:Mp)(R:It->Hp->Prop),b4 X.K m st H->aL X.K m H ρ σ->
 aE X σ m H (gi ρ st) (λw st1=>∀(m1:Mp)(H1:Hp)(J':It),Ext X.K m H m1 H1->b4 X.K m1 st1 H1->nC w st1->yg X w m1 H1 J'->R J' H1)->wi σ H R
def JI(X:Cx)(tg iter:Expr)(gi:GI):Prop:=∃wi,PI X tg iter wi/\∀(ρ:bR)(st:Hs)(σ:St)(H:Hp)(m:Mp)(R:It->Hp->Prop),b4 X.K m st H->aL X.K m H ρ σ->
 aE X σ m H (gi ρ st) (λw st1=>∀(m1:Mp)(H1:Hp)(J':It),Ext X.K m H m1 H1->b4 X.K m1 st1 H1->nC w st1->yg X w m1 H1 J'->R J' H1)->wi σ H R
variable{gi:GI}
theorem JI.y(h:JI X tg iter gi):Tq Calm X tg iter gi:=let ⟨wi,h1,h2⟩:=h;⟨wi,h1.y,h2⟩
def PM(w:Wv)(st:Hs):Re Wk:=match w with
 |.ref l=>(match av st l with |some ws=> .ok (some l,ws) st |none=> .bad)
 |.tup ws=> .ok (none,ws) st
 |.jS ws=> .ok (none,ws) st
 |_=> .bad
def GF(g:GE):GI:=λρ st=>(g ρ st).bind PM
variable{a:Expr}{more:Hs}
section
variable {X:Cx}
theorem PN(h:JE X iter g):JI X tg iter (GF g):=by
 refine⟨_,Gd bg,λρ st σ H m Q S R p=>?_⟩;refine h.go S R (aE.bind p) λw st1 v m1 H1 p1 e1 S1 rw'=>?_;cases w with
 |ref l=>
  unfold ak at rw';obtain⟨a,rfl,hla⟩:=rw';unfold PM at p1;cases el:av st1 l with
  |none=>simp only[el]at p1;exact aa p1
  |some ws=>
   simp only[el]at p1;obtain⟨Zt,q0,_⟩:=S1.read hla el;refine⟨a,rfl,.inl ⟨⟨Zt,q0⟩,p1 m1 H1 _ e1 S1 el ⟨λk H' m' st' e S' c hk=>?_,λk H' m' st' e S' c hk=>?_,λk hk H' v H'' m' st' e S' c y=>?_⟩⟩⟩
   ·obtain⟨xs,hq,rws⟩:=S'.read (e.pre _ _ hla) c;have hx':k < xs.length:=by rw[<-rws.length];exact hk
    exact⟨xs,xs[k],hq,by simp[hx']⟩
   ·obtain⟨xs,hq,rws⟩:=S'.read (e.pre _ _ hla) c;exact⟨xs,hq,by rw[<-rws.length,hk];exact aA _⟩
   ·obtain⟨xs,hq,rws⟩:=S'.read (e.pre _ _ hla) c;obtain⟨ee,y⟩:=y;refine⟨ee,?_⟩;obtain⟨x',ex',vU⟩:=rws.get (i:=k) (w:=ws[k]) (fg hk);rw[y xs hq]at ex';cases ex';exact vU
 |tup ws=>
  unfold ak at rw';obtain⟨a,xs,rfl,hq,rws⟩:=rw';refine⟨a,rfl,.inr ⟨⟨xs,gz.of hq⟩,p1 m1 H1 _ e1 S1 trivial ⟨λk H' m' st' e S' c hk=>?_,λk H' m' st' e S' c hk=>?_,λk hk H' v H'' m' st' e S' c y=>?_⟩⟩⟩
  ·have hx':k < xs.length:=by rw[<-rws.length];exact hk
   exact⟨xs,xs[k],gz.of (e.tup _ _ hq),by simp[hx']⟩
  ·exact⟨xs,gz.of (e.tup _ _ hq),by rw[<-rws.length,hk];exact aA _⟩
  ·obtain⟨ee,y⟩:=y;refine⟨ee,?_⟩;obtain⟨x',ex',vU⟩:=(ai.mono e _ _ rws).get (i:=k) (w:=ws[k]) (fg hk);rw[y xs (gz.of (e.tup _ _ hq))]at ex';cases ex';exact vU
 |jS ws=>
  unfold ak at rw';obtain⟨a,xs,rfl,hq,rws⟩:=rw';refine⟨a,rfl,.inr ⟨⟨xs,.inr hq⟩,p1 m1 H1 _ e1 S1 trivial ⟨λk H' m' st' e S' c hk=>?_,λk H' m' st' e S' c hk=>?_,λk hk H' v H'' m' st' e S' c y=>?_⟩⟩⟩
  ·have hx':k < xs.length:=by rw[<-rws.length];exact hk
   exact⟨xs,xs[k],.inr hq,by simp[hx']⟩
  ·exact⟨xs,.inr hq,by rw[<-rws.length,hk];exact aA _⟩
  ·obtain⟨ee,y⟩:=y;refine⟨ee,?_⟩;obtain⟨x',ex',vU⟩:=(ai.mono e _ _ rws).get (i:=k) (w:=ws[k]) (fg hk);rw[y xs (.inr hq)]at ex';cases ex';exact vU
 |_=>exact aa p1
theorem GG:yg X (none,gE lo n) m1 H1 (Kb lo n) where
 go:=λk H m' st e S c hk=>by have:(gE lo n).length=n:=iZ;have hk':k < (gE lo n).length:=hk;rw[this]at hk';exact hk'
 stop:=λk H m' st e S c hk=>by have:(gE lo n).length=n:=iZ;have hk':k=(gE lo n).length:=hk;rw[this]at hk';exact rH hk'.symm
 EB:=λk hk H v H' m' st e S c y=>by obtain⟨y1,y2⟩:=y;refine⟨y1,?_⟩;have q:(gE lo n)[k]'hk= .int (lo+k):=x8 hk;show ak X.K m' H ((gE lo n)[k]'hk) v;rw[q,y2];exact mkInt
def BG(ws:List Wv)(st:Hs):Re Wk:=match ws with
 |[.int j]=>if nz j then .ok (none,gE 0 j.toNat) st else .bad
 |_=> .bad
def MT(ws:List Wv)(st:Hs):Re Wk:=match two ws with
 |some (a,j)=>if nz a/\nz j then .ok (none,gE a (j - a).toNat) st else .bad
 |none=> .bad
def Lk(g:GA):GI:=λρ st=>(g ρ st).bind BG
def ZN(g:GA):GI:=λρ st=>(g ρ st).bind MT
theorem U6(hg:Gl X "range")(hm:X.mg "range"=none)(ha:JA X [a] ga)(hst:ahm [a] X.env=[(false,eval a X.env)]):JI X tg (.Call (.Name "range" p) [a] [] q) (Lk ga):=by
 refine⟨_,uB hg hm ll hst,λρ st σ H m Q S R p=>?_⟩;refine ha.go S R (aE.bind p) λws st1 vs m1 H1 p1 e1 S1 rs=>?_
 match ws,rs,p1 with
 |[],rs,p1=>exact aa p1
 |x::y::t,rs,p1=>cases x<;>exact aa p1
 |[x],rs,p1=>
  obtain⟨v,rfl,r1⟩:=ke rs;cases x with
  |int j=>
   cases aZ r1;unfold BG at p1;by_cases c:nz j
   ·simp only[if_pos c]at p1;exact⟨j,rfl,c.1,c.2,p1 m1 H1 _ e1 S1 trivial GG⟩
   ·simp only[if_neg c]at p1;exact aa p1
  |_=>exact aa p1
def GH:GI:=λ_ _=> .bad
theorem GJ:PI X tg iter (λ_ _ _=>False):=λ_ _ _ _ _ _ h=>h.elim
theorem GK:JI X tg iter GH:=⟨_,GJ,λρ st σ H m Q S R p=>p⟩
def f7(cs:iw)(gt:GT)(ge:GE)(ρ:bR)(w:Wk)(st:Hs):Re Wv:=match lO (nC w) (λv=>gt (some v::jU cs ρ)) (λv=>ge (some v::jU cs ρ)) st.length w.2 (st++[.lst []])with
 |some BE=> .ok (.ref st.length) BE
 |none=> .bad
def mZ(cs:iw)(gi:GI)(gt:GT)(ge:GE):GE:=λρ st=>(gi ρ st).bind λw st1=>f7 cs gt ge ρ w st1
theorem DF{l:Nat}(h:av st l=some ws):av (st++more) l=some ws:=by
 unfold av at h ⊢;cases e:st[l]? with
 |none=>rw[e]at h;cases h
 |some o=>have hl:=(List.getElem?_eq_some_iff.mp e).1;rw[jR hl,e];rw[e]at h;exact h
theorem sN{w:Wk}(h:nC w st):nC w (st++more):=by
 obtain⟨o,ws⟩:=w;cases o with
 |none=>trivial
 |some l=>exact DF h
theorem BH{P:Wv->Hs->Prop}
  {ps:Pos}
  (fr:GD X)(CS:dW X scope x cs)(hc:Tj Y X)(hH:Ah X)(hi:Tq Y X (.Name x px) iter gi)(hE:∀C s0 H0 fp pn E,DA X.A H0->JE (iD X scope x cs C s0 H0 fp pn E) elt ge)(hT:∀C s0 H0 fp pn E,DA X.A H0->PK (iD X scope x cs C s0 H0 fp pn E) ifs gt)(hs:∀x,ahj iter X.env x=pure x)
  (S:b4 X.K m st H)(R:aL X.K m H ρ σ)(I:Inv X pins σ H s)(p:aE X σ m H (mZ cs gi gt ge ρ st) P)
  (fin:∀(w:Wv)(BE:Hs)(v:V)(D C:ag5)(mm:Str->Option ahb)(m':Mp)(H':Hp)(s':aha),P w BE->Ext X.K m H m' H'->b4 X.K m' BE H'->ak X.K m' H' w v->v= .ref D->Inv X pins σ H' s'->iG X pins H' C->s'.heap.Ns C mm->ahh (model X.prog X.w) X.A X.xe use Q (.ref D) C (.ok .next) s'):
  ahn (model X.prog X.w) X.A (comprehension (.ListComp elt [⟨.Name x px,iter,ifs,0⟩] scope pos) scope X.env ps (newList []) false (eval iter X.env) use) Q X.xe s:=by
 obtain⟨wi,hpi,hw⟩:=hi
 let R':It->Hp->Prop:=λJ' H1=>∃(w:Wk)(st1:Hs)(m1:Mp),aE X σ m H (f7 cs gt ge ρ w st1) P/\Ext X.K m H m1 H1/\b4 X.K m1 st1 H1/\nC w st1/\yg X w m1 H1 J'
 have hr:=hw ρ st σ H m R' S R ((aE.bind p).imp Ext.refl λw st1 q m1 H1 J' e1 S1 c1 MU=>⟨w,st1,m1,q,e1,S1,c1,MU⟩);refine wpAny_comprehension_free (g:=⟨.Name x px,iter,ifs,0⟩) (gs:=[]) (cl:=vX X.env scope.names []) rfl hs (Lh (CS.has I.ok)) CS.kind (λy hy e=>by rw[CS.look y hy,e]) (bM (hpi pins s σ H R' I hr) λv s1 h1=>bM h1 λitv s2 h2=>?_);obtain⟨it,fp,tn,J',H1,rfl,I2,T,t0,f2,w,st1,m1,q,e1,S1,c1,MU⟩:=h2;unfold f7 at q;cases run:lO (nC w) (λv=>gt (some v::jU cs ρ)) (λv=>ge (some v::jU cs ρ)) st1.length w.2 (st1++[.lst []])with
 |none=>rw[run]at q;exact aa q
 |some BE=>rw[run]at q;refine Aj (use:=use) (Q:=Q) fr CS hc hH I2 T t0 f2 S1 (R.mono e1) (sN c1) (sL _ _ run) (by intro z;cases z) (λc' aeY z=>by cases z) (λC s0 H0 pn E=>hE C s0 H0 fp pn E) (λC s0 H0 pn E=>hT C s0 H0 fp pn E) MU.go MU.stop MU.EB ?_;intro aeZ z D C mm m' H' s' e' S' XD I' fC ns _;cases z;exact fin _ BE (.ref D) D C mm m' H' s' q (e1.trans e') S' (by unfold ak;exact⟨D,rfl,XD⟩) rfl I' fC ns
theorem v_
  (fr:GD X)(CS:dW X scope x cs)(hc:Tj Y X)(hH:Ah X)(hi:Tq Y X (.Name x px) iter gi)(hE:∀C s0 H0 fp pn E,DA X.A H0->JE (iD X scope x cs C s0 H0 fp pn E) elt ge)(hT:∀C s0 H0 fp pn E,DA X.A H0->PK (iD X scope x cs C s0 H0 fp pn E) ifs gt)(hs:∀x,ahj iter X.env x=pure x):
  JE X (.ListComp elt [⟨.Name x px,iter,ifs,0⟩] scope pos) (mZ cs gi gt ge):=λρ st σ H m Q S R p pins s I=>by
 rw[eval_ListComp];refine BH (use:=none) fr CS hc hH hi hE hT hs S R I p ?_;intro w BE v D C mm m' H' s' q e' S' rw' ev I' fC ns;exact⟨mm,ns,λh' same=>⟨.ref D,H',uS I' fC same,rfl,ev ▸ q v m' H' e' S' rw'⟩⟩
theorem BI(i:Nat){y:Str}{spos py:Pos}(hN:X.N.Nodup)
  (fr:GD X)(CS:dW X scope x cs)(hc:Tj Y X)(hH:Ah X)(hi:Tq Y X (.Name x px) iter gi)(hE:∀C s0 H0 fp pn E,DA X.A H0->JE (iD X scope x cs C s0 H0 fp pn E) elt ge)(hT:∀C s0 H0 fp pn E,DA X.A H0->PK (iD X scope x cs C s0 H0 fp pn E) ifs gt)(hs:∀x,ahj iter X.env x=pure x)
  (hx:X.N[i]? =some y)(hl:Loc X.env.scope y)(hf:X.fn y=true\/X.env.scope.names.lookup y=some .local):
  JS X (.Assign [.Name y py] (.ListComp elt [⟨.Name x px,iter,ifs,0⟩] scope pos) spos) (bq i (mZ cs gi gt ge)):=by
 have sw:∃b,swapsWith (.ListComp elt [⟨.Name x px,iter,ifs,0⟩] scope pos) (some (.Name y py)) spos.line X.env=pure b:=⟨_,rfl⟩;obtain⟨b,sw⟩:=sw;cases b with
 |false=>exact F0 i hN (v_ fr CS hc hH hi hE hT hs) hx hl sw hf
 |true=>
  intro ρ st σ H m D S R p pins s I;rw[exec_Assign_Name_used _ _ _ _ sw];refine aho (wpAny_standAt (aho ?_));show ahn _ X.A (do let _ <-comprehension (.ListComp elt [⟨.Name x px,iter,ifs,0⟩] scope pos) scope X.env _ (newList []) false (eval iter X.env) (some (assign (.Name y py) X.env))) _ _ s;refine aho (ahq (BH (use:=some (assign (.Name y py) X.env)) (Q:=λ_ s'=>SP X pins D .next s') fr CS hc hH hi hE hT hs S R I (bf.dS R p) ?_) (λ_ s' hq=>ahs (ahs hq)) λ_ _ e=>e);intro w BE v D' C mm m' H' s' q e' S' rw' ev I' fC ns;refine wpAny_assign_Name (uz (i:=i) I' hN hx hl (show RelV v (.ref D') by rw[ev];rfl) (λs2 I2 h2=>?_) hf);obtain⟨a,sb,ha⟩:=h2;have hca:C≠a:=by
   rcases ha with z |z
   ·rw[z];exact fC.2.1
   ·exact cR (fC.2.2.2.2.1 y a z)
  exact⟨mm,ns.sameBut sb hca,λh' same=>⟨_,_,uS I2 fC same,q _ m' H' e' S' ((R.mono e').set i rw')⟩⟩
end
section
variable {X:Cx}
def PQ(n:Nat)(k:Int):Prop:=-(2 ^ 62)<=k/\k < 2 ^ 62/\n * k.toNat<=lim
instance {n k}:Decidable (PQ n k):=Gf _
def sO:iQ
 |.ref l,.int n,st=>match st[l]? with
  |some (.lst ws)=>if PQ ws.length n then .ok (.ref st.length) (st++[.lst (aR n.toNat ws).flatten])else .bad
  |_=> .bad
 |x,y,st=>MR x y st
theorem pJ{K:PySem.W.Frag}{m:Mp}{H:Hp}{ws:List Wv}{xs:List V}(r:ai K m H ws xs):∀n:Nat,ai K m H (aR n ws).flatten (aR n xs).flatten
 | 0=>ai.nil
 |n+1=>by rw[iY,pG,iY,pG];exact r.append (pJ r n)
theorem Ll:mz X (ahe .Mult) sO:=by
 obtain⟨r,h1,h2⟩:=La (X:=X);refine⟨_,hV.or OU h1,λx y a b st H m Q S rx ry p=>?_⟩;unfold sO at p;split at p
 ·rename_i l n;unfold ak at rx;obtain⟨a1,rfl,hl⟩:=rx;cases aZ ry;cases e:st[l]? with
  |none=>rw[e]at p;exact aa p
  |some o=>
   cases o with
   |dct kvs=>rw[e]at p;exact aa p
   |ED kvs=>rw[e]at p;exact aa p
   |Dl kvs=>rw[e]at p;exact aa p
   |EE kvs=>rw[e]at p;exact aa p
   |FA kvs=>rw[e]at p;exact aa p
   |ins _ _=>rw[e]at p;exact aa p
   |t6 ns=>rw[e]at p;exact aa p
   |lst ws=>
    rw[e]at p;dsimp only at p;by_cases c:PQ ws.length n
    ·rw[if_pos c]at p;obtain⟨xs,q1,q2⟩:=S.sE hl e;refine .inl ⟨a1,n,xs,rfl,rfl,q1,by have:=c.1;omega,by have:=c.2.1;omega,by rw[<-q2.length];exact dE c.2.2,λq hq=>?_⟩;exact lJ p Ext.refl S (pJ q2 n.toNat) q hq
    ·rw[if_neg c]at p;exact aa p
 ·exact .inr (h2 x y a b st H m Q S rx ry p)
def jC:List Wv->Option (List Bool)
 |[]=>some []
 |.bl b::r=>(match jC r with |some l=>some (b::l) |none=>none)
 |_=>none
def qR:List Wv->Hs->Re Wv
 |[.ref l],st=>match av st l with
  |some ws=>(match jC ws with |some bs=> .ok (.bl (bs.all id)) st |none=> .bad)
  |none=> .bad
 |_,_=> .bad
theorem uT{K:PySem.W.Frag}{m:Mp}{H:Hp}:∀{ws:List Wv}{xs:List V}{bs:List Bool},ai K m H ws xs->jC ws=some bs->xs=bs.map V.bl
 |[],xs,bs,r,h=>by unfold ai at r;cases h;exact r
 |w::ws,xs,bs,r,h=>by
  unfold ai at r;obtain⟨x,t,rfl,r1,r2⟩:=r;cases w with
  |bl b=>
   unfold jC at h;cases e:jC ws with
   |none=>rw[e]at h;cases h
   |some l=>rw[e]at h;cases h;unfold ak at r1;rw[r1,uT r2 e];rfl
  |_=>cases h
theorem BJ:∀{bs:List Bool}{its:List ahb},Vals (bs.map V.bl) its->its=bs.map og
 |[],its,r=>by cases r;rfl
 |b::bs,its,r=>by
  cases r with
  |cons h t=>cases h;rw[iT,BJ t]
theorem all_range:∀(bs:List Bool),(nh bs.length).all (λi=>bs.getD i true)=bs.all id
 |[]=>rfl
 |b::bs=>by rw[iV,List.range_succ_eq_map,cC,wa,cC,<-all_range bs];rfl
theorem DG(hc:X.calm=true):fc X (.builtin "all") (λxs H Q=>∃(p:ag5)(bs:List Bool),xs=[.ref p]/\nk X.K H p (bs.map V.bl)/\Q (.bl (bs.all id)) H):=by
 intro pins s σ H xs us Q I r h;obtain⟨p,bs,rfl,hq,q⟩:=h;obtain⟨u,rfl,rx⟩:=vals1 r;cases rx;obtain⟨its,r',pl,hz⟩:=I.list hq;have hb:=BJ r';subst hb;have hl:=pl.isList;have hlt:p < s.heap.objs.size:=by obtain⟨_,e,_⟩:=hl;exact bx e
 refine call_all_walk (wpAny_pyIter_list hl ?_);refine⟨_,_,_,_,_,_,λi=>bs.getD i true,rfl,Walks.list (A:=X.A.in1) (I.ok.hd hc) _ p (cQ hlt) (bs.map og).toArray,⟨⟨_,dR _ rfl,rfl,rfl⟩,hl.push _⟩,?_,λh' tk hk=>?_⟩
 ·intro i v s' Q' E' hP hQ;have U7:(bs.map og).toArray[i]? =some v:=hP;rw[PR,fZ]at U7;cases e:bs[i]? with
  |none=>rw[e]at U7;cases U7
  |some b=>
   rw[e]at U7;cases U7;have:(bs.getD i true)=b:=by rw[Ak,e];rfl
   dsimp only at hQ;rw[this]at hQ;exact aht hQ
 ·have hk':∀b o,s.heap.get? b=some o->h'.get? b=some o:=old_kept hk;refine⟨.bl _,H,I.kept (t':=tk) hk',?_,q⟩;rw[<-all_range bs];simp only[a8,iW];rfl
theorem PU(hc:X.calm=true):ff X (.builtin "all") qR:=⟨_,DG hc,λws vs st H m Q S rs p=>by
 match ws,rs,p with
 |[],rs,p=>exact aa p
 |x::y::t,rs,p=>cases x<;>exact aa p
 |[x],rs,p=>
  obtain⟨v,rfl,r1⟩:=ke rs;cases x with
  |ref l=>
   unfold qR at p;unfold ak at r1;obtain⟨a,rfl,hl⟩:=r1;cases e:av st l with
   |none=>simp only[e]at p;exact aa p
   |some ws=>
    simp only[e]at p;cases e2:jC ws with
    |none=>simp only[e2]at p;exact aa p
    |some bs=>simp only[e2]at p;obtain⟨xs,q1,q2⟩:=S.read hl e;have q3:=uT q2 e2;subst q3;exact⟨a,bs,rfl,q1,p _ m H Ext.refl S ly⟩
  |_=>exact aa p⟩
def yh:List Wv->Hs->Re Wv
 |[.ref l],st=>match av st l with
  |some ws=> .ok (.tup ws) st
  |none=> .bad
 |[.tup ws],st=> .ok (.tup ws) st
 |_,_=> .bad
theorem PV:ff X (.type "tuple") yh:=⟨_,t5,λws vs st H m Q S rs p=>by
 match ws,rs,p with
 |[],rs,p=>exact aa p
 |x::y::t,rs,p=>cases x<;>exact aa p
 |[x],rs,p=>
  obtain⟨v,rfl,r1⟩:=ke rs;cases x with
  |ref l=>
   unfold yh at p;unfold ak at r1;obtain⟨a,rfl,hl⟩:=r1;cases e:av st l with
   |none=>simp only[e]at p;exact aa p
   |some ws=>simp only[e]at p;obtain⟨xs,q1,q2⟩:=S.read hl e;refine⟨a,xs,rfl,.inl ⟨q1,λq hq=>?_⟩⟩;have e2:Ext X.K m H m (upd H q (.tup xs)):=Ext.upd (.inl hq);exact p (.ref q) m _ e2 (S.fresh hq) (by unfold ak;exact⟨q,xs,rfl,bF,ai.mono e2 _ _ q2⟩)
  |tup ws=>have r1':=r1;unfold ak at r1';obtain⟨a,xs,rfl,q1,q2⟩:=r1';exact⟨a,xs,rfl,.inr ⟨gz.of q1,p _ m H Ext.refl S r1⟩⟩
  |_=>exact aa p⟩
end
section
variable {X:Cx}
def jv(ga gb:GE):GE:=λρ st=>match ga ρ st with
  |.bad=>gb ρ st
  |r=>r
theorem GL{ga gb:GE}(ha:JE X e ga)(hb:JE X e gb):JE X e (jv ga gb):=by
  intro ρ st σ H m Q S R p;unfold jv at p;cases e1:ga ρ st with
  |bad=>rw[e1]at p;exact hb ρ st σ H m Q S R p
  |ok w st'=>rw[e1]at p;exact ha ρ st σ H m Q S R (by rw[e1];exact p)
  |err c st'=>rw[e1]at p;exact ha ρ st σ H m Q S R (by rw[e1];exact p)
def intsOf:List Wv->Option (List Int)
  |[]=>some []
  |.int b::r=>(match intsOf r with |some l=>some (b::l) |none=>none)
  |_=>none
theorem sP{K:PySem.W.Frag}{m:Mp}{H:Hp}:∀{ws:List Wv}{xs:List V}{bs:List Int},ai K m H ws xs->intsOf ws=some bs->xs=bs.map V.int
  |[],xs,bs,r,h=>by unfold ai at r;cases h;exact r
  |w::ws,xs,bs,r,h=>by
    unfold ai at r;obtain⟨x,t,rfl,r1,r2⟩:=r;cases w with
    |int b=>
      unfold intsOf at h;cases e:intsOf ws with
      |none=>rw[e]at h;cases h
      |some l=>rw[e]at h;cases h;unfold ak at r1;rw[r1,sP r2 e];rfl
    |_=>cases h
theorem yi:∀{ns:List Int}{its:List ahb},Vals (ns.map V.int) its->∃xs:List (Int×Tok),its=xs.map (λp=>rD p.1 p.2)/\xs.map (·.1)=ns
  |[],its,r=>by cases r;exact⟨[],rfl,rfl⟩
  |n::ns,its,r=>by
    cases r with
    |cons h t=>obtain⟨tk,rfl⟩:=h;obtain⟨xs,e1,e2⟩:=yi t;exact⟨(n,tk)::xs,by rw[e1];rfl,by rw[<-e2];rfl⟩
theorem DH(xs:List (Int×Tok))(i:Nat):numAt xs.toArray i=(xs.map (·.1)).getD i 0:=by unfold numAt;rw[PR,Ak,fZ]
def GN(n:Int)(r:List Int):Int:=r.foldl (λa b=>if b > a then b else a) n
theorem GP:∀(r:List Int)(n:Int),GN n r∈n::r/\∀a∈n::r,a<=GN n r
  |[],n=>by simp[GN]
  |b::r,n=>by
    have e:GN n (b::r)=GN (if b > n then b else n) r:=rfl;obtain⟨h1,h2⟩:=GP r (if b > n then b else n);rw[e];constructor
    · rcases List.mem_cons.mp h1 with z |z
      · rw[z];split<;>simp
      · simp[z]
    · intro a ha;have hn:n<=GN (if b > n then b else n) r/\b<=GN (if b > n then b else n) r:=by have q:=h2 _ dg;revert q;split<;>intro q<;>constructor<;>omega
      rcases List.mem_cons.mp ha with z |z
      · rw[z];exact hn.1
      · rcases List.mem_cons.mp z with z |z
        · rw[z];exact hn.2
        · exact h2 a (b8 _ z)
theorem U8{n M:Int}{r:List Int}(h:M∈n::r)(k:∀a∈n::r,a<=M):M=GN n r:=by obtain⟨h1,h2⟩:=GP r n;have:=h2 M h;have:=k _ h1;omega
theorem DI{l:List Int}(h:i < l.length):l.getD i 0∈l:=by rw[Ak,fg h];exact GQ h
theorem DJ(hc:X.calm=true):fc X (.builtin "max") (λxs H Q=>∃(p:ag5)(n:Int)(ns:List Int),xs=[.ref p]/\nk X.K H p ((n::ns).map V.int)/\Q (.int (GN n ns)) H):=by
  intro pins s σ H xs us Q I r h;obtain⟨p,n,ns,rfl,hq,q⟩:=h;obtain⟨u,rfl,rx⟩:=vals1 r;cases rx;obtain⟨its,r',pl,hz⟩:=I.list hq;obtain⟨xs,rfl,e0⟩:=yi r';have hl:=pl.isList;have e:(xs.map λp=>rD p.1 p.2).toArray=intItems xs.toArray:=by unfold intItems;simp
  rw[e]at hl;have hsz:xs.length=(n::ns).length:=by rw[<-e0];simp
  have hs0:0 < xs.toArray.size:=by simp[hsz]
  refine max_intList (I.ok.hd hc) hl hs0 λv h' tk hv hk=>?_;obtain⟨t,rfl⟩:=intItems_at hv;obtain⟨h1,h2⟩:=PySem.argBest_gt (numAt xs.toArray) (xs.toArray.size - 1);refine⟨.int _,H,I.kept hk,⟨t,?_⟩,q⟩
  congr 1
  have hn:=λi=>DH xs i;rw[e0]at hn;refine U8 ?_ λa ha=>?_
  · rw[hn];refine DI ?_;have:xs.toArray.size=(n::ns).length:=by simp[hsz]
    omega
  · obtain⟨j,hj,rfl⟩:=List.mem_iff_getElem.mp ha
    have q2 := h2 j (by have : xs.toArray.size = (n :: ns).length := by simp [hsz]
                        omega)
    rw[hn j,Ak,fg hj]at q2;exact q2
def sQ:List Wv->Hs->Re Wv
  |[.ref l],st=>match av st l with
    |some ws=>(match intsOf ws with |some (n::r)=> .ok (.int (GN n r)) st |_=> .bad)
    |none=> .bad
  |ws,st=>PF ws st
def U9:List Wv->Hs->Re Wv:=λws st=>Zy ws st
theorem ff.or{f:ahb}{op':List Wv->Hs->Re Wv}(g:List Wv->Hs->Re Wv)(h:ff X f op)(h':ff X f op')(k:∀ws st,g ws st=op ws st\/g ws st=op' ws st):ff X f g:=by
  obtain⟨r,h1,h2⟩:=h;obtain⟨r',MH,h2'⟩:=h';refine⟨_,h1.or MH,λws vs st H m Q S rs p=>?_⟩;rcases k ws st with e |e
  · rw[e]at p;exact .inl (h2 ws vs st H m Q S rs p)
  · rw[e]at p;exact .inr (h2' ws vs st H m Q S rs p)
def GR:List Wv->Hs->Re Wv
  |[.ref l],st=>match av st l with
    |some ws=>(match intsOf ws with |some (n::r)=> .ok (.int (GN n r)) st |_=> .bad)
    |none=> .bad
  |_,_=> .bad
theorem Ln(hc:X.calm=true):ff X (.builtin "max") GR:=⟨_,DJ hc,λws vs st H m Q S rs p=>by
  match ws,rs,p with
  |[],rs,p=>exact aa p
  |x::y::t,rs,p=>cases x<;>exact aa p
  |[x],rs,p=>
    obtain⟨v,rfl,r1⟩:=ke rs;cases x with
    |ref l=>
      unfold GR at p;unfold ak at r1;obtain⟨a,rfl,hl⟩:=r1;cases e:av st l with
      |none=>simp only[e]at p;exact aa p
      |some ws=>
        simp only[e]at p;cases e2:intsOf ws with
        |none=>simp only[e2]at p;exact aa p
        |some bs=>
          cases bs with
          |nil=>simp only[e2]at p;exact aa p
          |cons n bs=>simp only[e2]at p;obtain⟨xs,q1,q2⟩:=S.read hl e;have q3:=sP q2 e2;subst q3;exact⟨a,n,bs,rfl,q1,p _ m H Ext.refl S mkInt⟩
    |_=>exact aa p⟩
theorem Lo(hc:X.calm=true):ff X (.builtin "max") sQ:=ff.or sQ (Ln hc) (PH hc) λws st=>by
  unfold sQ GR;split
  · exact .inl rfl
  · exact .inr rfl
end
section
variable {X:Cx}
def dX(mt:PySem.Str->List Wv->Hs->Re Wv)(go:GE)(ga:GA):GE:=λρ st=>(go ρ st).bind λo st1=>match o with
 |.str z=>(ga ρ st1).bind λws st2=>(mt z ws st2).mv
 |_=> .bad
def Tr(X:Cx)(id:String)(mt:PySem.Str->List Wv->Hs->Re Wv):Prop:=∃r,xI X id r/\∀(z:PySem.Str)(ws:List Wv)(vs:List V)(st:Hs)(H:Hp)(m:Mp)(Q:VK),aW z=true->b4 X.K m st H->ai X.K m H ws vs->dB X.K m H (mt z ws st) Q->r (.str z) vs H Q
theorem oG{o:Expr}{id:String}{mt:PySem.Str->List Wv->Hs->Re Wv}(hm:Tr X id mt)(slot:Slot "str" name id)(hty:typeOf (.builtin id)=pure (.type "method_descriptor"))(ho:JE X o go)(ha:JA X (e::es) ga)
  (hbase:attributeBase o name X.env (eval o X.env)=eval o X.env)
  (hfew:((backTo cpos (ahm (e::es) X.env)).all (λx=> !x.1)&&(backToKw cpos (keywordEach [] X.env)).all (λx=>x.1.isSome)&&decide ((e::es).length+([]:List Keyword).length+(if([]:List Keyword).isEmpty then 0 else 1) < 30))=true)
  (hline:(apos.endLine == cpos.line)=true)(hs:ahm (e::es) X.env=(false,eval e X.env)::ahm es X.env)(hplain:(backTo cpos (ahm es X.env)).any (·.1)=false):
  JE X (.Call (.Attribute o name apos) (e::es) [] cpos) (dX mt go ga):=by
 obtain⟨r,h1,h2⟩:=hm;refine JE.of (Fv PySem.F.plainAttrs_str slot hty h1 bg ll hbase hfew hline hs hplain) λρ st σ H m Q S R p=>?_;refine ho.go S R (aE.bind p) λo st1 v m1 H1 p1 e1 S1 ro=>?_;cases o with
 |str z=>dsimp only at p1;unfold ak at ro;obtain⟨rfl,hz⟩:=ro;refine⟨rfl,?_⟩;refine ha.go S1 (R.mono e1) ((aE.bind p1).imp e1 λ_ _ q=>q) λws st2 vs m2 H2 p2 e2 S2 rs=>?_;exact h2 z ws vs st2 H2 m2 Q hz S2 rs (dB.shift (aE.mv p2) (e1.trans e2))
 |_=>exact aa p1
theorem pK:aW z=true↔∀c∈z.cps.toList,c < 1114112:=by
 unfold aW;rw[MO];constructor
 ·intro h c hc;simpa using h c (Array.mem_toList_iff.mp hc)
 ·intro h c hc;simpa using h c (Array.mem_toList_iff.mpr hc)
end
variable{lo:Option Int}
section
variable {X:Cx}
theorem PX:JF X (λx lo hi H Q=>∃z,x= .str z/\z.length<=ahl/\Q (.str (aY z lo hi)) H):=by
 intro pins s σ H x v vl vu lo hi sl Q I rx hs pl pu h;obtain⟨z,rfl,hz,q⟩:=h;obtain⟨t,rfl⟩:=rx;have fin:∀t' k,EP X pins σ Q (.str (aY z lo hi) t') { s with toks:=k }:=λt' k=>⟨.str _,H,I.tok k,⟨t',rfl⟩,q⟩;refine⟨"str",_,PySem.F.slot_str_getitem.lookup,typeIs_str _ _ _,?_⟩;have hl:=b5 (Txt.slice_le z lo hi) hz;cases pl with
 |none=>
  cases pu with
  |none=>exact wpAny_getItem_str_slice (l:=none) (u:=none) (st:=none) hs rfl (post_val_or_str ⟨hl,fin⟩)
  |int j tj=>exact wpAny_getItem_str_slice (l:=none) (u:=some (j,tj)) (st:=none) hs rfl (post_val_or_str ⟨hl,fin⟩)
 |int i ti=>
  cases pu with
  |none=>exact wpAny_getItem_str_slice (l:=some (i,ti)) (u:=none) (st:=none) hs rfl (post_val_or_str ⟨hl,fin⟩)
  |int j tj=>exact wpAny_getItem_str_slice (l:=some (i,ti)) (u:=some (j,tj)) (st:=none) hs rfl (post_val_or_str ⟨hl,fin⟩)
theorem DK{c:Nat}(h:c∈(aY z lo hi).cps.toList):c∈z.cps.toList:=by
 unfold aY at h;split at h
 ·exact h
 ·simp only[List.mem_filterMap]at h;obtain⟨i,_,e⟩:=h;rw[Array.getElem?_eq_some_iff]at e;obtain⟨hi,rfl⟩:=e;exact Array.mem_toList_iff.mpr (Array.getElem_mem hi)
theorem yj(h:aW z=true):aW (aY z lo hi)=true:=by rw[pK]at h ⊢;exact λc hc=>h c (DK hc)
end
section
open HT
theorem t8{prog:ag9}{w:ahc}{t sl:ag5}{us:Array ahb}{vl vu:ahb}(ht:IsTup s.heap t us)(hs:s.heap.IsSliceOf sl vl vu .none)(pl:IsPart vl lo)(pu:IsPart vu hi)
  (hw:eu us.size 0 lo=0/\eu us.size us.size hi=us.size)(h:Q (.ref t) s):ahn (model prog w) A (getItem (.ref t) (.ref sl)) Q E s:=by
 obtain⟨os,o1,o2,o3⟩:=id hs;have tys:s.TypeIs (.ref sl) "slice":=⟨os,o1,o2⟩;unfold getItem;try with_reducible refine ahp ?_
 first |refine aho (ahs ?_) |skip
 refine aho (wpAny_sequenceKey ht.typeIs (by decide) ?_);refine aho (wpAny_callSpecial?_slot (name:=vx "__getitem__") ht.typeIs vz (wpAny_call_entry vz ht.typeIs entry_tuple_getitem ?_ (args_tuple_getitem _ _)));show ahn _ _ (zr (.ref t) >>= _) _ _ _;refine aho (tupleItemsOf_ ht ?_);refine aho (wpAny_typeOf tys ?_);rw[if_pos (by decide)];refine aho (j8 hs pl pu ?_);rw[hw.1,hw.2];have yes:((((0:Nat):Int)) == 0&&(1:Int) == 1&&(us.size - 0) == us.size)=true:=by simp
 show ahn _ _ (if((((0:Nat):Int)) == 0&&(1:Int) == 1&&(us.size - 0) == us.size)=true then _ else _) _ _ s;rw[if_pos yes];refine aho (m:=PY _) ?_;unfold PY;refine aho (wpAny_typeOf ht.typeIs (ahs ?_));rw[if_pos (by decide)];exact aho (wpAny_rule (ahs ⟨_,rfl,ahs h⟩))
end
variable{ga:GE}
section
variable {X:Cx}
def ZO(K:PySem.W.Frag):V->Option Int->Option Int->Hp->VK->Prop:=λx lo hi H Q=>∃a xs,x= .ref a/\gz K H a xs/\(HT.eu xs.length 0 lo=0/\HT.eu xs.length xs.length hi=xs.length)/\Q (.ref a) H
theorem GU:JF X (ZO X.K):=by
 intro pins s σ H x v vl vu lo hi sl Q I rx hs pl pu h;obtain⟨a,xs,rfl,hx,hw,q⟩:=h;cases rx;obtain⟨its,r,ht,hz⟩:=I.tuple hx;have n:its.toArray.size=xs.length:=by rw[a8];exact r.length.symm
 exact⟨"tuple",_,PyProof.Rows.slot_tuple_getitem.lookup,ht.typeIs,t8 ht hs pl pu (by rw[n];exact hw) ⟨.ref a,H,I,rfl,q⟩⟩
def nD(n:Nat)(lo hi:Option Int):Prop:=HT.eu n 0 lo=0/\HT.eu n n hi=n
instance {n:Nat}{lo hi:Option Int}:Decidable (nD n lo hi):=inferInstanceAs (Decidable (HT.eu n 0 lo=0/\HT.eu n n hi=n))
def oH(x:Wv)(lo hi:Option Int)(st:Hs):Re Wv:=match x with
 |.str z=>if z.length<=lim then .ok (.str (aY z lo hi)) st else .bad
 |.tup ws=>if nD ws.length lo hi then .ok (.tup ws) st else S7 (.tup ws) lo hi st
 |x=>S7 x lo hi st
def cL(ga:GE)(gl gh:GO):GE:=λρ st=>(ga ρ st).bind λx st1=>(gl ρ st1).bind λlo st2=>(gh ρ st2).bind λhi st3=>oH x lo hi st3
theorem DL{lo hi:Option Expr}{gl gh:GO}{p2:Pos}(ha:JE X a ga)(hl:JO X lo gl)(hh:JO X hi gh):JE X (.Subscript a (.Slice lo hi none p2) pos) (cL ga gl gh):=by
 have hS:JE X (.Subscript a (.Slice lo hi none p2) pos) (λρ st=>(ga ρ st).bind λx st1=>(gl ρ st1).bind λlo st2=>(gh ρ st2).bind λhi st3=>match x with |.str z=>if z.length<=lim then .ok (.str (aY z lo hi)) st3 else .bad |_=> .bad):=by
  refine JE.of (sv PX bg uK uK) λρ st σ H m Q S R p=>?_;refine ha.go S R (aE.bind p) λx st1 v m1 H1 p1 e1 S1 rx=>?_;refine hl.go S1 (R.mono e1) ((aE.bind p1).imp e1 λ_ _ q=>q) λl st2 m2 H2 p2 e2 S2=>?_;refine hh.go S2 (R.mono (e1.trans e2)) ((aE.bind p2).imp (e1.trans e2) λ_ _ q=>q) λh st3 m3 H3 p3 e3 S3=>?_;have EF:=e1.trans (e2.trans e3);cases x with
  |str z=>
   dsimp only at p3;by_cases c:z.length<=lim
   ·rw[if_pos c]at p3;unfold ak at rx;obtain⟨rfl,hz⟩:=rx;exact⟨z,rfl,dE c,p3 _ m3 H3 EF S3 (mkStr (yj hz))⟩
   ·rw[if_neg c]at p3;exact aa p3
  |_=>exact aa p3
 have hW:JE X (.Subscript a (.Slice lo hi none p2) pos) (λρ st=>(ga ρ st).bind λx st1=>(gl ρ st1).bind λlo st2=>(gh ρ st2).bind λhi st3=>match x with |.tup ws=>if nD ws.length lo hi then .ok (.tup ws) st3 else S7 (.tup ws) lo hi st3 |_=> .bad):=by
  refine JE.of (sv (JF.or GU Fq) bg uK uK) λρ st σ H m Q S R p=>?_;refine ha.go S R (aE.bind p) λx st1 v m1 H1 p1 e1 S1 rx=>?_;refine hl.go S1 (R.mono e1) ((aE.bind p1).imp e1 λ_ _ q=>q) λl st2 m2 H2 p2 e2 S2=>?_;refine hh.go S2 (R.mono (e1.trans e2)) ((aE.bind p2).imp (e1.trans e2) λ_ _ q=>q) λh st3 m3 H3 p3 e3 S3=>?_;have EF:=e1.trans (e2.trans e3);cases x with
  |tup ws=>
   dsimp only at p3;have vU:=ak.mono (e2.trans e3) _ _ rx;unfold ak at vU;obtain⟨a',xs,rfl,f1,f2⟩:=vU;by_cases c:nD ws.length l h
   ·rw[if_pos c]at p3;unfold nD at c;rw[f2.length]at c;exact .inl ⟨a',xs,rfl,gz.of f1,c,p3 _ m3 H3 EF S3 (by unfold ak;exact⟨a',xs,rfl,f1,f2⟩)⟩
   ·rw[if_neg c]at p3;unfold S7 at p3;dsimp only at p3;unfold nD at c;rw[if_neg c]at p3;rw[f2.length]at c;refine .inr ⟨a',xs,rfl,gz.of f1,c,λq hq=>?_⟩;have eU:Ext X.K m3 H3 m3 (L2.upd H3 q (.tup (tY xs l h))):=Ext.lH (.inl hq);exact p3 (.ref q) m3 _ (EF.trans eU) (S3.fresh hq) (by unfold ak;exact⟨q,_,rfl,L2.bF,ai.mono eU _ _ (vT f2)⟩)
  |_=>exact aa p3
 intro ρ st σ H m Q S R p;unfold cL at p;cases e1:ga ρ st with
 |bad=>rw[e1]at p;exact aa p
 |err c st1=>rw[e1]at p;exact xS ha hl hh ρ st σ H m Q S R (by unfold Ac;rw[e1];exact p)
 |ok x st1=>
  rw[e1]at p;cases x with
  |str z=>exact hS ρ st σ H m Q S R (by dsimp only;rw[e1];exact p)
  |tup ws=>exact hW ρ st σ H m Q S R (by dsimp only;rw[e1];exact p)
  |_=>exact xS ha hl hh ρ st σ H m Q S R (by unfold Ac;rw[e1];exact p)
def fV:iQ
 |.str i,.str j,st=> .ok (.bl (!(fY j i 0 j.length 1).isEmpty)) st
 |x,y,st=>Zp x y st
theorem PZ:mz X (ahi .In) fV:=by
 obtain⟨r,h1,h2⟩:=UO (X:=X);refine⟨_,hV.or C4 h1,λx y a b st H m Q S rx ry p=>?_⟩;unfold fV at p;split at p
 ·rename_i i j;unfold ak at rx ry;obtain⟨rfl,_⟩:=rx;obtain⟨rfl,_⟩:=ry;exact .inl ⟨i,j,rfl,rfl,p _ m H Ext.refl S ly⟩
 ·exact .inr (h2 x y a b st H m Q S rx ry p)
theorem Lp:xI X "str.find" (λx xs H Q=>∃z y,x= .str z/\xs=[.str y]/\Q (.int (Txt.find z y)) H):=by intro pins s σ H x xs v us Q I rx rv h;obtain⟨z,y,rfl,rfl,q⟩:=h;obtain⟨t,rfl⟩:=rx;obtain⟨u,rfl,t',rfl⟩:=vals1 rv;exact SC.find ⟨.int _,H,I.tok _,⟨_,rfl⟩,q⟩
theorem GV:xI X "str.count" (λx xs H Q=>∃z y,x= .str z/\xs=[.str y]/\Q (.int (oI z y)) H):=by intro pins s σ H x xs v us Q I rx rv h;obtain⟨z,y,rfl,rfl,q⟩:=h;obtain⟨t,rfl⟩:=rx;obtain⟨u,rfl,t',rfl⟩:=vals1 rv;exact SC.count ⟨.int _,H,I.tok _,⟨_,rfl⟩,q⟩
theorem GW:xI X "str.index" (λx xs H Q=>∃z y i r,x= .str z/\xs=[.str y]/\fY z y 0 z.length 1=i::r/\Q (.int (i:Nat)) H):=by intro pins s σ H x xs v us Q I rx rv h;obtain⟨z,y,i,r,rfl,rfl,ho,q⟩:=h;obtain⟨t,rfl⟩:=rx;obtain⟨u,rfl,t',rfl⟩:=vals1 rv;exact SC.index ho ⟨.int _,H,I.tok _,⟨_,rfl⟩,q⟩
def MV(z:PySem.Str):List Wv->Hs->Re Wv
 |[.str y],st=> .ok (.int (Txt.find z y)) st
 |_,_=> .bad
def lP(z:PySem.Str):List Wv->Hs->Re Wv
 |[.str y],st=> .ok (.int (oI z y)) st
 |_,_=> .bad
def jV(z:PySem.Str):List Wv->Hs->Re Wv
 |[.str y],st=>(match fY z y 0 z.length 1 with |i::_=> .ok (.int (i:Nat)) st |[]=> .bad)
 |_,_=> .bad
theorem Lq:Tr X "str.find" MV:=⟨_,Lp,λz ws vs st H m Q hz S rs p=>by
 match ws,rs,p with
 |[],rs,p=>exact aa p
 |x::y::t,rs,p=>cases x<;>exact aa p
 |[x],rs,p=>
  obtain⟨v,rfl,r1⟩:=ke rs;cases x with
  |str y=>unfold ak at r1;obtain⟨rfl,_⟩:=r1;exact⟨z,y,rfl,rfl,p _ m H Ext.refl S mkInt⟩
  |_=>exact aa p⟩
theorem GX:Tr X "str.count" lP:=⟨_,GV,λz ws vs st H m Q hz S rs p=>by
 match ws,rs,p with
 |[],rs,p=>exact aa p
 |x::y::t,rs,p=>cases x<;>exact aa p
 |[x],rs,p=>
  obtain⟨v,rfl,r1⟩:=ke rs;cases x with
  |str y=>unfold ak at r1;obtain⟨rfl,_⟩:=r1;exact⟨z,y,rfl,rfl,p _ m H Ext.refl S mkInt⟩
  |_=>exact aa p⟩
theorem GY:Tr X "str.index" jV:=⟨_,GW,λz ws vs st H m Q hz S rs p=>by
 match ws,rs,p with
 |[],rs,p=>exact aa p
 |x::y::t,rs,p=>cases x<;>exact aa p
 |[x],rs,p=>
  obtain⟨v,rfl,r1⟩:=ke rs;cases x with
  |str y=>
   unfold ak at r1;obtain⟨rfl,_⟩:=r1;unfold jV at p;dsimp only at p;cases e:fY z y 0 z.length 1 with
   |nil=>rw[e]at p;exact aa p
   |cons i r=>rw[e]at p;exact⟨z,y,i,r,rfl,rfl,e,p _ m H Ext.refl S mkInt⟩
  |_=>exact aa p⟩
end
open PySem PySem.Spec PyProof.Rows L2 PySem.W
def U_(x:Str):It:=⟨λi _=>i < x.cps.size,λi H v H'=>H'=H/\∃c,x.cps[i]? =some c/\v= .str ⟨#[c]⟩,λi _=>x.cps.size<=i⟩
theorem Al{w:ahc}(x:Str)(t:Tok)(it:ag5):Turn P w K tg (U_ x) [it] it (λi h=>h.IsStrIter it "str_ascii_iterator" x t i) where
 mem:=List.mem_singleton.mpr rfl
 obj:=λi h st b hb=>by cases List.mem_singleton.mp hb;obtain⟨o,e,c,d⟩:=st;exact⟨o,e,λv z=>by rw[d]at z;cases z⟩
 keep:=λi h h' st k=>let ⟨o,e,r⟩:=st;⟨o,k it (List.mem_singleton.mpr rfl) o e,r⟩
 item:=by intro X hP hw hK hc i pins s σ H E I hf st hg;subst hP;subst hw;subst hK;obtain⟨f0,f1,f2,f3,f4,f5⟩:=hf it (List.mem_singleton.mpr rfl);have hi:i < x.cps.size:=hg;refine wpAny_pyNext_ascii_item st (c:=x.cps[i]) (by simp[hi]) λh' st' sb=>?_;have I1:L2.Inv X pins σ H { s with heap:=h',toks:=s.toks+1 }:=I.turned (t':=s.toks+1) (λb o hb e=>sb.extBut b o hb e) f0 f1 f3 f4 f5;obtain⟨o,e,c,d⟩:=id st';exact⟨_,rfl,uA (s:={ s with heap:=h',toks:=s.toks+1 }) e c d (by decide) ⟨.str ⟨#[x.cps[i]]⟩,H,I1,⟨_,rfl⟩,⟨rfl,_,by simp[hi],rfl⟩,st',λb hb=>(hf b hb).1⟩⟩
 done:=by intro X hP hw hK hc i pins s σ H E I hf st hg;subst hP;subst hw;subst hK;obtain⟨f0,f1,f2,f3,f4,f5⟩:=hf it (List.mem_singleton.mpr rfl);have hi:x.cps.size<=i:=hg;exact wpAny_pyNext_ascii_end (I.ok.hd hc) st (by simp[hi]) λh' eb=>⟨rfl,I.turned (t':=s.toks) (λb o hb e=>eb b o hb e) f0 f1 f3 f4 f5⟩
 self:=λ_ _ _ _ _ st h=>wpAny_pyIter_striter_ascii st h
theorem DM{w:ahc}(x:Str)(t:Tok)(it:ag5):Turn P w K tg (U_ x) [it] it (λi h=>h.IsStrIter it "str_iterator" x t i) where
 mem:=List.mem_singleton.mpr rfl
 obj:=λi h st b hb=>by cases List.mem_singleton.mp hb;obtain⟨o,e,c,d⟩:=st;exact⟨o,e,λv z=>by rw[d]at z;cases z⟩
 keep:=λi h h' st k=>let ⟨o,e,r⟩:=st;⟨o,k it (List.mem_singleton.mpr rfl) o e,r⟩
 item:=by intro X hP hw hK hc i pins s σ H E I hf st hg;subst hP;subst hw;subst hK;obtain⟨f0,f1,f2,f3,f4,f5⟩:=hf it (List.mem_singleton.mpr rfl);have hi:i < x.cps.size:=hg;refine wpAny_pyNext_wide_item st (c:=x.cps[i]) (by simp[hi]) λh' st' sb=>?_;have I1:L2.Inv X pins σ H { s with heap:=h',toks:=s.toks+1 }:=I.turned (t':=s.toks+1) (λb o hb e=>sb.extBut b o hb e) f0 f1 f3 f4 f5;obtain⟨o,e,c,d⟩:=id st';exact⟨_,rfl,uA (s:={ s with heap:=h',toks:=s.toks+1 }) e c d (by decide) ⟨.str ⟨#[x.cps[i]]⟩,H,I1,⟨_,rfl⟩,⟨rfl,_,by simp[hi],rfl⟩,st',λb hb=>(hf b hb).1⟩⟩
 done:=by intro X hP hw hK hc i pins s σ H E I hf st hg;subst hP;subst hw;subst hK;obtain⟨f0,f1,f2,f3,f4,f5⟩:=hf it (List.mem_singleton.mpr rfl);have hi:x.cps.size<=i:=hg;exact wpAny_pyNext_wide_end (I.ok.hd hc) st (by simp[hi]) λh' eb=>⟨rfl,I.turned (t':=s.toks) (λb o hb e=>eb b o hb e) f0 f1 f3 f4 f5⟩
 self:=λ_ _ _ _ _ st h=>wpAny_pyIter_striter_wide st h
section
variable {X:Cx}
theorem P0{l:Expr}(hl:PE X l tl):PI X tg l (λσ H R=>tl σ H λv H1=>∃z,v= .str z/\R (U_ z) H1):=by
 intro pins s σ H R I h;refine bM (hl pins s σ H _ I h) λv s1 ⟨x,H1,I1,r1,z,e,q⟩=>?_;subst e;obtain⟨t,rfl⟩:=r1;have frs:∀b∈[s1.heap.objs.size],iG X pins H1 b:=λb hb=>by cases List.mem_singleton.mp hb;exact I1.E8 (aA _) (I1.hok.fresh (aA _))
 cases ha:z.cps.all (· < 128)
 ·exact wpAny_pyIter_wide ha ⟨s1.heap.objs.size,[s1.heap.objs.size],_,_,H1,rfl,I1.kept (t':=s1.toks) λb o e=>bQ _ e,DM z t _,⟨_,dR _ rfl,rfl,rfl⟩,frs,q⟩
 ·exact wpAny_pyIter_ascii ha ⟨s1.heap.objs.size,[s1.heap.objs.size],_,_,H1,rfl,I1.kept (t':=s1.toks) λb o e=>bQ _ e,Al z t _,⟨_,dR _ rfl,rfl,rfl⟩,frs,q⟩
def bo(z:PySem.Str):List Wv:=z.cps.toList.map λc=>Wv.str ⟨#[c]⟩
def sR(w:Wv)(st:Hs):Re Wk:=match w with
 |.str z=> .ok (none,bo z) st
 |w=>PM w st
def jW(g:GE):GI:=λρ st=>(g ρ st).bind sR
theorem P4(hz:aW z=true):yg X (none,bo z) m1 H1 (U_ z) where
 go:=λk H m' st _ _ _ hk=>by
  have:k < z.cps.size:=by simpa [bo]using hk
  exact this
 stop:=λk H m' st _ _ _ hk=>by
  have:k=z.cps.size:=by simpa [bo]using hk
  exact rH this.symm
 EB:=λk hk H v H' m' st _ _ _ y=>by
  obtain⟨rfl,c,hc,rfl⟩:=y;refine⟨rfl,?_⟩;have hk':k < z.cps.size:=by simpa [bo]using hk
  have e:∀h:k < (bo z).length,(bo z)[k]'h= .str ⟨#[z.cps[k]]⟩:=by intro h;simp[bo]
  have hc':z.cps[k]=c:=by simpa [hk']using hc
  show ak X.K m' H' ((bo z)[k]'hk) _;rw[e hk,hc'];refine mkStr ?_;rw[pK]at hz ⊢;intro d hd;simp at hd;rw[hd,<-hc'];exact hz _ (by simp)
theorem BK(h:JE X iter g):JI X tg iter (jW g):=by
 obtain⟨w1,h1,k1⟩:=PN (tg:=tg) h;refine⟨λσ H R=>w1 σ H R\/(SE X iter σ H λv H1=>∃z,v= .str z/\R (U_ z) H1),λpins s σ H R I q=>?_,λρ st σ H m R S RR p=>?_⟩
 ·rcases q with q |q
  ·exact h1 pins s σ H R I q
  ·exact P0 bg pins s σ H R I q
 ·unfold jW at p;cases e:g ρ st with
  |bad=>rw[e]at p;exact aa p
  |err c st'=>rw[e]at p;exact .inl (k1 ρ st σ H m R S RR (by unfold GF;rw[e];exact p))
  |ok w st'=>
   rw[e]at p;cases w with
   |str z=>refine .inr ?_;refine h.go (ok:=λw st1=>w= .str z/\st1=st') S RR (by rw[e];exact⟨rfl,rfl⟩) λw st1 v m1 H1 q e1 S1 r1=>?_;obtain⟨rfl,rfl⟩:=q;unfold ak at r1;obtain⟨rfl,hz⟩:=r1;exact⟨z,rfl,p m1 H1 _ e1 S1 trivial (P4 hz)⟩
   |_=>exact .inl (k1 ρ st σ H m R S RR (by unfold GF;rw[e];exact p))
theorem wb:fc X (.type "int") (λxs H Q=>∃z n,xs=[.str z]/\PySem.intText? z=some n/\z.length<=640/\Q (.int n) H):=by intro pins s σ H xs us Q I r h;obtain⟨z,n,rfl,hn,hl,q⟩:=h;obtain⟨u,rfl,t,rfl⟩:=vals1 r;exact PySem.W.KIN.call_text hn hl ⟨.int n,H,I.tok _,⟨_,rfl⟩,q⟩
def kg:List Wv->Hs->Re Wv
 |[.str z],st=>(match PySem.intText? z with |some n=>if z.length<=640 then .ok (.int n) st else .bad |none=> .bad)
 |ws,st=>U3 ws st
theorem Lr:ff X (.type "int") kg:=by
 obtain⟨r,h1,h2⟩:=PD (X:=X);refine⟨_,wb.or h1,λws vs st H m Q S rs p=>?_⟩;unfold kg at p;split at p
 ·rename_i z;obtain⟨v,rfl,r1⟩:=ke rs;unfold ak at r1;obtain⟨rfl,_⟩:=r1;cases e:PySem.intText? z with
  |none=>rw[e]at p;exact aa p
  |some n=>
   rw[e]at p;dsimp only at p;by_cases c:z.length<=640
   ·rw[if_pos c]at p;exact .inl ⟨z,n,rfl,e,c,p _ m H Ext.refl S mkInt⟩
   ·rw[if_neg c]at p;exact aa p
 ·exact .inr (h2 _ vs st H m Q S rs p)
theorem GZ:xI X "str.split" (λx xs H Q=>∃z y,x= .str z/\xs=[.str y]/\(y.length == 0)=false/\z.length+2<=ahl/\∀l,H l=none->Q (.ref l) (upd H l (.lst ((eQ z y).map V.str)))):=by
 intro pins s σ H x xs v us Q I rx rv h;obtain⟨z,y,rfl,rfl,hy,hz,q⟩:=h;obtain⟨t,rfl⟩:=rx;obtain⟨u,rfl,t',rfl⟩:=vals1 rv;have vv:∀l:List (Str×Tok),Vals ((l.map (·.1)).map V.str) (strValues l):=by
  intro l
  induction l with
  |nil=>exact .nil
  |cons p r ih=>exact .cons ⟨p.2,rfl⟩ ih
 have hn:(G0 z (fY z y 0 z.length (z.length+1)) y.length).length<=ahl:=by have e1:=StrLaws.occ_length_le z y 0 z.length (z.length+1);rw[length_partsBetween];omega
 have fin:∀(l:List (Str×Tok))(k:Nat),l.map (·.1)=eQ z y->l.length<=ahl->EP X pins σ Q (.ref s.heap.objs.size) { s with toks:=k,heap:=s.heap.push { cls:=.type "list",data:=.seq (strValues l).toArray } }:=by intro l k hl hlen;rw[<-hl]at q;refine⟨.ref s.heap.objs.size,_,I.laid (t':=k) (λb o e=>bQ _ e) (aA _) (show iC X.prog X.w _ _ _ (.lst _) from⟨by simpa using hlen,strValues l,0,vv l,dR _ rfl⟩),rfl,q _ (I.hok.fresh (aA _))⟩
 have e0:eQ z y=eQ z y:=rfl;unfold eQ at e0;cases h1:(decide (z.length < y.length)||decide (P5 z < P5 y))with
 |true=>refine call_meets PySem.F.slot_str_split (typeIs_str _ _ _) PySem.F.entry_str_split (PySem.F.args_str_split_2 _ _) (meets_str_split_cannot_occur z y t t' h1) (fin [(z,t)] s.toks ?_ (by show 1<=ahl;decide));unfold eQ;rw[if_pos h1];rfl
 |false=>
  cases hf:(fY z y 0 z.length (z.length+1)).isEmpty with
  |true=>refine call_meets PySem.F.slot_str_split (typeIs_str _ _ _) PySem.F.entry_str_split (PySem.F.args_str_split_2 _ _) (meets_str_split_not_found z y t t' h1 hy hf) (fin [(z,t)] s.toks ?_ (by show 1<=ahl;decide));unfold eQ;rw[if_neg (ne_true_of_eq_false h1),if_pos hf];rfl
  |false=>
   refine call_meets PySem.F.slot_str_split (typeIs_str _ _ _) PySem.F.entry_str_split (PySem.F.args_str_split_2 _ _) (meets_str_split_sep z y t t' h1 hy hf (by omega) hn) ?_;show wants _ _ _ _;rw[strsFrom_eq];refine fin (numbered s.toks _) _ ?_ ?_
   ·rw[numbered_texts];unfold eQ;rw[if_neg (ne_true_of_eq_false h1),if_neg (ne_true_of_eq_false hf)]
   ·have:=congrArg nu (numbered_texts s.toks (G0 z (fY z y 0 z.length (z.length+1)) y.length));rw[iW]at this;omega
theorem Ls{c:Nat}(h:c∈(P6 z i j).cps.toList):c∈z.cps.toList:=by unfold P6 at h;simp only[Array.toList_extract,List.extract_eq_take_drop]at h;exact P7 (P8 h)
theorem yk{y:PySem.Str}(h:aW z=true):∀b∈eQ z y,aW b=true:=by
 intro b hb;have one:∀c∈b.cps.toList,c∈z.cps.toList:=by
  intro c hc;unfold eQ at hb;split at hb
  ·simp at hb;rw[hb]at hc;exact hc
  ·split at hb
   ·simp at hb;rw[hb]at hc;exact hc
   ·unfold G0 at hb;obtain⟨p,_,rfl⟩:=List.mem_map.mp hb;exact Ls hc
 rw[pK]at h ⊢;exact λc hc=>h c (one c hc)
def pL(z:PySem.Str):List Wv->Hs->Re Wv
 |[.str y],st=>if(y.length == 0)=false/\z.length<=lim then .ok (.ref st.length) (st++[.lst ((eQ z y).map Wv.str)])else .bad
 |_,_=> .bad
theorem ym{K:PySem.W.Frag}{m:Mp}{H:Hp}:∀(ys:List PySem.Str),(∀b∈ys,aW b=true)->ai K m H (ys.map Wv.str) (ys.map V.str)
 |[],_=>ai.nil
 |y::r,h=>ai.cons (by unfold ak;exact⟨rfl,h y dg⟩) (ym r λb hb=>h b (b8 _ hb))
theorem G5:Tr X "str.split" pL:=⟨_,GZ,λz ws vs st H m Q hz S rs p=>by
 match ws,rs,p with
 |[],rs,p=>exact aa p
 |x::y::t,rs,p=>cases x<;>exact aa p
 |[x],rs,p=>
  obtain⟨v,rfl,r1⟩:=ke rs;cases x with
  |str y=>
   unfold ak at r1;obtain⟨rfl,_⟩:=r1;unfold pL at p;dsimp only at p;by_cases c:(y.length == 0)=false/\z.length<=lim
   ·rw[if_pos c]at p;refine⟨z,y,rfl,rfl,c.1,?_,λl hl=>lJ p Ext.refl S (ym _ (yk hz)) l hl⟩;have:=c.2;unfold lim at this;rw[sizeLine_eq];omega
   ·rw[if_neg c]at p;exact aa p
  |_=>exact aa p⟩
end
section
variable {X:Cx}
theorem sS{x:V}:∀{xs:List V}{us:List ahb},Vals xs us->xs.all gA=true->us.countP (zS x)=xs.countP λy=>xJ y x
 |_,_,.nil,_=>rfl
 |y::xs,u::us,.cons r t,f=>by rw[cC,b7]at f;rw[Am,Am,sx r f.1,sS t f.2]
theorem DN:xI X "list.count" (λx xs H Q=>∃(p:ag5)(ys:List V)(y:V),x= .ref p/\xs=[y]/\nk X.K H p ys/\gA y=true/\ys.all gA=true/\Q (.int (ys.countP λz=>xJ z y:Nat)) H):=by intro pins s σ H x xs v us Q I rx rv h;obtain⟨p,ys,y,rfl,rfl,hq,fy,fs,q⟩:=h;cases rx;obtain⟨u,rfl,ru⟩:=vals1 rv;obtain⟨its,r,pl,hz⟩:=I.list hq;obtain⟨⟨cls,dd,data,sl⟩,ho,hc,n,hd⟩:=pl.isList;simp only at hc hd;subst hc;subst hd;refine call_meets PySem.F.slot_list_count ⟨_,ho,rfl⟩ PySem.F.entry_list_count (PySem.F.args_list_count_2 _ _) (SeqAt.list_countAt p its.toArray n dd sl u (zS y)) ⟨ho,λw hw=>j9 ru fy r fs w (by simpa using hw),?_⟩;refine⟨.int _,H,I.tok _,⟨s.toks,?_⟩,q⟩;rw[List.toList_toArray,sS r fs]
theorem DO:xI X "list.index" (λx xs H Q=>∃(p:ag5)(ys:List V)(y:V)(j:Nat),x= .ref p/\xs=[y]/\nk X.K H p ys/\gA y=true/\ys.all gA=true/\ys.findIdx? (λz=>xJ z y)=some j/\Q (.int (j:Nat)) H):=by
 intro pins s σ H x xs v us Q I rx rv h;obtain⟨p,ys,y,j,rfl,rfl,hq,fy,fs,hj,q⟩:=h;cases rx;obtain⟨u,rfl,ru⟩:=vals1 rv;obtain⟨its,r,pl,hz⟩:=I.list hq;have hlen:=r.length;obtain⟨⟨cls,dd,data,sl⟩,ho,hc,n,hd⟩:=pl.isList;simp only at hc hd;subst hc;subst hd;rw[P9]at hj;obtain⟨hj1,hj2,ZP⟩:=hj;have at':∀(k:Nat)(h:k < ys.length)(h':k < its.length),zS y its[k]=xJ ys[k] y:=by intro k h h';obtain⟨w,hw,rw'⟩:=r.get (fg h);rw[fg h']at hw;cases hw;exact sx rw' (List.all_eq_true.mp fs _ (GQ h))
 have hs:ahl=16777216:=sizeLine_eq;refine call_meets PySem.F.slot_list_index ⟨_,ho,rfl⟩ PySem.F.entry_list_index (PySem.F.args_list_index_2 _ _) (SeqAt.list_indexAt p its.toArray n dd sl u (zS y) j (by simp;omega) (by omega) ?_ ?_) ⟨ho,λw hw=>j9 ru fy r fs w (by simpa using hw),⟨.int _,H,I.tok _,⟨_,rfl⟩,q⟩⟩
 ·rw[Ao,at' j hj1 (by omega)];exact hj2
 ·intro m hm hlt;rw[Ao,at' m (by omega) (by omega)];simpa using ZP m hlt
def eR(o v:Wv)(st:Hs):Re Wv:=match o with
 |.ref l=>(match av st l with
  |some ws=>if cS v=true/\ws.all cS=true then .ok (.int (ws.countP λz=>Dm z v:Nat)) st else .bad
  |none=> .bad)
 |_=> .bad
def eS(o v:Wv)(st:Hs):Re Wv:=match o with
 |.ref l=>(match av st l with
  |some ws=>if cS v=true/\ws.all cS=true then(match ws.findIdx? (λz=>Dm z v)with |some j=> .ok (.int (j:Nat)) st |none=> .bad)else .bad
  |none=> .bad)
 |_=> .bad
theorem kL{m:Mp}{H:Hp}:∀{ws:List Wv}{xs:List V},ai X.K m H ws xs->ws.all cS=true->xs.all gA=true
 |[],xs,r,_=>by unfold ai at r;subst r;rfl
 |w::ws,xs,r,f=>by unfold ai at r;obtain⟨x,t,rfl,r1,r2⟩:=r;rw[cC,b7]at f ⊢;exact⟨ka r1 f.1,kL r2 f.2⟩
theorem uU{m:Mp}{H:Hp}{v:Wv}{y:V}(rv:ak X.K m H v y)(fv:cS v=true):∀{ws:List Wv}{xs:List V},ai X.K m H ws xs->ws.all cS=true->(xs.countP λz=>xJ z y)=ws.countP λz=>Dm z v
 |[],xs,r,_=>by unfold ai at r;subst r;rfl
 |w::ws,xs,r,f=>by unfold ai at r;obtain⟨x,t,rfl,r1,r2⟩:=r;rw[cC,b7]at f;rw[Am,Am,uU rv fv r2 f.2,vR r1 rv f.1 fv]
theorem sU{m:Mp}{H:Hp}{v:Wv}{y:V}(rv:ak X.K m H v y)(fv:cS v=true):∀{ws:List Wv}{xs:List V},ai X.K m H ws xs->ws.all cS=true->xs.findIdx? (λz=>xJ z y)=ws.findIdx? λz=>Dm z v
 |[],xs,r,_=>by unfold ai at r;subst r;rfl
 |w::ws,xs,r,f=>by unfold ai at r;obtain⟨x,t,rfl,r1,r2⟩:=r;rw[cC,b7]at f;rw[Gv,Gv,sU rv fv r2 f.2,vR r1 rv f.1 fv]
theorem DP:MS X "list.count" eR:=⟨_,DN,λo w x v st H m Q S ro rw' p=>by
 cases o with
 |ref l=>
  unfold ak at ro;obtain⟨a,rfl,ha⟩:=ro;unfold eR at p;cases e:av st l with
  |none=>simp only[e]at p;exact aa p
  |some ws=>
   simp only[e]at p;by_cases c:cS w=true/\ws.all cS=true
   ·rw[if_pos c]at p;obtain⟨xs,q1,q2⟩:=S.read ha e;refine⟨a,xs,v,rfl,rfl,q1,ka rw' c.1,kL q2 c.2,?_⟩;rw[uU rw' c.1 q2 c.2];exact p _ m H Ext.refl S mkInt
   ·rw[if_neg c]at p;exact aa p
 |_=>exact aa p⟩
theorem DQ:MS X "list.index" eS:=⟨_,DO,λo w x v st H m Q S ro rw' p=>by
 cases o with
 |ref l=>
  unfold ak at ro;obtain⟨a,rfl,ha⟩:=ro;unfold eS at p;cases e:av st l with
  |none=>simp only[e]at p;exact aa p
  |some ws=>
   simp only[e]at p;by_cases c:cS w=true/\ws.all cS=true
   ·rw[if_pos c]at p;obtain⟨xs,q1,q2⟩:=S.read ha e;cases ej:ws.findIdx? (λz=>Dm z w)with
    |none=>rw[ej]at p;exact aa p
    |some j=>rw[ej]at p;exact⟨a,xs,v,j,rfl,rfl,q1,ka rw' c.1,kL q2 c.2,by rw[sU rw' c.1 q2 c.2];exact ej,p _ m H Ext.refl S mkInt⟩
   ·rw[if_neg c]at p;exact aa p
 |_=>exact aa p⟩
end
def keyOf:Wv->Option L2.Key
 |.int i=>some (.inl i)
 |.str x=>some (.inr x)
 |.cG=>some .cG
 |_=>none
def Lu{κ:Type}[DecidableEq κ](kvs:List (κ×Wv))(k:κ):Option Wv:=match kvs with
 |[]=>none
 |p::r=>if p.1=k then some p.2 else Lu r k
section
variable {K:PySem.W.Frag}{m:Mp}{H:Hp}{κ:Type}
theorem RelK.nil:RelK (κ:=κ) K m H [] []:=⟨rfl,ai.nil⟩
theorem RelK.cons{k:κ}{w:Wv}{v:V}{kvs:List (κ×Wv)}{xs:List (κ×V)}(h:ak K m H w v)(t:RelK K m H kvs xs):RelK K m H ((k,w)::kvs) ((k,v)::xs) :=
 ⟨by simp[t.1],by simpa using ai.cons h t.2⟩
theorem RelK.nil_inv{xs:List (κ×V)}(h:RelK K m H [] xs):xs=[]:=by
 have:=h.1;cases xs with
 |nil=>rfl
 |cons a b=>simp at this
theorem RelK.cons_inv{p:κ×Wv}{kvs:List (κ×Wv)}{xs:List (κ×V)}(h:RelK K m H (p::kvs) xs):∃v t,xs=(p.1,v)::t/\ak K m H p.2 v/\RelK K m H kvs t:=by
 obtain⟨h1,h2⟩:=h;cases xs with
 |nil=>simp at h1
 |cons q t=>simp at h1 h2;unfold ai at h2;obtain⟨x,r,e1,e2,e3⟩:=h2;cases e1;exact⟨q.2,t,by rw[h1.1],e2,h1.2,e3⟩
theorem RelK.length{kvs:List (κ×Wv)}{xs:List (κ×V)}(h:RelK K m H kvs xs):kvs.length=xs.length:=by have:=congrArg nu h.1;simpa using this
variable [DecidableEq κ]
theorem RelK.snoc:∀{kvs:List (κ×Wv)}{xs:List (κ×V)}(k:κ){w:Wv}{v:V},RelK K m H kvs xs->ak K m H w v->RelK K m H (kvs++[(k,w)]) (xs++[(k,v)])
 |[],xs,k,w,v,h,r=>by rw[h.nil_inv];exact RelK.cons r RelK.nil
 |p::kvs,xs,k,w,v,h,r=>by obtain⟨u,t,rfl,h1,h2⟩:=h.cons_inv;exact RelK.cons h1 (RelK.snoc k h2 r)
end
def uV:List Wv->List V->Prop
 |[],[]=>True
 |.int i::r,.int j::t=>i=j/\uV r t
 |.str x::r,.str y::t=>(x=y/\aW x=true)/\uV r t
 |_,_=>False
theorem uV.rel:∀{ws:List Wv}{vs:List V},uV ws vs->ai K m H ws vs
 |[],[],_=>ai.nil
 |.int i::r,.int j::t,h=>by obtain⟨rfl,h⟩:=h;exact ai.cons (by unfold ak;rfl) h.rel
 |.str x::r,.str y::t,h=>by obtain⟨⟨rfl,hx⟩,h⟩:=h;exact ai.cons (by unfold ak;exact⟨rfl,hx⟩) h.rel
 |[],_::_,h=>aa h
 |.int i::r,[],h=>aa h
 |.str i::r,[],h=>aa h
 |.int i::r,.str _::_,h=>aa h
 |.str i::r,.int _::_,h=>aa h
def qy(K:PySem.W.Frag):Wv->ahb->Prop
 |.int i,u=>∃t,u= .int i t
 |.str x,u=>(∃t,u= .str x t)/\aW x=true
 |.jS ws,u=>∃(a:ag5)(vs:List V),u= .ref a/\Ur K a vs/\uV ws vs
 |_,_=>False
def XG:Wv->ahb->V
 |.int i,_=> .int i
 |.str x,_=> .str x
 |_,.ref a=> .ref a
 |_,_=> .cG
theorem qy.v:∀{w:Wv}{u:ahb},qy K w u->RelV (XG w u) u
 |.int i,u,h=>by obtain⟨t,rfl⟩:=h;exact⟨t,rfl⟩
 |.str x,u,h=>by obtain⟨⟨t,rfl⟩,_⟩:=h;exact⟨t,rfl⟩
 |.jS ws,u,h=>by obtain⟨a,vs,rfl,_⟩:=h;rfl
theorem qy.w{K:PySem.W.Frag}{m:Mp}{H:Hp}:∀{w:Wv}{u:ahb},qy K w u->ak K m H w (XG w u)
 |.int i,u,h=>by unfold ak;rfl
 |.str x,u,h=>by unfold ak;exact⟨rfl,h.2⟩
 |.jS ws,u,h=>by obtain⟨a,vs,rfl,h1,h2⟩:=h;unfold ak;exact⟨a,vs,rfl,h1,h2.rel⟩
abbrev Dc:=List (PySem.Str×Wv)
def wc(K:PySem.W.Frag)(w:ahc):Dc->List DictEntry->Prop
 |[],[]=>True
 |(k,v)::r,e::t=>(e.hash=hashStr w k/\(∃tk,e.key= .str k tk)/\qy K v e.val)/\wc K w r t
 |_,_=>False
def pM(K:PySem.W.Frag)(w:ahc)(mg:Str->Option ahb)(x:Str)(kvs:Dc):Prop :=
 ∃(a:ag5)(es:Array DictEntry)(ep:Nat),mg x=some (.ref a)/\K.lookup a=some ⟨.type "dict",none,.dict es ep,#[]⟩/\(a == sysModules)=false/\wc K w kvs es.toList/\(kvs.map (·.1)).Nodup
theorem yo{P:ag9}{w:ahc}{K:PySem.W.Frag}:∀{kvs:Dc}{l:List DictEntry},wc K w kvs l->∃vs:List (PySem.Str×ahb),vs.map (·.1)=kvs.map (·.1)/\Pairs (PySem.strKind P w) l vs/\(∀e∈l,∃k,(PySem.strKind P w).is k e.key=true/\e.hash=(PySem.strKind P w).hash k)/\
  ∀k,(kvs.lookup k=none->valueAt vs k=none)/\∀v,kvs.lookup k=some v->∃u,valueAt vs k=some u/\qy K v u
 |[],[],_=>⟨[],rfl,.nil,(λ_ z=>by cases z),λk=>⟨λ_=>rfl,(λv z=>by cases z)⟩⟩
 |(k,v)::r,e::t,h=>by
  obtain⟨⟨h1,⟨tk,h2⟩,h3⟩,h4⟩:=h;obtain⟨vs,i1,i2,i3,i4⟩:=yo (P:=P) h4;have his:(PySem.strKind P w).is k e.key=true:=by rw[h2];exact strKind_is P w k tk
  refine⟨(k,e.val)::vs,by simp[i1],.cons his rfl i2,λe' he=>?_,λk'=>?_⟩
  ·rcases List.mem_cons.mp he with z |z
   ·subst z;exact⟨k,his,h1⟩
   ·exact i3 e' z
  ·rw[f6];unfold valueAt;rw[List.find?_cons];by_cases ek:k=k'
   ·subst ek;have b1:(k == k)=true:=by simp
    rw[b1];simp only[decide_true,rP];exact⟨(λz=>by cases z),λv' z=>⟨e.val,rfl,by cases z;exact h3⟩⟩
   ·have b1:(k' == k)=false:=beq_eq_false_iff_ne.mpr λz=>ek z.symm;rw[b1];simp only[ek,decide_false];exact i4 k'
 |[],_::_,h=>aa h
 |_::_,[],h=>aa h
variable{w:ahc}{kvs:Dc}
theorem wd{a:ag5}{es:Array DictEntry}{ep:Nat}(KX:K.In h)(hl:K.lookup a=some ⟨.type "dict",none,.dict es ep,#[]⟩)(he:wc K w kvs es.toList)(nd:(kvs.map (·.1)).Nodup):
  ∃vs:List (PySem.Str×ahb),h.DictOf (PySem.strKind P w) a vs/\∀k,(kvs.lookup k=none->valueAt vs k=none)/\∀v,kvs.lookup k=some v->∃u,valueAt vs k=some u/\qy K v u:=by
 obtain⟨vs,i1,i2,i3,i4⟩:=yo (P:=P) he;exact⟨vs,⟨_,es,ep,KX a _ hl,⟨rfl,rfl,rfl⟩,rfl,λe hm=>i3 e (by simpa using hm),i2,by rw[i1];exact nd⟩,i4⟩
variable{i:Expr}{ty:TE}{neg:Bool}
section
variable {X:Cx}
def kj(neg:Bool)(kvs:Dc)(ga:GE):GE:=λρ st=>(ga ρ st).bind λa st1=>match a with
 |.str k=> .ok (.bl ((kvs.lookup k).isSome != neg)) st1
 |_=> .bad
def sV(kvs:Dc)(ga:GE):GE:=λρ st=>(ga ρ st).bind λa st1=>match a with
 |.str k=>(match kvs.lookup k with |some w=> .ok w st1 |none=> .bad)
 |_=> .bad
def G6(neg:Bool)(kvs:Dc)(ty:TE):TE:=λσ H Q=>ty σ H λy H1=>∃z,y= .str z/\Q (.bl ((kvs.lookup z).isSome != neg)) H1
theorem G7(hi:PE X i ty)(hg:Gl X x)(hd:(x == ("__debug__":Str))=false)(D:pM X.K X.w X.mg x kvs):PC X .In i (.Name x p) (G6 false kvs ty):=by
 intro pins s σ H Q I h;obtain⟨a,es,ep,g1,g2,g3,g4,g5⟩:=D;refine bM (hi pins s σ H _ I h) λiv s1 ⟨y,H1,I1,ry,z,ey,q1⟩=>bM (jA (v:=.ref a) hg g1 rfl hd pins s1 σ H1 (λv H2=>v= .ref a/\H2=H1) I1 ⟨rfl,rfl⟩) λu s2 ⟨v,H2,I2,rv,ev,eH⟩=>?_;subst ey ev eH;obtain rfl:u=bz a:=rv;obtain⟨t,rfl⟩:=(show ∃t,iv=oa z t from ry);obtain⟨vs,dd,look⟩:=wd (P:=X.prog) (w:=X.w) I2.pz g2 g4 g5;refine wpAny_in_of (strKind_is X.prog X.w z t) g3 dd.mapOf ⟨.bl (kvs.lookup z).isSome,_,I2.tok _,?_,by simpa using q1⟩;obtain⟨l1,l2⟩:=look z;cases e:kvs.lookup z with
 |none=>rw[l1 e];rfl
 |some w=>obtain⟨u,e1,_⟩:=l2 w e;rw[e1];rfl
theorem uW(hi:PE X i ty)(hg:Gl X x)(hd:(x == ("__debug__":Str))=false)(D:pM X.K X.w X.mg x kvs):PC X .NotIn i (.Name x p) (G6 true kvs ty):=by
 intro pins s σ H Q I h;obtain⟨a,es,ep,g1,g2,g3,g4,g5⟩:=D;refine bM (hi pins s σ H _ I h) λiv s1 ⟨y,H1,I1,ry,z,ey,q1⟩=>bM (jA (v:=.ref a) hg g1 rfl hd pins s1 σ H1 (λv H2=>v= .ref a/\H2=H1) I1 ⟨rfl,rfl⟩) λu s2 ⟨v,H2,I2,rv,ev,eH⟩=>?_;subst ey ev eH;obtain rfl:u=bz a:=rv;obtain⟨t,rfl⟩:=(show ∃t,iv=oa z t from ry);obtain⟨vs,dd,look⟩:=wd (P:=X.prog) (w:=X.w) I2.pz g2 g4 g5;refine wpAny_notIn_of (strKind_is X.prog X.w z t) g3 dd.mapOf ⟨.bl (!(kvs.lookup z).isSome),_,I2.tok _,?_,by simpa using q1⟩;obtain⟨l1,l2⟩:=look z;cases e:kvs.lookup z with
 |none=>rw[l1 e];rfl
 |some w=>obtain⟨u,e1,_⟩:=l2 w e;rw[e1];rfl
theorem mE(ha:JE X a ga){Q:VK}(S:b4 X.K m st H)(R:aL X.K m H ρ σ)(p:dA X σ m H (kj neg kvs ga ρ st) Q):G6 neg kvs (SE X a) σ H Q:=by
 refine ha.go S R (aE.bind p) λw st1 v m1 H1 p1 e1 S1 r1=>?_;cases w with
 |str k=>unfold ak at r1;exact⟨k,r1.1,p1 _ m1 H1 e1 S1 (by unfold ak;rfl)⟩
 |_=>exact aa p1
theorem Lv(ha:JE X a ga)(hg:Gl X x)(hd:(x == ("__debug__":Str))=false)(D:pM X.K X.w X.mg x kvs):JE X (.Compare a [.In] [.Name x p] pos) (kj false kvs ga) :=
 JE.of (ES (G7 bg hg hd D) rfl) λρ st σ H m Q S R p=>mE ha S R p
theorem Ap(ha:JE X a ga)(hg:Gl X x)(hd:(x == ("__debug__":Str))=false)(D:pM X.K X.w X.mg x kvs):JE X (.Compare a [.NotIn] [.Name x p] pos) (kj true kvs ga) :=
 JE.of (ES (uW bg hg hd D) rfl) λρ st σ H m Q S R p=>mE ha S R p
theorem Lw(ha:JE X a ga)(hg:Gl X x)(hd:(x == ("__debug__":Str))=false)(D:pM X.K X.w X.mg x kvs):JT X (.Compare a [.In] [.Name x p] pos) (bp (kj false kvs ga)) :=
 JT.of (EU (G7 bg hg hd D) rfl) λρ st σ H m Q S R p=>mE ha S R (ou p)
theorem Aq(ha:JE X a ga)(hg:Gl X x)(hd:(x == ("__debug__":Str))=false)(D:pM X.K X.w X.mg x kvs):JT X (.Compare a [.NotIn] [.Name x p] pos) (bp (kj true kvs ga)) :=
 JT.of (EU (uW bg hg hd D) rfl) λρ st σ H m Q S R p=>mE ha S R (ou p)
def U'(K:PySem.W.Frag)(kvs:Dc)(ty:TE):TE:=λσ H Q=>ty σ H λy H1=>∃z w,y= .str z/\kvs.lookup z=some w/\∀u,qy K w u->Q (XG w u) H1
theorem Lx{b:Expr}(hb:PE X b ty)(hs:OX b)(hg:Gl X x)(hd:(x == ("__debug__":Str))=false)(D:pM X.K X.w X.mg x kvs):PE X (.Subscript (.Name x p) b pos) (U' X.K kvs ty):=by intro pins s σ H Q I h;obtain⟨a,es,ep,g1,g2,g3,g4,g5⟩:=D;refine KG PySem.F.slot_dict_getitem.lookup hs (bM (jA (v:=.ref a) hg g1 rfl hd pins s σ H (λv H2=>v= .ref a/\H2=H) I ⟨rfl,rfl⟩) λu s1 ⟨v,H1,I1,rv,ev,eH⟩=>?_);subst ev eH;obtain rfl:u=bz a:=rv;refine bM (hb pins s1 σ H1 _ I1 h) λiv s2 ⟨y,H2,I2,ry,z,w,ey,ew,q⟩=>?_;subst ey;obtain⟨t,rfl⟩:=(show ∃t,iv=oa z t from ry);obtain⟨vs,dd,look⟩:=wd (P:=X.prog) (w:=X.w) I2.pz g2 g4 g5;obtain⟨u,e1,e2⟩:=(look z).2 w ew;exact⟨dd.typeIs,wpAny_getItem_of (strKind_is X.prog X.w z t) dd.mapOf e1 ⟨XG w u,H2,I2.tok _,e2.v,q u e2⟩⟩
theorem Ly{b:Expr}{gb:GE}(hb:JE X b gb)(hs:OX b)(hg:Gl X x)(hd:(x == ("__debug__":Str))=false)(D:pM X.K X.w X.mg x kvs):JE X (.Subscript (.Name x p) b pos) (sV kvs gb) :=
 JE.of (Lx bg hs hg hd D) λρ st σ H m Q S R p=>by
  refine hb.go S R (aE.bind p) λw st1 v m1 H1 p1 e1 S1 r1=>?_;cases w with
  |str k=>
   dsimp only at p1;cases e:kvs.lookup k with
   |none=>rw[e]at p1;exact aa p1
   |some u=>rw[e]at p1;unfold ak at r1;exact⟨k,u,r1.1,e,λv h=>p1 _ m1 H1 e1 S1 h.w⟩
  |_=>exact aa p1
end
open PySem PySem.Spec PyProof.Rows PySem.W L2
section
variable {lt:Nat->Nat->Bool}{N:Nat}
abbrev at_(p:Array Nat)(i:Nat):Nat:=p.getD i 0
end
section
variable {X:Cx}
abbrev pw(p:Int×Int):Wv:=.tup [.int p.1,.int p.2]
end
def keysOf:List Wv->Option (List L2.Key)
 |[]=>some []
 |w::r=>(match keyOf w,keysOf r with |some k,some l=>some (k::l) |_,_=>none)
def Va:Wv->Option (List L2.Key)
 |.tup ws=>keysOf ws
 |_=>none
open PySem L2 PyProof.Rows
variable {X:Cx}
def oLe:iQ:=λx y st=>UA x y st
theorem P_(hu:X.A.units+64 < cLine):mz X (ahi .LtE) oLe:=UE
def Vb:iQ:=λx y st=>Uz x y st
theorem Qa(hu:X.A.units+64 < cLine):mz X (ahi .Lt) Vb:=UD
structure gB(k:Nat)(A:ag6):Prop where
 d:A.depth+3 * k+5 < recursionLimit
 u:A.units+16 * k+200 < cLine
theorem gB.of(r:hX k A):gB k A:=⟨r.dp,r.un⟩
theorem gB.less(r:gB k A)(h:j<=k):gB j A:=⟨by have:=r.d;omega,by have:=r.u;omega⟩
theorem gB.down(r:gB (k+1) A)(env:Env):gB k (A.deeper env) :=
 ⟨by have q:=r.d;show A.depth+1+3 * k+5 < _;omega,by have q:=r.u;show A.units+3+16 * k+200 < _;omega⟩
theorem gB.u64(r:gB k A):A.units+64 < cLine:=by have:=r.u;omega
structure G8(P:ag9)(w:ahc)(K:PySem.W.Frag)(mg:Str->Option ahb)(base:Heap)(k:Nat)(f:ag5)(fd:ag7)(ps:List Str)(sp:Sp):Prop where
 n:∀vs H Q E,sp vs H Q E->vs.length=ps.length
 go:∀(A:ag6)(outer:List Env)(s:aha)(H:Hp)(args:Args)(us:List ahb)(vs:List V)(Q:VK)(E:XK),gB k A->DA A H->tX P w K mg base A outer s H->
  BindsTo s fd args (ps.zip us)->Vals vs us->sp vs H Q E->ahg (model P w) A (.call (.ref f) args) (CR (CXJ P w) outer P w H s Q E) s
variable{E:XK}
section
variable {P:ag9}{w:ahc}{K:PySem.W.Frag}{mg:Str->Option ahb}{base:Heap}
def Lz(P:ag9)(w:ahc)(K:PySem.W.Frag)(mg:Str->Option ahb)(base:Heap)(N:List Str)(qual:Str)(scope:Scope)(f:ag5)(cd:ahb)(A:ag6)(outer:List Env)(s:aha)(H:Hp)(E:XK):Cx :=
 { si (CXJ P w) P w K mg base N qual scope f cd A outer s H E with calm:=false }
theorem Qb{cd:ahb}{s1:aha}{us:List ahb}(S:FnScope N ps scope)(z:tX P w K mg base A outer s H)(ln:vs.length=ps.length)(r:Vals vs us)
  (x:InCallC s s.heap.objs.size (bindL (envOfC qual scope s.heap.objs.size f cd).kindOf (ps.zip us) λ_=>none) (cellsFrom (s.heap.objs.size+1) scope.names []) (bindC (envOfC qual scope s.heap.objs.size f cd).kindOf (ps.zip us) λ_=>none) s1):
  Inv (Lz P w K mg base N qual scope f cd A outer s H E) [] (start N vs) H s1:=by
 have z':tX P w K mg base { A with handled:=none } outer s H:=⟨z.frames,z.mod,z.bs,z.EO,z.mT,z.JD,z.hok,z.bare⟩;have I:=uG (CX:=CXJ P w) (E:=E) (cd:=cd) (A:={ A with handled:=none }) S rfl z' ln r x;have o:=I.ok;exact⟨⟨o.mod,o.kind,o.glob,o.blt,o.above,o.inj,o.has,o.SQ,(λh=>by cases h),o.frames,o.stk,o.YR,o.bs,o.EO,o.CU,o.ER,o.mT,o.JD⟩,I.os,I.bare,I.base,I.loc,I.cell,I.free,I.jz,I.pin,I.hok,I.len⟩
theorem Vc{e:ahb}
  (r:vJ (Lz P w K mg base N qual scope f cdv A outer s H E) σ H' c e s')(h:∀C,ClsAt K c C->E (.ref C) none H'):(Lz P w K mg base N qual scope f cdv A outer s H E).xe e s':=by
 obtain⟨C,pins,Hc,sc,hC,I,r⟩:=r;rcases r with fl |⟨rfl,a,args,rfl,ho,hg,M⟩
 ·exact qu (X:=Lz P w K mg base N qual scope f cdv A outer s H E) rfl rfl rfl I fl λs2 zp=>⟨H',C,zp,h C hC⟩
 ·exact sG (X:=Lz P w K mg base N qual scope f cdv A outer s H E) rfl rfl rfl I ho hg M λs2 zp=>⟨H',C,zp,h C hC⟩
theorem ZQ{st:Stmt}{g:GS}(F:JG K x qual st f fd)(S:FnScope N ps (defScope st))
  (body:∀(cdv:ahb)(A:ag6)(outer:List Env)(s:aha)(H:Hp)(E:XK),gB k (A.deeper (envOfC qual (defScope st) s.heap.objs.size f cdv))->Ah (Lz P w K mg base N qual (defScope st) f cdv A outer s H E)->pH (Lz P w K mg base N qual (defScope st) f cdv A outer s H E) (defBody st) g):
  G8 P w K mg base (k+1) f fd ps (spW K ps.length (aK N.length g)):=by
 have hpl:ps.length<=N.length:=by have:=congrArg nu S.pre;rw[lF]at this;omega
 obtain⟨oc,od,kV,doc,pm,an,cdv,ct,osl,rfl,lk,hcd⟩:=F.ex;have len:∀vs H Q E,spW K ps.length (aK N.length g) vs H Q E->vs.length=ps.length:=λvs H Q E h=>by obtain⟨m,st',ws,_,r,hl,_⟩:=h;rw[<-r.length];exact hl
 refine⟨len,λA outer s H args us vs Q E hr ha z hb r Kn=>?_⟩;have ln:=len _ _ _ _ Kn;have kx:K.In s.heap:=z.mod.J0.keeps λb o q=>(z.bs b o q).1;have nl:s.heap.NoLimit:=z.mod.nolimit.keeps λb o q=>(z.bs b o q).1;have kinds:∀y∈ps.zip us,(defScope st).names.lookup y.1=some .local\/((defScope st).names.lookup y.1=some .cell/\((cellsFrom (s.heap.objs.size+1) (defScope st).names []).lookup y.1).isSome=true):=λy hy=>by
  rcases S.par y.1 (zK hy).1 with t |t
  ·exact .inl t
  ·exact .inr ⟨t,PySem.W.cellsFrom_some _ _ _ (.inl t)⟩
 refine codeAny_call_function (by have:=hr.d;omega) (kx _ _ lk) rfl S.co S.gen rfl (PySem.W.codeRec_of kx hcd) (hb _ _ _ _ ?_);refine wpAny_newFunctionEnv_cells S.kind kinds λenv he s1 y=>?_;subst he;refine⟨nl.keeps y.toInCall.keep,codeAny_func ?_⟩;obtain⟨m,st',ws,S',rs,hl,p⟩:=Kn;have I:=Qb (E:=E) (cd:=cdv) S z ln r y;have go:Ut (Lz P w K mg base N qual (defScope st) f cdv A outer s H E) (defBody st) { nx:=λ_ H'=>Q .cG H',rt:=Q } (start N vs) H:=by
  refine body cdv A outer s H E (hr.down _) ha _ st' _ H m _ S' (xV rs (by omega)) ?_;unfold aK at p;cases e:g (ws.map some++aR (N.length - ws.length) none) st' with
  |nx ρ st2=>rw[e]at p;exact λσ m' H' e' S2 R2=>p _ m' H' e' S2 (by unfold ak;rfl)
  |rt w' st2=>rw[e]at p;exact p
  |bk ρ st2=>rw[e]at p;exact aa p
  |ct ρ st2=>rw[e]at p;exact aa p
  |err c ρ st2=>rw[e]at p;exact λσ m' H' x s' e' S2 R2 rz=>Vc rz λC hC=>p m' H' C e' S2 hC
  |bad=>rw[e]at p;exact aa p
 refine ahq (jB [] s1 (start N vs) H _ I go) (λfl s' hs=>?_) λe s' hs=>hs;cases fl with
 |ret u=>obtain⟨v,σ',H',I',rv,q⟩:=hs;exact⟨v,H',I'.os,I'.bare,I'.base,I'.hok,rv,q⟩
 |next=>obtain⟨σ',H',I',q⟩:=hs;exact⟨.cG,H',I'.os,I'.bare,I'.base,I'.hok,rfl,q⟩
 |brk=>obtain⟨_,_,_,q⟩:=hs;exact aa q
 |cont=>obtain⟨_,_,_,q⟩:=hs;exact aa q
end
section
variable {X:Cx}
theorem G9{g:GA}
  (G:G8 X.prog X.w X.K X.mg X.base k f fd ps (spW X.K n F))(hr:gB k X.A)(hH:Ah X)(hm:X.mg x=some (.ref f))(hk:PySem.W.keepIn X.K (.ref f)=true)(hb:Binds X.K fd ps [])(ha:JA X (e::es) g)(hg:Gl X x)
  (hdb:(x == ("__debug__":Str))=false)(he:ahm (e::es) X.env=(false,eval e X.env)::ahm es X.env)(hpl:(backTo pos (ahm es X.env)).any (·.1)=false):
  JE X (.Call (.Name x p) (e::es) [] pos) (az n F g):=by
 intro ρ st σ H m Q S R p pins s I;have args:=ha.go (T:=λvs H1=>∃ws st1 m1,dA X σ m H (if ws.length=n then F ws st1 else .bad) Q/\Ext X.K m H m1 H1/\b4 X.K m1 st1 H1/\ai X.K m1 H1 ws vs) S R (aE.bind p)
  λws st1 vs m1 H1 p1 e1 S1 rs=>⟨ws,st1,m1,p1,e1,S1,rs⟩
 refine wpAny_Call_Name_kw (mq I hg hm ?_ hdb);refine PySem.W.callWith_K (h₀:=X.base) I.ok.mod.J0 hk (bM (args pos pins s I) λus s1 ⟨vs,H1,I1,r,ws,st1,m1,p1,e1,S1,rs⟩=>⟨I1.pz,?_⟩) he hpl;by_cases c:ws.length=n
 ·rw[if_pos c]at p1
  let E:XK:=λcl _ H2=>∃c' st2 m2 C,cl= .ref C/\ClsAt X.K c' C/\F ws st1= .err c' st2/\Ext X.K m1 H1 m2 H2/\b4 X.K m2 st2 H2
  have sp:spW X.K n F vs H1 Q E:=by
   refine⟨m1,st1,ws,S1,rs,c,?_⟩;cases er:F ws st1 with
   |ok w st2=>rw[er]at p1;exact dA.shift (r:=.ok w st2) p1 e1
   |err c' st2=>exact λm2 H2 C e2 S2 hC=>⟨c',st2,m2,C,rfl,hC,er,e2,S2⟩
   |bad=>rw[er]at p1;exact aa p1
  have hl:us.length=ps.length:=by rw[<-r.length];exact G.n _ _ _ _ sp
  have bd:=hb s1 us I1.pz (by rw[iX];exact hl);rw[iX]at bd;refine wpAny_call (codeAny_mono (G.go X.A X.stack s1 H1 ⟨us,[]⟩ us vs Q E hr (hH.at I1) I1.Kl bd r sp) λrr s2 hq=>?_);cases rr with
  |error x=>obtain⟨H2,C,fl,c',st2,m2,C',ec,hC,er,e2,S2⟩:=hq;cases ec;rw[er]at p1;exact p1 m2 H2 x s2 (e1.trans e2) S2 ⟨C,pins,H1,s1,hC,I1,.inl fl.any⟩
  |ok fw=>
   cases fw with
   |ret u=>exact I1.after hq
   |next=>exact aa hq
   |brk=>exact aa hq
   |cont=>exact aa hq
 ·rw[if_neg c]at p1;exact aa p1
end
def wg(P:ag9)(w:ahc)(K:PySem.W.Frag)(mg:Str->Option ahb)(base:Heap)(k:Nat)(x:Str)(n:Nat)(F:List Wv->Hs->Re Wv):Prop :=
 ∃f fd ps,G8 P w K mg base k f fd ps (spW K n F)/\mg x=some (.ref f)/\PySem.W.keepIn K (.ref f)=true/\Binds K fd ps []
theorem wg.mono(h:wg P w K mg base j x n F)(l:j<=k):wg P w K mg base k x n F:=by obtain⟨f,fd,ps,G,r⟩:=h;exact⟨f,fd,ps,⟨G.n,λA outer s H args us vs Q E hr=>G.go A outer s H args us vs Q E (hr.less l)⟩,r⟩
section
open PySem.SeqAt PySem.MeetsSeq PySem.MeetsSeq2 PySem.MeetsSeq3
theorem yp(p:ag5)(its:Array ahb)(n:Nat)(dd:Option ag5)(sl:Array (Option ahb))(x:ahb)(e:ahb->Bool)(j:Nat)(hj:j < its.size)(hit:e its[j]=true)(hno:∀m (hm:m < its.size),m < j->e its[m]=false):
  Meets (Builtin.«tuple.index» ⟨[.ref p,x],[]⟩)
   (λA R s=>s.heap.get? p=some { cls:=.type "tuple",dict:=dd,data:=.seq its n,slots:=sl }/\(∀y,y∈its->EqAt A.in1 s y x (e y))/\R (.ok (.ret (.int j s.toks))) { s with toks:=s.toks+1 }) :=
 .of_wp λprog w A R s hh=>by
  obtain⟨hp,g,d,tk,os⟩:=s;obtain⟨gp,he,hr⟩:=hh;have sb:=Vd
  wp_walk using PySem.AutoSeq1.wpAny_loadPart' gp
  rw[Nat.min_self]
  show ahn (model prog w) A.in1 (forIn [:its.size] (none,()) (λ(i:Nat)(__s:Option PySem.Fin×Unit)=>match its[i]? with
      |some y=>do
       let __do_lift <-eqBool y x
       if __do_lift=true then do
         let __do_lift <-retInt i
         pure (ForInStep.done (some __do_lift,()))
        else pure (pB (none,()))
      |x=>pure (pB (none,())))) _ _ _
  rw[Std.Legacy.Range.forIn_eq_forIn_range'];simp only[Std.Legacy.Range.size,Nat.sub_zero,Nat.add_sub_cancel,Nat.div_one];refine wpAny_forIn_list _ (λrest b s'=>b.1=none/\s'=⟨hp,g,d,tk,os⟩/\∃i,i<=j/\rest=List.range' i (its.size - i)) _ ?_ ?_ _ _ ⟨rfl,rfl,0,de _,by simp⟩
  ·rintro y rest b s' ⟨e0,rfl,i,hi,er⟩;have hlt:i < its.size:=by omega
   obtain⟨rfl,er'⟩:y=i/\rest=List.range' (i+1) (its.size - (i+1)):=by
    have q:its.size - i=(its.size - (i+1))+1:=by omega
    rw[q,List.range'_succ]at er;injection er with h1 h2;exact⟨h1,h2⟩
   rw[Array.getElem?_eq_getElem hlt];dsimp only;refine aho (he _ (Array.getElem_mem hlt) prog w _ _ ?_);by_cases cj:y=j
   ·subst cj;rw[hit,if_pos rfl]
    wp_walk
    exact⟨_,rfl,hr⟩
   ·rw[hno y hlt (by omega),if_neg dh];exact ahs ⟨rfl,rfl,y+1,by omega,er'⟩
  ·rintro b s' ⟨e0,rfl,i,hi,er⟩;exfalso;have:its.size - i=0:=by have:=congrArg nu er;simpa using this.symm
   omega
end
section
variable {X:Cx}
def pN(mt:Wv->Wv->Hs->Re Wv)(go ga:GE):GE:=λρ st=>(go ρ st).bind λo st1=>match o with
 |.tup us=>(ga ρ st1).bind λv st2=>(mt (.tup us) v st2).mv
 |_=> .bad
theorem G_{ob:Expr}{id:String}(hm:MS X id mt)(slot:Slot "tuple" name id)(hty:typeOf (.builtin id)=pure (.type "method_descriptor"))(hbase:attributeBase ob name X.env (eval ob X.env)=eval ob X.env)(ho:JE X ob go)(ha:JE X e ga)
  (hst:ahm [e] X.env=[(false,eval e X.env)])(hline:(apos.endLine == cpos.line)=true):JE X (.Call (.Attribute ob name apos) [e] [] cpos) (pN mt go ga):=by
 obtain⟨r,h1,h2⟩:=hm;have hfew:((backTo cpos (ahm [e] X.env)).all (λx=> !x.1)&&(backToKw cpos (keywordEach [] X.env)).all (λx=>x.1.isSome)&&decide ([e].length+([]:List Keyword).length+(if([]:List Keyword).isEmpty then 0 else 1) < 30))=true:=by rw[hst];rfl
 refine JE.of (Fv PySem.F.plainAttrs_tuple slot hty h1 bg ll hbase hfew hline hst rfl) λρ st σ H m Q S R p=>?_;refine ho.go S R (aE.bind p) λo st1 v m1 H1 p1 e1 S1 ro=>?_;cases o with
 |tup us=>
   dsimp only at p1;have U2:=ro;unfold ak at U2;obtain⟨a,xs,rfl,hq,_⟩:=U2;refine⟨.inr (.inl ⟨rfl,.inr ⟨xs,hq⟩⟩),?_⟩;refine(vP ha vO hst).go S1 (R.mono e1) (ok:=λws st2=>aE X σ m H (match ws with |[w]=>(mt (.tup us) w st2).mv |_=> .bad) (SX X.K m H Q)) ?_ λws st2 vs m2 H2 p2 e2 S2 rs=>?_
   ·have p3:=(aE.bind p1).imp e1 (λ_ _ q=>q);show aE X σ m1 H1 ((ga ρ st1).bind λx st1=>(ag ρ st1).bind λxs st2=> .ok (x::xs) st2) _;cases eg:ga ρ st1 with
    |ok w st2=>rw[eg]at p3;exact p3
    |err c st2=>rw[eg]at p3;exact p3
    |bad=>rw[eg]at p3;exact p3
   ·match ws,rs,p2 with
    |[],rs,p2=>exact aa p2
    |[w],rs,p2=>obtain⟨v2,rfl,Zx⟩:=ke rs;exact h2 (.tup us) w (.ref a) v2 st2 H2 m2 Q S2 (ak.mono e2 _ _ ro) Zx (dB.shift (aE.mv p2) (e1.trans e2))
    |_::_::_,rs,p2=>exact aa p2
 |_=>exact aa p1
theorem DR:xI X "tuple.index" (λx xs H Q=>∃(p:ag5)(ys:List V)(y:V)(j:Nat),x= .ref p/\xs=[y]/\gz X.K H p ys/\gA y=true/\ys.all gA=true/\ys.findIdx? (λz=>xJ z y)=some j/\Q (.int (j:Nat)) H):=by
 intro pins s σ H x xs v us Q I rx rv h;obtain⟨p,ys,y,j,rfl,rfl,hq,fy,fs,hj,q⟩:=h;cases rx;obtain⟨u,rfl,ru⟩:=vals1 rv;obtain⟨its,r,pl,hz⟩:=I.tuple hq;have hlen:=r.length;obtain⟨⟨cl,dd,dt,sl⟩,ho,hc,n,hd⟩:=pl;dsimp only at hc hd;subst hc;subst hd;rw[P9]at hj;obtain⟨hj1,hj2,ZP⟩:=hj;have at':∀(k:Nat)(h:k < ys.length)(h':k < its.length),zS y its[k]=xJ ys[k] y:=by intro k h h';obtain⟨w,hw,rw'⟩:=r.get (fg h);rw[fg h']at hw;cases hw;exact sx rw' (List.all_eq_true.mp fs _ (GQ h))
 refine call_meets PySem.F.slot_tuple_index ⟨_,ho,rfl⟩ PySem.F.entry_tuple_index (PySem.F.args_tuple_index_2 _ _) (yp p its.toArray n dd sl u (zS y) j (by simp;omega) ?_ ?_) ⟨ho,λw hw=>j9 ru fy r fs w (by simpa using hw),⟨.int _,H,I.tok _,⟨_,rfl⟩,q⟩⟩
 ·rw[Ao,at' j hj1 (by omega)];exact hj2
 ·intro m hm hlt;rw[Ao,at' m (by omega) (by omega)];simpa using ZP m hlt
def kM(o v:Wv)(st:Hs):Re Wv:=match o with
 |.tup ws=>if cS v=true/\ws.all cS=true then(match ws.findIdx? (λz=>Dm z v)with |some j=> .ok (.int (j:Nat)) st |none=> .bad)else .bad
 |_=> .bad
theorem DS:MS X "tuple.index" kM:=⟨_,DR,λo w x v st H m Q S ro rw' p=>by
 cases o with
 |tup ws=>
  unfold ak at ro;obtain⟨a,xs,rfl,q1,q2⟩:=ro;unfold kM at p;dsimp only at p;by_cases c:cS w=true/\ws.all cS=true
  ·rw[if_pos c]at p;cases ej:ws.findIdx? (λz=>Dm z w)with
   |none=>rw[ej]at p;exact aa p
   |some j=>rw[ej]at p;exact⟨a,xs,v,j,rfl,rfl,gz.of q1,ka rw' c.1,kL q2 c.2,by rw[sU rw' c.1 q2 c.2];exact ej,p _ m H Ext.refl S mkInt⟩
  ·rw[if_neg c]at p;exact aa p
 |_=>exact aa p⟩
end
variable{e1:Expr}
section
variable {X:Cx}
def XH(g:GE):GE:=λρ st=>(g ρ st).bind λw st1=>match w with
 |.str z=>if z.length<=lim then .ok (.str z) st1 else .bad
 |_=> .bad
theorem Ve(h:JE X e g):JE X (.FormattedValue e (-1) none p) (XH g):=by
 intro ρ st σ H m Q S R p pins s I;refine FormattedValue_plain (bM (h.go (T:=λv H1=>∃z st1 m1,v= .str z/\z.length<=lim/\dA X σ m H (.ok (.str z) st1) Q/\Ext X.K m H m1 H1/\b4 X.K m1 st1 H1/\aW z=true) S R (aE.bind p) (λw st1 v m1 H1 p1 e1 S1 rw'=>?_) pins s I) λv s1 ⟨x,H1,I1,r1,z,st1,m1,ez,hz,p1,e1,S1,ok⟩=>?_)
 ·cases w with
  |str z=>
   dsimp only at p1;by_cases c:z.length<=lim
   ·rw[if_pos c]at p1;obtain⟨rfl,ok⟩:=eB rw';exact⟨z,st1,m1,rfl,c,p1,e1,S1,ok⟩
   ·rw[if_neg c]at p1;exact aa p1
  |_=>exact aa p1
 ·subst ez;obtain⟨t,rfl⟩:=r1;exact formatField_str (λt' tk=>⟨.str z,H1,I1.tok tk,⟨t',rfl⟩,p1 _ m1 H1 e1 S1 (mkStr ok)⟩) (dE hz)
def BL(out:PySem.Str):List GE->bR->Hs->Re Wv
 |[],_,st=> .ok (.str out) st
 |g::r,ρ,st=>(g ρ st).bind λw st1=>match w with
  |.str z=>if out.length+z.length<=lim then BL (out++z) r ρ st1 else .bad
  |_=> .bad
inductive Ts(X:Cx):List Expr->List GE->Prop
 |nil:Ts X [] []
 |cons {e:Expr}{g:GE}{es:List Expr}{gs:List GE}:JE X e g->Ts X es gs->Ts X (e::es) (g::gs)
theorem BM:∀{es:List Expr}{gs:List GE},Ts X es gs->∀{out:PySem.Str}{ρ:bR}{st:Hs}{σ:St}{H:Hp}{m:Mp}{Q:VK}{pins:List (ag5×Obj)}{s:aha},aW out=true->out.length<=lim->b4 X.K m st H->aL X.K m H ρ σ->dA X σ m H (BL out gs ρ st) Q->Inv X pins σ H s->
  ahn (model X.prog X.w) X.A (joinParts out (evalEach es X.env)) (EP X pins σ Q) X.xe s
 |_,_,.nil,out,ρ,st,σ,H,m,Q,pins,s,ok,hl,S,R,p,I=>joinParts_nil ⟨.str out,H,I.tok _,⟨_,rfl⟩,p _ m H Ext.refl S (mkStr ok)⟩ (dE hl)
 |_,_,.cons (e:=e) (g:=g) (es:=es) (gs:=gs) h t,out,ρ,st,σ,H,m,Q,pins,s,ok,hl,S,R,p,I=>by
  show ahn (model X.prog X.w) X.A (joinParts out (eval e X.env::evalEach es X.env)) (EP X pins σ Q) X.xe s;refine joinParts_cons (bM (h.go (T:=λv H1=>∃z st1 m1,v= .str z/\out.length+z.length<=lim/\dA X σ m H (BL (out++z) gs ρ st1) Q/\Ext X.K m H m1 H1/\b4 X.K m1 st1 H1/\aW z=true) S R (aE.bind p) (λw st1 v m1 H1 p1 e1 S1 rw'=>?_) pins s I) λv s1 ⟨x,H1,I1,r1,z,st1,m1,ez,hz,p1,e1,S1,ZR⟩=>?_)
  ·cases w with
   |str z=>
    dsimp only at p1;by_cases c:out.length+z.length<=lim
    ·rw[if_pos c]at p1;obtain⟨rfl,ZR⟩:=eB rw';exact⟨z,st1,m1,rfl,c,p1,e1,S1,ZR⟩
    ·rw[if_neg c]at p1;exact aa p1
   |_=>exact aa p1
  ·subst ez;obtain⟨t',rfl⟩:=r1;have hl2:(out++z).length<=lim:=by rw[PySem.Str.length_append];exact hz
   exact⟨dE hl2,BM t (ow ok ZR) hl2 S1 (R.mono e1) (dA.shift p1 e1) I1⟩
def XI(gs:List GE):GE:=λρ st=>BL PySem.Str.empty gs ρ st
theorem Vf{e2:Expr}{gs:List GE}(h:Ts X (e1::e2::es) gs):JE X (.JoinedStr (e1::e2::es) p) (XI gs) :=
 λρ st σ H m Q S R p pins s I=>JoinedStr_many (BM h (by decide+kernel) (de _) S R p I)
theorem Qc(h:JE X e1 g):JE X (.JoinedStr [e1] p) g:=λρ st σ H m Q S R p pins s I=>JoinedStr_one (h ρ st σ H m Q S R p pins s I)
end
def Ar:List Wv->Hs->Re Wv:=λ_ _=> .bad
theorem mF{st:Stmt}(KX:K.In h)(NS:h.Ns ahk mg)(D:bh K x st)
  (hb:∀(kV doc pm:ahb)(an:Option ag5)(cdv ct:ahb)(us:List ahb),us.length=ps.length->bindArgs (PySem.W.fnOf x x (defArgs st) (defBody st) (defScope st) .none kV doc pm an cdv ct) ⟨us,[]⟩=pure (ps.zip us)):
  eP P w K mg base k x ps.length Ar:=by
 obtain⟨f,fd,a,F⟩:=D;exact⟨f,fd,ps,⟨λvs H Q E ⟨_,_,_,_,_,_,p⟩=>aa p,λA outer s H args us vs Q E hr e0 hb r ⟨_,_,_,_,_,_,p⟩=>aa p⟩,PySem.W.mg_of KX NS a,F.kp,F.binds hb⟩
section
variable {X:Cx}
theorem G':hV X (ahe .Mult) (λx y H Q=>∃z n,x= .str z/\y= .int n/\(n=0\/n=1)/\Q (.str (if n=0 then PySem.Str.empty else z)) H):=by
 intro pins s σ H x y v u Q I rx ry h;obtain⟨z,n,rfl,rfl,hn,q⟩:=h;obtain⟨t,rfl⟩:=rx;obtain⟨t',rfl⟩:=ry;rcases hn with rfl |rfl
 ·exact PySem.P.mul_str_none (by omega) (by omega) ⟨.str PySem.Str.empty,H,I.tok _,⟨_,rfl⟩,q⟩
 ·refine PySem.P.mul_str (by decide) (λ_ h=>by cases h) (λ_ h=>by cases h) ?_;rw[if_neg (by omega),if_pos (by rfl)];exact⟨.str z,H,I,⟨t,rfl⟩,q⟩
def MW:iQ:=λx y st=>match x,y with
 |.str z,.int n=>if n=0\/n=1 then .ok (.str (if n=0 then PySem.Str.empty else z)) st else sO (.str z) (.int n) st
 |x,y=>sO x y st
theorem LA:mz X (ahe .Mult) MW:=by
 obtain⟨r,h1,h2⟩:=Ll (X:=X);refine⟨_,hV.or G' h1,λx y a b st H m Q S rx ry p=>?_⟩;cases x with
 |str z=>
  cases y with
  |int n=>
   have p':dB X.K m H (if n=0\/n=1 then .ok (.str (if n=0 then PySem.Str.empty else z)) st else sO (.str z) (.int n) st) Q:=p;by_cases c:n=0\/n=1
   ·rw[if_pos c]at p';obtain⟨rfl,ok⟩:=eB rx;refine .inl ⟨z,n,rfl,aZ ry,c,p' _ m H Ext.refl S (mkStr ?_)⟩;by_cases c0:n=0
    ·rw[if_pos c0];decide+kernel
    ·rw[if_neg c0];exact ok
   ·rw[if_neg c]at p';exact .inr (h2 _ _ _ _ st H m Q S rx ry p')
  |_=>exact .inr (h2 _ _ _ _ st H m Q S rx ry p)
 |_=>exact .inr (h2 _ _ _ _ st H m Q S rx ry p)
end
abbrev LF:=List Wv->List Wv->Hs->Re Wv
def spL(K:PySem.W.Frag)(n:Nat)(p:Lm)(L:LF):Sp:=λvs H Q E=>∃m st ws caps,b4 K m st H/\ai K m H ws vs/\ai K m H caps p.xs/\H p.c=some (.ext (FC p.c p.q))/\ws.length=n/\MP K m H (L caps ws st) Q E
def LB(P:ag9)(w:ahc)(K:PySem.W.Frag)(mg:Str->Option ahb)(base:Heap)(k:Nat)(p:Lm)(n:Nat)(L:LF):Prop :=
 ∃fd ps ob,FnOk P w K mg base (CXJ P w) k p.a fd ps (spL K n p L)/\base.get? p.a=some ob/\ob.data= .func fd/\Binds K fd ps []
structure MX(X:Cx)(q:Str)(P:ag5):Prop where
 code:∃c,X.env.code= .ref c/\PySem.W.CodeHd X.base c P
 qual:X.env.qual=q++".<locals>."
 tab:kJ X.K q=some P
 mem:q∈cx
 uniq:∀q',q'∈cx->kJ X.K q'=some P->q'=q
 bm:∃bm ob,X.mg "__builtins__"=some (.ref bm)/\bm≠builtinsNs/\bm≠ahk/\X.base.get? bm=some ob/\ob.cls= .type "module"/\ob.dict=some builtinsNs/\ob.data= .plain
abbrev XJ:=Lm->LF->List Wv->Hs->Re Wv
def ZS(mg:Str->Option ahb)(base:Heap):Prop:=∃bm ob,mg "__builtins__"=some (.ref bm)/\bm≠builtinsNs/\bm≠ahk/\base.get? bm=some ob/\ob.cls= .type "module"/\ob.dict=some builtinsNs/\ob.data= .plain
def As(K:PySem.W.Frag)(mg:Str->Option ahb)(base:Heap):Prop:=Mod K mg base/\ZS mg base
def FnL(P:ag9)(w:ahc)(K:PySem.W.Frag)(mg:Str->Option ahb)(k j:Nat)(x:Str)(FL:XJ):Prop :=
 (∃f,mg x=some (.ref f)/\PySem.W.keepIn K (.ref f)=true)/\∀(base:Heap)(p:Lm)(L:LF),As K mg base->LB P w K mg base (j+1) p 3 L->eP P w K mg base k x 2 (FL p L)
abbrev zA(h:Heap)(t1:ag5):Heap:=h.push { cls:=.type "tuple_iterator",data:=.fields #[.ref t1,.int 0 0] }
abbrev zB(h:Heap)(t1 t2:ag5):Heap:=zA (zA h t1) t2
abbrev zC(h:Heap)(t1 t2 t3:ag5):Heap:=zA (zB h t1 t2) t3
abbrev zD(h:Heap)(t1 t2 t3:ag5):Heap:=(zC h t1 t2 t3).push { cls:=.type "tuple",data:=.seq #[.ref h.objs.size,.ref (zA h t1).objs.size,.ref (zB h t1 t2).objs.size] }
def CRs(a b c:Int):Prop:=0<=a/\a < 2 ^ 30/\0<=b/\b < 2 ^ 30/\1<=c/\c < 2 ^ 30
instance {a b c}:Decidable (CRs a b c):=Gf _
def Vg(a b c:Int):Nat:=(if a < b then(b - a - 1) / c+1 else 0).toNat
section
variable {X:Cx}{tg:Expr}
def ZT(lo c:Int)(n:Nat):List Wv:=(nh n).map λk:Nat=>Wv.int (lo+k * c)
end
def wj(gt:GT)(gb:GS):Nat->bR->Hs->Rs
 | 0,_,_=> .bad
 |n+1,ρ,st=>(gt ρ st).bM ρ λb st1=>if b=true then(match gb ρ st1 with
   |.nx ρ' st'=>wj gt gb n ρ' st'
   |.ct ρ' st'=>wj gt gb n ρ' st'
   |.bk ρ' st'=> .nx ρ' st'
   |.rt w st'=> .rt w st'
   |.err c ρ' st'=> .err c ρ' st'
   |.bad=> .bad)else .nx ρ st1
def eD(n:Nat)(gt:GT)(gb:GS):GS:=λρ st=>wj gt gb n ρ st
section
variable {X:Cx}
theorem Ha(n:Nat){c:Expr}(hp:PassesOwn (model X.prog X.w) X.A X.env X.xe)(hc:JT X c gt)(hb:pH X body gb):JS X (.While c body [] pos) (eD n gt gb):=by
 refine JS.of (E7 hp qt jB) λρ st σ H m D S R p=>?_;refine⟨λk σ' H'=>∃ρ' st' m',Ext X.K m H m' H'/\b4 X.K m' st' H'/\aL X.K m' H' ρ' σ'/\bf X m' H' (wj gt gb k ρ' st') D,⟨n,ρ,st,m,Ext.refl,S,R,p⟩,?_⟩;rintro k σ1 H1 ⟨ρ1,st1,m1,e1,S1,R1,p1⟩;cases k with
 |zero=>exact aa p1
 |succ k=>
  refine hc.go S1 R1 (bf.dS R1 p1) λb st2 m2 H2 p2 e2 S2=>?_;cases b with
  |false=>rw[if_neg dh]at p2 ⊢;exact p2 σ1 m2 H2 e2 S2 (R1.mono e2)
  |true=>
   rw[if_pos rfl]at p2 ⊢;refine⟨λσ' H'=>∃ρ' st' m',Ext X.K m H m' H'/\b4 X.K m' st' H'/\aL X.K m' H' ρ' σ'/\bf X m' H' (wj gt gb k ρ' st') D,λσ' H' q=>⟨k,Bo k,q⟩,?_⟩;refine hb ρ1 st2 σ1 H2 m2 _ S2 (R1.mono e2) ?_;have MY:=e1.trans e2;cases eg:gb ρ1 st2 with
   |nx ρ3 st3=>rw[eg]at p2;exact λσ3 m3 H3 e3 S3 R3=>⟨ρ3,st3,m3,MY.trans e3,S3,R3,bf.shift p2 (e2.trans e3)⟩
   |ct ρ3 st3=>rw[eg]at p2;exact λσ3 m3 H3 e3 S3 R3=>⟨ρ3,st3,m3,MY.trans e3,S3,R3,bf.shift p2 (e2.trans e3)⟩
   |bk ρ3 st3=>rw[eg]at p2;exact λσ3 m3 H3 e3 S3 R3=>p2 σ3 m3 H3 (e2.trans e3) S3 R3
   |rt w3 st3=>rw[eg]at p2;exact bf.shift (r:=.rt w3 st3) p2 e2
   |err c3 ρ3 st3=>rw[eg]at p2;exact λσ' m' H' x s' e'=>p2 σ' m' H' x s' (e2.trans e')
   |bad=>rw[eg]at p2;exact p2
def DT:Operator->Option (Int->Int->Int)
 |.Add=>some λi j=>i+j
 |.Sub=>some λi j=>i - j
 |_=>none
def yq(f:Int->Int->Int)(i:Nat)(x y:Wv)(ρ:bR)(st:Hs):Rs:=match x,y with
 |.int a,.int b=> .nx (ρ.set i (some (.int (f a b)))) st
 |_,_=> .bad
def jw(f:Int->Int->Int)(i:Nat)(g:GE):GS:=λρ st=>match ρ[i]? with
 |some (some x)=>(g ρ st).bM ρ λy st'=>yq f i x y ρ st'
 |_=> .bad
theorem Qd{op:Operator}{f:Int->Int->Int}(i:Nat)(ho:DT op=some f)(hN:X.N.Nodup)(h:JE X e g)(hi:X.N[i]? =some x)(hx:Loc X.env.scope x)
  (hf:X.fn x=true\/X.env.scope.names.lookup x=some .local):JS X (.AugAssign (.Name x pos') op e pos) (jw f i g):=by
 have ZU:Xp X op (Xq f):=by cases op<;>first |(cases ho;exact E5) |(cases ho;exact E6) |cases ho
 refine JS.of (Oj hN hi hx bg ZU hf) λρ st σ H m D S R p=>?_;unfold jw at p;cases q:ρ[i]? with
 |none=>rw[q]at p;exact aa p
 |some o=>
  cases o with
  |none=>rw[q]at p;exact aa p
  |some w=>
   rw[q]at p;obtain⟨v,h1,h2⟩:=R.get _ _ q;refine⟨v,h1,?_⟩;refine h.go S R (bf.dS R p) λy st1 u m1 H1 p1 e1 S1 r1=>?_;have h2':=ak.mono e1 _ _ h2;cases w with
   |int a=>
    cases y with
    |int b=>cases aZ h2';cases aZ r1;exact⟨a,b,rfl,rfl,p1 _ m1 H1 e1 S1 ((R.mono e1).set i mkInt)⟩
    |_=>exact aa p1
   |_=>exact aa p1
def DU:List Wv->Hs->Re Wv
 |[.str x],st=>if x.length=1 then .ok (.int (x.cps.getD 0 0:Nat)) st else .bad
 |_,_=> .bad
theorem DV:ahf "ord"=some (.builtin "ord"):=by decide+kernel
theorem Qe:ff X (.builtin "ord") DU:=⟨_,Fg,λws vs st H m Q S r p=>by
 match ws,r,p with
 |[],r,p=>exact aa p
 |x::y::t,r,p=>cases x<;>exact aa p
 |[x],r,p=>
  obtain⟨v,rfl,rx⟩:=ke r;cases x with
  |str z=>
   have p':dB X.K m H (if z.length=1 then .ok (.int (z.cps.getD 0 0:Nat)) st else .bad) Q:=p;by_cases c:z.length=1
   ·rw[if_pos c]at p';obtain⟨rfl,_⟩:=eB rx;exact⟨z,rfl,c,p' _ m H Ext.refl S mkInt⟩
   ·rw[if_neg c]at p';exact aa p'
  |_=>exact aa p⟩
end
theorem LC(l:ag5)(items:Array ahb)(n:Nat)(b:ag5)(items2:Array ahb)(n2:Nat)(dd:Option ag5)(sl:Array (Option ahb))(hs0:¬(!items.isEmpty&&sD (items.size+items2.size))=true)(hs1:items.size<=ahl)(hs2:items.size+items2.size<=ahl+1):
  Meets (Builtin.«list.extend» ⟨[.ref l,.ref b],[]⟩) (λ_ R s=>s.heap.get? l=some { cls:=.type "list",dict:=none,data:=.seq items n,slots:=#[] }/\s.heap.get? b=some ⟨.type "tuple",dd,.seq items2 n2,sl⟩/\R (.ok (.ret c_)) { s with heap:=s.heap.update l (oo λx=>x++items2),toks:=s.toks }) :=
 .of_wp λprog w A R s h=>by
  obtain⟨hp,g,d,tk,os⟩:=s;obtain⟨hl,hb,h⟩:=h;have f1:=AutoSeq1.idx_int;have f2:=Vd;have f3:=AutoSeq1.sub_list_list;have f4:=AutoSeq1.sub_tuple_list;have f5:=AutoSeq1.sub_list_tuple;have hz':(items++items2).size<=ahl+1:=by rw[MQ];exact hs2
  wp_walk using (wpAny_updateSeq hl rfl (hz:=hs1) (_hz':=hz')),wpAny_loadPart' hl,wpAny_loadPart' hb;exact⟨_,rfl,h⟩
def yt(K:PySem.W.Frag):V->List V->Hp->VK->Prop:=λx vs H Q=>∃l b xs zs,x= .ref l/\vs=[.ref b]/\H l=some (.lst xs)/\gz K H b zs/\xs.length+zs.length<=ahl/\Q .cG (upd H l (.lst (xs++zs)))
section
variable {X:Cx}
theorem Au:Xu X "list.extend" (yt X.K):=by
 intro pins s σ H x vs v us Q I rx rv h;obtain⟨l,b,xs,zs,rfl,rfl,hH,hB,hz,q⟩:=h;cases rx;obtain⟨u,rfl,ru⟩:=rv.one;cases ru;obtain⟨z,its,n,r,hl,e⟩:=I.Dg hH;obtain⟨its2,r2,⟨o,e2,oc,n2,od⟩,z2⟩:=I.tuple hB;obtain⟨oc',dd,od',sl⟩:=o;dsimp only at oc od;subst oc od;have l1:xs.length=its.length:=r.length;have l2:zs.length=its2.length:=r2.length;have hsz:its.toArray.size+its2.toArray.size<=ahl:=by rw[a8,a8];omega
 have xK:¬(!its.toArray.isEmpty&&sD (its.toArray.size+its2.toArray.size))=true:=by rw[sC hsz,Bool.and_false];exact dh
 refine call_meets F.slot_list_extend ⟨_,e,rfl⟩ F.entry_list_extend (F.args_list_extend_2 _ _)
  (LC l its.toArray n b its2.toArray n2 dd sl xK (by rw[a8];omega) (by omega)) ⟨e,e2,?_⟩
 refine⟨.cG,_,I.Kx (its':=its++its2) hH e (by simp) (r.append r2) ?_,rfl,q⟩;rw[kI];omega
def sW(o v:Wv)(st:Hs):Re Wv:=match v with
 |.tup zs=>(match o with
  |.ref l=>(match st[l]? with
   |some (.lst ws)=>if ws.length+zs.length<=lim then .ok .cG (st.set l (.lst (ws++zs)))else .bad
   |_=> .bad)
  |_=> .bad)
 |v=>U1 o v st
theorem LD:MS X "list.extend" sW:=by
 obtain⟨r0,m0,h0⟩:=PB (X:=X);refine⟨λx vs H Q=>r0 x vs H Q\/yt X.K x vs H Q,?_,λo w x v st H m Q S ro rw' p=>?_⟩
 ·intro pins s σ H x vs v us Q I rx rv h;rcases h with h |h
  ·exact m0 pins s σ H x vs v us Q I rx rv h
  ·exact Au pins s σ H x vs v us Q I rx rv h
 ·cases w with
  |tup zs=>
   refine .inr ?_;cases o with
   |ref l=>
    unfold ak at ro rw';obtain⟨a,rfl,ha⟩:=ro;obtain⟨b,ys,rfl,hb,g2⟩:=rw';have p':dB X.K m H (match st[l]? with |some (.lst ws)=>if ws.length+zs.length<=lim then .ok .cG (st.set l (.lst (ws++zs)))else .bad |_=> .bad) Q:=p
    cases e:st[l]? with
    |none=>rw[e]at p';exact aa p'
    |some ob=>
     cases ob with
     |dct kvs=>rw[e]at p';exact aa p'
     |ED kvs=>rw[e]at p';exact aa p'
     |Dl kvs=>rw[e]at p';exact aa p'
     |EE kvs=>rw[e]at p';exact aa p'
     |FA kvs=>rw[e]at p';exact aa p'
     |ins _ _=>rw[e]at p';exact aa p'
     |t6 ns=>rw[e]at p';exact aa p'
     |lst ws=>
      rw[e]at p';dsimp only at p';by_cases c:ws.length+zs.length<=lim
      ·rw[if_pos c]at p';obtain⟨xs,h1,h2⟩:=S.sE ha e;have e4:Ext X.K m H m (upd H a (.lst (xs++ys))):=Ext.upd (.inr ⟨xs,h1⟩);exact⟨a,b,xs,ys,rfl,rfl,h1,gz.of hb,by rw[<-h2.length,<-g2.length];exact dE c,p' _ m _ e4 (S.write ha e (h2.append g2)) Bz⟩
      ·rw[if_neg c]at p';exact aa p'
   |_=>exact aa p
  |_=>exact .inl (h0 o _ x v st H m Q S ro rw' p)
end
def qS(neg:Bool):iQ:=λx y st=>match bV st 20 y,bV st 20 x with
 |some (.list ds),some d=> .ok (.bl ((ds.any λz=>dY z d) != neg)) st
 |some (.tuple ds),some d=> .ok (.bl ((ds.any λz=>dY z d) != neg)) st
 |_,_=> .bad
section
variable {X:Cx}
def Qf(K:PySem.W.Frag)(neg:Bool):R2:=λa b H Q=>∃m st x y d ds c,b4 K m st H/\ak K m H x a/\ak K m H y b/\bV st 20 y=some c/\(c= .list ds\/c= .tuple ds)/\bV st 20 x=some d/\Q (.bl ((ds.any λz=>dY z d) != neg)) H
theorem BN{ds:List PyData}{c:PyData}(h:c= .list ds\/c= .tuple ds)(k:c.canLay0=true):rF ds=true:=by rcases h with rfl |rfl<;>exact k
theorem Qg(hu:X.A.units+64 < cLine):hV X (ahi .In) (Qf X.K false):=by
 intro pins s σ H a b v u Q I rx ry h;obtain⟨m,st,x,y,d,ds,c,S,h1,h2,e1,hc,e2,q⟩:=h;obtain⟨as,q1,q2,q3⟩:=h_ I S 20 x a v d h1 rx e2;obtain⟨bs,p1,p2,p3⟩:=h_ I S 20 y b u c h2 ry e1;have hd:X.A.units+1+min (ky ds) d.depth < cLine:=by have:=Bp (ky ds) d.depth;omega
 have e:∀t:Bool,(t != false)=t:=by decide
 rw[e]at q;have ca:=BN hc p2;rcases hc with rfl |rfl
 ·exact SeqAt.in_list_reads p1 q1 ca q2 hd ⟨.bl _,H,I,rfl,q⟩
 ·exact SeqAt.in_tuple_reads p1 q1 ca q2 hd ⟨.bl _,H,I,rfl,q⟩
theorem DW(hu:X.A.units+64 < cLine):hV X (ahi .NotIn) (Qf X.K true):=by
 intro pins s σ H a b v u Q I rx ry h;obtain⟨m,st,x,y,d,ds,c,S,h1,h2,e1,hc,e2,q⟩:=h;obtain⟨as,q1,q2,q3⟩:=h_ I S 20 x a v d h1 rx e2;obtain⟨bs,p1,p2,p3⟩:=h_ I S 20 y b u c h2 ry e1;have hd:X.A.units+1+min (ky ds) d.depth < cLine:=by have:=Bp (ky ds) d.depth;omega
 have e:∀t:Bool,(t != true)= !t:=by decide
 rw[e]at q;have ca:=BN hc p2;rcases hc with rfl |rfl
 ·exact SeqAt.notIn_list_reads p1 q1 ca q2 hd ⟨.bl _,H,I,rfl,q⟩
 ·exact SeqAt.notIn_tuple_reads p1 q1 ca q2 hd ⟨.bl _,H,I,rfl,q⟩
theorem Hd{x y:Wv}{a b:V}{Q:VK}(S:b4 X.K m st H)(rx:ak X.K m H x a)(ry:ak X.K m H y b)(p:dB X.K m H (qS neg x y st) Q):Qf X.K neg a b H Q:=by
 unfold qS at p;split at p
 ·rename_i ds d e1 e2;exact⟨m,st,x,y,d,ds,_,S,rx,ry,e1,.inl rfl,e2,p _ m H Ext.refl S ly⟩
 ·rename_i ds d e1 e2;exact⟨m,st,x,y,d,ds,_,S,rx,ry,e1,.inr rfl,e2,p _ m H Ext.refl S ly⟩
 ·exact aa p
theorem Av(hu:X.A.units+64 < cLine):mz X (ahi .In) (qS false):=⟨_,Qg hu,λx y a b st H m Q S rx ry p=>Hd S rx ry p⟩
theorem uX(hu:X.A.units+64 < cLine):mz X (ahi .NotIn) (qS true):=⟨_,DW hu,λx y a b st H m Q S rx ry p=>Hd S rx ry p⟩
end
theorem t_:entryFor table "proto.unchain"=some Builtin.«proto.unchain»:=entryFor_of_fast (by kernel_rfl)
variable{vs:Array ahb}
section
variable {prog:ag9}{w:ahc}{A:ag6}{E:ahb->aha->Prop}{s:aha}
theorem Aw{e:ahb}(h1:s.heap.get? b=some o)(h2:o.data= .fields vs)(h3:vs[2]? =some c_)(k:Q .none s):
  ahn (model prog w) A (runValue (.builtin "proto.unchain" ⟨[e,.ref b,.ref b,.bool false],[]⟩)) Q E s:=by
 refine wpAny_runValue (codeAny_builtin t_ ?_);unfold Builtin.«proto.unchain»;refine(show ahn _ _ (field (.ref b) 2 >>= _) _ _ s from aho (wpAny_field h1 h2 h3 ?_));rw[if_pos (by rfl)];exact ahs k
theorem Ax{x left step:Int}{Q:Option ahb->aha->Prop}(hh:A.handled=some (.ref b))(h1:s.heap.get? b=some o)(h2:o.data= .fields vs)(h3:vs[2]? =some c_)(hit:IsRangeIter s.heap it x left step)(hl:left<=0)
  (k:∀h',Heap.ExtBut it s.heap h'->Q none { s with heap:=h' }):ahn (model prog w) A (pyNext (.ref it)) Q E s:=by
 have ty:s.TypeIs (.ref it) "range_iterator":=⟨_,hit,rfl⟩;unfold pyNext;refine aho (wpAny_attempt (wpAny_callSpecial?_slot (name:=vx "__next__") ty PySem.F.slot_range_iterator_next (wpAny_call_entry PySem.F.slot_range_iterator_next ty PySem.F.entry_range_iterator_next ?_ (PySem.F.args_range_iterator_next_1 _))));refine(show ahn _ _ (field (.ref it) 0 >>= _) _ _ s from aho (wpAny_field hit rfl (x:=rawInt x) rfl ?_));refine(show ahn _ _ (field (.ref it) 1 >>= _) _ _ s from aho (wpAny_field hit rfl (x:=rawInt left) rfl ?_));refine(show ahn _ _ (field (.ref it) 2 >>= _) _ _ s from aho (wpAny_field hit rfl (x:=rawInt step) rfl ?_));refine(show ahn _ _ (if left<=0 then _ else _) _ _ s from ?_);rw[if_pos hl];refine aho (wpAny_rule (aho ?_));refine(show ahn _ _ (newExc (.type "StopIteration") [] >>= _) _ _ _ from ?_);simp only[newExc,newTuple,raiseNew];refine aho (aho (ahr (aho (m:=firstArgMember _ _) (wpAny_of_eq (a:=c_) (by first |rfl |(simp only[firstArgMember];rfl)) (ahr ?_ (by size_fits)))) (by size_fits)));refine(aho (wpAny_handled ?_));rw[show A.in1.handled=some (.ref b) from hh];dsimp only;have lt:b≠(s.heap.push { cls:=.type "tuple",data:=.seq #[] }).objs.size:=λz=>by have q:=bx (bQ (h:=s.heap) { cls:=.type "tuple",data:=.seq #[] } h1);rw[<-z]at q;exact fX _ q
 rw[if_pos (by simpa using lt)];refine aho (ahp (Aw (bQ _ (bQ _ h1)) h2 h3 ?_));refine aho ((show ahn (model prog w) A.in1 (setField (.ref (s.heap.push { cls:=.type "tuple",data:=.seq #[] }).objs.size) 2 (.ref b)) _ _ _ from wpAny_setField (dR _ rfl) rfl (by simp[ownMembersOf]) (wpAny_throw ?_)));refine aho (wpAny_isInstance (b:=true) (T:="StopIteration") ⟨_,zR _ (dR _ rfl) rfl,rfl⟩ isSubtype_stop (ahs ?_));refine k _ λc q hc e=>?_;have e':((s.heap.push { cls:=.type "tuple",data:=.seq #[] }).push { cls:=oh "StopIteration",data:=.fields (#[.ref s.heap.objs.size,.none,.none,.none,.bool false,.none]++ownMembersOf (.type "StopIteration") []) }).get? c=some q:=(((Heap.ExtBut.refl it s.heap).push _).push _) c q hc e;have ne:c≠(s.heap.push { cls:=.type "tuple",data:=.seq #[] }).objs.size:=λz=>by have q':=bx (bQ (h:=s.heap) { cls:=.type "tuple",data:=.seq #[] } e);rw[<-z]at q';exact fX _ q'
 exact(pF _ _ (cR ne)).trans e'
end
theorem Hf(h:Ah X):Tj Ah X:=λ_ _ _ _ _ _ _ _ I=>h.at I
theorem yu(it:ag5)(lo:Int)(n:Nat):BF Ah P w K tg (Kb lo n) [it] it (λi h=>IsRangeIter h it (lo+(i:Nat) * 1) ((n:Int) - (i:Nat)) 1) where
 obj:=(kz (P:=P) (w:=w) (K:=K) (tg:=tg) it lo n).obj
 keep:=(kz (P:=P) (w:=w) (K:=K) (tg:=tg) it lo n).keep
 self:=(kz (P:=P) (w:=w) (K:=K) (tg:=tg) it lo n).self
 item:=by
  intro X hP hw hK hc i pins s σ H E I hf st hg;subst hP hw hK;have hg':i < n:=hg;obtain⟨f0,f1,f2,f3,f4,f5⟩:=hf it (by simp);refine wpAny_pyNext_range_item st (by omega) λh' st' sb=>?_;have st2:IsRangeIter h' it (lo+((i+1:Nat):Int) * 1) ((n:Int) - ((i+1:Nat):Int)) 1:=by
   have e1:lo+((i+1:Nat):Int) * 1=lo+(i:Int) * 1+1:=by push_cast;omega
   have e2:(n:Int) - ((i+1:Nat):Int)=(n:Int) - (i:Int) - 1:=by push_cast;omega
   rw[e1,e2];exact st'
  have I1:Inv X pins σ H { s with heap:=h',toks:=s.toks+1 }:=I.turned (λb o hb e=>sb.extBut b o hb e) f0 f1 f3 f4 f5;exact⟨_,rfl,uA (s:={ s with heap:=h',toks:=s.toks+1 }) (n:="range_iterator") st2 rfl rfl (by decide) ⟨.int (lo+i),H,I1,⟨s.toks,by rw[Int.mul_one]⟩,⟨rfl,rfl⟩,st2,λb hb=>(hf b hb).1⟩⟩
 done:=by
  intro X hP hw hK hc i pins s σ H E I hf st hg;subst hP hw hK;have hg':n<=i:=hg;obtain⟨f0,f1,f2,f3,f4,f5⟩:=hf it (by simp);rcases hc.at I with h0 |⟨b,o,u,h1,⟨vs,d1,d2⟩,h3⟩
  ·exact wpAny_pyNext_range_end h0 st (by omega) λh' eb=>⟨rfl,I.turned (t':=s.toks) (λb o hb e=>eb b o hb e) f0 f1 f3 f4 f5⟩
  exact Ax h1 (I.hok _ _ h3).1 d1 d2 st (by omega) λh' eb=>⟨rfl,I.turned (t':=s.toks) (λb o hb e=>eb b o hb e) f0 f1 f3 f4 f5⟩
section
variable {X:Cx}{tg:Expr}
theorem Ay{ta:TA}(hg:Gl X "range")(hm:X.mg "range"=none)(ha:PA X [a] ta)(hs:ahm [a] X.env=[(false,eval a X.env)]):ZM Ah X tg (.Call (.Name "range" p) [a] [] pos) (MC ta):=by
 intro pins s σ H R I h;refine Call_ (r9 I hg hm boot_range (Bn (bM (ha pos pins s σ H _ I h) λus s1 ⟨vs,H1,I1,r1,j,e,q1,q2,q⟩=>?_) hs rfl));subst e;obtain⟨u,rfl,t,rfl⟩:=vals1 r1;refine call_range_1 (wpAny_pyIter_range (IsRange.new ..) (small_one (by omega) (by omega) q1 q2) ?_);generalize hh:s1.heap.push { cls:=.type "range",data:=.fields _ }=h2;have I2:∀tk,Inv X pins σ H1 { s1 with heap:=h2,toks:=tk }:=λtk=>I1.kept λb o e=>by rw[<-hh];exact bQ _ e
 refine⟨h2.objs.size,[h2.objs.size],_,Kb 0 j.toNat,H1,rfl,(I2 _).kept (t':=_) λb o e=>bQ _ e,yu _ 0 j.toNat,?_,λb hb=>?_,q⟩
 ·have e2:((j.toNat:Nat):Int) - ((0:Nat):Int)=Om 0 j 1:=by rw[rangeSize_one];split<;>omega
  refine(show IsRangeIter _ _ ((0:Int)+((0:Nat):Int) * 1) (((j.toNat:Nat):Int) - ((0:Nat):Int)) 1 from ?_);rw[e2];exact dR _ rfl
 ·rw[List.mem_singleton.mp hb];exact(I2 s1.toks).E8 (aA _) ((I2 s1.toks).hok.fresh (aA _))
theorem Qh{ga:GA}(hg:Gl X "range")(hm:X.mg "range"=none)(ha:JA X [a] ga)(hst:ahm [a] X.env=[(false,eval a X.env)]):Tq Ah X tg (.Call (.Name "range" p) [a] [] q) (Lk ga):=by
 refine⟨_,Ay hg hm ll hst,λρ st σ H m Q S R p=>?_⟩;refine ha.go S R (aE.bind p) λws st1 vs m1 H1 p1 e1 S1 rs=>?_
 match ws,rs,p1 with
 |[],rs,p1=>exact aa p1
 |x::y::t,rs,p1=>cases x<;>exact aa p1
 |[x],rs,p1=>
  obtain⟨v,rfl,r1⟩:=ke rs;cases x with
  |int j=>
   cases aZ r1;unfold BG at p1;by_cases c:nz j
   ·simp only[if_pos c]at p1;exact⟨j,rfl,c.1,c.2,p1 m1 H1 _ e1 S1 trivial GG⟩
   ·simp only[if_neg c]at p1;exact aa p1
  |_=>exact aa p1
end
def getD(d k:Wv)(st:Hs):Option Wv:=match d with
 |.ref l=>(match st[l]? with
  |some (.dct kvs)=>(match keyOf k with |some kk=>Lu kvs kk |none=>none)
  |some (.ED kvs)=>(match Va k with |some kk=>Lu kvs kk |none=>none)
  |some (.Dl kvs)=>(match Va k with |some kk=>Lu kvs kk |none=>none)
  |_=>none)
 |_=>none
structure M0(X:Cx)(o:Expr)(m:Str)(apos cpos:Pos):Prop where
 base:attributeBase o m X.env (eval o X.env)=eval o X.env
 line:(apos.endLine == cpos.line)=true
section
variable {X:Cx}
def MZ(ws:List Wv)(st:Hs):Re Wk:=match ws with
 |[.int a,.int b,.int c]=>if CRs a b c then .ok (none,ZT a c (Vg a b c)) st else .bad
 |_=> .bad
def ZV(g:GA):GI:=λρ st=>(g ρ st).bind MZ
end
abbrev Kw:=Int×(Int ⊕ Str)
def kd:Kw:=(0,.inl 0)
variable {X:Cx}
def oLt:iQ:=λx y st=>Vb x y st
theorem Qi(hu:X.A.units+64 < cLine):mz X (ahi .Lt) oLt:=Qa hu
section
variable {X:Cx}
theorem LG:hV X (ahi .IsNot) (λx y H Q=>∃a b,x= .bl a/\y= .bl b/\Q (.bl (a != b)) H):=by intro pins s σ H x y v u Q I rx ry h;obtain⟨a,b,rfl,rfl,q⟩:=h;cases rx;cases ry;exact isnot_bool ⟨.bl (a != b),H,I,rfl,q⟩
def M1:iQ:=λx y st=>match x,y with
 |.bl a,.bl b=> .ok (.bl (a != b)) st
 |x,y=>FR x y st
theorem LH:mz X (ahi .IsNot) M1:=by
 obtain⟨r,h1,h2⟩:=FT (X:=X);refine⟨_,hV.or h1 LG,λx y a b st H m Q S rx ry p=>?_⟩;cases x with
 |bl c=>
  cases y with
  |bl d=>
   have e1:a= .bl c:=by unfold ak at rx;exact rx
   have e2:b= .bl d:=by unfold ak at ry;exact ry
   exact .inr ⟨c,d,e1,e2,p _ m H Ext.refl S ly⟩
  |_=>exact .inl (h2 _ _ _ _ st H m Q S rx ry p)
 |_=>exact .inl (h2 _ _ _ _ st H m Q S rx ry p)
end
variable{o:Expr}
section
variable {X:Cx}
def Vh(to:TE):TE:=λσ H Q=>to σ H λx H1=>Zh X.K "list" x H1/\Uq x [] H1 Q
theorem LI{to:TE}(ho:PE X o to)(m:M0 X o "pop" apos cpos):PE X (.Call (.Attribute o "pop" apos) [] [] cpos) (Vh (X:=X) to):=by intro pins s σ H Q I h;refine wpAny_Call_method0_late m.base m.line (bM (ho pins s σ H _ I h) λv s1 ⟨x,H1,I1,r1,ty,q1⟩=>?_);obtain⟨h1,h2⟩:=Ft I1 r1 ty;exact⟨"list","list.pop",F.plainAttrs_list,F.slot_list_pop,F.type_list_pop,h1,h2,OQ rfl (PySem.evalArgs_none (OT pins s1 σ H1 x [] v [] Q I1 r1 .nil q1))⟩
def Vi(w:Wv)(st:Hs):Re Wv:=match w with
 |.ref l=>(match st[l]? with
  |some (.lst ws)=>(match ws[ws.length - 1]? with |some v=> .ok v (st.set l (.lst ws.dropLast)) |none=> .bad)
  |_=> .bad)
 |_=> .bad
def yv(g:GE):GE:=λρ st=>(g ρ st).bind Vi
theorem ai.at?{K:PySem.W.Frag}{m:Mp}{H:Hp}:∀{ws:List Wv}{xs:List V}{i:Nat}{w:Wv},ai K m H ws xs->ws[i]? =some w->∃x,xs[i]? =some x/\ak K m H w x
 |[],xs,i,w,r,e=>by cases e
 |v::ws,xs,0,w,r,e=>by unfold ai at r;obtain⟨x,t,rfl,r1,r2⟩:=r;cases e;exact⟨x,rfl,r1⟩
 |v::ws,xs,i+1,w,r,e=>by unfold ai at r;obtain⟨x,t,rfl,r1,r2⟩:=r;exact ai.at? (ws:=ws) (xs:=t) (i:=i) r2 e
theorem ai.init{K:PySem.W.Frag}{m:Mp}{H:Hp}:∀{ws:List Wv}{xs:List V},ai K m H ws xs->ai K m H ws.dropLast xs.dropLast
 |[],xs,r=>by unfold ai at r;subst r;exact ai.nil
 |[v],xs,r=>by unfold ai at r;obtain⟨x,t,rfl,r1,r2⟩:=r;unfold ai at r2;subst r2;exact ai.nil
 |v::u::ws,xs,r=>by unfold ai at r;obtain⟨x,t,rfl,r1,r2⟩:=r;have q:=ai.init r2;unfold ai at r2;obtain⟨y,t2,rfl,r3,r4⟩:=r2;exact ai.cons r1 q
theorem LJ(h:JE X o g)(m:M0 X o "pop" apos cpos):JE X (.Call (.Attribute o "pop" apos) [] [] cpos) (yv g) :=
 JE.of (LI bg m) λρ st σ H m Q S R p=>by
  refine h.go S R (aE.bind p) λw st1 v m1 H1 p1 e1 S1 r1=>?_;cases w with
  |ref l=>
   unfold ak at r1;obtain⟨a,rfl,ha⟩:=r1;unfold Vi at p1;dsimp only at p1;cases q2:st1[l]? with
   |none=>rw[q2]at p1;exact aa p1
   |some ob=>
    rw[q2]at p1;cases ob with
    |lst ws=>
     dsimp only at p1;obtain⟨xs,y1,y2⟩:=(show ∃ys,H1 a=some (.lst ys)/\ai X.K m1 H1 ws ys from S1.obj _ _ _ ha q2);cases q3:ws[ws.length - 1]? with
     |none=>rw[q3]at p1;exact aa p1
     |some w=>rw[q3]at p1;obtain⟨x,z1,z2⟩:=ai.at? y2 q3;rw[y2.length]at z1;have ex:Ext X.K m1 H1 m1 (upd H1 a (.lst xs.dropLast)):=Ext.lH (.inr (.inl ⟨_,y1⟩));exact⟨.inl ⟨rfl,xs,.inl (.inl y1)⟩,a,xs,x,rfl,rfl,y1,z1,p1 x m1 _ (e1.trans ex) (S1.vI ha q2 rfl ⟨_,bF,(ai.init y2).mono ex⟩) (ak.mono ex _ _ z2)⟩
    |_=>exact aa p1
  |_=>exact aa p1
end
end J
namespace TB
open PySem PySem.SetTable
def stp(M i:Nat):Nat:=(i * 5+1) % M
def itr(M:Nat):Nat->Nat->Nat
 | 0,i=>i
 |n+1,i=>itr M n (stp M i)
def Vj(M:Nat):Nat->Nat->List Nat
 | 0,_=>[]
 |n+1,i=>i::Vj M n (stp M i)
def Tt(M:Nat):Bool:=((nh M).all λb=>(Vj M M 0).contains b)&&itr M M 0 == 0
def J_(h:Heap)(a:ag5)(l:List (Int×ahb)):Prop:=∃o es ep t,h.get? a=some o/\o.ExactSet/\o.data= .set es ep t/\es.toList.Perm l/\t.place.size=es.size/\t.dummies=#[]/\(t.mask=7\/t.mask=31\/t.mask=127\/t.mask=511)/\es.size * 5 < t.mask * 3
end TB
namespace JT
open PySem PyProof.Rows
class Od where
 kd:SortKind
 ik:ahu->Prop
 kn:ahu->Int
abbrev Kd[Od]:SortKind:=Od.kd
abbrev Ik[Od](p:ahu):Prop:=Od.ik p
def kn[Od](p:ahu):Int:=Od.kn p
def K[Od](xs:Array ahu)(i:Nat):Int:=match xs[i]? with
 |some p=>kn p
 |none=>0
class Oa [Od] (prog:ag9) (w:ahc) (A:ag6) (E:ahb->aha->Prop) (s:aha):Prop where
 lt:∀{st:SortSt}{x y:ahu}{Q:Option Bool->SortSt->Prop},kindOf st=Kd->Ik x->Ik y->Q (some (decide (kn x < kn y))) st->wpS (model prog w) A E s (lt' x y) Q st
section
variable [Od] {prog:ag9}{w:ahc}{A:ag6}{E:ahb->aha->Prop}{s:aha} [Oa prog w A E s]
def gp(left:Bool)(key:ahu)(arr:Array ahu)(base i:Nat):Bool:=if left then decide (K arr (base+i) < kn key)else !decide (kn key < K arr (base+i))
end
end JT
namespace J
open PySem PySem.Spec PyProof.Rows PySem.W L2
open PySem PySem.Spec PyProof.Rows L2
theorem pO:fillsNumberSlot (.type "tuple") "mul"=pure false :=
 PySem.fillsNumberSlot_seq (id:="tuple.__mul__") (r:=some (.builtin "tuple.__rmul__")) F.slot_tuple_mul.lookup (by decide+kernel) F.slot_tuple_rmul.lookup (by decide+kernel)
theorem wk:seqRepeat? (.type "tuple")=pure (some (.builtin "tuple.__mul__")):=by unfold seqRepeat?;rw[PySem.seqSlot_of (T:="tuple") (name:="__mul__") (id:="tuple.__mul__") F.slot_tuple_mul.lookup (by decide+kernel),PySem.seqSlot_of (T:="tuple") (name:="__rmul__") (id:="tuple.__rmul__") F.slot_tuple_rmul.lookup (by decide+kernel)];rfl
theorem wq(a:Int)(t:Tok)(l:ag5)(o:Obj)(its:Array ahb)(n:Nat):
  Meets (Builtin.«int.__rmul__» ⟨[.int a t,.ref l],[]⟩) (λ_ R s=>s.heap.get? l=some o/\o.cls= .type "tuple"/\o.data= .seq its n/\R (.ok (.ret Value.notImplemented)) s) :=
 .of_wp λprog w A R s h=>by
  obtain⟨hp,g,d,tk,os⟩:=s;obtain⟨hl,hc,hd,h⟩:=h;have hT:(⟨hp,g,d,tk,os⟩:aha).TypeIs (.ref l) "tuple":=⟨o,hl,hc⟩
  wp_walk
  rw[hd];refine ahs ?_
  wp_walk
  exact⟨_,rfl,h⟩
theorem DX(l:ag5)(o:Obj)(its:Array ahb)(n:Nat)(x:Int)(u:Tok)(h0:its.isEmpty=false)(h1:2<=x)(h2:x < 2 ^ 63)(h3:its.size * x.toNat<=ahl):
  Meets (Builtin.«tuple.__mul__» ⟨[.ref l,.int x u],[]⟩) (λ_ R s=>s.heap.get? l=some o/\o.cls= .type "tuple"/\o.data= .seq its n/\R (.ok (.ret (bz s.heap.objs.size))) { s with heap:=s.heap.push { cls:=oh "tuple",data:=Data.seq (sA (λx1 x2=>x1++x2) #[] (aR x.toNat its)) } }) :=
 .of_wp λprog w A R s h=>by
  obtain⟨hl,hc,hd,h⟩:=h;show ahn _ _ (asIndex (.int x u) >>= _) _ _ _;have hT:s.TypeIs (.ref l) "tuple":=⟨o,hl,hc⟩;have c1:(decide (x < -(2 ^ 63))||decide (x >= 2 ^ 63))=false:=by simp;omega
  have c2:(decide (x<=0)||its.isEmpty)=false:=by rw[h0];simp;omega
  have c3:(its.isEmpty||x == 1)=false:=by rw[h0];simp;omega
  have hm:(its.size:Int) * x<=ahl:=by
   have e:x=(x.toNat:Int):=by omega
   rw[e]
   exact_mod_cast h3
  have c4:¬(its.size:Int) * x > (2 ^ 63 - 1) / 8:=by
   have:(ahl:Int)<=(2 ^ 63 - 1) / 8:=by decide
   omega
  have c5:Builtin.Tuple.tupleTooMany ((its.size:Int) * x)=false:=decide_eq_false (by omega);refine aho (show ahn _ _ (asIndex (.int x u)) _ _ _ from ahs ?_);rw[c1];refine(show ahn _ _ (zr (.ref l) >>= _) _ _ _ from aho (wpAny_tupleItemsOf hl hd ?_));rw[c3];simp only[uy,if_false];rw[c2];simp only[uy,if_false];rw[if_neg c4,c5];simp only[uy,if_false];refine aho (show ahn _ _ (newObj (.type "tuple") (.seq _)) _ _ _ from ahr (ahs ⟨_,rfl,h⟩) ?_);show(sA (λx1 x2=>x1++x2) #[] (aR x.toNat its)).size<=ahl;have f0:=foldl_rep its.toList x.toNat [];rw[zV]at f0;have f1:its.toList.toArray=its:=by simp
  rw[f1]at f0;rw[f0,a8,len_rep,lD,Bu];exact h3
section
variable {X:Cx}
def Vk(K:PySem.W.Frag):R2:=λx y H Q=>∃a k xs,x= .ref a/\y= .int k/\gz K H a xs/\xs≠[]/\2<=k/\k < 2 ^ 63/\xs.length * k.toNat<=ahl/\∀p,H p=none->Q (.ref p) (upd H p (.tup (aR k.toNat xs).flatten))
theorem LK:hV X (ahe .Mult) (Vk X.K):=by
 intro pins s σ H x y v u Q I rx ry h;obtain⟨a,k,xs,rfl,rfl,hH,h0,h1,h2,hz,q⟩:=h;cases rx;obtain⟨t,rfl⟩:=ry;obtain⟨its,r,⟨o,g1,g2,n,g3⟩,_⟩:=I.tuple hH;have hl:=r.length;have hlen:its.toArray.size * k.toNat<=ahl:=by rw[a8,<-hl];exact hz
 have hne:its.toArray.isEmpty=false:=by
  cases r with
  |nil=>exact absurd rfl h0
  |cons _ _=>rfl
 have hnew:sA (λx1 x2=>x1++x2) #[] (aR k.toNat its.toArray)=(aR k.toNat its).flatten.toArray:=by have:=foldl_rep its k.toNat [];rw[zV]at this;exact this
 refine wpAny_binaryOp_repeat_ref (T:="tuple") (U:="int") (by decide) ⟨o,g1,g2⟩ (λs'=>typeIs_int s' k t) pO F.fills_int_mul zW wk F.slot_int_index.lookup
  (call_meets zW (typeIs_int s k t) F.entry_int_rmul (F.args_int_rmul_2 _ _) (wq k t a o its.toArray n)
   ⟨g1,g2,g3,rfl,⟨o,g1,g2⟩,call_meets F.slot_tuple_mul ⟨o,g1,g2⟩ F.entry_tuple_mul (F.args_tuple_mul_2 _ _) (DX a o its.toArray n k t hne h1 h2 hlen) ⟨g1,g2,g3,?_⟩⟩)
 rw[hnew];refine⟨.ref s.heap.objs.size,_,I.laid (t':=s.toks) (o:=.tup (aR k.toNat xs).flatten) (λb ob q=>bQ _ q) (aA _) ?_,rfl,q _ (I.hok.fresh (aA _))⟩;exact⟨by rw[len_rep,Bu];exact hz,_,r.rep k.toNat,zP _ _,xF.new _ _⟩
def di:iQ:=λx y st=>match x,y with
 |.tup ws,.int n=>if ws≠[]/\2<=n/\n < 2 ^ 62/\ws.length * n.toNat<=lim then .ok (.tup (aR n.toNat ws).flatten) st else .bad
 |x,y=>MW x y st
theorem Hg:mz X (ahe .Mult) di:=by
 obtain⟨r,h1,h2⟩:=LA (X:=X);refine⟨_,hV.or LK h1,λx y a b st H m Q S rx ry p=>?_⟩;cases x with
 |tup ws=>
  cases y with
  |int n=>
   have p':dB X.K m H (if ws≠[]/\2<=n/\n < 2 ^ 62/\ws.length * n.toNat<=lim then .ok (.tup (aR n.toNat ws).flatten) st else .bad) Q:=p;by_cases c:ws≠[]/\2<=n/\n < 2 ^ 62/\ws.length * n.toNat<=lim
   ·rw[if_pos c]at p';cases aZ ry;unfold ak at rx;obtain⟨d,xs,rfl,hd,rs⟩:=rx;refine .inl ⟨d,n,xs,rfl,rfl,gz.of hd,λe=>?_,c.2.1,by have:=c.2.2.1;omega,by rw[<-rs.length];exact dE c.2.2.2,λq hq=>?_⟩
    ·subst e;exact c.1 (Ab rs.length)
    ·have eY:Ext X.K m H m (upd H q (.tup (aR n.toNat xs).flatten)):=Ext.lH (.inl hq);refine p' (.ref q) m _ eY (S.fresh hq) ?_;unfold ak;exact⟨q,_,rfl,bF,(pJ rs n.toNat).mono eY⟩
   ·rw[if_neg c]at p';exact aa p'
  |_=>exact .inr (h2 _ _ _ _ st H m Q S rx ry p)
 |_=>exact .inr (h2 _ _ _ _ st H m Q S rx ry p)
end
def yw(f:PySem.Str)(v:Wv):List (PySem.Str×Wv)->List (PySem.Str×Wv)
 |[]=>[(f,v)]
 |(g,x)::r=>if g=f then(g,v)::r else(g,x)::yw f v r
variable{c:PySem.Str}
section
variable {K:PySem.W.Frag}{m:Mp}{H:Hp}
theorem pP{f:PySem.Str}{w:Wv}:∀{fs:List (PySem.Str×Wv)}{xs:List (PySem.Str×V)},RelK K m H fs xs->fs.lookup f=some w->∃v,xs.lookup f=some v/\ak K m H w v
 |[],xs,r,e=>by cases e
 |(g,x)::t,xs,r,e=>by
  obtain⟨v,ys,rfl,r1,r2⟩:=r.cons_inv;rw[f6]at e ⊢;cases b:f == g with
  |true=>rw[b]at e;cases e;exact⟨v,rfl,r1⟩
  |false=>rw[b]at e;exact pP r2 e
theorem uY{f:PySem.Str}:∀{fs:List (PySem.Str×Wv)}{xs:List (PySem.Str×V)},RelK K m H fs xs->fs.lookup f=none->xs.lookup f=none
 |[],xs,r,e=>by rw[r.nil_inv];rfl
 |(g,x)::t,xs,r,e=>by
  obtain⟨v,ys,rfl,r1,r2⟩:=r.cons_inv;rw[f6]at e ⊢;cases b:f == g with
  |true=>rw[b]at e;cases e
  |false=>rw[b]at e;exact uY r2 e
theorem sX{f:PySem.Str}{w:Wv}{v:V}(h:ak K m H w v):∀{fs:List (PySem.Str×Wv)}{xs:List (PySem.Str×V)},RelK K m H fs xs->RelK K m H (yw f w fs) (jQ f v xs)
 |[],xs,r=>by rw[r.nil_inv];exact RelK.nil.snoc f h
 |(g,x)::t,xs,r=>by
  obtain⟨y,ys,rfl,r1,r2⟩:=r.cons_inv;unfold yw jQ;by_cases e:g=f
  ·rw[if_pos e,if_pos e];exact RelK.cons h r2
  ·rw[if_neg e,if_neg e];exact RelK.cons r1 (sX h r2)
theorem sY{C D:ag5}(h:ClsAt K c C)(k:ClsAt K c D):C=D:=by unfold ClsAt at h k;rw[h]at k;cases k;rfl
end
def Own(K:PySem.W.Frag)(c f:PySem.Str):Prop:=∃C,ClsAt K c C/\C9 K C/\lE K C f
def dZ(st:Hs)(c:PySem.Str):Wv->Option (List (PySem.Str×Wv))
 |.ref l=>match st[l]? with
  |some (.ins c' fs)=>if c'=c then some fs else none
  |_=>none
 |_=>none
theorem kl{K:PySem.W.Frag}{m:Mp}{H:Hp}{st:Hs}{o:Wv}{v:V}{fs:List (PySem.Str×Wv)}(S:b4 K m st H)(r:ak K m H o v)(e:dZ st c o=some fs):
  ∃l a C dx xs,o= .ref l/\st[l]? =some (.ins c fs)/\v= .ref a/\m[l]? =some a/\H a=some (.ins C dx xs)/\ClsAt K c C/\RelK K m H fs xs:=by
 cases o with
 |ref l=>
  unfold dZ at e;cases e1:st[l]? with
  |none=>simp only[e1]at e;cases e
  |some ob=>
   simp only[e1]at e;cases ob with
   |ins c' gs=>
    dsimp only at e;by_cases ec:c'=c
    ·rw[if_pos ec]at e;cases e;subst ec;unfold ak at r;obtain⟨a,rfl,ha⟩:=r;obtain⟨C,dx,xs,h1,h2,h3⟩:=S.obj l a _ ha e1;exact⟨l,a,C,dx,xs,rfl,e1,rfl,ha,h1,h2,h3⟩
    ·rw[if_neg ec]at e;cases e
   |_=>cases e
 |_=>cases e
def ua(c f:PySem.Str)(g:GE):GE:=λρ st=>(g ρ st).bind λo st1=>match(dZ st1 c o).bind (·.lookup f)with
 |some w=> .ok w st1
 |none=> .bad
def ub(c f:PySem.Str)(o v:Wv)(st:Hs):Option Hs:=match dZ st c o,o with
 |some fs,.ref l=>if fs.length < 900 then some (st.set l (.ins c (yw f v fs)))else none
 |_,_=>none
def qz(c f:PySem.Str)(gv go:GE):GS:=λρ st=>(gv ρ st).bM ρ λv st1=>(go ρ st1).bM ρ λo st2=>match ub c f o v st2 with
 |some st3=> .nx ρ st3
 |none=> .bad
def f9(c f:PySem.Str)(n:Nat)(F:List Wv->Hs->Re Wv)(go:GE)(ga:GA):GE:=λρ st=>(go ρ st).bind λo st1=>match(dZ st1 c o).map (·.lookup f)with
 |some none=>(ga ρ st1).bind λws st2=>if ws.length+1=n then F (o::ws) st2 else .bad
 |_=> .bad
def XM(c:PySem.Str)(F:List Wv->Hs->Re Wv)(ws:List Wv)(st:Hs):Re Wv:=match F (.ref st.length::ws) (st++[.ins c []])with
 |.ok .cG st2=> .ok (.ref st.length) st2
 |_=> .bad
def yx(c:PySem.Str)(n:Nat)(F:List Wv->Hs->Re Wv)(ga:GA):GE:=λρ st=>(ga ρ st).bind λws st1=>if ws.length+1=n then XM c F ws st1 else .bad
def qT(P:ag9)(w:ahc)(K:PySem.W.Frag)(mg:Str->Option ahb)(base:Heap)(k:Nat)(c f:Str)(n:Nat)(F:List Wv->Hs->Re Wv):Prop :=
 ∃C a fd ps,FnOk P w K mg base (CXJ P w) k a fd ps (spW K n F)/\ClsAt K c C/\C9 K C/\Meth K C f a/\Binds K fd ps []
def yy(P:ag9)(w:ahc)(K:PySem.W.Frag)(mg:Str->Option ahb)(base:Heap)(k:Nat)(c:Str)(n:Nat)(F:List Wv->Hs->Re Wv):Prop :=
 ∃C a fd ps j,j+1<=k/\FnOk P w K mg base (CXJ P w) j a fd ps (spW K n F)/\ClsAt K c C/\mg c=some (.ref C)/\Mk K C a/\Binds K fd ps []
variable{c f:Str}{o e:Expr}{g:GA}{pos pos' apos:Pos}{go:GE}{A:ag6}{E:ahb->aha->Prop}{s:aha}{k n:Nat}{F:List Wv->Hs->Re Wv}{es:List Expr}
section
variable {X:Cx}
theorem Qj{g:GE}(ho:JE X o g)(hb:attributeBase o f X.env (eval o X.env)=eval o X.env)(hc:Own X.K c f):JE X (.Attribute o f pos) (ua c f g) :=
 JE.of (OA bg hb) λρ st σ H m Q S R p=>ho.go S R (aE.bind p) λw st1 v m1 H1 p1 e1 S1 r1=>by
  cases e:dZ st1 c w with
  |none=>rw[e]at p1;exact aa p1
  |some fs=>
   rw[e]at p1;dsimp only[BO]at p1;obtain⟨l,a,C,dx,xs,rfl,h1,rfl,ha,h2,h3,h4⟩:=kl S1 r1 e;obtain⟨C',k1,k2,k3⟩:=hc;cases sY h3 k1;cases e2:fs.lookup f with
   |none=>rw[e2]at p1;exact aa p1
   |some u=>rw[e2]at p1;obtain⟨y,l1,l2⟩:=pP h4 e2;exact⟨a,C,dx,xs,y,rfl,h2,k2,k3,l1,p1 y m1 H1 e1 S1 l2⟩
theorem Qk{ge:GE}(ho:JE X o go)(he:JE X e ge)(hs:swapsWith e (some (.Attribute o f pos')) pos.line X.env=pure false)(hc:Own X.K c f):JS X (.Assign [.Attribute o f pos'] e pos) (qz c f ge go) :=
 JS.of (OB bg bg hs) λρ st σ H m D S R p=>by
  refine he.go S R (bf.dS R p) λv st1 vv m1 H1 p1 e1 S1 rv=>?_;refine ho.go S1 (R.mono e1) ((bf.dS (m:=m) (H:=H) R p1).imp e1 λ_ _ q=>q) λd st2 vd m2 H2 p2 e2 S2 rd=>?_;cases e3:dZ st2 c d with
  |none=>unfold ub at p2;rw[e3]at p2;exact aa p2
  |some fs=>
   obtain⟨l,a,C,dx,xs,rfl,h1,rfl,ha,h2,h3,h4⟩:=kl S2 rd e3;unfold ub at p2;rw[e3]at p2;dsimp only at p2;obtain⟨C',k1,k2,k3⟩:=hc;cases sY h3 k1;by_cases hl:fs.length < 900
   ·rw[if_pos hl]at p2;have wr:Wr (H2 a):=.inr (.inr (.inr (.inr (.inr ⟨_,_,_,h2⟩))));have ex:Ext X.K m2 H2 m2 (upd H2 a (.ins C dx (jQ f vv xs))):=Ext.lH wr;have MY:=e1.trans e2;refine⟨a,C,dx,xs,rfl,h2,k2,k3,(by have:=h4.length;omega),p2 σ m2 _ (MY.trans ex) ?_ (R.mono (MY.trans ex))⟩;exact S2.vI ha h1 rfl ⟨C,dx,_,bF,h3,(sX (ak.mono e2 _ _ rv) h4).mono ex⟩
   ·rw[if_neg hl]at p2;exact aa p2
theorem Hh{prog:ag9}{w:ahc}{env:Env}{name:Str}{args:List Expr}{Q:ahb->aha->Prop}(hbase:attributeBase o name env (eval o env)=eval o env)
  (hfew:((backTo pos (ahm args env)).all (λx=> !x.1)&&(backToKw pos (keywordEach [] env)).all (λx=>x.1.isSome)&&decide (args.length+([]:List Keyword).length+(if([]:List Keyword).isEmpty then 0 else 1) < 30))=true)(hline:(apos.endLine == pos.line)=true)
  (h:ahn (model prog w) A (eval o env) (λov s₁=>∀pl,ahn (model prog w) A (getMethod ov name pl) (λfx s₂=>ahn (model prog w) A (callWith pos fx.1 fx.2 (backTo pos (ahm args env)) (backToKw pos (keywordEach [] env))) Q E s₂) E s₁) E s):
  ahn (model prog w) A (eval (.Call (.Attribute o name apos) args [] pos) env) Q E s:=by
 rw[arm_eval_Call,hbase];refine aho (ahq h (λov s₁ h₁=>?_) λ_ _ e=>e);refine aho (wpAny_standAt ?_);have Vl:methodCallForm (args.length+([]:List Keyword).length) (backTo pos (ahm args env)) (backToKw pos (keywordEach [] env))=true:=hfew;have hpos:methodCallPos true o env apos pos=pure pos:=by unfold methodCallPos;simp[hline]
 unfold methodCall;rw[Vl];refine aho (ahp ?_);unfold calleeOf;rw[if_pos rfl];exact ahq (h₁ _) (λfx s₂ h₂=>aho (wpAny_of_eq hpos h₂)) λ_ _ e=>e
theorem BP
  (G:qT X.prog X.w X.K X.mg X.base k c f n F)(hr:hX k X.A)(ho:JE X o go)(ha:JA X es g)
  (hcw:∀{fv:ahb}{first:List ahb}{s:aha}{Q:ahb->aha->Prop},X.K.In X.base->PySem.W.keepIn X.K fv=true->ahn (model X.prog X.w) X.A (spliced (backTo pos (ahm es X.env))) (λvs s₁=>X.K.In s₁.heap/\ahn (model X.prog X.w) X.A (call fv (first++vs)) Q X.xe s₁) X.xe s->ahn (model X.prog X.w) X.A (callWith pos fv first (backTo pos (ahm es X.env)) []) Q X.xe s)
  (hbase:attributeBase o f X.env (eval o X.env)=eval o X.env)
  (hfew:((backTo pos (ahm es X.env)).all (λx=> !x.1)&&(backToKw pos (keywordEach [] X.env)).all (λx=>x.1.isSome)&&decide (es.length+([]:List Keyword).length+(if([]:List Keyword).isEmpty then 0 else 1) < 30))=true)(hline:(apos.endLine == pos.line)=true):
  JE X (.Call (.Attribute o f apos) es [] pos) (f9 c f n F go g):=by
 obtain⟨C,fa,fd,ps,G,k1,k2,k3,hb⟩:=G;intro ρ st σ H m Q S R p pins s I;have ob:=ho.go (T:=λv H1=>∃w st1 m1,dA X σ m H (match(dZ st1 c w).map (·.lookup f)with
   |some none=>(g ρ st1).bind λws st2=>if ws.length+1=n then F (w::ws) st2 else .bad
   |_=> .bad) Q/\Ext X.K m H m1 H1/\b4 X.K m1 st1 H1/\ak X.K m1 H1 w v) S R (aE.bind p)
  λw st1 v m1 H1 p1 e1 S1 r1=>⟨w,st1,m1,p1,e1,S1,r1⟩
 refine Hh hbase hfew hline (bM (ob pins s I) λu s1 ⟨x,H1,I1,rx,w,st1,m1,p1,e1,S1,r1⟩ pl=>?_);cases e3:dZ st1 c w with
 |none=>rw[e3]at p1;exact aa p1
 |some fs=>
  obtain⟨l,a,C',dx,xs,rfl,h1,rfl,hla,h2,h3,h4⟩:=kl S1 r1 e3;rw[e3]at p1;dsimp only[Option.map]at p1;cases sY h3 k1;cases e4:fs.lookup f with
  |some z=>rw[e4]at p1;exact aa p1
  |none=>
   rw[e4]at p1;dsimp only at p1;obtain rfl:u=bz a:=rx;refine zG I1 h2 k2 k3 (uY h4 e4) ?_;have args:=ha.go (T:=λvs H2=>∃ws st2 m2,dA X σ m H (if ws.length+1=n then F (.ref l::ws) st2 else .bad) Q/\Ext X.K m H m2 H2/\Ext X.K m1 H1 m2 H2/\b4 X.K m2 st2 H2/\ai X.K m2 H2 ws vs) S1 (R.mono e1) ((aE.bind p1).imp e1 λ_ _ q=>q)
    λws st2 vs m2 H2 p2 e2 S2 rs=>⟨ws,st2,m2,p2,e1.trans e2,e2,S2,rs⟩
   refine hcw (first:=[.ref a]) I.ok.mod.J0 k3.kp (bM (args pos pins s1 I1) λus s2 ⟨vs,H2,I2,r,ws,st2,m2,p2,MY,e2,S2,rs⟩=>⟨I2.pz,?_⟩);by_cases cn:ws.length+1=n
   ·rw[if_pos cn]at p2
    let E:XK:=λcl _ H3=>∃c' st3 m3 C,cl= .ref C/\ClsAt X.K c' C/\F (.ref l::ws) st2= .err c' st3/\Ext X.K m2 H2 m3 H3/\b4 X.K m3 st3 H3
    have sp:spW X.K n F (V.ref a::vs) H2 Q E:=by
     refine⟨m2,st2,.ref l::ws,S2,ai.cons (ak.mono e2 _ _ r1) rs,cn,?_⟩;cases er:F (.ref l::ws) st2 with
     |ok w st3=>rw[er]at p2;exact dA.shift (r:=.ok w st3) p2 MY
     |err c' st3=>exact λm3 H3 C e3 S3 hC=>⟨c',st3,m3,C,rfl,hC,er,e3,S3⟩
     |bad=>rw[er]at p2;exact aa p2
    have r':Vals (V.ref a::vs) (bz a::us):=.cons rfl r;have hl:(bz a::us).length=ps.length:=by rw[<-r'.length];exact G.len _ _ _ _ sp
    have bd:=hb s2 (bz a::us) I2.pz (by rw[iX];exact hl);rw[iX]at bd;refine wpAny_call (codeAny_mono (G.run X.A X.stack s2 H2 ⟨bz a::us,[]⟩ (bz a::us) (V.ref a::vs) Q E hr I2.Kl bd r' sp) λrr s3 hq=>?_);cases rr with
    |error x=>obtain⟨H3,C,fl,c',st3,m3,C',ec,hC,er,e3,S3⟩:=hq;cases ec;rw[er]at p2;exact p2 m3 H3 x s3 (MY.trans e3) S3 ⟨C,pins,H2,s2,hC,I2,.inl fl.any⟩
    |ok fw=>
     cases fw with
     |ret u=>exact I2.after hq
     |next=>exact aa hq
     |brk=>exact aa hq
     |cont=>exact aa hq
   ·rw[if_neg cn]at p2;exact aa p2
theorem Ql
  (G:qT X.prog X.w X.K X.mg X.base k c f n F)(hr:hX k X.A)(ho:JE X o go)(ha:JA X (e::es) g)
  (hst:ahm (e::es) X.env=(false,eval e X.env)::ahm es X.env)(hpl:(backTo pos (ahm es X.env)).any (·.1)=false)
  (hbase:attributeBase o f X.env (eval o X.env)=eval o X.env)
  (hfew:((backTo pos (ahm (e::es) X.env)).all (λx=> !x.1)&&(backToKw pos (keywordEach [] X.env)).all (λx=>x.1.isSome)&&decide ((e::es).length+([]:List Keyword).length+(if([]:List Keyword).isEmpty then 0 else 1) < 30))=true)(hline:(apos.endLine == pos.line)=true):
  JE X (.Call (.Attribute o f apos) (e::es) [] pos) (f9 c f n F go g) :=
 BP G hr ho ha (λki kp h=>PySem.W.callWith_K (h₀:=X.base) ki kp h hst hpl) hbase hfew hline
theorem ud{M:Model}{f:ahb}{Q:Args->aha->Prop}(h:ahn M A (spliced []) (λvs s'=>Q ⟨vs,[]⟩ s') E s):ahn M A (evalArgs f true [] []) Q E s:=by unfold evalArgs;show ahn M A (spliced [] >>= _) Q E s;refine aho (ahq h (λvs s' h'=>?_) λ_ _ x=>x);refine aho (ahs ?_);refine ahp ?_;exact aho (ahs (aho (ahs (ahs h'))))
theorem LL
  (G:qT X.prog X.w X.K X.mg X.base k c f n F)(hr:hX k X.A)(ho:JE X o go)(hbase:attributeBase o f X.env (eval o X.env)=eval o X.env)(hline:(apos.endLine == pos.line)=true):
  JE X (.Call (.Attribute o f apos) [] [] pos) (f9 c f n F go ag) :=
 BP G hr ho vO (λki kp h=>PySem.W.callWith_of rfl (PySem.W.keeps_K kp) (ud h)) hbase rfl hline
def uZ(f:Int->Int->Int)(c fl:PySem.Str)(go ge:GE):GS:=λρ st=>(go ρ st).bM ρ λo st1=>match(dZ st1 c o).bind (·.lookup fl)with
 |some (.int a)=>(ge ρ st1).bM ρ λy st2=>(match y with
  |.int b=>(match ub c fl o (.int (f a b)) st2 with |some st3=> .nx ρ st3 |none=> .bad)
  |_=> .bad)
 |_=> .bad
theorem LM{op:Operator}{f:Int->Int->Int}{fl:Str}{ge:GE}(hf:DT op=some f)(ho:JE X o go)(he:JE X e ge)(hc:Own X.K c fl):JS X (.AugAssign (.Attribute o fl pos') op e pos) (uZ f c fl go ge):=by
 have ZU:Uc X op (Xq f):=by cases op<;>first |(cases hf;exact E5) |(cases hf;exact E6) |cases hf
 refine JS.of (C_ bg bg ZU) λρ st σ H m D S R p=>?_;refine ho.go S R (bf.dS R p) λd st1 vd m1 H1 p1 e1 S1 rd=>?_;cases e3:dZ st1 c d with
 |none=>rw[e3]at p1;exact aa p1
 |some fs=>
  rw[e3]at p1;dsimp only[BO]at p1;obtain⟨l,a,C,dx,xs,rfl,h1,rfl,ha,h2,h3,h4⟩:=kl S1 rd e3;obtain⟨C',k1,k2,k3⟩:=hc;cases sY h3 k1;cases e4:fs.lookup fl with
  |none=>rw[e4]at p1;exact aa p1
  |some w=>
   rw[e4]at p1;obtain⟨v,l1,l2⟩:=pP h4 e4;refine⟨a,C,dx,xs,v,rfl,h2,k2,k3,l1,?_⟩;cases w with
   |int n=>
    dsimp only at p1;refine he.go S1 (R.mono e1) ((bf.dS (m:=m) (H:=H) R p1).imp e1 λ_ _ q=>q) λy st2 vy m2 H2 p2 e2 S2 ry=>?_;cases y with
    |int b=>
     dsimp only at p2;cases aZ l2;cases aZ ry;refine⟨n,b,rfl,rfl,?_⟩;have rd2:=ak.mono e2 _ _ rd;cases e5:dZ st2 c (.ref l)with
     |none=>unfold ub at p2;rw[e5]at p2;exact aa p2
     |some fs'=>
      obtain⟨l',a',C2,Oz,xs',q1,g1,q2,ha',g2,g3,g4⟩:=kl S2 rd2 e5;cases q1;cases q2;unfold ub at p2;rw[e5]at p2;dsimp only at p2;cases sY g3 k1;by_cases hl:fs'.length < 900
      ·rw[if_pos hl]at p2;have wr:Wr (H2 a):=.inr (.inr (.inr (.inr (.inr ⟨_,_,_,g2⟩))));have ex:Ext X.K m2 H2 m2 (upd H2 a (.ins C Oz (jQ fl (.int (f n b)) xs'))):=Ext.lH wr;refine⟨Oz,xs',g2,(by have:=g4.length;omega),p2 σ m2 _ ((e1.trans e2).trans ex) ?_ (R.mono ((e1.trans e2).trans ex))⟩;exact S2.vI ha' g1 rfl ⟨C,Oz,_,bF,g3,(sX mkInt g4).mono ex⟩
      ·rw[if_neg hl]at p2;exact aa p2
    |_=>exact aa p2
   |_=>exact aa p1
theorem LN{p:Pos}(G:yy X.prog X.w X.K X.mg X.base k c n F)(hr:hX k X.A)(hg:Gl X c)(ha:JA X (e::es) g)
  (hdb:(c == ("__debug__":Str))=false:=by decide)(he:ahm (e::es) X.env=(false,eval e X.env)::ahm es X.env:=by rfl)(hpl:(backTo pos (ahm es X.env)).any (·.1)=false:=by rfl):
  JE X (.Call (.Name c p) (e::es) [] pos) (yx c n F g):=by
 obtain⟨C,fa,fd,ps,j,hj,G,k1,k2,k3,hb⟩:=G;refine JE.of (Km (E:=λ_ _ _=>False) k3 G (hr.mono hj) hg k2 hb .nil (λpins σ H s x s' I z=>let ⟨_,_,_,y⟩:=z;y.elim) ll hdb he hpl) λρ st σ H m Q S R p=>?_;refine ha.go S R (aE.bind p) λws st1 vs m1 H1 p1 e1 S1 rs=>?_;intro x dx hx hdx ne;by_cases cn:ws.length+1=n
 ·rw[if_pos cn]at p1;unfold XM at p1;have hx2:(upd H1 dx (.own x)) x=none:=by rw[bj (cR ne)];exact hx
  have S2:=S1.fresh (o:=.own x) hdx;have S3:b4 X.K (m1++[x]) (st1++[.ins c []]) (upd (upd H1 dx (.own x)) x (.ins C dx [])):=S2.FF hx2 ⟨C,dx,[],bF,k1,RelK.nil⟩;have ex:Ext X.K m1 H1 (m1++[x]) (upd (upd H1 dx (.own x)) x (.ins C dx [])):=(Ext.lH (.inl hdx)).trans (Ext.more.trans (Ext.lH (.inl hx2)));have new:(m1++[x])[st1.length]? =some x:=by rw[<-S1.len,pD (aA _),vH];rfl
  cases er:F (.ref st1.length::ws) (st1++[.ins c []])with
  |ok w st2=>
   rw[er]at p1;cases w with
   |cG=>dsimp only at p1;rw[iX];refine⟨m1++[x],st1++[.ins c []],.ref st1.length::ws,S3,ai.cons (by unfold ak;exact⟨x,rfl,new⟩) (ai.mono ex _ _ rs),cn,?_⟩;rw[er];intro v m2 H2 e2 T2 rv;unfold ak at rv;refine⟨rv,p1 (.ref x) m2 H2 ((e1.trans ex).trans e2) T2 ?_⟩;unfold ak;exact⟨x,rfl,e2.pre _ _ new⟩
   |_=>exact aa p1
  |err c' st2=>rw[er]at p1;exact aa p1
  |bad=>rw[er]at p1;exact aa p1
 ·rw[if_neg cn]at p1;exact aa p1
end
def i6(f:Expr->GE):List Expr->GA
 |[]=>ag
 |e::es=>ae (f e) (i6 f es)
def ZW(x:Str):Nat:=if x="reached_from" then 2 else 3
def ZX(P:ag9)(w:ahc)(K:PySem.W.Frag)(mg:Str->Option ahb)(k j n:Nat)(x:Str)(FL:XJ):Prop :=
 (∃f,mg x=some (.ref f)/\PySem.W.keepIn K (.ref f)=true)/\∀(base:Heap)(p:Lm)(L:LF),As K mg base->LB P w K mg base (j+1) p 1 L->eP P w K mg base k x n (FL p L)
def FnQ(lp:Nat)(P:ag9)(w:ahc)(K:PySem.W.Frag)(mg:Str->Option ahb)(k j:Nat)(x:Str)(FL:XJ):Prop:=match lp with
 | 1=>ZX P w K mg k j (ZW x) x FL
 |_=>FnL P w K mg k j x FL
--PARTB
end J
namespace TB
open PySem PySem.SetTable
def adv(m:Nat)(p:Probe):Probe:=advance { fresh 0 0 false with mask:=m } p
def sta(m:Nat)(h:Int):Probe:=⟨bits h % (m+1),runEnd m (bits h % (m+1)) - bits h % (m+1),bits h % (m+1),bits h,none⟩
def Way(m:Nat)(F:Nat->Prop):Nat->Probe->Nat->Prop
 | 0,p,j=>p.j=j
 |n+1,p,j=>F p.j/\Way m F n (adv m p) j
structure Tb(t:SetTable)(es:Array (Int×ahb))(L:List (Nat×Int×ahb)):Prop where
 pl:t.place.toList=L.map (·.1)
 en:es.toList=L.map (·.2)
 so:(L.map (·.1)).Pairwise (· < ·)
 du:t.dummies=#[]
 wy:∀q∈L,∃n,n < 10 * turns t.mask/\Way t.mask (· ∈L.map (·.1)) n (sta t.mask q.2.1) q.1
open PySem PySem.SetTable PyProof.Rows L2
end TB
namespace J
open PySem PySem.Spec PyProof.Rows L2 TB
section
variable {prog:ag9}{w:ahc}{A:ag6}{E:ahb->aha->Prop}{s:aha}
abbrev hsh(prog:ag9)(w:ahc)(k:List L2.Key):Int:=(tupleKind (rE prog w)).hash k
end
open PySem PySem.Spec PyProof.Rows PySem.W L2 TB
open PySem PySem.Spec PyProof.Rows L2
def Y6(K:PySem.W.Frag)(l1 l2:ag5):It :=
 ⟨λi H=>∃xs ys x y,gz K H l1 xs/\gz K H l2 ys/\xs[i]? =some x/\ys[i]? =some y,
  λi H v H'=>∃p,v= .ref p/\H p=none/\∀xs ys,gz K H l1 xs->gz K H l2 ys->∃x y,xs[i]? =some x/\ys[i]? =some y/\H'=upd H p (.tup [x,y]),
  λi H=>∃xs,gz K H l1 xs/\xs.length<=i⟩
def sZ(z:PySem.Str):List Wv->Hs->Re Wv
 |[.str y,.int i],st=> .ok (.int (Txt.find3 z y i)) st
 |ws,st=>MV z ws st
section
variable {X:Cx}
theorem Hi:xI X "str.find" (λx xs H Q=>∃z y i,x= .str z/\xs=[.str y,.int i]/\Q (.int (Txt.find3 z y i)) H):=by intro pins s σ H x xs v us Q I rx rv h;obtain⟨z,y,i,rfl,rfl,q⟩:=h;obtain⟨t,rfl⟩:=rx;obtain⟨u,u',rfl,⟨t',rfl⟩,⟨t'',rfl⟩⟩:=vals2 rv;exact SC.find3 ⟨.int _,H,I.tok _,⟨_,rfl⟩,q⟩
theorem Hj:Tr X "str.find" sZ:=by
 obtain⟨r,h1,h2⟩:=Lq (X:=X);refine⟨_,xI.or Hi h1,λz ws vs st H m Q hz S rs p=>?_⟩;unfold sZ at p;split at p
 ·obtain⟨v,v',rfl,r1,r2⟩:=Dq rs;unfold ak at r1;obtain⟨rfl,_⟩:=r1;cases aZ r2;exact .inl ⟨_,_,_,rfl,rfl,p _ m H Ext.refl S mkInt⟩
 ·exact .inr (h2 z ws vs st H m Q hz S rs p)
end
structure ZY where
 c:Str:=""
 wt:List (Str×Nat×(List Wv->Hs->Re Wv)):=[]
 ini:List (Str×Nat×(List Wv->Hs->Re Wv)):=[]
 own:List Str:=[]
structure Az(t:ZY)(k:Nat)(P:ag9)(w:ahc)(K:PySem.W.Frag)(mg:Str->Option ahb)(base:Heap):Prop where
 wt:∀f n F,t.wt.lookup f=some (n,F)->qT P w K mg base k t.c f n F
 ini:∀x n F,t.ini.lookup x=some (n,F)->yy P w K mg base k x n F
 own:∀f,t.own.contains f=true->Own K t.c f
variable{k:Nat}{P:ag9}{w:ahc}{K:PySem.W.Frag}{mg:Str->Option ahb}{base:Heap}
theorem Az.no:Az {} k P w K mg base:=⟨(λ_ _ _ e=>by cases e),(λ_ _ _ e=>by cases e),λ_ e=>by cases e⟩
structure Ct where
 N:List Str
 names:List (Str×ag8)
 consts:List (Str×Wv)
 bl:List Str
 fns:List (Str×Nat×(List Wv->Hs->Re Wv))
 tb:Tab:=[]
 tt:x_:=[]
 clss:List Str:=[]
 xD:List Str:=[]
 tc:Tab:=[]
 u0:List (Str×Dc):=[]
 dts:List Str:=[]
 dks:List Str:=[]
 Hk:List Str:=[]
 xE:List Str:=[]
 loop:Bool:=true
 free:Bool:=true
 top:Bool:=true
 lam:Option (Lm×LF):=none
 DY:List (Str×XJ):=[]
 ZZ:List Str:=[]
 lj:Nat:=0
 lp:Nat:=3
 sk:Nat:=0
 Z_:List Str:=[]
 self:Str:=""
 it:ZY:={}
def oJ(x:Str):List Str->Option Nat
 |[]=>none
 |y::r=>if x=y then some 0 else match oJ x r with
  |some i=>some (i+1)
  |none=>none
theorem i7{x:Str}:∀{N:List Str}{i:Nat},oJ x N=some i->N[i]? =some x
 |[],i,h=>by cases h
 |y::r,i,h=>by
  unfold oJ at h;by_cases e:x=y
  ·rw[if_pos e]at h;cases h;subst e;rfl
  ·rw[if_neg e]at h;cases q:oJ x r with
   |none=>rw[q]at h;cases h
   |some j=>rw[q]at h;cases h;simpa using i7 q
def okN(x:Str):Bool:=!(x == ("__debug__":Str))&& !(x == ("__classdict__":Str))&& !(decide (x="__name__"))
variable{x:Str}
theorem ia(h:okN x=true):(x == ("__debug__":Str))=false:=by unfold okN at h;revert h;cases (x == ("__debug__":Str))<;>simp
theorem Hl(h:okN x=true):(x == ("__classdict__":Str))=false:=by unfold okN at h;revert h;cases (x == ("__classdict__":Str))<;>simp
theorem Hm(h:okN x=true):x≠"__name__":=by intro e;subst e;unfold okN at h;simp at h
def BQ(K:PySem.W.Frag)(mg:Str->Option ahb)(x:Str):Wv->Prop
 |.int i=>∃t,mg x=some (.int i t)
 |.str y=>(∃t,mg x=some (.str y t))/\aW y=true
 |.jS ws=>∃(a:ag5)(vs:List V)(o:Obj)(its:Array ahb)(n:Nat),mg x=some (.ref a)/\K.lookup a=some o/\o.cls= .type "tuple"/\o.data= .seq its n/\its.size<=ahl/\Vals vs its.toList/\uV ws vs
 |_=>False
structure Vm(c:Ct)(k:Nat)(X:Cx):Prop where
 lam:∀p L,c.lam=some (p,L)->LB X.prog X.w X.K X.mg X.base k p c.lp L
 DY:∀x F,c.DY.lookup x=some F->FnQ c.lp X.prog X.w X.K X.mg k c.lj x F
 LO:∀x n F,c.fns.lookup x=some (n,F)->c.ZZ.contains x=true->∀base,As X.K X.mg base->eP X.prog X.w X.K X.mg base c.lj x n F
 at':c.top=true->c.self∈cx->∃P,MX X c.self P
 sk:c.sk<=k
 LP:∀x n F,c.fns.lookup x=some (n,F)->c.Z_.contains x=true->eP X.prog X.w X.K X.mg X.base c.lj x n F
 ins:Az c.it k X.prog X.w X.K X.mg X.base
structure Good(c:Ct)(k:Nat)(X:Cx):Prop where
 N:X.N=c.N
 sc:X.env.scope.names=c.names
 nd:c.N.Nodup
 un:X.A.units+64 < cLine
 free:c.free=true->hX k X.A/\X.calm=true
 loop:c.loop=true->X.calm=true/\PassesOwn (model X.prog X.w) X.A X.env X.xe
 cst:∀x w,c.consts.lookup x=some w->BQ X.K X.mg x w
 bl:∀x,c.bl.contains x=true->X.mg x=none
 fns:∀x n F,c.fns.lookup x=some (n,F)->eP X.prog X.w X.K X.mg X.base k x n F
 stk:c.top=true->Zu X
 fn:c.top=true->∀x,X.fn x=true
 kind:X.env.scope.kind= .function
 tab:TabOk X.K c.tb c.tt c.tc
 cls:∀x,c.clss.contains x=true->∃C,X.mg x=some (.ref C)/\Gh X.K x C
 xD:∀x,c.xD.contains x=true->∃C,X.mg x=some (.ref C)/\ClsAt X.K x C
 u0:∀x kvs,c.u0.lookup x=some kvs->pM X.K X.w X.mg x kvs
 rm:gB k X.A
 xE:∀x n F,c.xE.contains x=true->c.fns.lookup x=some (n,F)->wg X.prog X.w X.K X.mg X.base k x n F
 x:Vm c k X
 fr:GD X
 hd:Ah X
theorem rQ{A:ag6}(hr:hX k A):A.units+64 < cLine:=by have:=hr.un;omega
def Ct.M3(c:Ct):Ct:={ c with loop:=false }
def Ct.wu(c:Ct):Ct:={ c with loop:=false,free:=false }
abbrev Ct.un(c:Ct):Ct:=c.wu
variable{c:Ct}{X:Cx}
theorem Good.body(G:Good c k X)(hf:c.free=true)(pn:List (ag5×Obj))(E:ahb->aha->Prop):Good c.M3 k (Le X X.A true pn E) :=
 ⟨G.N,G.sc,G.nd,G.un,λ_=>⟨(G.free hf).1,rfl⟩,(λz=>by cases z),G.cst,G.bl,G.fns,λz=>⟨(G.stk z).st,(G.stk z).fr,(G.stk z).ex⟩,G.fn,G.kind,G.tab,G.cls,G.xD,G.u0,⟨G.rm.d,G.rm.u⟩,G.xE,⟨G.x.lam,G.x.DY,G.x.LO,λt m=>(G.x.at' t m).imp λP L=>⟨L.code,L.qual,L.tab,L.mem,L.uniq,L.bm⟩,G.x.sk,G.x.LP,G.x.ins⟩,G.fr,G.hd⟩
theorem Good.suite(G:Good c k X){a:ag5}{o:Obj}{u:HO}(nx:Dx o)(pn:List (ag5×Obj))(E:ahb->aha->Prop):Good c.wu k (UX X a (.jy o u) pn E) :=
 ⟨G.N,G.sc,G.nd,G.un,(λz=>by cases z),(λz=>by cases z),G.cst,G.bl,G.fns,λz=>⟨(G.stk z).st,(G.stk z).fr,(G.stk z).ex⟩,G.fn,G.kind,G.tab,G.cls,G.xD,G.u0,⟨G.rm.d,G.rm.u⟩,G.xE,⟨G.x.lam,G.x.DY,G.x.LO,λt m=>(G.x.at' t m).imp λP L=>⟨L.code,L.qual,L.tab,L.mem,L.uniq,L.bm⟩,G.x.sk,G.x.LP,G.x.ins⟩,G.fr,.inr ⟨a,o,u,rfl,nx,bF⟩⟩
theorem Hn:ahf "ValueError"=some (.type "ValueError"):=by decide+kernel
theorem Ho:ahf "dict"=some (.type "dict"):=by decide+kernel
def LQ(x:Str):Option String :=
 if x="int" then some "int" else if x="str" then some "str" else if x="bool" then some "bool" else if x="tuple" then some "tuple" else if x="list" then some "list" else if x="ValueError" then some "ValueError" else if x="dict" then some "dict" else none
theorem LR{T:String}(h:LQ x=some T):ahf x=some (.type T):=by
 unfold LQ at h;by_cases e:x="int"
 ·rw[if_pos e]at h;cases h;subst e;exact xX
 rw[if_neg e]at h;by_cases e:x="str"
 ·rw[if_pos e]at h;cases h;subst e;exact xY
 rw[if_neg e]at h;by_cases e:x="bool"
 ·rw[if_pos e]at h;cases h;subst e;exact F_
 rw[if_neg e]at h;by_cases e:x="tuple"
 ·rw[if_pos e]at h;cases h;subst e;exact xZ
 rw[if_neg e]at h;by_cases e:x="list"
 ·rw[if_pos e]at h;cases h;subst e;exact F'
 rw[if_neg e]at h;by_cases e:x="ValueError"
 ·rw[if_pos e]at h;cases h;subst e;exact Hn
 rw[if_neg e]at h;by_cases e:x="dict"
 ·rw[if_pos e]at h;cases h;subst e;exact Ho
 rw[if_neg e]at h;cases h
variable{o e:Expr}{f fE:Expr->GE}{es:List Expr}{env:Env}{op:List Wv->Hs->Re Wv}{kvs:Dc}{scope:Scope}{cs:iw}{i n:Nat}{d:GE}{t:Expr->GT}{p:Pos}
section
variable {X:Cx}
def LS:iQ:=λ_ _ _=> .bad
theorem Hq{f:ahb->ahb->Sem ahb}:mz X f LS:=⟨λ_ _ _ _=>False,λ_ _ _ _ _ _ _ _ _ _ _ _ h=>h.elim,λ_ _ _ _ _ _ _ _ _ _ _ p=>p⟩
def Vn:Operator->iQ
 |.Add=>bA
 |.Sub=>lK
 |.Mult=>di
 |.FloorDiv=>lu
 |.Mod=>oMod
 |.Pow=>vQ
 |_=>LS
theorem LU(o:Operator):mz X (ahe o) (Vn o):=by cases o<;>first |exact Pg |exact Pd |exact Hg |exact KO |exact Pe |exact Pf |exact Hq
def AA:CmpOp->iQ
 |.Eq=>oEq
 |.NotEq=>j'
 |.Lt=>oLt
 |.LtE=>oLe
 |.Gt=>MM
 |.GtE=>UB
 |.Is=>LS
 |.IsNot=>M1
 |.In=>fV
 |.NotIn=>LS
theorem mG(hu:X.A.units+64 < cLine)(o:CmpOp):mz X (ahi o) (AA o):=by cases o<;>first |exact UM hu |exact UN hu |exact Qi hu |exact P_ hu |exact UG |exact UH |exact LH |exact PZ |exact Hq
def Hr(c:Ct)(x:Str):GE:=if okN x=true then
  match c.names.lookup x with
  |some .local=>(match oJ x c.N with |some i=>af i |none=>b9)
  |some .cell=>(match oJ x c.N with |some i=>af i |none=>b9)
  |some .free=>(match oJ x c.N with |some i=>af i |none=>b9)
  |some .globalImplicit=>(match c.consts.lookup x with
   |some w=>gC w
   |none=>if c.clss.contains x=true then gC (.cls x)else if c.xD.contains x=true then gC (.cls x)else if c.bl.contains x=true then(match LQ x with |some T=>gC (.ty T) |none=>b9)else b9)
  |_=>b9
 else b9
theorem Ht(G:Good c k X)(x:Str)(pos:Pos):JE X (.Name x pos) (Hr c x):=by
 unfold Hr;by_cases hx:okN x=true
 ·rw[if_pos hx];cases e:c.names.lookup x with
  |none=>exact aO
  |some kd=>
   have el:X.env.scope.names.lookup x=some kd:=by rw[G.sc];exact e
   cases kd with
   | «local»=>
    dsimp only;cases e2:oJ x c.N with
    |none=>exact aO
    |some i=>exact zZ i (by rw[G.N];exact i7 e2) (Or.inl el) (ia hx) (Hl hx)
   |cell=>
    dsimp only;cases e2:oJ x c.N with
    |none=>exact aO
    |some i=>exact zZ i (by rw[G.N];exact i7 e2) (mw (Or.inl el)) (ia hx) (Hl hx)
   |free=>
    dsimp only;cases e2:oJ x c.N with
    |none=>exact aO
    |some i=>exact zZ i (by rw[G.N];exact i7 e2) (mw (mw el)) (ia hx) (Hl hx)
   |globalImplicit=>
    dsimp only;have hg:Gl X x:=el;cases e2:c.consts.lookup x with
    |some w=>
     have q:=G.cst x w e2;cases w with
     |int i=>obtain⟨t,q⟩:=q;exact FH hg q (ia hx)
     |str y=>obtain⟨⟨t,q⟩,z⟩:=q;exact FI hg q z (ia hx)
     |jS ws=>obtain⟨a,vs,o,its,n,q1,q2,q3,q4,q5,q6,q7⟩:=q;exact JE.of (jA (v:=.ref a) hg q1 rfl (ia hx)) λρ st σ H m Q S R p=>p (.ref a) m H Ext.refl S (by unfold ak;exact⟨a,vs,rfl,⟨o,its,n,q2,q3,q4,q5,q6⟩,q7.rel⟩)
     |_=>exact aa q
    |none=>
     dsimp only;by_cases e5:c.clss.contains x=true
     ·rw[if_pos e5];obtain⟨C,q1,q2⟩:=G.cls x e5;exact JE.of (jA (v:=.ref C) hg q1 rfl (ia hx)) λρ st σ H m Q S R p=>p (.ref C) m H Ext.refl S (by unfold ak;exact⟨C,rfl,q2.cls⟩)
     rw[if_neg e5];by_cases e6:c.xD.contains x=true
     ·rw[if_pos e6];obtain⟨C,q1,q2⟩:=G.xD x e6;exact JE.of (jA (v:=.ref C) hg q1 rfl (ia hx)) λρ st σ H m Q S R p=>p (.ref C) m H Ext.refl S (by unfold ak;exact⟨C,rfl,q2⟩)
     rw[if_neg e6];by_cases e3:c.bl.contains x=true
     ·rw[if_pos e3];cases e4:LQ x with
      |none=>exact aO
      |some T=>exact Uv hg (G.bl x e3) (LR e4) (Hm hx) (ia hx)
     ·rw[if_neg e3];exact aO
   |_=>exact aO
 ·rw[if_neg hx];exact aO
def Hu:Const->GE
 |.none=>gC .cG
 |.bool b=>gC (.bl b)
 |.int i=>gC (.int i)
 |.str x=>if aW x=true then gC (.str x)else b9
 |_=>b9
theorem DZ(k:Const)(j:Nat)(pos:Pos):JE X (.Constant k j pos) (Hu k):=by
 cases k with
 |none=>exact O3
 |bool b=>exact Uu
 |int i=>exact O2
 |str x=>
  show JE X _ (if aW x=true then gC (.str x)else b9);by_cases h:aW x=true
  ·rw[if_pos h];exact O4 h
  ·rw[if_neg h];exact aO
 |_=>exact aO
def plain:Expr->Bool
 |.Starred .. =>false
 |_=>true
theorem aV(h:plain e=true):ahm (e::es) env=(false,eval e env)::ahm es env:=by cases e<;>first |rfl |cases h
theorem cN{pos:Pos}{env:Env}:∀{es:List Expr},es.all plain=true->(backTo pos (ahm es env)).any (·.1)=false
 |[],_=>rfl
 |e::es,h=>by rw[cC,b7]at h;rw[aV h.1];have q:=cN (pos:=pos) (env:=env) h.2;unfold backTo at q ⊢;rw[iT,sy,q];rfl
theorem d_{f:Expr->GE}(h:∀e,JE X e (f e)):∀es:List Expr,es.all plain=true->JA X es (i6 f es)
 |[],_=>vO
 |e::es,g=>by rw[cC,b7]at g;exact vP (h e) (d_ h es g.2) (aV g.1)
def XN(c:Ct)(x:Str):Option (ahb×(List Wv->Hs->Re Wv)) :=
 if x="len" then some (.builtin "len",dJ)else if x="abs" then some (.builtin "abs",KY)else if x="isinstance" then some (.builtin "isinstance",dU c.tb c.tt)else if x="str" then some (.type "str",oC)else if x="int" then some (.type "int",kg)else if x="tuple" then some (.type "tuple",yh)else if x="all"/\c.free=true then some (.builtin "all",qR)else if x="max"/\c.free=true then some (.builtin "max",sQ)else if x="ord" then some (.builtin "ord",DU)else none
theorem D0:ahf "all"=some (.builtin "all"):=by decide+kernel
theorem D1:ahf "max"=some (.builtin "max"):=by decide+kernel
theorem Qm{v:ahb}(O:TabOk X.K c.tb c.tt c.tc)(hc:c.free=true->X.calm=true)(h:XN c x=some (v,op)):ahf x=some v/\ff X v op/\((∃id,v= .builtin id)\/∃T,v= .type T):=by
 unfold XN at h;by_cases e:x="len"
 ·rw[if_pos e]at h;cases h;subst e;exact⟨Du,Pk,.inl ⟨_,rfl⟩⟩
 rw[if_neg e]at h;by_cases e:x="abs"
 ·rw[if_pos e]at h;cases h;subst e;exact⟨Dt,Pl,.inl ⟨_,rfl⟩⟩
 rw[if_neg e]at h;by_cases e:x="isinstance"
 ·rw[if_pos e]at h;cases h;subst e;exact⟨F9,Pu O,.inl ⟨_,rfl⟩⟩
 rw[if_neg e]at h;by_cases e:x="str"
 ·rw[if_pos e]at h;cases h;subst e;exact⟨xY,Lf,.inr ⟨_,rfl⟩⟩
 rw[if_neg e]at h;by_cases e:x="int"
 ·rw[if_pos e]at h;cases h;subst e;exact⟨xX,Lr,.inr ⟨_,rfl⟩⟩
 rw[if_neg e]at h;by_cases e:x="tuple"
 ·rw[if_pos e]at h;cases h;subst e;exact⟨xZ,PV,.inr ⟨_,rfl⟩⟩
 rw[if_neg e]at h;by_cases e:x="all"/\c.free=true
 ·rw[if_pos e]at h;cases h;obtain⟨rfl,e2⟩:=e;exact⟨D0,PU (hc e2),.inl ⟨_,rfl⟩⟩
 rw[if_neg e]at h;by_cases e:x="max"/\c.free=true
 ·rw[if_pos e]at h;cases h;obtain⟨rfl,e2⟩:=e;exact⟨D1,Lo (hc e2),.inl ⟨_,rfl⟩⟩
 rw[if_neg e]at h;by_cases e:x="ord"
 ·rw[if_pos e]at h;cases h;subst e;exact⟨DV,Qe,.inl ⟨_,rfl⟩⟩
 rw[if_neg e]at h;cases h
def AB(c:Ct)(fE:Expr->GE)(x:Str)(es:List Expr):GE:=if okN x=true/\es.all plain=true/\c.names.lookup x=some .globalImplicit then
   (match c.fns.lookup x with
   |some (n,F)=>if c.free=true then az n F (i6 fE es)else if c.xE.contains x=true then az n F (i6 fE es)else b9
   |none=>if c.bl.contains x=true then(match XN c x with |some (_,op)=>aI op (i6 fE es) |none=>b9)else b9)
  else b9
def Hv(fE:Expr->GE)(o:Expr)(name:Str)(e:Expr)(apos cpos:Pos):GE:=if plain e=true/\(apos.endLine == cpos.line)=true then
   (if name="append" then fo pI (fE o) (fE e)else if name="extend" then fo sW (fE o) (fE e)else b9)
  else b9
def AD(fE:Expr->GE)(o:Expr)(name:Str)(e:Expr)(apos cpos:Pos):GE:=if plain e=true/\(apos.endLine == cpos.line)=true then
   (if name="count" then fo eR (fE o) (fE e)else if name="index" then jv (fo eS (fE o) (fE e)) (pN kM (fE o) (fE e))else b9)
  else b9
theorem D3(h:∀e,JE X e (fE e))(x name:Str)(e:Expr)(p apos cpos:Pos):JE X (.Call (.Attribute (.Name x p) name apos) [e] [] cpos) (AD fE (.Name x p) name e apos cpos):=by
 unfold AD;by_cases g:plain e=true/\(apos.endLine == cpos.line)=true
 ·rw[if_pos g];by_cases n1:name="count"
  ·rw[if_pos n1];subst n1;exact rN DP PySem.F.slot_list_count PySem.F.type_list_count (h _) (h e) (aV g.1) g.2
  rw[if_neg n1];by_cases n2:name="index"
  ·rw[if_pos n2];subst n2;exact GL (rN DQ PySem.F.slot_list_index PySem.F.type_list_index (h _) (h e) (aV g.1) g.2) (G_ DS PySem.F.slot_tuple_index PySem.F.type_tuple_index rfl (h _) (h e) (aV g.1) g.2)
  rw[if_neg n2];exact aO
 ·rw[if_neg g];exact aO
def AE:Expr->Bool
 |.Name .. =>true
 |.Constant (.str _) _ _=>true
 |.Subscript .. =>true
 |.Call _ (_::_) _ _=>true
 |_=>false
def nE(fE:Expr->GE)(o:Expr)(name:Str)(es:List Expr)(apos cpos:Pos):GE:=if AE o=true/\es.all plain=true/\es.length < 20/\(apos.endLine == cpos.line)=true then
   (if name="find" then dX sZ (fE o) (i6 fE es)else if name="count" then dX lP (fE o) (i6 fE es)else if name="index" then dX jV (fE o) (i6 fE es)else if name="split" then dX pL (fE o) (i6 fE es)else b9)
  else b9
theorem rR{name:Str}(h:AE o=true):attributeBase o name env (eval o env)=eval o env:=by
 cases o with
 |Constant k j p=>cases k<;>first |rfl |cases h
 |Call g as ks p=>
  cases as with
  |nil=>cases h
  |cons e es=>cases g<;>rfl
 |_=>first |rfl |cases h
theorem all_plain{pos:Pos}{env:Env}:∀{es:List Expr},es.all plain=true->(backTo pos (ahm es env)).all (λx=> !x.1)=true
 |[],_=>rfl
 |e::es,h=>by rw[cC,b7]at h;rw[aV h.1];have q:=all_plain (pos:=pos) (env:=env) h.2;unfold backTo at q ⊢;rw[iT,cC,q];rfl
theorem ko(h:∀e,JE X e (fE e))(o:Expr)(name:Str)(e:Expr)(es:List Expr)(apos cpos:Pos):JE X (.Call (.Attribute o name apos) (e::es) [] cpos) (nE fE o name (e::es) apos cpos):=by
 unfold nE;by_cases g:AE o=true/\(e::es).all plain=true/\(e::es).length < 20/\(apos.endLine == cpos.line)=true
 ·rw[if_pos g];obtain⟨g1,g2,g3,g4⟩:=g;have gp:plain e=true/\es.all plain=true:=by rw[cC,b7]at g2;exact g2
  have hfew:((backTo cpos (ahm (e::es) X.env)).all (λx=> !x.1)&&(backToKw cpos (keywordEach [] X.env)).all (λx=>x.1.isSome)&&decide ((e::es).length+([]:List Keyword).length+(if([]:List Keyword).isEmpty then 0 else 1) < 30))=true:=by
   rw[all_plain g2];have g5:(e::es).length+([]:List Keyword).length+(if([]:List Keyword).isEmpty then 0 else 1) < 30:=by show(e::es).length+0+0 < 30;omega
   rw[decide_eq_true g5];rfl
  by_cases n1:name="find"
  ·rw[if_pos n1];subst n1;exact oG Hj PySem.F.slot_str_find PySem.F.type_str_find (h o) (d_ h (e::es) g2) (rR g1) hfew g4 (aV gp.1) (cN gp.2)
  rw[if_neg n1];by_cases n1:name="count"
  ·rw[if_pos n1];subst n1;exact oG GX PySem.F.slot_str_count PySem.F.type_str_count (h o) (d_ h (e::es) g2) (rR g1) hfew g4 (aV gp.1) (cN gp.2)
  rw[if_neg n1];by_cases n1:name="index"
  ·rw[if_pos n1];subst n1;exact oG GY PySem.F.slot_str_index PySem.F.type_str_index (h o) (d_ h (e::es) g2) (rR g1) hfew g4 (aV gp.1) (cN gp.2)
  rw[if_neg n1];by_cases n1:name="split"
  ·rw[if_pos n1];subst n1;exact oG G5 PySem.F.slot_str_split PySem.F.type_str_split (h o) (d_ h (e::es) g2) (rR g1) hfew g4 (aV gp.1) (cN gp.2)
  rw[if_neg n1];exact aO
 ·rw[if_neg g];exact aO
def qU(c:Ct)(x:Str):Option Dc:=if okN x=true/\c.names.lookup x=some .globalImplicit then c.u0.lookup x else none
theorem oK(G:Good c k X)(h:qU c x=some kvs):Gl X x/\(x == ("__debug__":Str))=false/\pM X.K X.w X.mg x kvs:=by
 unfold qU at h;by_cases g:okN x=true/\c.names.lookup x=some .globalImplicit
 ·rw[if_pos g]at h;refine⟨?_,ia g.1,G.u0 x kvs h⟩;show X.env.scope.names.lookup x=_;rw[G.sc];exact g.2
 ·rw[if_neg g]at h;cases h
def Hw(fE:Expr->GE)(x:Str)(p:Pos)(name:Str)(apos cpos:Pos):GE:=if name="pop"/\(apos.endLine == cpos.line)=true then yv (fE (.Name x p))else b9
theorem Hx(h:∀e,JE X e (fE e))(x:Str)(p:Pos)(name:Str)(apos cpos:Pos):JE X (.Call (.Attribute (.Name x p) name apos) [] [] cpos) (Hw fE x p name apos cpos):=by
 unfold Hw;by_cases g:name="pop"/\(apos.endLine == cpos.line)=true
 ·rw[if_pos g];obtain⟨rfl,g2⟩:=g;exact LJ (h _) ⟨rfl,g2⟩
 ·rw[if_neg g];exact aO
def Hy(c:Ct)(fE:Expr->GE)(cpos:Pos):Expr->List Expr->List Keyword->GE
 |.Name x _,e::es,[]=>AB c fE x (e::es)
 |.Attribute (.Name x p) name apos,[e],[]=>if name="append"\/name="extend" then Hv fE (.Name x p) name e apos cpos else if name="count"\/name="index" then jv (nE fE (.Name x p) name [e] apos cpos) (AD fE (.Name x p) name e apos cpos)else nE fE (.Name x p) name [e] apos cpos
 |.Attribute (.Name x p) name apos,[e,f],[]=>nE fE (.Name x p) name [e,f] apos cpos
 |.Attribute o name apos,[e],[]=>nE fE o name [e] apos cpos
 |.Attribute o name apos,e::es,[]=>nE fE o name (e::es) apos cpos
 |.Attribute (.Name x p) name apos,[],[]=>Hw fE x p name apos cpos
 |_,_,_=>b9
theorem D4(G:Good c k X)(h:∀e,JE X e (fE e))(x:Str)(e:Expr)(es:List Expr)(p pos:Pos):JE X (.Call (.Name x p) (e::es) [] pos) (AB c fE x (e::es)):=by
 unfold AB;by_cases g:okN x=true/\(e::es).all plain=true/\c.names.lookup x=some .globalImplicit
 ·rw[if_pos g];obtain⟨g1,g2,g3⟩:=g;have hg:Gl X x:=by show X.env.scope.names.lookup x=_;rw[G.sc];exact g3
  have gp:plain e=true/\es.all plain=true:=by rw[cC,b7]at g2;exact g2
  have ha:=d_ h (e::es) g2;cases e1:c.fns.lookup x with
  |some nF=>
   obtain⟨n,F⟩:=nF;dsimp only;by_cases cf:c.free=true
   ·rw[if_pos cf];obtain⟨a,fd,ps,G1,G2,G3,G4⟩:=G.fns x n F e1;exact K_ G1 (G.free cf).1 G2 G3 G4 ha hg (ia g1) (aV gp.1) (cN gp.2)
   ·rw[if_neg cf];by_cases cu:c.xE.contains x=true
    ·rw[if_pos cu];obtain⟨a,fd,ps,G1,G2,G3,G4⟩:=G.xE x n F cu e1;exact G9 G1 G.rm G.hd G2 G3 G4 ha hg (ia g1) (aV gp.1) (cN gp.2)
    ·rw[if_neg cu];exact aO
  |none=>
   dsimp only;by_cases e3:c.bl.contains x=true
   ·rw[if_pos e3];cases e4:XN c x with
    |none=>exact aO
    |some io=>
     obtain⟨v,op⟩:=io;obtain⟨b1,b2,b3⟩:=Qm (X:=X) G.tab (λz=>(G.free z).2) e4;rcases b3 with ⟨id,rfl⟩ |⟨T,rfl⟩
     ·exact FU b2 hg (G.bl x e3) b1 ha (Hm g1) (ia g1) (aV gp.1) (cN gp.2)
     ·exact Dp b2 hg (G.bl x e3) b1 ha (Hm g1) (ia g1) (aV gp.1) (cN gp.2)
   ·rw[if_neg e3];exact aO
 ·rw[if_neg g];exact aO
theorem Hz(h:∀e,JE X e (fE e))(x name:Str)(e:Expr)(p apos cpos:Pos):JE X (.Call (.Attribute (.Name x p) name apos) [e] [] cpos) (Hv fE (.Name x p) name e apos cpos):=by
 unfold Hv;by_cases g:plain e=true/\(apos.endLine == cpos.line)=true
 ·rw[if_pos g];by_cases n1:name="append"
  ·rw[if_pos n1];subst n1;exact rN Gu PySem.F.slot_list_append PySem.F.type_list_append (h _) (h e) (aV g.1) g.2
  rw[if_neg n1];by_cases n2:name="extend"
  ·rw[if_pos n2];subst n2;exact rN LD PySem.F.slot_list_extend PySem.F.type_list_extend (h _) (h e) (aV g.1) g.2
  rw[if_neg n2];exact aO
 ·rw[if_neg g];exact aO
theorem HA(G:Good c k X)(h:∀e,JE X e (fE e))(f:Expr)(as:List Expr)(ks:List Keyword)(pos:Pos):JE X (.Call f as ks pos) (Hy c fE pos f as ks):=by
 unfold Hy;split
 ·exact D4 G h _ _ _ _ _
 ·rename_i x p name apos e;by_cases g:name="append"\/name="extend"
  ·rw[if_pos g];exact Hz h _ _ _ _ _ _
  ·rw[if_neg g];by_cases g2:name="count"\/name="index"
   ·rw[if_pos g2];exact GL (ko h _ _ _ _ _ _) (D3 h _ _ _ _ _ _)
   ·rw[if_neg g2];exact ko h _ _ _ _ _ _
 ·rename_i x p name apos e f
  ·exact ko h _ _ _ _ _ _
 ·rename_i o name apos e _;exact ko h _ _ _ _ _ _
 ·exact ko h _ _ _ _ _ _
 ·exact Hx h _ _ _ _ _
 ·exact aO
def LV:Expr->Bool
 |.Slice .. =>true
 |_=>false
def HB(f:Expr->GE):Option Expr->GO
 |none=>fA
 |some e=>fe (f e)
theorem rS(h:∀e,JE X e (f e))(o:Option Expr):JO X o (HB f o):=by
 cases o with
 |none=>exact KU
 |some e=>exact KW (h e)
def LW(f:Expr->GE)(a:Expr):Expr->GE
 |.Slice lo hi none _=>cL (f a) (HB f lo) (HB f hi)
 |.Slice .. =>b9
 |b=>aj bH (f a) (f b)
theorem HC(h:∀e,JE X e (f e))(a b:Expr)(pos:Pos):JE X (.Subscript a b pos) (LW f a b):=by
 unfold LW;split
 ·exact DL (h a) (rS h _) (rS h _)
 ·exact aO
 ·rename_i n1 n2;refine UP (h a) (h b) ?_;intro o i;cases b<;>first |rfl |(rename_i lo hi st p;exact(n2 _ _ _ _ rfl).elim)
def D5(f:Expr->GE)(a:Expr):List CmpOp->List Expr->GE
 |[o],[b]=>if ahd o b=false then aj (AA o) (f a) (f b)else b9
 |[o,o'],[b,b']=>if lastMarks [o,o'] [b,b']=false then jT (AA o) (AA o') (f a) (f b) (f b')else b9
 |_,_=>b9
theorem wx(hu:X.A.units+64 < cLine)(h:∀e,JE X e (f e))(a:Expr)(os:List CmpOp)(bs:List Expr)(pos:Pos):JE X (.Compare a os bs pos) (D5 f a os bs):=by
 unfold D5;split
 ·rename_i o b;by_cases g:ahd o b=false
  ·rw[if_pos g];exact vL (mG hu o) (h a) (h b) g
  ·rw[if_neg g];exact aO
 ·rename_i o o' b b';by_cases g:lastMarks [o,o'] [b,b']=false
  ·rw[if_pos g];exact FK (mG hu o) (mG hu o') (h a) (h b) (h b') g
  ·rw[if_neg g];exact aO
 ·exact aO
def HD(f:Expr->GE)(a:Expr):List CmpOp->List Expr->GT
 |[o],[b]=>if ahd o b=false then bp (aj (AA o) (f a) (f b))else lL
 |[o,o'],[b,b']=>if lastMarks [o,o'] [b,b']=false then bp (jT (AA o) (AA o') (f a) (f b) (f b'))else lL
 |_,_=>lL
theorem wz(hu:X.A.units+64 < cLine)(h:∀e,JE X e (f e))(a:Expr)(os:List CmpOp)(bs:List Expr)(pos:Pos):JT X (.Compare a os bs pos) (HD f a os bs):=by
 unfold HD;split
 ·rename_i o b;by_cases g:ahd o b=false
  ·rw[if_pos g];exact z_ (mG hu o) (h a) (h b) g
  ·rw[if_neg g];exact lM
 ·rename_i o o' b b';by_cases g:lastMarks [o,o'] [b,b']=false
  ·rw[if_pos g];exact FO (mG hu o) (mG hu o') (h a) (h b) (h b') g
  ·rw[if_neg g];exact lM
 ·exact lM
def Qn(c:Ct)(f:Expr->GE)(a:Expr):List CmpOp->List Expr->GE
 |[.In],[.Name x p]=>(match qU c x with |some kvs=>kj false kvs (f a) |none=>if c.Hk.contains x=true then(if ahd .In (.Name x p)=false then aj (qS false) (f a) (f (.Name x p))else b9)else D5 f a [.In] [.Name x p])
 |[.NotIn],[.Name x p]=>(match qU c x with |some kvs=>kj true kvs (f a) |none=>if c.Hk.contains x=true then(if ahd .NotIn (.Name x p)=false then aj (qS true) (f a) (f (.Name x p))else b9)else D5 f a [.NotIn] [.Name x p])
 |[.In],[.Call (.Name x q) as ks p]=>if c.Hk.contains (x++"()")=true/\ahd .In (.Call (.Name x q) as ks p)=false then aj (qS false) (f a) (f (.Call (.Name x q) as ks p))else D5 f a [.In] [.Call (.Name x q) as ks p]
 |os,bs=>D5 f a os bs
theorem LX(G:Good c k X)(h:∀e,JE X e (f e))(a:Expr)(os:List CmpOp)(bs:List Expr)(pos:Pos):JE X (.Compare a os bs pos) (Qn c f a os bs):=by
 unfold Qn;split
 ·rename_i x p;cases e:qU c x with
  |none=>
   dsimp only;by_cases gd:c.Hk.contains x=true
   ·rw[if_pos gd];by_cases gm:ahd .In (.Name x p)=false
    ·rw[if_pos gm];exact vL (Av G.un) (h a) (h _) gm
    ·rw[if_neg gm];exact aO
   ·rw[if_neg gd];exact wx G.un h a _ _ pos
  |some kvs=>obtain⟨g1,g2,g3⟩:=oK G e;exact Lv (h a) g1 g2 g3
 ·rename_i x p;cases e:qU c x with
  |none=>
   dsimp only;by_cases gd:c.Hk.contains x=true
   ·rw[if_pos gd];by_cases gm:ahd .NotIn (.Name x p)=false
    ·rw[if_pos gm];exact vL (uX G.un) (h a) (h _) gm
    ·rw[if_neg gm];exact aO
   ·rw[if_neg gd];exact wx G.un h a _ _ pos
  |some kvs=>obtain⟨g1,g2,g3⟩:=oK G e;exact Ap (h a) g1 g2 g3
 ·rename_i x q as ks p;by_cases gd:c.Hk.contains (x++"()")=true/\ahd .In (.Call (.Name x q) as ks p)=false
  ·rw[if_pos gd];exact vL (Av G.un) (h a) (h _) gd.2
  ·rw[if_neg gd];exact wx G.un h a _ _ pos
 ·exact wx G.un h a _ _ pos
def HE(c:Ct)(f:Expr->GE)(a:Expr):List CmpOp->List Expr->GT
 |[.In],[.Name x p]=>(match qU c x with |some kvs=>bp (kj false kvs (f a)) |none=>if c.Hk.contains x=true then(if ahd .In (.Name x p)=false then bp (aj (qS false) (f a) (f (.Name x p)))else lL)else HD f a [.In] [.Name x p])
 |[.NotIn],[.Name x p]=>(match qU c x with |some kvs=>bp (kj true kvs (f a)) |none=>if c.Hk.contains x=true then(if ahd .NotIn (.Name x p)=false then bp (aj (qS true) (f a) (f (.Name x p)))else lL)else HD f a [.NotIn] [.Name x p])
 |os,bs=>HD f a os bs
theorem HF(G:Good c k X)(h:∀e,JE X e (f e))(a:Expr)(os:List CmpOp)(bs:List Expr)(pos:Pos):JT X (.Compare a os bs pos) (HE c f a os bs):=by
 unfold HE;split
 ·rename_i x p;cases e:qU c x with
  |none=>
   dsimp only;by_cases gd:c.Hk.contains x=true
   ·rw[if_pos gd];by_cases gm:ahd .In (.Name x p)=false
    ·rw[if_pos gm];exact z_ (Av G.un) (h a) (h _) gm
    ·rw[if_neg gm];exact lM
   ·rw[if_neg gd];exact wz G.un h a _ _ pos
  |some kvs=>obtain⟨g1,g2,g3⟩:=oK G e;exact Lw (h a) g1 g2 g3
 ·rename_i x p;cases e:qU c x with
  |none=>
   dsimp only;by_cases gd:c.Hk.contains x=true
   ·rw[if_pos gd];by_cases gm:ahd .NotIn (.Name x p)=false
    ·rw[if_pos gm];exact z_ (uX G.un) (h a) (h _) gm
    ·rw[if_neg gm];exact lM
   ·rw[if_neg gd];exact wz G.un h a _ _ pos
  |some kvs=>obtain⟨g1,g2,g3⟩:=oK G e;exact Aq (h a) g1 g2 g3
 ·exact wz G.un h a _ _ pos
def qV(c:Ct):Expr->Bool
 |.Name x _=>c.dts.contains x||c.dks.contains x
 |_=>false
def Qo(c:Ct)(f:Expr->GE):Expr->Expr->GE
 |.Name x p,b=>(match qU c x with |some kvs=>if LV b=false then sV kvs (f b)else b9 |none=>LW f (.Name x p) b)
 |a,b=>LW f a b
theorem LY(G:Good c k X)(h:∀e,JE X e (f e))(a b:Expr)(pos:Pos):JE X (.Subscript a b pos) (Qo c f a b):=by
 unfold Qo;split
 ·rename_i x p;cases e:qU c x with
  |none=>dsimp only;exact HC h _ b pos
  |some kvs=>
   dsimp only;by_cases g:LV b=false
   ·rw[if_pos g];obtain⟨g1,g2,g3⟩:=oK G e;refine Ly (h b) ?_ g1 g2 g3;intro o i;cases b<;>first |rfl |cases g
   ·rw[if_neg g];exact aO
 ·exact HC h _ b pos
def Qp(f:Expr->GE):List Expr->GE
 |[]=>b9
 |[a]=>f a
 |a::b::r=>bZ (f a) (Qp f (b::r))
def Z'(f:Expr->GE):List Expr->GE
 |[]=>b9
 |[a]=>f a
 |a::b::r=>Aa (f a) (Z' f (b::r))
theorem BR{f:Expr->GE}(h:∀e,JE X e (f e))(pos:Pos):∀es,JE X (.BoolOp .And es pos) (Qp f es)
 |[]=>aO
 |[a]=>FP (h a)
 |a::b::r=>O_ (h a) (BR h pos (b::r))
theorem HG{f:Expr->GE}(h:∀e,JE X e (f e))(pos:Pos):∀es,JE X (.BoolOp .Or es pos) (Z' f es)
 |[]=>aO
 |[a]=>FP (h a)
 |a::b::r=>Ux (h a) (HG h pos (b::r))
def Qq(f:Expr->GT):List Expr->GT
 |[]=>lL
 |[a]=>f a
 |a::b::r=>qP (f a) (Qq f (b::r))
def orT(f:Expr->GT):List Expr->GT
 |[]=>lL
 |[a]=>f a
 |a::b::r=>JH (f a) (orT f (b::r))
theorem HH:JW X e lL:=λρ st σ H m Q S R p=>aa p
theorem BS{f:Expr->GT}(h:∀e,JT X e (f e))(pos:Pos):∀es,JW X (.BoolOp .And es pos) (Qq f es)
 |[]=>HH
 |[a]=>KJ (h a)
 |a::b::r=>O8 (h a) (BS h pos (b::r))
theorem HI{f:Expr->GT}(h:∀e,JT X e (f e))(pos:Pos):∀es,JW X (.BoolOp .Or es pos) (orT f es)
 |[]=>HH
 |[a]=>O7 (h a)
 |a::b::r=>Uw (h a) (HI h pos (b::r))
def unG(f:Expr->GE):UnaryOp->Expr->GE
 |.USub,a=>S0 uI (f a)
 |.Not,a=>xR (f a)
 |_,_=>b9
def D6(f:Expr->GE)(g:GA->GE)(es:List Expr):GE:=if es.all plain=true then g (i6 f es)else b9
def isSet:Expr->Bool
 |.Set .. =>true
 |_=>false
theorem mH(h:isSet e=false)(x:ahb):ahj e env x=pure x:=by cases e<;>first |rfl |cases h
def kN(c:Ct)(x:Str):Bool:=decide (x="range")&&decide (c.names.lookup x=some .globalImplicit)&&c.bl.contains x&&(match c.fns.lookup x with |some _=>false |none=>true)
theorem s_(G:Good c k X)(y:Str)(hy:kN c y=true):y="range"/\Gl X y/\X.mg y=none:=by unfold kN at hy;simp only[b7,decide_eq_true_eq]at hy;refine⟨hy.1.1.1,?_,G.bl y hy.1.2⟩;show X.env.scope.names.lookup y=_;rw[G.sc];exact hy.1.1.2
def yz(c:Ct)(f:Expr->GE):Expr->GI
 |.Call (.Name x p) [a] [] q=>if kN c x=true then(if plain a=true then Lk (i6 f [a])else GH)else jW (f (.Call (.Name x p) [a] [] q))
 |e=>if isSet e=false then jW (f e)else GH
theorem BU(G:Good c k X)(h:∀e,JE X e (f e))(tg e:Expr):JI X tg e (yz c f e):=by
 unfold yz;split
 ·rename_i y p a q;by_cases g:kN c y=true
  ·rw[if_pos g];obtain⟨rfl,g2,g3⟩:=s_ G y g;by_cases ga:plain a=true
   ·rw[if_pos ga];exact U6 g2 g3 (d_ h [a] (by simp[ga])) (aV ga)
   ·rw[if_neg ga];exact GK
  ·rw[if_neg g];exact BK (h _)
 ·by_cases g:isSet e=false
  ·rw[if_pos g];exact BK (h _)
  ·rw[if_neg g];exact GK
def LZ(c:Ct):Expr->Bool
 |.Call (.Name x _) [a] [] _=>kN c x&&plain a
 |_=>false
theorem yA(G:Good c k X)(h:∀e,JE X e (f e))(tg e:Expr)(g:LZ c e=true):Tq Ah X tg e (yz c f e):=by
 unfold LZ at g;split at g
 ·rename_i y p a q;simp only[b7]at g;obtain⟨rfl,g2,g3⟩:=s_ G y g.1;unfold yz;dsimp only;rw[if_pos g.1,if_pos g.2];exact Qh g2 g3 (d_ h [a] (by simp[g.2])) (aV g.2)
 ·cases g
def D7(c:Ct)(x:Str):Bool:=decide (x="enumerate")&&decide (c.names.lookup x=some .globalImplicit)&&c.bl.contains x&&(match c.fns.lookup x with |some _=>false |none=>true)
def qA(c:Ct):List (Str×ag8)->Option iw
 |[]=>some []
 |(n,.free)::r=>if c.names.lookup n=some .cell\/c.names.lookup n=some .free then(match oJ n c.N,qA c r with |some i,some l=>some ((n,i)::l) |_,_=>none)else none
 |_::r=>qA c r
theorem tm{c:Ct}:∀{ns:List (Str×ag8)}{cs:iw},qA c ns=some cs->(∀y∈ns,y.2= .free->c.names.lookup y.1=some .cell\/c.names.lookup y.1=some .free)/\∀p∈cs,(p.1,fB)∈ns/\c.N[p.2]? =some p.1
 |[],cs,h=>by cases h;exact⟨(λ_ z=>by cases z),(λ_ z=>by cases z)⟩
 |(n,k)::r,cs,h=>by
  unfold qA at h;split at h
  ·cases ‹_::_=[]›
  ·rename_i n' r' he;cases he;by_cases g:c.names.lookup n=some .cell\/c.names.lookup n=some .free
   ·rw[if_pos g]at h;cases e1:oJ n c.N with
    |none=>rw[e1]at h;cases h
    |some i=>
     cases e2:qA c r with
     |none=>rw[e1,e2]at h;cases h
     |some l=>
      rw[e1,e2]at h;cases h;obtain⟨q1,q2⟩:=tm e2;refine⟨λy hy e=>?_,λp hp=>?_⟩
      ·rcases List.mem_cons.mp hy with z |z
       ·subst z;exact g
       ·exact q1 y z e
      ·rcases List.mem_cons.mp hp with z |z
       ·subst z;exact⟨dg,i7 e1⟩
       ·exact⟨b8 _ (q2 p z).1,(q2 p z).2⟩
   ·rw[if_neg g]at h;cases h
  ·rename_i kk r' hk he;cases he;obtain⟨q1,q2⟩:=tm h;refine⟨λy hy e=>?_,λp hp=>⟨b8 _ (q2 p hp).1,(q2 p hp).2⟩⟩;rcases List.mem_cons.mp hy with z |z
   ·subst z;have e':k= .free:=e;subst e';exact(hk n rfl).elim
   ·exact q1 y z e
def AG(c:Ct)(ns:List (Str×ag8)):List (Str×ag8):=ns.map λ(n,k)=>if(k == .free&&c.names.lookup n == some .cell)then(n,.cell)else(n,k)
def HJ:ScopeKind->Bool
 |.function=>true
 |_=>false
def mI(scope:Scope)(x:Str):Bool:=HJ scope.kind&&scope.names.all (λy=>decide (scope.names.lookup y.1=some y.2))&&scope.names.all (λy=>decide (y.2≠.cell))&&decide (scope.names.lookup x=some .local)
def Ct.block(c:Ct)(scope:Scope)(x:Str)(cs:iw):Ct:={ c with N:=x::cs.map (·.1),names:=AG c scope.names,loop:=false,top:=false }
def BV(c:Ct)(sub:Ct->(Expr->GE)×(Expr->GT))(f:Expr->GE)(elt:Expr)(x:Str)(iter:Expr)(Qr:Ct->GT)(scope:Scope):GE :=
 if mI scope x=true/\(c.free=true\/LZ c iter=true)/\isSet iter=false then(match qA c scope.names with
  |some cs=>if(x::cs.map (·.1)).Nodup then mZ cs (yz c f iter) (Qr (c.block scope x cs)) ((sub (c.block scope x cs)).1 elt)else b9
  |none=>b9)else b9
def aab(c:Ct)(sub:Ct->(Expr->GE)×(Expr->GT))(f:Expr->GE)(elt:Expr)(scope:Scope)(iter:Expr)(ifs:List Expr):Expr->GE
 |.Name x _=>(match ifs with
  |[]=>BV c sub f elt x iter (λ_=>λ_ st=> .ok true st) scope
  |_=>b9)
 |_=>b9
def XO(c:Ct)(sub:Ct->(Expr->GE)×(Expr->GT))(f:Expr->GE)(elt:Expr)(scope:Scope)(gs:List Comprehension):GE:=match gs with
 |[]=>b9
 |g::r=>(match r with
  |[]=>if g.is_async=0 then aab c sub f elt scope g.iter g.ifs g.target else b9
  |_=>b9)
theorem tq(G:Good c k X)(hs:mI scope x=true)(nd:(x::cs.map (·.1)).Nodup)(C:ag5)(s0:aha)(H0:Hp)(fp:List ag5)(pn:List (ag5×Obj))(E:ahb->aha->Prop)(hA:DA X.A H0):
  Good (c.block scope x cs) k (iD X scope x cs C s0 H0 fp pn E):=by
 have hk:scope.kind= .function:=by
  have:HJ scope.kind=true:=by unfold mI at hs;simp only[b7]at hs;exact hs.1.1.1
  revert this;cases scope.kind<;>intro z<;>first |rfl |cases z
 refine⟨rfl,?_,nd,G.un,G.free,(λz=>by cases z),G.cst,G.bl,G.fns,(λz=>by cases z),(λz=>by cases z),hk,G.tab,G.cls,G.xD,G.u0,⟨G.rm.d,G.rm.u⟩,G.xE,⟨G.x.lam,G.x.DY,G.x.LO,(λz=>by cases z),G.x.sk,G.x.LP,G.x.ins⟩,G.fr,hA⟩;show(relabel scope X.env).names=AG c scope.names;unfold relabel AG Env.kindOf;rw[G.kind,G.sc];simp
theorem HK(G:Good c k X)(hs:mI scope x=true)(hcs:qA c scope.names=some cs)(nd:(x::cs.map (·.1)).Nodup):dW X scope x cs:=by
 have hs:(HJ scope.kind=true/\∀y∈scope.names,scope.names.lookup y.1=some y.2)/\((scope.names.filter λy=>y.2 == .cell)=[]\/(scope.names.filter λy=>y.2 == .cell)=[(x,.cell)])/\(scope.names.lookup x=some .local\/scope.names.lookup x=some .cell):=by unfold mI at hs;simp only[b7,decide_eq_true_eq,nG]at hs;exact⟨hs.1.1,.inl (List.filter_eq_nil_iff.mpr λy hy=>by simpa using hs.1.2 y hy),.inl hs.2⟩
 obtain⟨⟨h1,h2⟩,h3,h4⟩:=hs;have hk:scope.kind= .function:=by revert h1;cases scope.kind<;>intro z<;>first |rfl |cases z
 obtain⟨q1,q2⟩:=tm hcs;refine⟨hk,h2,h3,h4,λy hy e=>?_,λp hp=>⟨by rw[G.N];exact(q2 p hp).2,h2 _ (q2 p hp).1⟩,nd⟩;show X.env.scope.names.lookup y.1=_\/X.env.scope.names.lookup y.1=_;rw[G.sc];exact q1 y hy e
def Qs(X:Cx)(e:Expr)(g:GE):Prop:=∀(i:Nat)(y:Str)(py spos:Pos),X.N.Nodup->X.N[i]? =some y->Loc X.env.scope y->(X.fn y=true\/X.env.scope.names.lookup y=some .local)->JS X (.Assign [.Name y py] e spos) (bq i g)
theorem D8{s:Stmt}:JS X s (bq i b9):=λρ st σ H m D S R p=>aa p
theorem fF:Qs X e b9:=λi y py spos _ _ _ _=>D8
theorem BW(G:Good c k X){sub:Ct->(Expr->GE)×(Expr->GT)}(hb:∀c X,Good c k X->(∀e,JE X e ((sub c).1 e))/\∀e,JT X e ((sub c).2 e))(h:∀e,JE X e (f e))(elt:Expr)(scope:Scope)(gens:List Comprehension)(pos:Pos):
  JE X (.ListComp elt gens scope pos) (XO c sub f elt scope gens)/\Qs X (.ListComp elt gens scope pos) (XO c sub f elt scope gens):=by
 have core:∀(x:Str)(px:Pos)(iter:Expr)(ifs:List Expr)(Qr:Ct->GT),(∀c X,Good c k X->PK X ifs (Qr c))->
   JE X (.ListComp elt [⟨.Name x px,iter,ifs,0⟩] scope pos) (BV c sub f elt x iter Qr scope)/\Qs X (.ListComp elt [⟨.Name x px,iter,ifs,0⟩] scope pos) (BV c sub f elt x iter Qr scope):=by
  intro x px iter ifs Qr hg;unfold BV;by_cases g:mI scope x=true/\(c.free=true\/LZ c iter=true)/\isSet iter=false
  ·rw[if_pos g];obtain⟨g1,g2,g3⟩:=g;cases ec:qA c scope.names with
   |none=>exact⟨aO,fF⟩
   |some cs=>
    dsimp only;by_cases nd:(x::cs.map (·.1)).Nodup
    ·rw[if_pos nd];have CS:=HK G g1 ec nd;have hE:∀C s0 H0 fp pn E,DA X.A H0->JE (iD X scope x cs C s0 H0 fp pn E) elt ((sub (c.block scope x cs)).1 elt):=λC s0 H0 fp pn E z=>(hb _ _ (tq G g1 nd C s0 H0 fp pn E z)).1 elt;have hT:∀C s0 H0 fp pn E,DA X.A H0->PK (iD X scope x cs C s0 H0 fp pn E) ifs (Qr (c.block scope x cs)):=λC s0 H0 fp pn E z=>hg _ _ (tq G g1 nd C s0 H0 fp pn E z);rcases g2 with g2 |g2
     ·exact⟨v_ G.fr CS (yf (G.free g2).2) G.hd (BU G h _ iter).y hE hT (mH g3),λi y py spos hN hi hl hf=>BI i hN G.fr CS (yf (G.free g2).2) G.hd (BU G h _ iter).y hE hT (mH g3) hi hl hf⟩
     ·exact⟨v_ G.fr CS (Hf G.hd) G.hd (yA G h _ iter g2) hE hT (mH g3),λi y py spos hN hi hl hf=>BI i hN G.fr CS (Hf G.hd) G.hd (yA G h _ iter g2) hE hT (mH g3) hi hl hf⟩
    ·rw[if_neg nd];exact⟨aO,fF⟩
  ·rw[if_neg g];exact⟨aO,fF⟩
 cases gens with
 |nil=>exact⟨aO,fF⟩
 |cons g r=>
  cases r with
  |cons _ _=>exact⟨aO,fF⟩
  |nil=>
   obtain⟨tg,iter,ifs,as⟩:=g;unfold XO;dsimp only;by_cases e:as=0
   ·rw[if_pos e];subst e;cases tg with
    |Name x px=>
     cases ifs with
     |nil=>exact core _ _ _ _ _ λ_ _ _=>Lj
     |cons _ _=>exact⟨aO,fF⟩
    |_=>exact⟨aO,fF⟩
   ·rw[if_neg e];exact⟨aO,fF⟩
def Vo(f:Expr->GE):Expr->GE
 |.FormattedValue e k none _=>if k= -1 then XH (f e)else b9
 |e=>f e
theorem HL(h:∀e,JE X e (f e))(e:Expr):JE X e (Vo f e):=by
 unfold Vo;split
 ·rename_i e k p;by_cases g:k= -1
  ·rw[if_pos g,g];exact Ve (h e)
  ·rw[if_neg g];exact aO
 ·exact h _
def fsG(f:Expr->GE):List Expr->GE
 |[]=>b9
 |[e]=>Vo f e
 |e1::e2::es=>XI ((e1::e2::es).map (Vo f))
theorem BX{f:Expr->GE}(h:∀e,JE X e (f e)):∀es:List Expr,Ts X es (es.map (Vo f))
 |[]=> .nil
 |e::es=> .cons (HL h e) (BX h es)
theorem Qt(h:∀e,JE X e (f e))(es:List Expr)(p:Pos):JE X (.JoinedStr es p) (fsG f es):=by
 match es with
 |[]=>exact aO
 |[e]=>exact Qc (HL h e)
 |e1::e2::es=>exact Vf (BX h _)
def cI3(c:Ct)(fE:Expr->GE)(d:GE)(x:Str)(e:Expr)(es:List Expr):GE:=match c.it.ini.lookup x with
 |some nF=>if okN x=true/\(e::es).all plain=true/\c.names.lookup x=some .globalImplicit/\c.free=true then yx x nF.1 nF.2 (i6 fE (e::es))else b9
 |none=>d
def cI2(c:Ct)(fE:Expr->GE)(d:GE)(pos:Pos)(o:Expr)(name:Str)(apos:Pos)(e:Expr)(es:List Expr):GE:=match o with
 |.Name x p=>(match c.it.wt.lookup name with
  |some nF=>if(e::es).all plain=true/\c.free=true/\(e::es).length < 20/\(apos.endLine == pos.line)=true then f9 c.it.c name nF.1 nF.2 (fE (.Name x p)) (i6 fE (e::es))else b9
  |none=>d)
 |_=>d
def cI0(c:Ct)(fE:Expr->GE)(d:GE)(pos:Pos)(o:Expr)(name:Str)(apos:Pos):GE:=match o with
 |.Name x p=>(match c.it.wt.lookup name with
  |some nF=>if c.free=true/\(apos.endLine == pos.line)=true then f9 c.it.c name nF.1 nF.2 (fE (.Name x p)) ag else b9
  |none=>d)
 |_=>d
def cI1(c:Ct)(fE:Expr->GE)(d:GE)(pos:Pos)(f:Expr)(as:List Expr)(ks:List Keyword):GE:=match ks with
 |[]=>(match as with
  |e::es=>(match f with
   |.Attribute o name apos=>cI2 c fE d pos o name apos e es
   |.Name x _=>cI3 c fE d x e es
   |_=>d)
  |[]=>(match f with
   |.Attribute o name apos=>cI0 c fE d pos o name apos
   |_=>d))
 |_=>d
theorem Qu(G:Good c k X)(h:∀e,JE X e (fE e))(x:Str)(p:Pos)(e:Expr)(es:List Expr)(pos:Pos)(hd:JE X (.Call (.Name x p) (e::es) [] pos) d):JE X (.Call (.Name x p) (e::es) [] pos) (cI3 c fE d x e es):=by
 unfold cI3;cases q:c.it.ini.lookup x with
 |some nF=>
  obtain⟨n,F⟩:=nF;dsimp only;by_cases g:okN x=true/\(e::es).all plain=true/\c.names.lookup x=some .globalImplicit/\c.free=true
  ·rw[if_pos g];obtain⟨g1,g2,g3,g4⟩:=g;have gp:plain e=true/\es.all plain=true:=by rw[cC,b7]at g2;exact g2
   exact LN (G.x.ins.ini x n F q) (G.free g4).1 (by show X.env.scope.names.lookup x=_;rw[G.sc];exact g3) (d_ h (e::es) g2) (ia g1) (aV gp.1) (cN gp.2)
  ·rw[if_neg g];exact aO
 |none=>dsimp only;exact hd
theorem Qv(G:Good c k X)(h:∀e,JE X e (fE e))(o:Expr)(name:Str)(apos:Pos)(e:Expr)(es:List Expr)(pos:Pos)(hd:JE X (.Call (.Attribute o name apos) (e::es) [] pos) d):JE X (.Call (.Attribute o name apos) (e::es) [] pos) (cI2 c fE d pos o name apos e es):=by
 unfold cI2;cases o with
 |Name x p=>
  dsimp only;cases q:c.it.wt.lookup name with
  |some nF=>
   obtain⟨n,F⟩:=nF;dsimp only;by_cases g:(e::es).all plain=true/\c.free=true/\(e::es).length < 20/\(apos.endLine == pos.line)=true
   ·rw[if_pos g];obtain⟨g2,g4,g5,g6⟩:=g;have gp:plain e=true/\es.all plain=true:=by rw[cC,b7]at g2;exact g2
    refine Ql (G.x.ins.wt name n F q) (G.free g4).1 (h _) (d_ h (e::es) g2) (aV gp.1) (cN gp.2) rfl ?_ g6;rw[all_plain g2];show(true&&true&&decide ((e::es).length+0+0 < 30))=true;rw[decide_eq_true (by omega)];rfl
   ·rw[if_neg g];exact aO
  |none=>exact hd
 |_=>exact hd
theorem Qw(G:Good c k X)(h:∀e,JE X e (fE e))(o:Expr)(name:Str)(apos pos:Pos)(hd:JE X (.Call (.Attribute o name apos) [] [] pos) d):JE X (.Call (.Attribute o name apos) [] [] pos) (cI0 c fE d pos o name apos):=by
 unfold cI0;cases o with
 |Name x p=>
  dsimp only;cases q:c.it.wt.lookup name with
  |some nF=>
   dsimp only;by_cases g:c.free=true/\(apos.endLine == pos.line)=true
   ·rw[if_pos g];exact LL (G.x.ins.wt name _ _ q) (G.free g.1).1 (h _) rfl g.2
   ·rw[if_neg g];exact aO
  |none=>exact hd
 |_=>exact hd
theorem Qx(G:Good c k X)(h:∀e,JE X e (fE e))(f:Expr)(as:List Expr)(ks:List Keyword)(pos:Pos)(hd:JE X (.Call f as ks pos) d):JE X (.Call f as ks pos) (cI1 c fE d pos f as ks):=by
 unfold cI1;cases ks with
 |cons _ _=>exact hd
 |nil=>
  cases as with
  |nil=>
   cases f with
   |Attribute o name apos=>exact Qw G h o name apos pos hd
   |_=>exact hd
  |cons e es=>
   cases f with
   |Attribute o name apos=>exact Qv G h o name apos e es pos hd
   |Name x p=>exact Qu G h x p e es pos hd
   |_=>exact hd
def Qy(c:Ct)(f:Expr->GE)(o:Expr)(fl:Str):GE:=match o with
 |.Name x p=>if c.it.own.contains fl=true then ua c.it.c fl (f (.Name x p))else b9
 |_=>b9
theorem L0(G:Good c k X)(h:∀e,JE X e (f e))(o:Expr)(fl:Str)(p:Pos):JE X (.Attribute o fl p) (Qy c f o fl):=by
 unfold Qy;cases o with
 |Name x q=>
  dsimp only;by_cases g:c.it.own.contains fl=true
  ·rw[if_pos g];exact Qj (h _) rfl (G.x.ins.own fl g)
  ·rw[if_neg g];exact aO
 |_=>exact aO
def HM(c:Ct)(sub:Ct->(Expr->GE)×(Expr->GT))(f:Expr->GE)(t:Expr->GT):Expr->GE
 |.Name x _=>Hr c x
 |.Constant k _ _=>Hu k
 |.BinOp a o b _=>aj (Vn o) (f a) (f b)
 |.UnaryOp o a _=>unG f o a
 |.BoolOp .And es _=>Qp f es
 |.BoolOp .Or es _=>Z' f es
 |.Compare a os bs _=>Qn c f a os bs
 |.IfExp q a b _=>vN (t q) (f a) (f b)
 |.Tuple es _ _=>D6 f bS es
 |.List es _=>D6 f hZ es
 |.Subscript a b _=>Qo c f a b
 |.Call g as ks p=>cI1 c f (Hy c f p g as ks) p g as ks
 |.Attribute o fl _=>Qy c f o fl
 |.ListComp elt gens scope _=>XO c sub f elt scope gens
 |.JoinedStr es _=>fsG f es
 |_=>b9
def stepT(c:Ct)(f:Expr->GE)(t:Expr->GT):Expr->GT
 |.UnaryOp .Not a _=>vM (t a)
 |.BoolOp .And es _=>Qq t es
 |.BoolOp .Or es _=>orT t es
 |.Compare a os bs _=>HE c f a os bs
 |.Name x p=>iI (f (.Name x p))
 |.Call g as ks p=>iI (f (.Call g as ks p))
 |.Subscript a b p=>iI (f (.Subscript a b p))
 |.Constant k j p=>iI (f (.Constant k j p))
 |.BinOp a o b p=>iI (f (.BinOp a o b p))
 |_=>lL
theorem yB(G:Good c k X){sub:Ct->(Expr->GE)×(Expr->GT)}(hb:∀k c X,Good c k X->(∀e,JE X e ((sub c).1 e))/\∀e,JT X e ((sub c).2 e))(h:∀e,JE X e (f e))(ht:∀e,JT X e (t e))(e:Expr):JE X e (HM c sub f t e):=by
 have hu:X.A.units+64 < cLine:=G.un;cases e with
 |Name x p=>exact Ht G x p
 |Constant v j p=>exact DZ v j p
 |BinOp a o b p=>exact O5 (LU o) (h a) (h b)
 |UnaryOp o a p=>
  cases o with
  |USub=>exact O6 (h a)
  |Not=>exact Pa (h a)
  |_=>exact aO
 |BoolOp o es p=>
  cases o with
  |And=>exact BR h p es
  |Or=>exact HG h p es
 |Compare a os bs p=>exact LX G h a os bs p
 |IfExp q a b p=>exact Uy (ht q) (h a) (h b)
 |Tuple es j p=>
  show JE X _ (D6 f bS es);unfold D6;by_cases g:es.all plain=true
  ·rw[if_pos g];exact Pb (d_ h es g)
  ·rw[if_neg g];exact aO
 |List es p=>
  show JE X _ (D6 f hZ es);unfold D6;by_cases g:es.all plain=true
  ·rw[if_pos g];exact Pc (d_ h es g)
  ·rw[if_neg g];exact aO
 |Subscript a b p=>exact LY G h a b p
 |Call g as ks p=>exact Qx G h g as ks p (HA G h g as ks p)
 |Attribute o fl p=>exact L0 G h o fl p
 |ListComp elt gens scope p=>exact(BW G (hb k) h elt scope gens p).1
 |JoinedStr es p=>exact Qt h es p
 |_=>exact aO
def D9:Expr->Bool
 |.ListComp .. =>true
 |.SetComp .. =>true
 |.DictComp .. =>true
 |.Set .. =>true
 |_=>false
theorem wA{t:Option Expr}(h:D9 e=false):swapsWith e t n env=pure false:=by cases e<;>first |rfl |cases h
theorem HN{i:Expr}:swapsWith e (some (.Subscript o i p)) n env=pure false:=by cases e<;>rfl
theorem HP(G:Good c k X){sub:Ct->(Expr->GE)×(Expr->GT)}(hb:∀k c X,Good c k X->(∀e,JE X e ((sub c).1 e))/\∀e,JT X e ((sub c).2 e))(h:∀e,JE X e (f e))(ht:∀e,JT X e (t e))(e:Expr):Qs X e (HM c sub f t e):=by
 by_cases g:D9 e=false
 ·exact λi y py spos hN hi hl hf=>F0 i hN (yB G hb h ht e) hi hl (wA g) hf
 ·cases e with
  |ListComp elt gens scope p=>exact(BW G (hb k) h elt scope gens p).2
  |SetComp=>exact fF
  |DictComp=>exact fF
  |Set=>exact fF
  |_=>exact absurd rfl g
theorem HQ(G:Good c k X)(h:∀e,JE X e (f e))(ht:∀e,JT X e (t e))(e:Expr):JT X e (stepT c f t e):=by
 have hu:X.A.units+64 < cLine:=G.un;cases e with
 |UnaryOp o a p=>
  cases o with
  |Not=>exact O9 (ht a)
  |_=>exact lM
 |BoolOp o es p=>
  cases o with
  |And=>exact(BS ht p es).jt
  |Or=>exact(HI ht p es).jt
 |Compare a os bs p=>exact HF G h a os bs p
 |Name x p=>exact sH (h _) (λ_=>rfl)
 |Call g as ks p=>exact sH (h _) (λ_=>rfl)
 |Subscript a b p=>exact sH (h _) (λ_=>rfl)
 |Constant v j p=>exact sH (h _) (λ_=>rfl)
 |BinOp a o b p=>exact sH (h _) (λ_=>rfl)
 |_=>exact lM
end
def m6:Nat->Ct->(Expr->GE)×(Expr->GT)
 | 0,_=>(λ_=>b9,λ_=>lL)
 |n+1,c=>(HM c (m6 n) (m6 n c).1 (m6 n c).2,stepT c (m6 n c).1 (m6 n c).2)
variable{gb:GS}{b:Ct->List Stmt->GS}
section
variable {X:Cx}
theorem fq:∀(n:Nat)(k:Nat)(c:Ct)(X:Cx),Good c k X->(∀e,JE X e ((m6 n c).1 e))/\∀e,JT X e ((m6 n c).2 e)
 | 0,_,_,_,_=>⟨λ_=>aO,λ_=>lM⟩
 |n+1,k,c,X,G=>⟨λe=>yB G (λk c X G=>fq n k c X G) (fq n k c X G).1 (fq n k c X G).2 e,λe=>HQ G (fq n k c X G).1 (fq n k c X G).2 e⟩
theorem HR:∀(n:Nat)(c:Ct)(X:Cx),Good c k X->∀e,Qs X e ((m6 n c).1 e)
 | 0,_,_,_,_=>fF
 |n+1,c,X,G,e=>HP G (λk c X G=>fq n k c X G) (fq n k c X G).1 (fq n k c X G).2 e
def slot(c:Ct)(x:Str):Option Nat:=if c.names.lookup x=some .local\/(c.names.lookup x=some .cell/\c.top=true)then oJ x c.N else none
def BY(c:Ct)(x:Str):Option Nat:=if c.names.lookup x=some .local then oJ x c.N else none
theorem HS(G:Good c k X)(h:BY c x=some i):X.N[i]? =some x/\X.env.scope.names.lookup x=some .local:=by
 unfold BY at h;by_cases e:c.names.lookup x=some .local
 ·rw[if_pos e]at h;exact⟨by rw[G.N];exact i7 h,by rw[G.sc];exact e⟩
 ·rw[if_neg e]at h;cases h
theorem rT(G:Good c k X)(h:slot c x=some i):X.N[i]? =some x/\(Loc X.env.scope x/\(X.fn x=true\/X.env.scope.names.lookup x=some .local)):=by
 unfold slot at h;by_cases e:c.names.lookup x=some .local\/(c.names.lookup x=some .cell/\c.top=true)
 ·rw[if_pos e]at h;refine⟨by rw[G.N];exact i7 h,?_⟩;rcases e with e |⟨e,e2⟩
  ·have q:X.env.scope.names.lookup x=some .local:=by rw[G.sc];exact e
   exact⟨.inl q,.inr q⟩
  ·have q:X.env.scope.names.lookup x=some .cell:=by rw[G.sc];exact e
   exact⟨.inr q,.inl (G.fn e2 x)⟩
 ·rw[if_neg e]at h;cases h
def slots(c:Ct):List Expr->Option (List Nat)
 |[]=>some []
 |.Name x _::es=>(match slot c x,slots c es with |some i,some is=>some (i::is) |_,_=>none)
 |_=>none
theorem yC{c:Ct}{k:Nat}(G:Good c k X):∀{es:List Expr}{is:List Nat},slots c es=some is->Slots X es is
 |[],is,h=>by cases h;exact .nil
 |e::es,is,h=>by
  cases e with
  |Name x p=>
   have h:(match slot c x,slots c es with |some i,some is=>some (i::is) |_,_=>none)=some is:=h
   cases e1:slot c x with
   |none=>rw[e1]at h;cases h
   |some i=>
    cases e2:slots c es with
    |none=>rw[e1,e2]at h;cases h
    |some js=>rw[e1,e2]at h;cases h;obtain⟨q1,q2⟩:=rT G e1;exact .cons q1 q2 (yC G e2)
  |_=>cases h
def Vp:Expr->Bool
 |.Tuple .. =>true
 |_=>false
def L3(es:List Expr)(v:Expr):Bool:=!Vp v||decide (4<=es.length)
theorem D_{v:Expr}(h:L3 es v=true):swappedStores [.Tuple es k p] v X.env=pure none:=by
 cases v with
 |Tuple vs k2 p2=>
  have h4:4<=es.length:=by simpa [L3,Vp]using h
  unfold swappedStores;have:(!(es.length == 2||es.length == 3)||vs.length != es.length||X.env.blockKind != .function)=true:=by
   have h2:(es.length == 2)=false:=by simp;omega
   have h3:(es.length == 3)=false:=by simp;omega
   rw[h2,h3];rfl
  dsimp only;rw[if_pos this]
 |_=>rfl
theorem L4{f:Str}:swapsWith e (some (.Attribute o f p)) n env=pure false:=by cases e<;>rfl
def Qz(c:Ct)(f:Expr->GE)(v o:Expr)(fl:Str):GS:=if c.it.own.contains fl=true then qz c.it.c fl (f v) (f o)else cH
theorem L5(G:Good c k X)(h:∀e,JE X e (f e))(v o:Expr)(fl:Str)(p pos:Pos):JS X (.Assign [.Attribute o fl p] v pos) (Qz c f v o fl):=by
 unfold Qz;by_cases g:c.it.own.contains fl=true
 ·rw[if_pos g];exact Qk (h o) (h v) L4 (G.x.ins.own fl g)
 ·rw[if_neg g];exact bG
def QA(c:Ct)(f:Expr->GE)(v:Expr):List Expr->GS
 |[.Name x _]=>(match slot c x with |some i=>bq i (f v) |none=>cH)
 |[.Attribute o fl _]=>Qz c f v o fl
 |[.Subscript o i _]=>if LV i=false then BA (f v) (f o) (f i)else cH
 |[.Tuple es _ _]=>if D9 v=false/\L3 es v=true/\c.free=true then(match slots c es with |some is=>qw is (f v) |none=>cH)else cH
 |_=>cH
theorem QB(G:Good c k X)(h:∀e,JE X e (f e))(ha:∀e,Qs X e (f e))(v:Expr)(ts:List Expr)(pos:Pos):JS X (.Assign ts v pos) (QA c f v ts):=by
 unfold QA;split
 ·rename_i x p;cases e:slot c x with
  |none=>exact bG
  |some i=>obtain⟨e1,e2⟩:=rT G e;dsimp only;exact ha v i x _ _ (by rw[G.N];exact G.nd) e1 e2.1 e2.2
 ·exact L5 G h v _ _ _ _
 ·rename_i o i p;by_cases g2:LV i=false
  ·rw[if_pos g2];refine K8 (h v) (h o) (h i) (by unfold swapsWithSole;exact HN) ?_ rfl ?_
   ·cases v<;>rfl
   ·intro _;cases i<;>first |rfl |cases g2
  ·rw[if_neg g2];exact bG
 ·rename_i es kk p;by_cases g:D9 v=false/\L3 es v=true/\c.free=true
  ·rw[if_pos g];cases e1:slots c es with
   |none=>exact bG
   |some is=>have g2:=g.2.1;refine Lg (by rw[G.N];exact G.nd) (G.free g.2.2).2 (yC G e1) (h v) (wA g.1) ?_;exact D_ g2
  ·rw[if_neg g];exact bG
 ·exact bG
def QC(c:Ct)(f:Expr->GE)(i:Nat)(gb:GS):Expr->GS
 |.Call (.Name x p) [a] [] q=>if kN c x=true then(if plain a=true then nA i (i6 f [a]) gb else cH)else Af i (f (.Call (.Name x p) [a] [] q)) gb
 |e=>if isSet e=false then Af i (f e) gb else cH
theorem QD(G:Good c k X)(hl:c.loop=true)(h:∀e,JE X e (f e))(hx:slot c x=some i){body:List Stmt}(hb:pH X body gb)(e:Expr)(pos pos':Pos):JS X (.For (.Name x pos') e body [] pos) (QC c f i gb e):=by
 have nd:X.N.Nodup:=by rw[G.N];exact G.nd
 obtain⟨e1,e2⟩:=rT G hx;have rg:=s_ G;unfold QC;split
 ·rename_i y p a q;by_cases g:kN c y=true
  ·rw[if_pos g];obtain⟨rfl,g2,g3⟩:=rg y g;by_cases ga:plain a=true
   ·rw[if_pos ga];exact Gg i nd (G.loop hl).2 (G.loop hl).1 g2 g3 (d_ h [a] (by simp[ga])) hb e1 e2.1 e2.2 (aV ga)
   ·rw[if_neg ga];exact bG
  ·rw[if_neg g];exact Ge i nd (G.loop hl).2 (G.loop hl).1 (h _) hb e1 e2.1 e2.2 (mH rfl)
 ·by_cases g:isSet e=false
  ·rw[if_pos g];exact Ge i nd (G.loop hl).2 (G.loop hl).1 (h _) hb e1 e2.1 e2.2 (mH g)
  ·rw[if_neg g];exact bG
def AH(c:Ct)(f:Expr->GE):Expr->GS
 |.Call (.Name x _) (e::es) [] _=>if okN x=true/\(e::es).all plain=true/\c.names.lookup x=some .globalImplicit/\c.clss.contains x=true/\c.free=true then fJ x (i6 f (e::es))else cH
 |_=>cH
theorem HU(G:Good c k X)(h:∀e,JE X e (f e))(e:Expr)(pos:Pos):JS X (.Raise (some e) none pos) (AH c f e):=by
 unfold AH;split
 ·rename_i x p e es q;by_cases g:okN x=true/\(e::es).all plain=true/\c.names.lookup x=some .globalImplicit/\c.clss.contains x=true/\c.free=true
  ·rw[if_pos g];obtain⟨g1,g2,g3,g4,g5⟩:=g;have hg:Gl X x:=by show X.env.scope.names.lookup x=_;rw[G.sc];exact g3
   have gp:plain e=true/\es.all plain=true:=by rw[cC,b7]at g2;exact g2
   obtain⟨C,q1,q2⟩:=G.cls x g4;exact Gi (G.free g5).2 q2 hg q1 (d_ h (e::es) g2) (ia g1) (aV gp.1) (cN gp.2)
  ·rw[if_neg g];exact bG
 ·exact bG
def QE(c:Ct)(b:Ct->List Stmt->GS)(body:List Stmt):List ExceptHandler->GS
 |[.ExceptHandler (some (.Name x _)) (some n) (b0::suite) _]=>if okN x=true/\c.names.lookup x=some .globalImplicit/\c.clss.contains x=true/\c.free=true/\c.top=true then
   (match BY c n with
   |some i=>DB (λy=>c.tc.lookup (y,x)) i (b c.M3 body) (b c.wu (b0::suite))
   |none=>cH)else cH
 |_=>cH
theorem QF(G:Good c k X)(hb:∀c X,Good c k X->∀s,pH X s (b c s))(body:List Stmt)(hs:List ExceptHandler)(pos:Pos):JS X (.Try body hs [] [] pos) (QE c b body hs):=by
 unfold QE;split
 ·rename_i x p n b0 suite q;by_cases g:okN x=true/\c.names.lookup x=some .globalImplicit/\c.clss.contains x=true/\c.free=true/\c.top=true
  ·rw[if_pos g];obtain⟨g1,g3,g4,g5,g6⟩:=g;have hg:Gl X x:=by show X.env.scope.names.lookup x=_;rw[G.sc];exact g3
   obtain⟨D,q1,q2⟩:=G.cls x g4;cases e1:BY c n with
   |none=>exact bG
   |some i=>obtain⟨e2,e3⟩:=HS G e1;exact Py (G.stk g6) (by rw[G.N];exact G.nd) e2 e3 (G.free g5).2 G.tab hg q1 q2.cls (ia g1) (λpn E=>hb _ _ (G.body g5 pn E) _) λa o u pn E nx=>hb _ _ (G.suite nx pn E) _
  ·rw[if_neg g];exact bG
 ·exact bG
def QG(c:Ct)(f:Expr->GE)(o:Expr)(fl:Str)(op:Operator)(e:Expr):GS:=if c.it.own.contains fl=true then(match DT op with |some q=>uZ q c.it.c fl (f o) (f e) |none=>cH)else cH
theorem L6(G:Good c k X)(h:∀e,JE X e (f e))(o:Expr)(fl:Str)(op:Operator)(e:Expr)(p pos:Pos):JS X (.AugAssign (.Attribute o fl p) op e pos) (QG c f o fl op e):=by
 unfold QG;by_cases g:c.it.own.contains fl=true
 ·rw[if_pos g];cases e2:DT op with
  |none=>exact bG
  |some q=>exact LM e2 (h o) (h e) (G.x.ins.own fl g)
 ·rw[if_neg g];exact bG
def QH(c:Ct)(f:Expr->GE)(x:Str)(op:Operator)(e:Expr):GS:=match slot c x,DT op with
 |some i,some o=>jw o i (f e)
 |_,_=>cH
theorem QI(G:Good c k X)(h:∀e,JE X e (f e))(x:Str)(op:Operator)(e:Expr)(p pos:Pos):JS X (.AugAssign (.Name x p) op e pos) (QH c f x op e):=by
 unfold QH;cases e1:slot c x with
 |none=>exact bG
 |some i=>
  cases e2:DT op with
  |none=>exact bG
  |some o=>obtain⟨q1,q2⟩:=rT G e1;exact Qd i e2 (by rw[G.N];exact G.nd) (h e) q1 q2.1 q2.2
def cM:Nat:=100000
def HV(c:Ct)(f:Expr->GE)(t:Expr->GT)(b:Ct->List Stmt->GS):Stmt->GS
 |.Return (some e) _=>bb (f e)
 |.Return none _=>bb (gC .cG)
 |.Expr e _=>if D9 e=false then fQ (f e)else cH
 |.If q x y _=>iH (t q) (b c x) (b c y)
 |.Assign ts v _=>QA c f v ts
 |.For (.Name x _) e body [] _=>if c.loop=true then(match slot c x with |some i=>QC c f i (b c body) e |none=>cH)else cH
 |.While q body [] _=>if c.loop=true then eD cM (t q) (b c body)else cH
 |.AugAssign (.Name x _) op e _=>QH c f x op e
 |.AugAssign (.Attribute o fl _) op e _=>QG c f o fl op e
 |.Raise (some e) none _=>AH c f e
 |.Try body hs [] [] _=>QE c b body hs
 |.Pass _=>bt
 |_=>cH
theorem HW(G:Good c k X)(h:∀e,JE X e (f e))(ha:∀e,Qs X e (f e))(ht:∀e,JT X e (t e))(hb:∀c X,Good c k X->∀s,pH X s (b c s))(s:Stmt):JS X s (HV c f t b s):=by
 unfold HV;split
 ·exact Pn (h _)
 ·exact Lc
 ·rename_i e p;by_cases g:D9 e=false
  ·rw[if_pos g];exact K7 (h _) (wA g)
  ·rw[if_neg g];exact bG
 ·exact UR (ht _) (hb c X G _) (hb c X G _)
 ·exact QB G h ha _ _ _
 ·rename_i x p e body q;by_cases g:c.loop=true
  ·rw[if_pos g];cases e1:slot c x with
   |none=>exact bG
   |some i=>exact QD G g h e1 (hb c X G body) e _ _
  ·rw[if_neg g];exact bG
 ·rename_i q body p;by_cases g:c.loop=true
  ·rw[if_pos g];exact Ha cM (G.loop g).2 (ht _) (hb c X G body)
  ·rw[if_neg g];exact bG
 ·exact QI G h _ _ _ _ _
 ·exact L6 G h _ _ _ _ _ _
 ·exact HU G h _ _
 ·exact QF G hb _ _ _
 ·exact K6
 ·exact bG
end
def AI(f:Stmt->GS):List Stmt->GS
 |[]=>bt
 |[s]=>f s
 |s::s'::r=>aC (f s) (AI f (s'::r))
theorem yD{X:Cx}{f:Stmt->GS}(h:∀s,JS X s (f s)):∀ss,pH X ss (AI f ss)
 |[]=>K4
 |[s]=>K5 (h s)
 |s::s'::r=>FZ (h s) (yD h (s'::r))
def aU:Nat->Ct->List Stmt->GS
 | 0,_=>λ_=>cH
 |n+1,c=>AI (HV c (m6 40 c).1 (m6 40 c).2 (aU n))
theorem kq{k:Nat}:∀(n:Nat)(c:Ct)(X:Cx),Good c k X->∀ss:List Stmt,pH X ss (aU n c ss)
 | 0,_,_,_,_=>Dr
 |n+1,c,X,G,ss=>yD (λs=>HW G (fq 40 k c X G).1 (HR 40 c X G) (fq 40 k c X G).2 (kq n) s) ss
structure L7(K:PySem.W.Frag)(mg:Str->Option ahb)(q:Str)(P:ag5):Prop where
 tab:kJ K q=some P
 code:∃c o vs file tf flags tg inF text tt,PySem.W.tabIn K q=some (c,P)/\K.lookup c=some o/\o.cls= .type "code"/\o.data= .fields vs/\vs[11]? =some (.ref P)/\vs.getD 11 .none= .ref P/\vs.getD 18 .none= .str file tf/\
  vs.getD 7 .none= .int flags tg/\vs.getD 9 .none= .bool inF/\vs.getD 10 .none= .int text tt/\c≠P
 mem:q∈cx
 uniq:∀q',q'∈cx->kJ K q'=some P->q'=q
variable{f:ag5}{cdv:ahb}
theorem L7.at'{q:Str}{P:ag5}(h:L7 X.K X.mg q P)(M:As X.K X.mg X.base)(hn:PySem.W.nsIn X.K ahk q=some (some (.ref f)))(hc:F7 X.K f cdv)(e1:X.env.code=cdv)(e2:X.env.qual=q++".<locals>."):MX X q P:=by
 obtain⟨c,o,vs,file,tf,flags,tg,inF,text,tt,t,l,r⟩:=h.code;refine⟨⟨c,?_,o,vs,file,tf,flags,tg,inF,text,tt,M.1.J0 _ _ l,r⟩,e2,h.tab,h.mem,h.uniq,M.2⟩
 ·obtain⟨of,lf,fd,d,cd⟩:=hc;rw[e1,<-cd];unfold PySem.W.tabIn at t;rw[hn]at t;dsimp only at t;rw[lf]at t;obtain⟨oc,od,da,sl⟩:=of;dsimp only at d;subst d;dsimp only at t;cases q1:fd.code with
  |ref c2=>
   rw[q1]at t;dsimp only at t;split at t
   ·split at t
    ·cases t;rfl
    ·cases t
   ·cases t
  |_=>rw[q1]at t;cases t
structure lQ(c:Ct)(k:Nat)(P:ag9)(w:ahc)(K:PySem.W.Frag)(mg:Str->Option ahb)(base:Heap):Prop where
 lam:∀p L,c.lam=some (p,L)->LB P w K mg base k p c.lp L
 DY:∀x F,c.DY.lookup x=some F->FnQ c.lp P w K mg k c.lj x F
 LO:∀x n F,c.fns.lookup x=some (n,F)->c.ZZ.contains x=true->∀base,As K mg base->eP P w K mg base c.lj x n F
 at':c.self∈cx->∃P,L7 K mg c.self P
 sk:c.sk<=k
 LP:∀x n F,c.fns.lookup x=some (n,F)->c.Z_.contains x=true->eP P w K mg base c.lj x n F
 ins:Az c.it k P w K mg base
theorem lQ.no(h1:c.lam=none)(h2:c.DY=[])(h3:c.ZZ=[])(h4:c.self="")(h5:c.sk=0:=by rfl)(h6:c.Z_=[]:=by rfl)(h7:Az c.it k P w K mg base:=by exact Az.no):lQ c k P w K mg base :=
 ⟨(λp L e=>by rw[h1]at e;cases e),(λx F e=>by rw[h2]at e;cases e),(λx n F _ e=>by rw[h3]at e;cases e),(λe=>by rw[h4]at e;exact absurd e (by decide)),by rw[h5];exact de _,(λx n F _ e=>by rw[h6]at e;cases e),h7⟩
structure qB(c:Ct)(k:Nat)(P:ag9)(w:ahc)(K:PySem.W.Frag)(mg:Str->Option ahb)(base:Heap):Prop where
 cst:∀x w,c.consts.lookup x=some w->BQ K mg x w
 bl:∀x,c.bl.contains x=true->mg x=none
 fns:∀x n F,c.fns.lookup x=some (n,F)->eP P w K mg base k x n F
 tab:TabOk K c.tb c.tt c.tc
 cls:∀x,c.clss.contains x=true->∃C,mg x=some (.ref C)/\Gh K x C
 xD:∀x,c.xD.contains x=true->∃C,mg x=some (.ref C)/\ClsAt K x C
 u0:∀x kvs,c.u0.lookup x=some kvs->pM K w mg x kvs
 xE:∀x n F,c.xE.contains x=true->c.fns.lookup x=some (n,F)->wg P w K mg base k x n F
 x:lQ c k P w K mg base
variable{h:Heap}{st:Stmt}{ps:List Str}{g:GS}
theorem aH(KX:K.In h)(NS:h.Ns ahk mg)(D:bh K x st)(T:qB c k P w K mg base)
  (S:FnScope c.N ps (defScope st))(hn:(defScope st).names=c.names)(hg:aU 30 c (defBody st)=g)
  (hb:∀(kV doc pm:ahb)(an:Option ag5)(cdv ct:ahb)(us:List ahb),us.length=ps.length->bindArgs (PySem.W.fnOf x x (defArgs st) (defBody st) (defScope st) .none kV doc pm an cdv ct) ⟨us,[]⟩=pure (ps.zip us))(hM:c.self∈cx->As K mg base/\c.self=x:=by exact λz=>absurd (show("":Str)∈cx from z) (by decide)):
  eP P w K mg base (k+1) x ps.length (aK c.N.length g):=by
 obtain⟨f,fd,a,F⟩:=D;refine⟨f,fd,ps,?_,PySem.W.mg_of KX NS a,F.kp,F.binds hb⟩;subst hg;refine BB F S λcdv aah A outer s H E hr=>?_;refine kq (k:=k) 30 c _ ⟨rfl,hn,S.nd,rQ hr,λ_=>⟨hr,rfl⟩,λ_=>⟨rfl,wB⟩,T.cst,T.bl,T.fns,λ_=>⟨rfl,rfl,rfl⟩,λ_ _=>rfl,S.kind,T.tab,T.cls,T.xD,T.u0,gB.of hr,T.xE,⟨T.x.lam,T.x.DY,T.x.LO,λ_ z=>?_,T.x.sk,T.x.LP,T.x.ins⟩,⟨_,_,_,rfl,rfl,rfl⟩,.inl hr.hd⟩ _;obtain⟨P',L⟩:=T.x.at' z;obtain⟨M,e⟩:=hM z;exact⟨P',L7.at' L M (by rw[e];exact a) aah rfl (by rw[e];rfl)⟩
theorem HX(KX:K.In h)(NS:h.Ns ahk mg)(D:bh K x st)(T:qB c k P w K mg base)
  (S:FnScope c.N ps (defScope st))(hn:(defScope st).names=c.names)(hg:aU 30 c.un (defBody st)=g)
  (hb:∀(kV doc pm:ahb)(an:Option ag5)(cdv ct:ahb)(us:List ahb),us.length=ps.length->bindArgs (PySem.W.fnOf x x (defArgs st) (defBody st) (defScope st) .none kV doc pm an cdv ct) ⟨us,[]⟩=pure (ps.zip us))(hs:c.self∉cx:=by exact(show("":Str)∉cx by decide)):
  wg P w K mg base (k+1) x ps.length (aK c.N.length g):=by
 obtain⟨f,fd,a,F⟩:=D;refine⟨f,fd,ps,?_,PySem.W.mg_of KX NS a,F.kp,F.binds hb⟩;subst hg;refine ZQ F S λcdv A outer s H E hr hz=>?_;exact kq (k:=k) 30 c.un (Lz P w K mg base c.N x (defScope st) f cdv A outer s H E) ⟨rfl,hn,S.nd,hr.u64,(λz=>by cases z),(λz=>by cases z),T.cst,T.bl,T.fns,λ_=>⟨rfl,rfl,rfl⟩,λ_ _=>rfl,S.kind,T.tab,T.cls,T.xD,T.u0,hr,T.xE,⟨T.x.lam,T.x.DY,T.x.LO,λ_ z=>absurd z hs,T.x.sk,T.x.LP,T.x.ins⟩,⟨_,_,_,rfl,rfl,rfl⟩,hz⟩ _
variable{F:List Wv->Hs->Re Wv}
theorem L8{fa:ag5}(KX:K.In h)(NS:h.Ns ahk mg)(hmg:mg "law"=some (.ref fa))(D:bh K "law" st)
  (hp:∀(kV doc pm:ahb)(an:Option ag5)(cdv ct:ahb)(s:aha)(u:ahb),BindsTo s (PySem.W.fnOf "law" "law" (defArgs st) (defBody st) (defScope st) .none kV doc pm an cdv ct) ⟨[u],[]⟩ [("script",u)])
  (FN:∀(f:ag5)(fd:ag7),JG K "law" "law" st f fd->∀base:Heap,K.In base->base.Ns ahk mg->FnOk P w K mg base (CXJ P w) k f fd ["script"] (spW K 1 F)):
  ∃fd:ag7,(∀(s:aha)(u:ahb),BindsTo s fd ⟨[u],[]⟩ [("script",u)])/\∀base:Heap,K.In base->base.Ns ahk mg->FnOk P w K mg base (CXJ P w) k fa fd ["script"] (spW K 1 F):=by
 obtain⟨f,fd,a,Fu⟩:=D;have e:=hmg.symm.trans (PySem.W.mg_of KX NS a);cases e;refine⟨fd,λs u=>?_,FN fa fd Fu⟩;obtain⟨oc,od,kV,doc,pm,an,cdv,ct,osl,rfl,lk,hcd⟩:=Fu.ex;exact hp kV doc pm an cdv ct s u
variable{fd:ag7}
theorem QJ(F:JG K x x st f fd)(T:qB c k P w K mg base)
  (S:FnScope c.N ps (defScope st))(hn:(defScope st).names=c.names)(hg:aU 30 c (defBody st)=g)(hs:c.self∉cx:=by exact(show("":Str)∉cx by decide)):FnOk P w K mg base (CXJ P w) (k+1) f fd ps (spW K ps.length (aK c.N.length g)):=by
 subst hg;refine BB F S λcdv _ A outer s H E hr=>?_;exact kq (k:=k) 30 c _ ⟨rfl,hn,S.nd,rQ hr,λ_=>⟨hr,rfl⟩,λ_=>⟨rfl,wB⟩,T.cst,T.bl,T.fns,λ_=>⟨rfl,rfl,rfl⟩,λ_ _=>rfl,S.kind,T.tab,T.cls,T.xD,T.u0,gB.of hr,T.xE,⟨T.x.lam,T.x.DY,T.x.LO,λ_ z=>absurd z hs,T.x.sk,T.x.LP,T.x.ins⟩,⟨_,_,_,rfl,rfl,rfl⟩,.inl hr.hd⟩ _
def yE(K:PySem.W.Frag)(cl x qual:Str)(st:Stmt):Prop:=∃C f fd,ClsAt K cl C/\C9 K C/\Meth K C x f/\JG K x qual st f fd
def HY(K:PySem.W.Frag)(cl qual:Str)(st:Stmt):Prop:=∃C f fd,ClsAt K cl C/\Mk K C f/\JG K "__init__" qual st f fd
variable{cl qual:Str}{C:ag5}{oc:ahb}{osl:Array (Option ahb)}
theorem QK{od an:Option ag5}{kV doc pm ct:ahb}(a:PySem.W.nsIn K ahk cl=some (some (.ref C)))(b:C9 K C)(i:PySem.W.findIn K (.ref C) x=some (some (.ref f)))
  (l:K.lookup f=some ⟨oc,od,.func (PySem.W.fnOf x qual (defArgs st) (defBody st) (defScope st) .none kV doc pm an cdv ct),osl⟩)(c:PySem.W.codeIn K cdv qual=true)(k:PySem.W.keepIn K (.ref f)=true)(n:PySem.W.isFn K (.ref f)=true):yE K cl x qual st:=⟨C,f,_,a,b,⟨i,n,k⟩,zX l c k⟩
theorem QL{od an:Option ag5}{kV doc pm ct:ahb}(a:PySem.W.nsIn K ahk cl=some (some (.ref C)))(b:PySem.W.makesIn K C=true)(kc:PySem.W.keepIn K (.ref C)=true)(i:PySem.W.findIn K (.ref C) "__init__"=some (some (.ref f)))
  (l:K.lookup f=some ⟨oc,od,.func (PySem.W.fnOf "__init__" qual (defArgs st) (defBody st) (defScope st) .none kV doc pm an cdv ct),osl⟩)(c:PySem.W.codeIn K cdv qual=true)(k:PySem.W.keepIn K (.ref f)=true)(n:PySem.W.isFn K (.ref f)=true):HY K cl qual st:=⟨C,f,_,a,⟨b,i,n,kc⟩,zX l c k⟩
theorem QM{f:Str}(a:PySem.W.nsIn K ahk cl=some (some (.ref C)))(b:C9 K C)(n:PySem.W.findIn K (.ref C) f=some none):Own K cl f:=⟨C,a,b,n⟩
theorem wC(D:yE K cl x qual st)(T:qB c k P w K mg base)
  (S:FnScope c.N ps (defScope st))(hn:(defScope st).names=c.names)(hg:aU 30 c (defBody st)=g)
  (hb:∀(kV doc pm:ahb)(an:Option ag5)(cdv ct:ahb)(us:List ahb),us.length=ps.length->bindArgs (PySem.W.fnOf x qual (defArgs st) (defBody st) (defScope st) .none kV doc pm an cdv ct) ⟨us,[]⟩=pure (ps.zip us))(hs:c.self∉cx:=by exact(show("":Str)∉cx by decide)):
  qT P w K mg base (k+1) cl x ps.length (aK c.N.length g):=by
 obtain⟨C,f,fd,a,b,d,F⟩:=D;refine⟨C,f,fd,ps,?_,a,b,d,F.binds hb⟩;subst hg;refine BB F S λcdv _ A outer s H E hr=>?_;exact kq (k:=k) 30 c _ ⟨rfl,hn,S.nd,rQ hr,λ_=>⟨hr,rfl⟩,λ_=>⟨rfl,wB⟩,T.cst,T.bl,T.fns,λ_=>⟨rfl,rfl,rfl⟩,λ_ _=>rfl,S.kind,T.tab,T.cls,T.xD,T.u0,gB.of hr,T.xE,⟨T.x.lam,T.x.DY,T.x.LO,λ_ z=>absurd z hs,T.x.sk,T.x.LP,T.x.ins⟩,⟨_,_,_,rfl,rfl,rfl⟩,.inl hr.hd⟩ _
theorem L9(KX:K.In h)(NS:h.Ns ahk mg)(D:HY K cl qual st)(T:qB c k P w K mg base)
  (S:FnScope c.N ps (defScope st))(hn:(defScope st).names=c.names)(hg:aU 30 c (defBody st)=g)
  (hb:∀(kV doc pm:ahb)(an:Option ag5)(cdv ct:ahb)(us:List ahb),us.length=ps.length->bindArgs (PySem.W.fnOf "__init__" qual (defArgs st) (defBody st) (defScope st) .none kV doc pm an cdv ct) ⟨us,[]⟩=pure (ps.zip us))(hs:c.self∉cx:=by exact(show("":Str)∉cx by decide)):
  yy P w K mg base (k+2) cl ps.length (aK c.N.length g):=by
 obtain⟨C,f,fd,a,b,F⟩:=D;refine⟨C,f,fd,ps,k+1,aA _,?_,a,PySem.W.mg_of KX NS a,b,F.binds hb⟩;subst hg;refine BB F S λcdv _ A outer s H E hr=>?_;exact kq (k:=k) 30 c _ ⟨rfl,hn,S.nd,rQ hr,λ_=>⟨hr,rfl⟩,λ_=>⟨rfl,wB⟩,T.cst,T.bl,T.fns,λ_=>⟨rfl,rfl,rfl⟩,λ_ _=>rfl,S.kind,T.tab,T.cls,T.xD,T.u0,gB.of hr,T.xE,⟨T.x.lam,T.x.DY,T.x.LO,λ_ z=>absurd z hs,T.x.sk,T.x.LP,T.x.ins⟩,⟨_,_,_,rfl,rfl,rfl⟩,.inl hr.hd⟩ _
variable{c:Str}
theorem qT.mono{j:Nat}(h:qT P w K mg base j c x n F)(l:j<=k):qT P w K mg base k c x n F:=by obtain⟨C,f,fd,ps,G,r⟩:=h;exact⟨C,f,fd,ps,G.mono l,r⟩
theorem yy.mono{j:Nat}(h:yy P w K mg base j c n F)(l:j<=k):yy P w K mg base k c n F:=by obtain⟨C,f,fd,ps,i,hi,r⟩:=h;exact⟨C,f,fd,ps,i,b5 hi l,r⟩
def AllP{α:Type}(P:α->Prop):List α->Prop
 |[]=>True
 |a::l=>P a/\AllP P l
theorem AllP.look{κ β:Type}[BEq κ][LawfulBEq κ]{P:κ×β->Prop}:∀{l:List (κ×β)}{x:κ}{b:β},AllP P l->l.lookup x=some b->P (x,b)
 |[],_,_,_,h=>by cases h
 |(y,c)::l,x,b,a,h=>by
  rw[f6]at h;cases e:x == y with
  |true=>rw[e]at h;cases h;have e':=eq_of_beq e;subst e';exact a.1
  |false=>rw[e]at h;exact AllP.look a.2 h
theorem AllP.mem{P:Str->Prop}:∀{l:List Str}{x:Str},AllP P l->l.contains x=true->P x
 |[],_,_,h=>by cases h
 |y::l,x,a,h=>by
  rw[Ag,Bool.or_eq_true]at h;rcases h with e |h
  ·have e':=eq_of_beq e;subst e';exact a.1
  ·exact AllP.mem a.2 h
variable{c:PySem.Str}
theorem oM{D:ag5}(h:ClsAt K c C)(k:ClsAt K c D):C=D:=by unfold ClsAt at h k;rw[h]at k;cases k;rfl
theorem QN{tb:Tab}{tt:x_}{tc:Tab}(h:AllP (λp=>∃C D,ClsAt K p.1.1 C/\ClsAt K p.1.2 D/\nB K C/\PySem.W.kitOne K (.ref C) (.ref D)=some p.2) tb)
  (g:AllP (λp=>∃C,ClsAt K p.1.1 C/\nB K C/\PySem.W.kitOne K (.ref C) (.type p.1.2)=some p.2) tt)
  (f:AllP (λp=>∃C D,ClsAt K p.1.1 C/\ClsAt K p.1.2 D/\PySem.W.excIn K C BC BD=true/\PySem.W.excIn K D BC BD=true/\PySem.W.mroIn K C (.ref D)=some p.2) tc):TabOk K tb tt tc :=
 ⟨λc d b C D e hC hD=>by
  obtain⟨C',D',q1,q2,r⟩:=AllP.look h e;cases oM hC q1;cases oM hD q2;exact r,λc d b C D e hC hD=>by
  obtain⟨C',D',q1,q2,r⟩:=AllP.look f e;cases oM hC q1;cases oM hD q2;exact r,λc T b C e hC=>by
  obtain⟨C',q1,r⟩:=AllP.look g e;cases oM hC q1;exact r⟩
theorem ay{c:Ct}(hc:AllP (λp=>BQ K mg p.1 p.2) c.consts)(hb:AllP (λx=>mg x=none) c.bl)(hf:AllP (λp=>eP P w K mg base k p.1 p.2.1 p.2.2) c.fns)
  (ht:TabOk K c.tb c.tt c.tc)(hk:AllP (λx=>∃C,mg x=some (.ref C)/\Gh K x C) c.clss)(hn:AllP (λx=>∃C,mg x=some (.ref C)/\ClsAt K x C) c.xD)(hd:AllP (λp=>pM K w mg p.1 p.2) c.u0)
  (hu:AllP (λx=>∀n F,c.fns.lookup x=some (n,F)->wg P w K mg base k x n F) c.xE:=by exact trivial)(hx:lQ c k P w K mg base:=by exact lQ.no rfl rfl rfl rfl):qB c k P w K mg base :=
 ⟨λ_ _ h=>hc.look h,λ_ h=>hb.mem h,λx n F h=>hf.look (b:=(n,F)) h,ht,λ_ h=>hk.mem h,λ_ h=>hn.mem h,λx kvs h=>hd.look (b:=kvs) h,λx n F h k=>hu.mem h n F k,hx⟩
theorem jX{t:ZY}(h1:AllP (λp=>qT P w K mg base k t.c p.1 p.2.1 p.2.2) t.wt)(h2:AllP (λp=>yy P w K mg base k p.1 p.2.1 p.2.2) t.ini)(h3:AllP (λf=>Own K t.c f) t.own):Az t k P w K mg base :=
 ⟨λx n F h=>h1.look (b:=(n,F)) h,λx n F h=>h2.look (b:=(n,F)) h,λ_ h=>h3.mem h⟩
def Rs.sq(r:Rs)(h:GS):Rs:=match r with
 |.nx ρ st=>h ρ st
 |r=>r
variable{x v:Wv}{b:Bool}{j:Int}{gr:GA}{ws:List Wv}{l:Nat}
section
variable {α β:Type}{ρ ρ':bR}{st:Hs}{h g ga' gb':GS}{ga gb gc:GE}{gt gu:GT}{w:Wv}{c:PySem.Str}{f:α->Hs->Re β}{k:α->Hs->Rs}{a:α}{i:Nat}
@[simp] theorem adb:(Rs.nx ρ st).sq h=h ρ st:=rfl
@[simp] theorem ade:(Rs.rt w st).sq h= .rt w st:=rfl
@[simp] theorem adf:(Rs.bk ρ st).sq h= .bk ρ st:=rfl
@[simp] theorem adg:(Rs.ct ρ st).sq h= .ct ρ st:=rfl
@[simp] theorem aai:(Rs.err c ρ st).sq h= .err c ρ st:=rfl
@[simp] theorem aaj:Rs.bad.sq h= .bad:=rfl
@[simp] theorem L_:(Re.ok a st).bind f=f a st:=rfl
@[simp] theorem Vq:(Re.err c st).bind f= .err c st:=rfl
@[simp] theorem Vr:(Re.bad:Re α).bind f= .bad:=rfl
@[simp] theorem aak:(Re.ok a st).bM ρ k=k a st:=rfl
@[simp] theorem XQ:(Re.err c st:Re α).bM ρ k= .err c ρ st:=rfl
@[simp] theorem aal:(Re.ok a st).mv= .ok a st:=rfl
@[simp] theorem XR:(Re.bad:Re α).mv= .bad:=rfl
@[simp] theorem XS:(Re.bad:Re α).bM ρ k= .bad:=rfl
@[simp] theorem adh:aC g h ρ st=(g ρ st).sq h:=by unfold aC Rs.sq;cases g ρ st<;>rfl
@[simp] theorem e_next:bt ρ st= .nx ρ st:=rfl
@[simp] theorem adi:bb ga ρ st=(ga ρ st).bM ρ λw st'=> .rt w st':=rfl
@[simp] theorem e_expr:fQ ga ρ st=(ga ρ st).bM ρ λ_ st'=> .nx ρ st':=rfl
@[simp] theorem adj:bq i ga ρ st=(ga ρ st).bM ρ λw st'=> .nx (ρ.set i (some w)) st':=rfl
def kIf(ga gb:GS)(ρ:bR):Bool->Hs->Rs:=λb st'=>if b=true then ga ρ st' else gb ρ st'
@[simp] theorem adk:kIf g h ρ true st=g ρ st:=rfl
@[simp] theorem adl:kIf g h ρ false st=h ρ st:=rfl
@[simp] theorem afa:iH gt g h ρ st=(gt ρ st).bM ρ (kIf g h ρ):=rfl
def Tu(o:Option (Option Wv))(st:Hs):Re Wv:=match o with
 |some (some w)=> .ok w st
 |_=> .bad
@[simp] theorem adm:Tu (some (some w)) st= .ok w st:=rfl
@[simp] theorem adn:af i ρ st=Tu ρ[i]? st:=rfl
@[simp] theorem e_c:gC w ρ st= .ok w st:=rfl
def kB(op:iQ)(gb:GE)(ρ:bR):Wv->Hs->Re Wv:=λx st1=>(gb ρ st1).bind λy st2=>(op x y st2).mv
@[simp] theorem afb{op:iQ}:kB op gb ρ x st=(gb ρ st).bind λy st2=>(op x y st2).mv:=rfl
@[simp] theorem ado{op:iQ}:aj op ga gb ρ st=(ga ρ st).bind (kB op gb ρ):=rfl
@[simp] theorem M4:bp ga ρ st=(ga ρ st).bind SY:=rfl
@[simp] theorem adp:SY (.bl b) st= .ok b st:=rfl
@[simp] theorem M5:iI ga ρ st=(ga ρ st).bind F8:=rfl
@[simp] theorem aan:F8 (.bl b) st= .ok b st:=rfl
@[simp] theorem adq:vM gt ρ st=(gt ρ st).bind λb st1=> .ok (!b) st1:=rfl
def QO(gb:GT)(ρ:bR):Bool->Hs->Re Bool:=λb st1=>if b=true then gb ρ st1 else .ok false st1
@[simp] theorem aao:QO gu ρ true st=gu ρ st:=rfl
@[simp] theorem aap:QO gu ρ false st= .ok false st:=rfl
@[simp] theorem M6:qP gt gu ρ st=(gt ρ st).bind (QO gu ρ):=rfl
def kOr(gb:GT)(ρ:bR):Bool->Hs->Re Bool:=λb st1=>if b=true then .ok true st1 else gb ρ st1
@[simp] theorem ads:kOr gu ρ true st= .ok true st:=rfl
@[simp] theorem adt:kOr gu ρ false st=gu ρ st:=rfl
@[simp] theorem afc:JH gt gu ρ st=(gt ρ st).bind (kOr gu ρ):=rfl
def HZ(gb:GE)(ρ:bR):Wv->Hs->Re Wv:=λw st1=>match w with
 |.bl true=>gb ρ st1
 |.bl false=> .ok (.bl false) st1
 |_=> .bad
@[simp] theorem XT:HZ gb ρ (.bl true) st=gb ρ st:=rfl
@[simp] theorem XU:HZ gb ρ (.bl false) st= .ok (.bl false) st:=rfl
@[simp] theorem wD:bZ ga gb ρ st=(ga ρ st).bind (HZ gb ρ):=rfl
def QP(gb:GE)(ρ:bR):Wv->Hs->Re Wv:=λw st1=>match w with
 |.bl true=> .ok (.bl true) st1
 |.bl false=>gb ρ st1
 |_=> .bad
@[simp] theorem aar:QP gb ρ (.bl true) st= .ok (.bl true) st:=rfl
@[simp] theorem aas:QP gb ρ (.bl false) st=gb ρ st:=rfl
@[simp] theorem adu:Aa ga gb ρ st=(ga ρ st).bind (QP gb ρ):=rfl
def M7:Wv->Hs->Re Wv:=λw st1=>match w with
 |.bl b=> .ok (.bl (!b)) st1
 |_=> .bad
@[simp] theorem XW:M7 (.bl b) st= .ok (.bl (!b)) st:=rfl
@[simp] theorem aat:xR ga ρ st=(ga ρ st).bind M7:=rfl
def QQ(ga gb:GE)(ρ:bR):Bool->Hs->Re Wv:=λb st1=>if b=true then ga ρ st1 else gb ρ st1
@[simp] theorem aau:QQ ga gb ρ true st=ga ρ st:=rfl
@[simp] theorem aav:QQ ga gb ρ false st=gb ρ st:=rfl
@[simp] theorem M8:vN gt ga gb ρ st=(gt ρ st).bind (QQ ga gb ρ):=rfl
@[simp] theorem adw:ag ρ st= .ok [] st:=rfl
def M9(gr:GA)(ρ:bR):Wv->Hs->Re (List Wv):=λx st1=>(gr ρ st1).bind λxs st2=> .ok (x::xs) st2
@[simp] theorem XX:M9 gr ρ x st=(gr ρ st).bind λxs st2=> .ok (x::xs) st2:=rfl
@[simp] theorem QR:ae ga gr ρ st=(ga ρ st).bind (M9 gr ρ):=rfl
def yF:List Wv->Hs->Re Wv:=λws st1=>if ws.length<=lim then .ok (.tup ws) st1 else .bad
theorem wF(hl:ws.length<=lim):yF ws st= .ok (.tup ws) st:=if_pos hl
@[simp] theorem adx:bS gr ρ st=(gr ρ st).bind yF:=rfl
def yG:List Wv->Hs->Re Wv:=λws st1=>if ws.length<=lim then .ok (.ref st1.length) (st1++[.lst ws])else .bad
theorem pQ(hl:ws.length<=lim):yG ws st= .ok (.ref st.length) (st++[.lst ws]):=if_pos hl
@[simp] theorem ady:hZ gr ρ st=(gr ρ st).bind yG:=rfl
section
variable {x x0 x1 x2 x3 x4 x5 x6 x7:Wv}
@[simp] theorem aaw:yF [x0] st= .ok (.tup [x0]) st:=wF (by simp[lim])
@[simp] theorem aax:yF [x0,x1] st= .ok (.tup [x0,x1]) st:=wF (by simp[lim])
@[simp] theorem aay:yF [x0,x1,x2] st= .ok (.tup [x0,x1,x2]) st:=wF (by simp[lim])
@[simp] theorem aaz:yF [x0,x1,x2,x3] st= .ok (.tup [x0,x1,x2,x3]) st:=wF (by simp[lim])
@[simp] theorem aaA:yG [] st= .ok (.ref st.length) (st++[.lst []]):=pQ (by simp[lim])
@[simp] theorem aaB:yG [x0] st= .ok (.ref st.length) (st++[.lst [x0]]):=pQ (by simp[lim])
@[simp] theorem aaC:yG [x0,x1] st= .ok (.ref st.length) (st++[.lst [x0,x1]]):=pQ (by simp[lim])
@[simp] theorem aaD:yG [x0,x1,x2,x3] st= .ok (.ref st.length) (st++[.lst [x0,x1,x2,x3]]):=pQ (by simp[lim])
@[simp] theorem aaE:yG [x0,x1,x2,x3,x4] st= .ok (.ref st.length) (st++[.lst [x0,x1,x2,x3,x4]]):=pQ (by simp[lim])
@[simp] theorem aaF:yG [x0,x1,x2,x3,x4,x5,x6,x7] st= .ok (.ref st.length) (st++[.lst [x0,x1,x2,x3,x4,x5,x6,x7]]):=pQ (by simp[lim])
end
def u5(n:Nat)(F:List Wv->Hs->Re Wv):List Wv->Hs->Re Wv:=λws st1=>if ws.length=n then F ws st1 else .bad
section
variable {F:List Wv->Hs->Re Wv}{x0 x1 x2 x3:Wv}{gr:GA}
@[simp] theorem XY:u5 1 F [x0] st=F [x0] st:=rfl
@[simp] theorem XZ:u5 2 F [x0,x1] st=F [x0,x1] st:=rfl
@[simp] theorem X_:u5 3 F [x0,x1,x2] st=F [x0,x1,x2] st:=rfl
@[simp] theorem X':u5 4 F [x0,x1,x2,x3] st=F [x0,x1,x2,x3] st:=rfl
@[simp] theorem aaG:az n F gr ρ st=(gr ρ st).bind (u5 n F):=rfl
@[simp] theorem Ya:aI op gr ρ st=(gr ρ st).bind λws st1=>(op ws st1).mv:=rfl
end
@[simp] theorem afd{op:Wv->Hs->Re Wv}:S0 op ga ρ st=(ga ρ st).bind op:=rfl
@[simp] theorem adz{i:Int}:uI (.int i) st= .ok (.int (-i)) st:=rfl
@[simp] theorem adA{i:Int}:bA (.int i) (.int j) st= .ok (.int (i+j)) st:=rfl
@[simp] theorem adB{i:Int}:lK (.int i) (.int j) st= .ok (.int (i - j)) st:=rfl
@[simp] theorem H_{i:Int}:oLt (.int i) (.int j) st= .ok (.bl (decide (i < j))) st:=rfl
@[simp] theorem aaH{i:Int}:oLe (.int i) (.int j) st= .ok (.bl (decide (i<=j))) st:=rfl
@[simp] theorem afe{i:Int}:MM (.int i) (.int j) st= .ok (.bl (decide (j < i))) st:=rfl
@[simp] theorem aff{i:Int}:UB (.int i) (.int j) st= .ok (.bl (decide (j<=i))) st:=rfl
@[simp] theorem qW{i:Int}:oEq (.int i) (.int j) st= .ok (.bl (i == j)) st:=rfl
@[simp] theorem ue{i:Int}:j' (.int i) (.int j) st= .ok (.bl (!(i == j))) st:=rfl
@[simp] theorem wG{i j:PySem.Str}:oEq (.str i) (.str j) st= .ok (.bl (i == j)) st:=rfl
@[simp] theorem Ia{i j:PySem.Str}:j' (.str i) (.str j) st= .ok (.bl (!(i == j))) st:=rfl
@[simp] theorem afg{i j:Bool}:oEq (.bl i) (.bl j) st= .ok (.bl (i == j)) st:=by cases i<;>cases j<;>rfl
@[simp] theorem afh{i j:Bool}:j' (.bl i) (.bl j) st= .ok (.bl (!(i == j))) st:=by cases i<;>cases j<;>rfl
theorem wH{i:Int}(h:j≠0/\j.natAbs.log2 < 9000):lu (.int i) (.int j) st= .ok (.int (i.fdiv j)) st:=by show(if _ then _ else _)=_;rw[if_pos h]
theorem BZ{i:Int}(h:j≠0):oMod (.int i) (.int j) st= .ok (.int (i.fmod j)) st:=by show(if _ then _ else _)=_;rw[if_pos h]
theorem M_{i:Int}(h:IntMulOk i j):di (.int i) (.int j) st= .ok (.int (i * j)) st:=by show(if _ then _ else _)=_;rw[if_pos h]
theorem B2{i:Int}(h1:-(2 ^ 64) < i)(h2:i < 2 ^ 64):di (.int i) (.int j) st= .ok (.int (i * j)) st:=M_ (IntMulOk.of_left (intBits_le_64 h1 h2))
theorem mul_r{i:Int}(h1:-(2 ^ 64) < j)(h2:j < 2 ^ 64):di (.int i) (.int j) st= .ok (.int (i * j)) st:=M_ (IntMulOk.of_right (intBits_le_64 h1 h2))
theorem Vs{i:Int}(h:0<=j/\j<=1000000/\i.natAbs < 2 ^ 64):vQ (.int i) (.int j) st= .ok (.int (i ^ j.toNat)) st:=by show(if _ then _ else _)=_;rw[if_pos h]
theorem mU{i:Int}(h:av st l=some ws)(h2:qN ws i=some v):bH (.ref l) (.int i) st= .ok v st:=by
 show(match av st l with |some ws=>(match qN ws i with |some w=>Re.ok w st |none=> .bad) |none=> .bad)=_
 rw[h];dsimp only;rw[h2]
theorem add_l{k:Nat}{xs ys:List Wv}(h1:av st l=some xs)(h2:av st k=some ys)(hl:xs.length+ys.length<=lim):bA (.ref l) (.ref k) st= .ok (.ref st.length) (st++[.lst (xs++ys)]):=by
 show(match av st l,av st k with |some i,some j=>if i.length+j.length<=lim then Re.ok (Wv.ref st.length) (st++[Ob.lst (i++j)])else .bad |_,_=> .bad)=_
 rw[h1,h2];exact if_pos hl
theorem jx{i:Int}(h2:qN ws i=some v):bH (.tup ws) (.int i) st= .ok v st:=by
 show(match qN ws i with |some w=>Re.ok w st |none=> .bad)=_
 rw[h2]
end
variable{w:Wv}{st st':Hs}
theorem Vt(h:g (ws.map some++aR (n - ws.length) none) st= .rt w st'):aK n g ws st= .ok w st':=by unfold aK;rw[h]
variable{ρ:bR}
theorem wI(h:g (ws.map some++aR (n - ws.length) none) st= .err c ρ st'):aK n g ws st= .err c st':=by unfold aK;rw[h]
variable{op':iQ}{y:Wv}{gd:GE}{cat:PySem.Str->Option Bool}{gs:GS}
section
variable {ρ:bR}{st:Hs}{ga gb gc:GE}{gl gh:GO}
def kSl(gl gh:GO)(ρ:bR):Wv->Hs->Re Wv:=λx st1=>(gl ρ st1).bind λlo st2=>(gh ρ st2).bind λhi st3=>oH x lo hi st3
@[simp] theorem Yb:cL ga gl gh ρ st=(ga ρ st).bind (kSl gl gh ρ):=rfl
@[simp] theorem adD:kSl gl gh ρ x st=(gl ρ st).bind λlo st2=>(gh ρ st2).bind λhi st3=>oH x lo hi st3:=rfl
@[simp] theorem Vu:fA ρ st= .ok none st:=rfl
def M':Wv->Hs->Re (Option Int):=λw st1=>match w with
 |.int i=> .ok (some i) st1
 |_=> .bad
@[simp] theorem aaI:fe ga ρ st=(ga ρ st).bind M':=rfl
@[simp] theorem Yc{i:Int}:M' (.int i) st= .ok (some i) st:=rfl
theorem Ie(h:av st l=some ws):dJ [.ref l] st= .ok (.int ws.length) st:=by
 show(match av st l with |some ws=>Re.ok (Wv.int ws.length) st |none=> .bad)=_
 rw[h]
def Ig(op':iQ)(gc:GE)(y:Wv)(ρ:bR):Wv->Hs->Re Wv:=λz st3=>match z with
 |.bl true=>(gc ρ st3).bind λu FJ=>(op' y u FJ).mv
 |.bl false=> .ok (.bl false) st3
 |_=> .bad
@[simp] theorem aaJ:Ig op' gc y ρ (.bl true) st=(gc ρ st).bind λu FJ=>(op' y u FJ).mv:=rfl
@[simp] theorem aaK:Ig op' gc y ρ (.bl false) st= .ok (.bl false) st:=rfl
@[simp] theorem Yd{op:iQ}:jT op op' ga gb gc ρ st=(ga ρ st).bind λx st1=>(gb ρ st1).bind λy st2=>(op x y st2).mv.bind (Ig op' gc y ρ):=rfl
def Vv(op' Ea:iQ)(gc gd:GE)(y:Wv)(ρ:bR):Wv->Hs->Re Wv:=λz st3=>match z with
 |.bl true=>(gc ρ st3).bind λu FJ=>(op' y u FJ).mv.bind (Ig Ea gd u ρ)
 |.bl false=> .ok (.bl false) st3
 |_=> .bad
@[simp] theorem aaL{Ea:iQ}:Vv op' Ea gc gd y ρ (.bl true) st=(gc ρ st).bind λu FJ=>(op' y u FJ).mv.bind (Ig Ea gd u ρ):=rfl
@[simp] theorem aaM{Ea:iQ}:Vv op' Ea gc gd y ρ (.bl false) st= .ok (.bl false) st:=rfl
def AJ(cat:PySem.Str->Option Bool)(i:Nat)(gs:GS)(r:Rs):Rs:=match r with
 |.err c ρ' st'=>(match cat c with
  |some true=>(match gs (ρ'.set i (some (.iP c))) st' with
   |.nx ρ2 st2=> .nx (ρ2.set i none) st2
   |.rt w st2=> .rt w st2
   |_=> .bad)
  |_=> .bad)
 |r=>r
@[simp] theorem adE:DB cat i g gs ρ st=AJ cat i gs (g ρ st):=by unfold DB AJ;cases g ρ st<;>rfl
@[simp] theorem Ye:AJ cat i gs (.nx ρ st)= .nx ρ st:=rfl
@[simp] theorem Yf:AJ cat i gs (.rt w st)= .rt w st:=rfl
def Na(cat:PySem.Str->Option Bool)(gs:GS)(r:Rs):Rs:=match r with
 |.err c ρ' st'=>(match cat c with
  |some true=>(match gs ρ' st' with
   |.nx ρ2 st2=> .nx ρ2 st2
   |.rt w st2=> .rt w st2
   |_=> .bad)
  |_=> .bad)
 |r=>r
@[simp] theorem Vw:Na cat gs (.nx ρ st)= .nx ρ st:=rfl
@[simp] theorem Vx:Na cat gs (.rt w st)= .rt w st:=rfl
end
theorem cz:av (st++[.lst ws]) st.length=some ws:=by unfold av;simp
theorem yH(h:av st l=some ws):l < st.length:=by
 unfold av at h;cases e:st[l]? with
 |none=>rw[e]at h;cases h
 |some o=>exact(List.getElem?_eq_some_iff.mp e).1
def bE(l:Nat)(st st':Hs):Prop:=st.length<=st'.length/\∀k,k < st.length->k≠l->st'[k]? =st[k]?
theorem bE.refl:bE l st st:=⟨aA _,λ_ _ _=>rfl⟩
theorem bE.trans{a b c:Hs}(h:bE l a b)(k:bE l b c):bE l a c:=⟨b5 h.1 k.1,λj h1 h2=>(k.2 j (bY h1 h.1) h2).trans (h.2 j h1 h2)⟩
variable{o:Ob}
theorem bE.push:bE l st (st++[o]):=⟨by simp,λk h _=>jR h⟩
theorem bE.set:bE l st (st.set l o):=⟨by simp,λk _ h=>iu (λz=>h z.symm)⟩
variable{j:Nat}
theorem bE.lst(k:bE l st st')(h:av st j=some ws)(hj:j≠l):av st' j=some ws:=by unfold av at h ⊢;rw[k.2 j (yH (st:=st) (ws:=ws) (by unfold av;exact h)) hj];exact h
variable{ga:GA}
@[simp] theorem Yg:nA i ga gb ρ st=(ga ρ st).bM ρ λws st1=>match ws with
 |[.int j]=>if nz j then ju i gb (gE 0 j.toNat) ρ st1 else .bad
 |_=> .bad:=rfl
@[simp] theorem Yh:fJ c ga ρ st=(ga ρ st).bM ρ λws st1=>if ws.length<=lim then .err c ρ st1 else .bad:=rfl
def m7(mt:Wv->Wv->Hs->Re Wv)(ga:GE)(ρ:bR):Wv->Hs->Re Wv:=λo st1=>match o with
 |.ref l=>(match av st1 l with
  |some _=>(ga ρ st1).bind λv st2=>(mt o v st2).mv
  |none=> .bad)
 |_=> .bad
variable{ga go:GE}{mt:Wv->Wv->Hs->Re Wv}
@[simp] theorem aaN:fo mt go ga ρ st=(go ρ st).bind (m7 mt ga ρ):=rfl
theorem oN(h:av st l=some ws):m7 mt ga ρ (.ref l) st=(ga ρ st).bind λv st2=>(mt (.ref l) v st2).mv:=by
 show(match av st l with |some _=>(ga ρ st).bind λv st2=>(mt (.ref l) v st2).mv |none=> .bad)=_
 rw[h]
theorem yI(h:st[l]? =some (.lst ws))(hl:ws.length < lim):pI (.ref l) v st= .ok .cG (st.set l (.lst (ws++[v]))):=by
 show(match st[l]? with |some (.lst ws)=>if ws.length < lim then Re.ok Wv.cG (st.set l (.lst (ws++[v])))else .bad |_=> .bad)=_
 rw[h];exact if_pos hl
def kFor(i:Nat)(gb:GS)(ρ:bR):Wv->Hs->Rs:=λw st1=>match w with
 |.ref l=>(match av st1 l with |some ws=>forL i gb l ws ws ρ st1 |none=> .bad)
 |.tup ws=>ju i gb ws ρ st1
 |.jS ws=>ju i gb ws ρ st1
 |_=> .bad
@[simp] theorem adF:Af i ga gb ρ st=(ga ρ st).bM ρ (kFor i gb ρ):=rfl
theorem wJ(h:av st l=some ws):kFor i gb ρ (.ref l) st=forL i gb l ws ws ρ st:=by
 show(match av st l with |some ws=>forL i gb l ws ws ρ st |none=> .bad)=_
 rw[h]
@[simp] theorem aaO:kFor i gb ρ (.tup ws) st=ju i gb ws ρ st:=rfl
theorem yJ{i:Nat}{gb:GS}{l:Nat}{all:List Wv}(P:bR->Hs->Prop):∀(ws:List Wv)(ρ:bR)(st:Hs),P ρ st->av st l=some all->
  (∀w∈ws,∀ρ st,P ρ st->av st l=some all->∃ρ' st',gb (ρ.set i (some w)) st= .nx ρ' st'/\av st' l=some all/\P ρ' st')->
  ∃ρ' st',forL i gb l all ws ρ st= .nx ρ' st'/\P ρ' st'/\av st' l=some all
 |[],ρ,st,h,hl,_=>⟨ρ,st,rfl,h,hl⟩
 |w::r,ρ,st,h,hl,step=>by obtain⟨ρ1,st1,e1,l1,p1⟩:=step w dg ρ st h hl;obtain⟨ρ2,st2,e2,p2,l2⟩:=yJ P r ρ1 st1 p1 l1 λw hw=>step w (b8 _ hw);refine⟨ρ2,st2,?_,p2,l2⟩;unfold forL;rw[e1];simp only[if_pos l1];exact e2
theorem yK{i:Nat}{gb:GS}(P:bR->Hs->Prop):∀(ws:List Wv)(ρ:bR)(st:Hs),P ρ st->
  (∀w∈ws,∀ρ st,P ρ st->∃ρ' st',gb (ρ.set i (some w)) st= .nx ρ' st'/\P ρ' st')->∃ρ' st',ju i gb ws ρ st= .nx ρ' st'/\P ρ' st'
 |[],ρ,st,h,_=>⟨ρ,st,rfl,h⟩
 |w::r,ρ,st,h,step=>by obtain⟨ρ1,st1,e1,p1⟩:=step w dg ρ st h;obtain⟨ρ2,st2,e2,p2⟩:=yK P r ρ1 st1 p1 λw hw=>step w (b8 _ hw);refine⟨ρ2,st2,?_,p2⟩;unfold ju;rw[e1];exact e2
variable{i:Int}
@[simp] theorem aaP:oC [.int i] st=DD [.int i] st:=rfl
variable{gt:GT}{ge:GE}
@[simp] theorem aaQ{gi:GI}:mZ cs gi gt ge ρ st=(gi ρ st).bind (f7 cs gt ge ρ):=rfl
@[simp] theorem Yi{g:GE}:jW g ρ st=(g ρ st).bind sR:=rfl
variable{g:GA}
@[simp] theorem aaR:Lk g ρ st=(g ρ st).bind BG:=rfl
@[simp] theorem aaS:ZN g ρ st=(g ρ st).bind MT:=rfl
@[simp] theorem aaT:ZV g ρ st=(g ρ st).bind MZ:=rfl
theorem Ih(h:av st l=some ws):sR (.ref l) st= .ok (some l,ws) st:=by
 show(match av st l with |some ws=>Re.ok (some l,ws) st |none=> .bad)=_
 rw[h]
variable{z:PySem.Str}
@[simp] theorem aaU:sR (.str z) st= .ok (none,bo z) st:=rfl
@[simp] theorem aaV:sR (.tup ws) st= .ok (none,ws) st:=rfl
theorem L'{acc:List Wv}(h:acc.length < lim):pI (.ref st.length) v (st++[.lst acc])= .ok .cG (st++[.lst (acc++[v])]):=by
 rw[yI (ws:=acc) (by simp) h]
 congr 1
 simp
theorem nH{w:Wk}{gt:Wv->Hs->Re Bool}{ge:Wv->Hs->Re Wv}{st:Hs}{t:Wv->Bool}{f:Wv->Wv}(ck:nC w st):∀(ws acc:List Wv),(∀v∈ws,∀acc,gt v (st++[.lst acc])= .ok (t v) (st++[.lst acc]))->
  (∀v∈ws,t v=true->∀acc,ge v (st++[.lst acc])= .ok (f v) (st++[.lst acc]))->acc.length+ws.length < lim->lO (nC w) gt ge st.length ws (st++[.lst acc])=some (st++[.lst (acc++(ws.filter t).map f)])
 |[],acc,_,_,_=>by simp[lO]
 |v::r,acc,h1,h2,hl=>by
  have hl':acc.length+(r.length+1) < lim:=hl;unfold lO;rw[h1 v dg acc];cases e:t v with
  |false=>dsimp only;rw[if_pos (sN ck),nH ck r acc (λv hv=>h1 v (b8 _ hv)) (λv hv=>h2 v (b8 _ hv)) (by omega),Gx (by simp[e])]
  |true=>dsimp only;rw[h2 v dg e acc];dsimp only;rw[L' (by omega)];dsimp only;rw[if_pos (sN ck),nH ck r (acc++[f v]) (λv hv=>h1 v (b8 _ hv)) (λv hv=>h2 v (b8 _ hv)) (by simp;omega),Gw e];simp
theorem pR{w:Wk}{t:Wv->Bool}{f:Wv->Wv}(ck:nC w st)(h1:∀v∈w.2,∀acc,gt (some v::jU cs ρ) (st++[.lst acc])= .ok (t v) (st++[.lst acc]))
  (h2:∀v∈w.2,t v=true->∀acc,ge (some v::jU cs ρ) (st++[.lst acc])= .ok (f v) (st++[.lst acc]))(hl:w.2.length < lim):f7 cs gt ge ρ w st= .ok (.ref st.length) (st++[.lst ((w.2.filter t).map f)]):=by
 unfold f7;rw[nH ck w.2 [] h1 h2 (by simpa using hl)];simp
variable{o':Ob}
theorem iJ(h:st[l]? =some o):(st.set l o')[l]? =some o':=ni (List.getElem?_eq_some_iff.mp h).1
theorem ft(h:st[l]? =some o):(st++[o'])[l]? =some o:=by rw[jR (List.getElem?_eq_some_iff.mp h).1];exact h
theorem bT(h:st[l]? =some (.lst ws)):av st l=some ws:=by unfold av;rw[h]
theorem kO(h:st[l]? =some o):l < st.length:=(List.getElem?_eq_some_iff.mp h).1
theorem eh:(st++[o])[st.length]? =some o:=by simp
variable{x:PySem.Str}
theorem f_{y:PySem.Str}(h:x.length+y.length<=lim):bA (.str x) (.str y) st= .ok (.str (x++y)) st:=by show(if x.length+y.length<=lim then Re.ok (Wv.str (x++y)) st else .bad)=_;rw[if_pos h]
theorem wK(h:i.natAbs.log2 < 1920):DD [.int i] st= .ok (.str (toString i:String)) st:=by show(if _ then _ else _)=_;rw[if_pos h]
theorem AK{b:Int}(h1:-b<=i)(h2:i<=b)(hb:b.natAbs < 2 ^ k)(hk:0 < k):i.natAbs.log2 < k:=by
 by_cases e:i.natAbs=0
 ·rw[e];exact hk
 ·exact(Nat.log2_lt e).mpr (by omega)
theorem B3(h:z.length<=lim):dJ [.str z] st= .ok (.int z.length) st:=by show(if z.length<=lim then Re.ok (Wv.int z.length) st else .bad)=_;rw[if_pos h]
def AL(mt:PySem.Str->List Wv->Hs->Re Wv)(ga:GA)(ρ:bR):Wv->Hs->Re Wv:=λo st1=>match o with
 |.str z=>(ga ρ st1).bind λws st2=>(mt z ws st2).mv
 |_=> .bad
variable{mt:PySem.Str->List Wv->Hs->Re Wv}
@[simp] theorem Yj{ga:GA}:dX mt go ga ρ st=(go ρ st).bind (AL mt ga ρ):=rfl
@[simp] theorem Vy{ga:GA}:AL mt ga ρ (.str z) st=(ga ρ st).bind λws st2=>(mt z ws st2).mv:=rfl
@[simp] theorem adG:KY [.int i] st= .ok (.int (if i < 0 then -i else i)) st:=rfl
theorem Ma{lo:Int}(h:w∈gE lo n):∃k:Int,w= .int k/\lo<=k/\k < lo+n:=by unfold gE at h;obtain⟨k,hk,rfl⟩:=List.mem_map.mp h;have:=List.mem_range.mp hk;exact⟨lo+k,rfl,by omega,by omega⟩
theorem Mb(h1:-1000000<=i)(h2:i<=1000000):nz i:=⟨by omega,by omega⟩
@[simp] theorem Yk:u5 0 F [] st=F [] st:=rfl
variable{gb:GE}
theorem wL(h:ga ρ st= .ok w st'):jv ga gb ρ st= .ok w st':=by unfold jv;rw[h]
theorem wM(h:ga ρ st= .bad):jv ga gb ρ st=gb ρ st:=by unfold jv;rw[h]
def Gr(st st':Hs):Prop:=st.length<=st'.length/\∀k,k < st.length->st'[k]? =st[k]?
theorem Gr.refl:Gr st st:=⟨aA _,λ_ _=>rfl⟩
theorem Gr.trans{a b c:Hs}(h:Gr a b)(k:Gr b c):Gr a c:=⟨b5 h.1 k.1,λj h1=>(k.2 j (bY h1 h.1)).trans (h.2 j h1)⟩
theorem Gr.push:Gr st (st++[o]):=⟨by simp,λk h=>jR h⟩
theorem Gr.lst(k:Gr st st')(h:av st j=some ws):av st' j=some ws:=by unfold av at h ⊢;rw[k.2 j (yH (st:=st) (ws:=ws) (by unfold av;exact h))];exact h
theorem Gr.get(k:Gr st st')(h:st[j]? =some o):st'[j]? =some o:=by rw[k.2 j (kO h)];exact h
theorem Gr.keep(k:Gr st st'):bE l st st':=⟨k.1,λj h _=>k.2 j h⟩
theorem Gr.lR{s1 s2:Hs}(h:st.length<=l)(g:Gr st s1)(k:bE l s1 s2):Gr st s2:=⟨b5 g.1 k.1,λj h1=>(k.2 j (bY h1 g.1) (by omega)).trans (g.2 j h1)⟩
theorem u6{α:Type}{w:Wk}{gt:Wv->Hs->Re Bool}{ge:Wv->Hs->Re Wv}{rr:Nat}(f:α->Wv)(P:Hs->Prop)(E:α->Wv->Prop)(hP:∀st acc,P st->P (st.set rr (.lst acc)))(hck:∀st,P st->nC w st):
  ∀(ws:List α),(∀v∈ws,∀st acc,P st->st[rr]? =some (.lst acc)->∃st1,gt (f v) st= .ok true st1/\P st1/\st1[rr]? =some (.lst acc)/\∃u st2,ge (f v) st1= .ok u st2/\E v u/\P st2/\st2[rr]? =some (.lst acc))->
   ∀(acc:List Wv)(st:Hs),P st->st[rr]? =some (.lst acc)->acc.length+ws.length < lim->∃st' us,lO (nC w) gt ge rr (ws.map f) st=some st'/\P st'/\st'[rr]? =some (.lst (acc++us))/\us.length=ws.length/\∀k (h:k < ws.length) (h':k < us.length),E ws[k] us[k]
 |[],_,acc,st,hp,hg,_=>⟨st,[],rfl,hp,by simpa using hg,rfl,λk h=>by cases h⟩
 |v::r,step,acc,st,hp,hg,hl=>by
  obtain⟨st1,e1,p1,g1,u,st2,e2,hu,p2,g2⟩:=step v dg st acc hp hg;have hl':acc.length+(r.length+1) < lim:=hl;obtain⟨st3,us,f1,f2,f3,f4,f5⟩:=u6 f P E hP hck r (λv hv=>step v (b8 _ hv)) (acc++[u]) (st2.set rr (.lst (acc++[u]))) (hP _ _ p2) (iJ g2) (by simp;omega);refine⟨st3,u::us,?_,f2,by simpa using f3,by simp[f4],λk h h'=>?_⟩
  ·rw[iT];unfold lO;rw[e1];dsimp only;rw[e2];dsimp only;rw[yI g2 (by omega)];dsimp only;rw[if_pos (hck _ (hP _ _ p2)),f1]
  ·cases k with
   |zero=>exact hu
   |succ k=>exact f5 k (by simpa using h) (by simpa using h')
theorem Vz:dY (.str x) (.str x)=true:=by simp[dY]
theorem QS{x:Wv}{d:PyData}(h1:bV st 20 x=some d)(h2:bV st 20 y=some d)(h:dY d d=true):j' x y st= .ok (.bl false) st:=by unfold j';rw[h1,h2];show Re.ok (Wv.bl (!PyData.eqv d d)) st=_;rw[h];rfl
@[simp] theorem adH{j:Int}:sQ [.int i,.int j] st= .ok (.int (if j > i then j else i)) st:=rfl
@[simp] theorem adI{j:Int}:U9 [.int i,.int j] st= .ok (.int (if j < i then j else i)) st:=rfl
theorem VA{α:Type}{a:α}{r:List α}:L2.qN (a::r) 0=some a:=L2.eO (j:=0) rfl
def Nb(neg:Bool)(kvs:Dc):Wv->Hs->Re Wv:=λa st1=>match a with
 |.str k=> .ok (.bl ((kvs.lookup k).isSome != neg)) st1
 |_=> .bad
variable{neg:Bool}
@[simp] theorem aaW:kj neg kvs ga ρ st=(ga ρ st).bind (Nb neg kvs):=rfl
variable{k:PySem.Str}
@[simp] theorem Yl:Nb neg kvs (.str k) st= .ok (.bl ((kvs.lookup k).isSome != neg)) st:=rfl
def Nc(kvs:Dc):Wv->Hs->Re Wv:=λa st1=>match a with
 |.str k=>(match kvs.lookup k with |some w=> .ok w st1 |none=> .bad)
 |_=> .bad
@[simp] theorem aaX:sV kvs ga ρ st=(ga ρ st).bind (Nc kvs):=rfl
theorem B4(h:kvs.lookup k=some w):Nc kvs (.str k) st= .ok w st:=by
 show(match kvs.lookup k with |some w=>Re.ok w st |none=> .bad)=_
 rw[h]
theorem B5:(st++[o]).set st.length o'=st++[o']:=by simp
open PySem L2
theorem tb_none{H:Hp}(h1:PySem.W.nsIn K ahk "form_of"=some none)(h2:PySem.W.nsIn K ahk "formula_by"=some none)(h3:PySem.W.nsIn K ahk "turned"=some none)(h4:PySem.W.nsIn K ahk "readied_content"=some none)(h5:PySem.W.nsIn K ahk "ordered"=some none)(h6:PySem.W.nsIn K ahk "fresh_book"=some none)(h7:PySem.W.nsIn K ahk "support_of"=some none)(h8:PySem.W.nsIn K ahk "behind"=some none)(h9:PySem.W.nsIn K ahk "book_behind"=some none):vG K H:=λq P hq e=>by
 have no:∀q,PySem.W.nsIn K ahk q=some none->kJ K q=none:=λq h=>by unfold kJ PySem.W.tabIn;rw[h]
 simp only[cx,List.mem_cons,List.not_mem_nil,or_false]at hq;rcases hq with rfl |rfl |rfl |rfl |rfl |rfl |rfl |rfl |rfl
 ·rw[no _ h1]at e;cases e
 ·rw[no _ h2]at e;cases e
 ·rw[no _ h3]at e;cases e
 ·rw[no _ h4]at e;cases e
 ·rw[no _ h5]at e;cases e
 ·rw[no _ h6]at e;cases e
 ·rw[no _ h7]at e;cases e
 ·rw[no _ h8]at e;cases e
 ·rw[no _ h9]at e;cases e
theorem jD(us:List ahb)(hl:us.length=1)(h:∀a0:ahb,bindArgs fd { pos:=[a0] }=pure (ps.zip [a0])):bindArgs fd { pos:=us }=pure (ps.zip us):=match us,hl with |[a0],_=>h a0
theorem ln2(us:List ahb)(hl:us.length=2)(h:∀a0 a1:ahb,bindArgs fd { pos:=[a0,a1] }=pure (ps.zip [a0,a1])):bindArgs fd { pos:=us }=pure (ps.zip us):=match us,hl with |[a0,a1],_=>h a0 a1
theorem ln3(us:List ahb)(hl:us.length=3)(h:∀a0 a1 a2:ahb,bindArgs fd { pos:=[a0,a1,a2] }=pure (ps.zip [a0,a1,a2])):bindArgs fd { pos:=us }=pure (ps.zip us):=match us,hl with |[a0,a1,a2],_=>h a0 a1 a2
variable{k:Nat}{w:ahc}{c:Ct}
theorem hdf{x:Str}{st:Stmt}{g:GS}(KX:K.In h)(NS:h.Ns ahk mg)(D:bh K x st)(T:qB c k P w K mg base)
  (S:FnScope c.N ps (defScope st))(hg:aU 30 c (defBody st)=g)(hM:c.self∈cx->As K mg base/\c.self=x:=by exact λz=>absurd (show("":Str)∈cx from z) (by decide))(hn:(defScope st).names=c.names:=by exact rfl)
  (hb:∀(kV doc pm:ahb)(an:Option ag5)(cdv ct:ahb)(us:List ahb),us.length=ps.length->bindArgs (PySem.W.fnOf x x (defArgs st) (defBody st) (defScope st) .none kV doc pm an cdv ct) ⟨us,[]⟩=pure (ps.zip us):=by intro _ _ _ _ _ _ us hl;first |exact jD us hl λ_=>rfl |exact ln2 us hl λ_ _=>rfl |exact ln3 us hl λ_ _ _=>rfl |exact ln4 us hl λ_ _ _ _=>rfl |exact ln5 us hl λ_ _ _ _ _=>rfl |exact ln6 us hl λ_ _ _ _ _ _=>rfl |exact ln7 us hl λ_ _ _ _ _ _ _=>rfl):
  eP P w K mg base (k+1) x ps.length (aK c.N.length g):=aH KX NS D T S hn hg hb hM
theorem tk(ht:TabOk K c.tb c.tt c.tc)(hf:AllP (λp=>eP P w K mg base k p.1 p.2.1 p.2.2) c.fns:=by exact trivial)(hc:AllP (λp=>BQ K mg p.1 p.2) c.consts:=by exact trivial)(hb:AllP (λx=>mg x=none) c.bl:=by exact trivial)
  (hk:AllP (λx=>∃C,mg x=some (.ref C)/\Gh K x C) c.clss:=by exact trivial)(hn:AllP (λx=>∃C,mg x=some (.ref C)/\ClsAt K x C) c.xD:=by exact trivial)(hd:AllP (λp=>pM K w mg p.1 p.2) c.u0:=by exact trivial)
  (hu:AllP (λx=>∀n F,c.fns.lookup x=some (n,F)->wg P w K mg base k x n F) c.xE:=by exact trivial)(hx:lQ c k P w K mg base:=by exact lQ.no rfl rfl rfl rfl):qB c k P w K mg base:=ay hc hb hf ht hk hn hd hu hx
end J
namespace K14
open PySem J
open L2 (defScope defBody defArgs FnScope CX0 FnOk XK Hp)
def top (i:Nat):Stmt:=PySem.Challenge.pw_onelook_k14_as_great_as_may_be.main.body.getD i (.Pass ⟨0,0,0,0⟩)
def fW:Tab:=[(("BadFormula","BadFormula"),true),(("BadFormula","BadText"),false),(("BadFormula","BadArea"),false),(("BadFormula","BadContent"),false),(("BadFormula","BadCount"),false),(("BadFormula","BadPlace"),false),(("BadFormula","BadTable"),false),(("BadFormula","Clash"),false),(("BadFormula","Full"),false),(("BadFormula","NoCell"),false),(("BadFormula","NoColumn"),false),(("BadFormula","NoDeed"),false),(("BadFormula","NoRoom"),false),(("BadFormula","NoTable"),false),(("BadFormula","NotWaiting"),false),(("BadFormula","SheetError"),true),(("BadText","BadFormula"),false),(("BadText","BadText"),true),(("BadText","BadArea"),false),(("BadText","BadContent"),false),(("BadText","BadCount"),false),(("BadText","BadPlace"),false),(("BadText","BadTable"),false),(("BadText","Clash"),false),(("BadText","Full"),false),(("BadText","NoCell"),false),(("BadText","NoColumn"),false),(("BadText","NoDeed"),false),(("BadText","NoRoom"),false),(("BadText","NoTable"),false),(("BadText","NotWaiting"),false),(("BadText","SheetError"),true)]
def cT:x_:=[(("BadFormula","ValueError"),true),(("BadText","ValueError"),true)]
def aB:Dc:=[("num",.int 0),("text",.int 0),("lost",.int 0),("at",.int 0),("minus",.int 1),("not",.int 1),("+",.int 2),("-",.int 2),("*",.int 2),("/",.int 2),("&",.int 2),("<",.int 2),("=",.int 2),("rest",.int 2),("if",.int 3),("else",.int 2),("sum",.int 0),("count",.int 0),("least",.int 0),("greatest",.int 0),("find",.int 1)]
def cO:Dc:=[("<",.int 1),("=",.int 1),("&",.int 2),("+",.int 3),("-",.int 3),("*",.int 4),("/",.int 4)]
def oO:Tab:=[(("BadFormula","SheetError"),true),(("BadText","SheetError"),true)]
def cB(s:Stmt)(n b:List Str)(f:List (Str×Nat×(List Wv->Hs->Re Wv))):Ct:={ N:=n,names:=(defScope s).names,consts:=[],bl:=b,fns:=f,tb:=fW,tt:=cT,tc:=oO }
theorem ir{N P:List Str}{sc:Scope}(h:sc.kind= .function/\sc.isCoroutine=false/\sc.isGenerator=false/\N.take P.length=P)(k:N.Nodup/\(∀x∈P,sc.names.lookup x=some .local\/sc.names.lookup x=some .cell)/\∀y∈sc.names,y.2≠.free):FnScope N P sc:=⟨h.1,h.2.1,h.2.2.1,k.1,h.2.2.2,k.2.1,k.2.2⟩
abbrev kP:Stmt:=top 80
def gU:GS:=(aC (bq 2 (aj oMod (aj bA (aj bA (aj di (af 2) (af 2)) (aj di (gC (.int 977)) (af 3))) (gC (.int 1))) (gC (.int 2147483647))))
  (bq 1 (aj bA (aj di (af 1) (gC (.int 268435399))) (aj lu (aj oMod (aj di (af 2) (gC (.int 69621))) (gC (.int 2147483647))) (gC (.int 8))))))
def nI:GS:=(aC (bq 0 (aI KY (ae (af 0) ag)))
  (aC (iH (bp (aj oEq (aj oMod (af 0) (gC (.int 2))) (gC (.int 1)))) (bb (hZ (ae (aj lu (af 0) (gC (.int 2))) ag))) bt)
  (aC (bq 1 (gC (.int 0)))
  (aC (bq 2 (aj bA (aj oMod (aj lu (af 0) (gC (.int 2))) (gC (.int 2147483629))) (gC (.int 1))))
  (aC (nA 3 (ae (gC (.int 60)) ag) gU)
  (bb (hZ (ae (af 1) ag))))))))
def i8:List Wv->Hs->Re Wv:=aK 4 nI
def nJ:Ct:=cB kP ["cell","great","stir","k"] ["abs","range"] []
theorem AM:aU 30 (nJ) (defBody kP)=nI:=by kernel_rfl
theorem yL:FnScope (nJ).N ["cell"] (defScope kP):=ir ⟨rfl,rfl,rfl,rfl⟩ (by decide+kernel)
abbrev iK:Stmt:=top 79
def kQ:GS:=(aC (bq 2 (aj oMod (aj bH (af 0) (gC (.int 0))) (af 1)))
  (aC (BA (aj lu (aj bH (af 0) (gC (.int 0))) (af 1)) (af 0) (gC (.int 0)))
  (bb (af 2))))
def aG:List Wv->Hs->Re Wv:=aK 3 kQ
def kR:Ct:=cB iK ["own","many","digit"] [] []
theorem wN:aU 30 (kR) (defBody iK)=kQ:=by kernel_rfl
theorem uf:FnScope (kR).N ["own","many"] (defScope iK):=ir ⟨rfl,rfl,rfl,rfl⟩ (by decide+kernel)
abbrev jE:Stmt:=top 82
def fR(bN:List Wv->Hs->Re Wv):GS:=(aC (iH (bp (aj oLt (af 0) (gC (.int 3)))) (bb (aj bH (hZ (ae (bS (ae (gC (.str "lost")) ag)) (ae (bS (ae (gC (.str "not")) (ae (bS (ae (gC (.str "lost")) ag)) ag))) ag))) (aj lK (af 0) (gC (.int 1))))) bt)
  (aC (bq 1 (aj lu (aj lK (af 0) (gC (.int 1))) (gC (.int 2))))
  (bb (bS (ae (gC (.str "rest")) (ae (az 1 bN (ae (af 1) ag)) (ae (az 1 bN (ae (aj lK (aj lK (af 0) (gC (.int 1))) (af 1)) ag)) ag)))))))
def qC(bN:List Wv->Hs->Re Wv):Ct where
  N:=["many","half"]
  names:=(defScope jE).names
  consts:=[]
  bl:=[]
  fns:=[("_law_even",1,bN)]
  tb:=fW
  tt:=cT
  tc:=oO
theorem yM(bN:List Wv->Hs->Re Wv):aU 30 (qC bN) (defBody jE)=fR bN:=by kernel_rfl
theorem wO(bN:List Wv->Hs->Re Wv):FnScope ["many","half"] ["many"] (defScope jE):=ir ⟨rfl,rfl,rfl,rfl⟩ (by decide+kernel)
def oP:Nat->(List Wv->Hs->Re Wv)
  | 0=>Ar
  |n+1=>aK 2 (fR ((oP n)))
def dC(n:Nat):List Wv->Hs->Re Wv:=(oP n)
theorem pS(n:Nat):dC (n+1)=aK 2 (fR (dC n)):=rfl
def bN:List Wv->Hs->Re Wv:=dC 8
abbrev jF:Stmt:=top 83
def fS(bu:List Wv->Hs->Re Wv):GS:=(aC (iH (bp (aj oEq (aj bH (af 0) (gC (.int 0))) (gC (.str "rest")))) (bb (aj bA (aj bA (aj bA (aj bA (gC (.str "rest(")) (az 1 bu (ae (aj bH (af 0) (gC (.int 1))) ag))) (gC (.str ", "))) (az 1 bu (ae (aj bH (af 0) (gC (.int 2))) ag))) (gC (.str ")")))) bt)
  (aC (iH (bp (aj oEq (aj bH (af 0) (gC (.int 0))) (gC (.str "not")))) (bb (aj bA (aj bA (gC (.str "not(")) (az 1 bu (ae (aj bH (af 0) (gC (.int 1))) ag))) (gC (.str ")")))) bt)
  (bb (gC (.str "lost")))))
def qD(bu:List Wv->Hs->Re Wv):Ct where
  N:=["formula"]
  names:=(defScope jF).names
  consts:=[]
  bl:=[]
  fns:=[("_law_text",1,bu)]
  tb:=fW
  tt:=cT
  tc:=oO
theorem yN(bu:List Wv->Hs->Re Wv):aU 30 (qD bu) (defBody jF)=fS bu:=by kernel_rfl
theorem wQ(bu:List Wv->Hs->Re Wv):FnScope ["formula"] ["formula"] (defScope jF):=ir ⟨rfl,rfl,rfl,rfl⟩ (by decide+kernel)
def oQ:Nat->(List Wv->Hs->Re Wv)
  | 0=>Ar
  |n+1=>aK 1 (fS ((oQ n)))
def dD(n:Nat):List Wv->Hs->Re Wv:=(oQ n)
theorem pT(n:Nat):dD (n+1)=aK 1 (fS (dD n)):=rfl
def bu:List Wv->Hs->Re Wv:=dD 20
abbrev jG:Stmt:=top 84
def f':GS:=(bq 7 (bS (ae (gC (.str "not")) (ae (af 7) ag))))
def eE:GS:=(aC (bq 1 (az 2 aG (ae (af 0) (ae (gC (.int 5)) ag))))
  (aC (bq 2 (az 2 aG (ae (af 0) (ae (gC (.int 5)) ag))))
  (aC (iH (bp (aj oEq (af 1) (gC (.int 0)))) (aC (bq 3 (aj bA (aj lK (aj vQ (gC (.int 10)) (gC (.int 60))) (gC (.int 2))) (af 2)))
    (bb (bS (ae (bS (ae (gC (.str "num")) (ae (af 3) ag))) (ae (aI oC (ae (af 3) ag)) (ae (aj oLe (af 3) (aj vQ (gC (.int 10)) (gC (.int 60)))) ag)))))) bt)
  (aC (iH (bp (aj oEq (af 1) (gC (.int 1)))) (bb (bS (ae (bS (ae (gC (.str "text")) (ae (aj di (gC (.str "b")) (aj bA (gC (.int 38)) (af 2))) ag))) (ae (aj bA (aj bA (gC (.str "\"")) (aj di (gC (.str "b")) (aj bA (gC (.int 38)) (af 2)))) (gC (.str "\""))) (ae (aj oLt (af 2) (gC (.int 3))) ag))))) bt)
  (aC (iH (bp (aj oEq (af 1) (gC (.int 2)))) (aC (qw [4,5] (aj bH (hZ (ae (bS (ae (gC (.int 58)) (ae (gC (.int 5)) ag))) (ae (bS (ae (gC (.int 60)) (ae (gC (.int 5)) ag))) (ae (bS (ae (gC (.int 13)) (ae (gC (.int 23)) ag))) (ae (bS (ae (gC (.int 12)) (ae (gC (.int 26)) ag))) (ae (bS (ae (gC (.int 75)) (ae (gC (.int 4)) ag))) ag)))))) (af 2)))
    (aC (bq 6 (aj bA (aj bA (gC (.str "a1:")) (aj bH (gC (.str "abcdefghijklmnopqrstuvwxyz")) (aj lK (af 5) (gC (.int 1))))) (aI oC (ae (af 4) ag))))
    (bb (bS (ae (bS (ae (gC (.str "count")) (ae (bS (ae (gC (.int 0)) (ae (gC (.int 0)) (ae (aj lK (af 4) (gC (.int 1))) (ae (aj lK (af 5) (gC (.int 1))) ag))))) (ae (bS (ae (gC (.int 0)) (ae (gC (.int 0)) (ae (gC (.int 0)) (ae (gC (.int 0)) ag))))) ag)))) (ae (aj bA (aj bA (gC (.str "count(")) (af 6)) (gC (.str ")"))) (ae (aj oLe (aj di (af 4) (af 5)) (gC (.int 300))) ag))))))) bt)
  (aC (iH (bp (aj oEq (af 1) (gC (.int 3)))) (aC (bq 7 (az 1 bN (ae (aj bA (gC (.int 58)) (af 2)) ag)))
    (bb (bS (ae (af 7) (ae (az 1 bu (ae (af 7) ag)) (ae (aj oLt (af 2) (gC (.int 3))) ag)))))) bt)
  (aC (bq 7 (bS (ae (gC (.str "lost")) ag)))
  (aC (nA 8 (ae (aj bA (gC (.int 9)) (af 2)) ag) f')
  (bb (bS (ae (af 7) (ae (az 1 bu (ae (af 7) ag)) (ae (aj oLt (af 2) (gC (.int 3))) ag)))))))))))))
def b_:List Wv->Hs->Re Wv:=aK 9 eE
def lS:Ct:=cB jG ["own","way","more","number","high","wide","name","formula","k"] ["range","str"] [("_law_digit",2,aG),("_law_even",1,bN),("_law_text",1,bu)]
theorem yO:aU 30 (lS) (defBody jG)=eE:=by kernel_rfl
theorem wR:FnScope (lS).N ["own"] (defScope jG):=ir ⟨rfl,rfl,rfl,rfl⟩ (by decide+kernel)
abbrev jH:Stmt:=top 39
def lT:GS:=(bb (sV aB (af 0)))
def cq:List Wv->Hs->Re Wv:=aK 1 lT
def lU:Ct:={ cB jH ["word"] [] []with u0:=[("PART_COUNTS",aB)] }
theorem yP:aU 30 (lU) (defBody jH)=lT:=by kernel_rfl
theorem wU:FnScope (lU).N ["word"] (defScope jH):=ir ⟨rfl,rfl,rfl,rfl⟩ (by decide+kernel)
abbrev kT:Stmt:=top 41
def nK:GS:=(bb (cL (af 0) (fe (gC (.int 1))) (fe (aj bA (gC (.int 1)) (az 1 cq (ae (aj bH (af 0) (gC (.int 0))) ag))))))
def dG:List Wv->Hs->Re Wv:=aK 1 nK
def nL:Ct:=cB kT ["formula"] [] [("part_many",1,cq)]
theorem AN:aU 30 (nL) (defBody kT)=nK:=by kernel_rfl
theorem yQ:FnScope (nL).N ["formula"] (defScope kT):=ir ⟨rfl,rfl,rfl,rfl⟩ (by decide+kernel)
abbrev gW:Stmt:=top 52
def dj:GS:=(fQ (fo sW (af 1) (az 1 dG (ae (af 2) ag))))
def jY:GS:=(aC (bq 1 (hZ ag))
  (aC (Af 2 (af 0) dj)
  (bb (af 1))))
def fu:List Wv->Hs->Re Wv:=aK 3 jY
def jZ:Ct:=cB gW ["level","parts","piece"] [] [("parts_of",1,dG)]
theorem ug:aU 30 (jZ) (defBody gW)=jY:=by kernel_rfl
theorem tu:FnScope (jZ).N ["level"] (defScope gW):=ir ⟨rfl,rfl,rfl,rfl⟩ (by decide+kernel)
abbrev kU:Stmt:=top 40
def nM:GS:=(bb (aj fV (af 0) (gC (.jS [.str "sum",.str "count",.str "least",.str "greatest",.str "find"]))))
def fL:List Wv->Hs->Re Wv:=aK 1 nM
def nN:Ct:={ cB kU ["word"] [] []with consts:=[("AREA_WORDS",(.jS [.str "sum",.str "count",.str "least",.str "greatest",.str "find"]))] }
theorem AO:aU 30 (nN) (defBody kU)=nM:=by kernel_rfl
theorem yR:FnScope (nN).N ["word"] (defScope kU):=ir ⟨rfl,rfl,rfl,rfl⟩ (by decide+kernel)
abbrev kW:Stmt:=top 43
def nO:GS:=(bb (bZ (aI (dU fW cT) (ae (af 0) (ae (gC (.ty "int")) ag))) (xR (aI (dU fW cT) (ae (af 0) (ae (gC (.ty "bool")) ag))))))
def fM:List Wv->Hs->Re Wv:=aK 1 nO
def nP:Ct:=cB kW ["thing"] ["isinstance","int","bool"] []
theorem AQ:aU 30 (nP) (defBody kW)=nO:=by kernel_rfl
theorem yS:FnScope (nP).N ["thing"] (defScope kW):=ir ⟨rfl,rfl,rfl,rfl⟩ (by decide+kernel)
abbrev gf:Stmt:=top 46
def gg:GS:=(bb (bZ (jT oLe oLe (gC (.int 32)) (af 0) (gC (.int 126))) (bZ (aj j' (af 0) (gC (.int 34))) (aj j' (af 0) (gC (.int 37))))))
def cJ:List Wv->Hs->Re Wv:=aK 1 gg
def i_:Ct:=cB gf ["number"] [] []
theorem tw:aU 30 (i_) (defBody gf)=gg:=by kernel_rfl
theorem qX:FnScope (i_).N ["number"] (defScope gf):=ir ⟨rfl,rfl,rfl,rfl⟩ (by decide+kernel)
abbrev eT:Stmt:=top 45
def cU:GT:=(λ_ st=> .ok true st)
def bB:GE:=(az 1 cJ (ae (aI DU (ae (af 0) ag)) ag))
def dk:GS:=(bb (aI qR (ae (mZ [] (jW (af 0)) cU bB) ag)))
def a_:List Wv->Hs->Re Wv:=aK 1 dk
def gF:Ct:=cB eT ["text"] ["all","ord"] [("is_text_sign",1,cJ)]
theorem pU:aU 30 (gF) (defBody eT)=dk:=by kernel_rfl
theorem oR:FnScope (gF).N ["text"] (defScope eT):=ir ⟨rfl,rfl,rfl,rfl⟩ (by decide+kernel)
abbrev mJ:Stmt:=top 44
def gG:GS:=(bb (bZ (aI (dU fW cT) (ae (af 0) (ae (gC (.ty "str")) ag))) (bZ (aj oLe (aI dJ (ae (af 0) ag)) (gC (.int 40))) (az 1 a_ (ae (af 0) ag)))))
def dO:List Wv->Hs->Re Wv:=aK 1 gG
def pV:Ct:={ cB mJ ["thing"] ["isinstance","str","len"] [("has_text_signs",1,a_)]with consts:=[("MOST_SIGNS",(.int 40))] }
theorem Eb:aU 30 (pV) (defBody mJ)=gG:=by kernel_rfl
theorem AR:FnScope (pV).N ["thing"] (defScope mJ):=ir ⟨rfl,rfl,rfl,rfl⟩ (by decide+kernel)
abbrev fG:Stmt:=top 47
def iE:GT:=(λ_ st=> .ok true st)
def fh:GE:=(az 1 fM (ae (af 0) ag))
def cP:GS:=(bb (bZ (aI (dU fW cT) (ae (af 0) (ae (gC (.ty "tuple")) ag))) (bZ (aj oEq (aI dJ (ae (af 0) ag)) (af 1)) (aI qR (ae (mZ [] (jW (af 0)) iE fh) ag)))))
def aQ:List Wv->Hs->Re Wv:=aK 2 cP
def iy:Ct:=cB fG ["thing","many"] ["isinstance","tuple","all","len"] [("is_whole",1,fM)]
theorem qY:aU 30 (iy) (defBody fG)=cP:=by kernel_rfl
theorem pW:FnScope (iy).N ["thing","many"] (defScope fG):=ir ⟨rfl,rfl,rfl,rfl⟩ (by decide+kernel)
abbrev kX:Stmt:=top 23
def nQ:GS:=(bb (bZ (jT oLe oLt (gC (.int 0)) (aj bH (af 0) (gC (.int 0))) (gC (.int 99))) (jT oLe oLt (gC (.int 0)) (aj bH (af 0) (gC (.int 1))) (gC (.int 26)))))
def cZ:List Wv->Hs->Re Wv:=aK 1 nQ
def nR:Ct:={ cB kX ["place"] [] []with consts:=[("ROWS",(.int 99)),("COLUMNS",(.int 26))] }
theorem AS:aU 30 (nR) (defBody kX)=nQ:=by kernel_rfl
theorem yT:FnScope (nR).N ["place"] (defScope kX):=ir ⟨rfl,rfl,rfl,rfl⟩ (by decide+kernel)
abbrev kY:Stmt:=top 48
def lV:GT:=(λ_ st=> .ok true st)
def ja:GE:=(aj fV (af 0) (bS (ae (gC (.int 0)) (ae (gC (.int 1)) ag))))
def gH:GS:=(bb (bZ (az 2 aQ (ae (af 0) (ae (af 1) ag))) (aI qR (ae (mZ [] (jW (af 0)) lV ja) ag))))
def cD:List Wv->Hs->Re Wv:=aK 2 gH
def nT:Ct:=cB kY ["thing","many"] ["all"] [("is_number_row",2,aQ)]
theorem AU:aU 30 (nT) (defBody kY)=gH:=by kernel_rfl
theorem yU:FnScope (nT).N ["thing","many"] (defScope kY):=ir ⟨rfl,rfl,rfl,rfl⟩ (by decide+kernel)
abbrev gX:Stmt:=top 30
def j0:GS:=(aC (bq 1 (bZ (aj oLe (aj bH (af 0) (gC (.int 0))) (aj bH (af 0) (gC (.int 2)))) (aj oLe (aj bH (af 0) (gC (.int 1))) (aj bH (af 0) (gC (.int 3))))))
  (bb (bZ (af 1) (bZ (az 1 cZ (ae (cL (af 0) fA (fe (gC (.int 2)))) ag)) (az 1 cZ (ae (cL (af 0) (fe (gC (.int 2))) fA) ag))))))
def c7:List Wv->Hs->Re Wv:=aK 2 j0
def j3:Ct:=cB gX ["area","in_order"] [] [("is_place",1,cZ)]
theorem uh:aU 30 (j3) (defBody gX)=j0:=by kernel_rfl
theorem tD:FnScope (j3).N ["area"] (defScope gX):=ir ⟨rfl,rfl,rfl,rfl⟩ (by decide+kernel)
abbrev jI:Stmt:=top 31
def lW:GS:=(bb (aj di (aj bA (aj lK (aj bH (af 0) (gC (.int 2))) (aj bH (af 0) (gC (.int 0)))) (gC (.int 1))) (aj bA (aj lK (aj bH (af 0) (gC (.int 3))) (aj bH (af 0) (gC (.int 1)))) (gC (.int 1)))))
def ib:List Wv->Hs->Re Wv:=aK 1 lW
def lX:Ct:=cB jI ["area"] [] []
theorem yV:aU 30 (lX) (defBody jI)=lW:=by kernel_rfl
theorem wV:FnScope (lX).N ["area"] (defScope jI):=ir ⟨rfl,rfl,rfl,rfl⟩ (by decide+kernel)
abbrev mK:Stmt:=top 29
def pX:GS:=(bb (bZ (az 1 c7 (ae (af 0) ag)) (aj oLe (az 1 ib (ae (af 0) ag)) (gC (.int 300)))))
def gI:List Wv->Hs->Re Wv:=aK 1 pX
def pY:Ct:={ cB mK ["area"] [] [("has_corners",1,c7),("area_many",1,ib)]with consts:=[("MOST_PLACES",(.int 300))] }
theorem Ec:aU 30 (pY) (defBody mK)=pX:=by kernel_rfl
theorem AV:FnScope (pY).N ["area"] (defScope mK):=ir ⟨rfl,rfl,rfl,rfl⟩ (by decide+kernel)
abbrev mL:Stmt:=top 49
def cA:GS:=(aC (iH (bp (aj oEq (af 0) (gC (.str "num")))) (bb (bZ (aj oEq (aI dJ (ae (af 1) ag)) (gC (.int 1))) (bZ (az 1 fM (ae (aj bH (af 1) (gC (.int 0))) ag)) (jT oLe oLe (gC (.int 0)) (aj bH (af 1) (gC (.int 0))) (aj vQ (gC (.int 10)) (gC (.int 60))))))) bt)
  (aC (iH (bp (aj oEq (af 0) (gC (.str "text")))) (bb (bZ (aj oEq (aI dJ (ae (af 1) ag)) (gC (.int 1))) (az 1 dO (ae (aj bH (af 1) (gC (.int 0))) ag)))) bt)
  (aC (iH (bp (aj oEq (af 0) (gC (.str "at")))) (bb (bZ (aj oEq (aI dJ (ae (af 1) ag)) (gC (.int 2))) (bZ (az 2 aQ (ae (aj bH (af 1) (gC (.int 0))) (ae (gC (.int 2)) ag))) (bZ (az 1 cZ (ae (aj bH (af 1) (gC (.int 0))) ag)) (az 2 cD (ae (aj bH (af 1) (gC (.int 1))) (ae (gC (.int 2)) ag))))))) bt)
  (aC (iH (iI (az 1 fL (ae (af 0) ag))) (bb (bZ (aj oEq (aI dJ (ae (af 1) ag)) (gC (.int 2))) (bZ (az 2 aQ (ae (aj bH (af 1) (gC (.int 0))) (ae (gC (.int 4)) ag))) (bZ (az 1 gI (ae (aj bH (af 1) (gC (.int 0))) ag)) (az 2 cD (ae (aj bH (af 1) (gC (.int 1))) (ae (gC (.int 4)) ag))))))) bt)
  (bb (aj oEq (aI dJ (ae (af 1) ag)) (gC (.int 0))))))))
def bO:List Wv->Hs->Re Wv:=aK 2 cA
def pZ:Ct:=cB mL ["word","tail"] ["len"] [("has_area",1,fL),("is_whole",1,fM),("is_text",1,dO),("is_number_row",2,aQ),("is_place",1,cZ),("are_pins",2,cD),("is_area",1,gI)]
theorem Ed:aU 30 (pZ) (defBody mL)=cA:=by kernel_rfl
theorem AW:FnScope (pZ).N ["word","tail"] (defScope mL):=ir ⟨rfl,rfl,rfl,rfl⟩ (by decide+kernel)
abbrev mM:Stmt:=top 42
def p_:GS:=(bb (cL (af 0) (fe (aj bA (gC (.int 1)) (az 1 cq (ae (aj bH (af 0) (gC (.int 0))) ag)))) fA))
def iR:List Wv->Hs->Re Wv:=aK 1 p_
def qa:Ct:=cB mM ["formula"] [] [("part_many",1,cq)]
theorem Ee:aU 30 (qa) (defBody mM)=p_:=by kernel_rfl
theorem AX:FnScope (qa).N ["formula"] (defScope mM):=ir ⟨rfl,rfl,rfl,rfl⟩ (by decide+kernel)
abbrev kZ:Stmt:=top 50
def c9:GS:=(aC (iH (JH (vM (iI (aI (dU fW cT) (ae (af 0) (ae (gC (.ty "tuple")) ag))))) (bp (aj oEq (aI dJ (ae (af 0) ag)) (gC (.int 0))))) (bb (gC (.bl false))) bt)
  (aC (bq 1 (aj bH (af 0) (gC (.int 0))))
  (aC (iH (JH (vM (iI (aI (dU fW cT) (ae (af 1) (ae (gC (.ty "str")) ag))))) (bp (kj true aB (af 1)))) (bb (gC (.bl false))) bt)
  (bb (bZ (aj oEq (aI dJ (ae (az 1 dG (ae (af 0) ag)) ag)) (az 1 cq (ae (af 1) ag))) (az 2 bO (ae (af 1) (ae (az 1 iR (ae (af 0) ag)) ag))))))))
def cE:List Wv->Hs->Re Wv:=aK 2 c9
def nU:Ct:={ cB kZ ["thing","word"] ["isinstance","tuple","len","str"] [("is_tail",2,bO),("part_many",1,cq),("tail_of",1,iR),("parts_of",1,dG)]with u0:=[("PART_COUNTS",aB)] }
theorem AY:aU 30 (nU) (defBody kZ)=c9:=by kernel_rfl
theorem yW:FnScope (nU).N ["thing"] (defScope kZ):=ir ⟨rfl,rfl,rfl,rfl⟩ (by decide+kernel)
abbrev gj:Stmt:=top 51
def jb:GT:=(λ_ st=> .ok true st)
def fN:GE:=(az 1 cE (ae (af 0) ag))
def bK:GS:=(aC (jw (λi j=>i+j) 2 (aI dJ (ae (af 1) ag)))
  (aC (jw (λi j=>i+j) 3 (gC (.int 1)))
  (aC (iH (JH (bp (aj MM (af 2) (gC (.int 60)))) (JH (bp (aj MM (af 3) (gC (.int 12)))) (vM (iI (aI qR (ae (mZ [] (jW (af 1)) jb fN) ag)))))) (fJ "BadFormula" (ae (gC (.str "no formula")) ag)) bt)
  (bq 1 (az 1 fu (ae (af 1) ag))))))
def eF:GS:=(aC (bq 1 (hZ (ae (af 0) ag)))
  (aC (bq 2 (gC (.int 0)))
  (aC (bq 3 (gC (.int 0)))
  (aC (eD cM (iI (af 1)) bK)
  (bb (af 0))))))
def cK:List Wv->Hs->Re Wv:=aK 4 eF
def jc:Ct:={ cB gj ["formula","level","pieces","deep"] ["len","all"] [("level_below",1,fu),("is_piece",1,cE)]with consts:=[("MOST_PIECES",(.int 60)),("MOST_DEEP",(.int 12))],clss:=["BadFormula"] }
theorem tE:aU 30 (jc) (defBody gj)=eF:=by kernel_rfl
theorem qZ:FnScope (jc).N ["formula"] (defScope gj):=ir ⟨rfl,rfl,rfl,rfl⟩ (by decide+kernel)
abbrev gk:Stmt:=top 64
def jd:GS:=(bb (Aa (aj fV (af 0) (gC (.str "abcdefghijklmnopqrstuvwxyz"))) (Aa (aj fV (af 0) (gC (.str "0123456789"))) (aj fV (af 0) (bS (ae (gC (.str "$")) (ae (gC (.str ":")) ag)))))))
def dm:List Wv->Hs->Re Wv:=aK 1 jd
def je:Ct:={ cB gk ["sign"] [] []with consts:=[("LETTERS",(.str "abcdefghijklmnopqrstuvwxyz")),("FIGURES",(.str "0123456789"))] }
theorem tF:aU 30 (je) (defBody gk)=jd:=by kernel_rfl
theorem q_:FnScope (je).N ["sign"] (defScope gk):=ir ⟨rfl,rfl,rfl,rfl⟩ (by decide+kernel)
abbrev gn:Stmt:=top 63
def jf:GS:=(aC (bq 2 (dX sZ (af 0) (ae (gC (.str "\"")) (ae (aj bA (af 1) (gC (.int 1))) ag))))
  (aC (iH (bp (aj oLt (af 2) (gC (.int 0)))) (fJ "BadText" (ae (gC (.str "a text without its end mark")) ag)) bt)
  (bb (af 2))))
def eG:List Wv->Hs->Re Wv:=aK 3 jf
def jg:Ct:={ cB gn ["text","start","found"] [] []with clss:=["BadText"] }
theorem tG:aU 30 (jg) (defBody gn)=jf:=by kernel_rfl
theorem rf:FnScope (jg).N ["text","start"] (defScope gn):=ir ⟨rfl,rfl,rfl,rfl⟩ (by decide+kernel)
abbrev k_:Stmt:=top 62
def m8:GS:=(jw (λi j=>i+j) 2 (gC (.int 1)))
def m_:GS:=(jw (λi j=>i+j) 2 (gC (.int 1)))
def gJ:GS:=(aC (iH (bp (aj oEq (aj bH (af 0) (af 1)) (gC (.str "\"")))) (bb (aj bA (az 2 eG (ae (af 0) (ae (af 1) ag))) (gC (.int 1)))) bt)
  (aC (iH (bp (aj fV (aj bH (af 0) (af 1)) (gC (.str "0123456789")))) (aC (bq 2 (af 1))
    (aC (eD cM (qP (bp (aj oLt (af 2) (aI dJ (ae (af 0) ag)))) (bp (aj fV (aj bH (af 0) (af 2)) (gC (.str "0123456789"))))) m_)
    (bb (af 2)))) bt)
  (aC (bq 2 (af 1))
  (aC (eD cM (qP (bp (aj oLt (af 2) (aI dJ (ae (af 0) ag)))) (iI (az 1 dm (ae (aj bH (af 0) (af 2)) ag)))) m8)
  (bb (aI sQ (ae (af 2) (ae (aj bA (af 1) (gC (.int 1))) ag))))))))
def dH:List Wv->Hs->Re Wv:=aK 3 gJ
def nV:Ct:={ cB k_ ["text","start","end"] ["max","len"] [("is_name_sign",1,dm),("closing_mark",2,eG)]with consts:=[("FIGURES",(.str "0123456789"))] }
theorem AZ:aU 30 (nV) (defBody k_)=gJ:=by kernel_rfl
theorem yX:FnScope (nV).N ["text","start"] (defScope k_):=ir ⟨rfl,rfl,rfl,rfl⟩ (by decide+kernel)
abbrev fH:Stmt:=top 26
def iF:GT:=(λ_ st=> .ok true st)
def fi:GE:=(aj fV (af 0) (gC (.str "0123456789")))
def iz:GS:=(bb (bZ (aj j' (aj bH (af 0) (gC (.int 0))) (gC (.str "0"))) (aI qR (ae (mZ [] (jW (af 0)) iF fi) ag))))
def dM:List Wv->Hs->Re Wv:=aK 1 iz
def iA:Ct:={ cB fH ["figures"] ["all"] []with consts:=[("FIGURES",(.str "0123456789"))] }
theorem rh:aU 30 (iA) (defBody fH)=iz:=by kernel_rfl
theorem qb:FnScope (iA).N ["figures"] (defScope fH):=ir ⟨rfl,rfl,rfl,rfl⟩ (by decide+kernel)
abbrev mO:Stmt:=top 25
def qc:GS:=(bb (bZ (aj fV (aI dJ (ae (af 0) ag)) (bS (ae (gC (.int 2)) (ae (gC (.int 3)) ag)))) (bZ (aj fV (aj bH (af 0) (gC (.int 0))) (gC (.str "abcdefghijklmnopqrstuvwxyz"))) (az 1 dM (ae (cL (af 0) (fe (gC (.int 1))) fA) ag)))))
def kr:List Wv->Hs->Re Wv:=aK 1 qc
def qd:Ct:={ cB mO ["text"] ["len"] [("is_row_number",1,dM)]with consts:=[("LETTERS",(.str "abcdefghijklmnopqrstuvwxyz"))] }
theorem Ef:aU 30 (qd) (defBody mO)=qc:=by kernel_rfl
theorem A0:FnScope (qd).N ["text"] (defScope mO):=ir ⟨rfl,rfl,rfl,rfl⟩ (by decide+kernel)
abbrev iL:Stmt:=top 24
def iM:GS:=(aC (iH (vM (iI (az 1 kr (ae (af 0) ag)))) (fJ "BadText" (ae (gC (.str "no name of a place")) ag)) bt)
  (bb (bS (ae (aj lK (aI kg (ae (cL (af 0) (fe (gC (.int 1))) fA) ag)) (gC (.int 1))) (ae (jv (dX jV (gC (.str "abcdefghijklmnopqrstuvwxyz")) (ae (aj bH (af 0) (gC (.int 0))) ag)) (jv (fo eS (gC (.str "abcdefghijklmnopqrstuvwxyz")) (aj bH (af 0) (gC (.int 0)))) (pN kM (gC (.str "abcdefghijklmnopqrstuvwxyz")) (aj bH (af 0) (gC (.int 0)))))) ag)))))
def cV:List Wv->Hs->Re Wv:=aK 1 iM
def lg:Ct:={ cB iL ["text"] ["int"] [("is_name",1,kr)]with consts:=[("LETTERS",(.str "abcdefghijklmnopqrstuvwxyz"))],clss:=["BadText"] }
theorem wW:aU 30 (lg) (defBody iL)=iM:=by kernel_rfl
theorem ui:FnScope (lg).N ["text"] (defScope iL):=ir ⟨rfl,rfl,rfl,rfl⟩ (by decide+kernel)
abbrev gY:Stmt:=top 68
def gZ:GS:=(aC (bq 1 (vN (bp (aj oEq (aj bH (af 0) (gC (.int 0))) (gC (.str "$")))) (gC (.int 1)) (gC (.int 0))))
  (aC (bq 2 (cL (af 0) (fe (af 1)) fA))
  (aC (bq 3 (vN (bp (aj oEq (cL (af 2) (fe (gC (.int 1))) (fe (gC (.int 2)))) (gC (.str "$")))) (gC (.int 1)) (gC (.int 0))))
  (bb (bS (ae (gC (.str "at")) (ae (az 1 cV (ae (aj bA (cL (af 2) fA (fe (gC (.int 1)))) (cL (af 2) (fe (aj bA (gC (.int 1)) (af 3))) fA)) ag)) (ae (bS (ae (af 3) (ae (af 1) ag))) ag))))))))
def b6:List Wv->Hs->Re Wv:=aK 4 gZ
def j4:Ct:=cB gY ["name","column_pin","bare","row_pin"] [] [("read_place",1,cV)]
theorem uj:aU 30 (j4) (defBody gY)=gZ:=by kernel_rfl
theorem tH:FnScope (j4).N ["name"] (defScope gY):=ir ⟨rfl,rfl,rfl,rfl⟩ (by decide+kernel)
abbrev g_:Stmt:=top 66
def hG:GS:=(aC (bq 1 (cL (af 0) (fe (gC (.int 1))) (fe (S0 uI (gC (.int 1))))))
  (aC (iH (vM (iI (az 1 a_ (ae (af 1) ag)))) (fJ "BadText" (ae (gC (.str "a sign that no text may have")) ag)) bt)
  (bb (bS (ae (gC (.str "text")) (ae (af 1) ag))))))
def dP:List Wv->Hs->Re Wv:=aK 2 hG
def j5:Ct:={ cB g_ ["word","text"] [] [("has_text_signs",1,a_)]with clss:=["BadText"] }
theorem uk:aU 30 (j5) (defBody g_)=hG:=by kernel_rfl
theorem tI:FnScope (j5).N ["word"] (defScope g_):=ir ⟨rfl,rfl,rfl,rfl⟩ (by decide+kernel)
abbrev hI:Stmt:=top 67
def hJ:GS:=(aC (iH (qP (bp (aj oEq (aj bH (af 0) (gC (.int 0))) (gC (.str "0")))) (bp (aj j' (af 0) (gC (.str "0"))))) (fJ "BadText" (ae (gC (.str "a number with a nought ahead")) ag)) bt)
  (bb (bS (ae (gC (.str "num")) (ae (aI kg (ae (cL (af 0) fA (fe (gC (.int 62)))) ag)) ag)))))
def dQ:List Wv->Hs->Re Wv:=aK 1 hJ
def j6:Ct:={ cB hI ["figures"] ["int"] []with clss:=["BadText"] }
theorem um:aU 30 (j6) (defBody hI)=hJ:=by kernel_rfl
theorem tJ:FnScope (j6).N ["figures"] (defScope hI):=ir ⟨rfl,rfl,rfl,rfl⟩ (by decide+kernel)
abbrev eV:Stmt:=top 32
def gK:GS:=(aC (bq 2 (aj bA (af 0) (af 1)))
  (aC (iH (vM (iI (az 1 c7 (ae (af 2) ag)))) (fJ "BadText" (ae (gC (.str "corners the wrong way")) ag)) bt)
  (bb (af 2))))
def dq:List Wv->Hs->Re Wv:=aK 3 gK
def gL:Ct:={ cB eV ["first","last","area"] [] [("has_corners",1,c7)]with clss:=["BadText"] }
theorem qe:aU 30 (gL) (defBody eV)=gK:=by kernel_rfl
theorem oS:FnScope (gL).N ["first","last"] (defScope eV):=ir ⟨rfl,rfl,rfl,rfl⟩ (by decide+kernel)
abbrev dI:Stmt:=top 69
def bC:GS:=(aC (bq 1 (dX pL (af 0) (ae (gC (.str ":")) ag)))
  (aC (iH (JH (bp (aj j' (aI dJ (ae (af 1) ag)) (gC (.int 2)))) (bp (aj (qS false) (gC (.str "")) (af 1)))) (fJ "BadText" (ae (gC (.str "no name of an area")) ag)) bt)
  (aC (bq 2 (az 1 b6 (ae (aj bH (af 1) (gC (.int 0))) ag)))
  (aC (bq 3 (az 1 b6 (ae (aj bH (af 1) (gC (.int 1))) ag)))
  (bb (bS (ae (az 2 dq (ae (aj bH (af 2) (gC (.int 1))) (ae (aj bH (af 3) (gC (.int 1))) ag))) (ae (aj bA (aj bH (af 2) (gC (.int 2))) (aj bH (af 3) (gC (.int 2)))) ag))))))))
def aX:List Wv->Hs->Re Wv:=aK 4 bC
def fO:Ct:={ cB dI ["word","names","first","last"] ["len"] [("read_pinned",1,b6),("joined_corners",2,dq)]with clss:=["BadText"],Hk:=["names"] }
theorem nW:aU 30 (fO) (defBody dI)=bC:=by kernel_rfl
theorem mV:FnScope (fO).N ["word"] (defScope dI):=ir ⟨rfl,rfl,rfl,rfl⟩ (by decide+kernel)
abbrev jJ:Stmt:=top 65
def bP:GS:=(aC (iH (bp (aj oEq (aj bH (af 0) (gC (.int 0))) (gC (.str "\"")))) (bb (bS (ae (gC (.str "whole")) (ae (az 1 dP (ae (af 0) ag)) ag)))) bt)
  (aC (iH (bp (aj fV (aj bH (af 0) (gC (.int 0))) (gC (.str "0123456789")))) (bb (bS (ae (gC (.str "whole")) (ae (az 1 dQ (ae (af 0) ag)) ag)))) bt)
  (aC (iH (bp (aj oEq (af 0) (gC (.str "lost")))) (bb (bS (ae (gC (.str "whole")) (ae (bS (ae (gC (.str "lost")) ag)) ag)))) bt)
  (aC (iH (bp (aj fV (af 0) (gC (.jS [.str "not",.str "rest",.str "if",.str "else",.str "sum",.str "count",.str "least",.str "greatest",.str "find"])))) (bb (bS (ae (gC (.str "call")) (ae (af 0) ag)))) bt)
  (aC (iH (bp (aj fV (af 0) (gC (.jS [.str "+",.str "-",.str "*",.str "/",.str "&",.str "<",.str "=",.str "(",.str ")",.str ","])))) (bb (bS (ae (gC (.str "sign")) (ae (af 0) ag)))) bt)
  (aC (iH (bp (aj fV (gC (.str ":")) (af 0))) (bb (bS (ae (gC (.str "area")) (ae (az 1 aX (ae (af 0) ag)) ag)))) bt)
  (bb (bS (ae (gC (.str "whole")) (ae (az 1 b6 (ae (af 0) ag)) ag))))))))))
def bw:List Wv->Hs->Re Wv:=aK 1 bP
def lY:Ct:={ cB jJ ["word"] [] [("read_pinned",1,b6),("read_quoted",1,dP),("read_number",1,dQ),("read_pinned_area",1,aX)]with consts:=[("FIGURES",(.str "0123456789")),("CALL_WORDS",(.jS [.str "not",.str "rest",.str "if",.str "else",.str "sum",.str "count",.str "least",.str "greatest",.str "find"])),("SIGNS",(.jS [.str "+",.str "-",.str "*",.str "/",.str "&",.str "<",.str "=",.str "(",.str ")",.str ","]))] }
theorem yY:aU 30 (lY) (defBody jJ)=bP:=by kernel_rfl
theorem wX:FnScope (lY).N ["word"] (defScope jJ):=ir ⟨rfl,rfl,rfl,rfl⟩ (by decide+kernel)
abbrev lh:Stmt:=top 61
def bD:GS:=(aC (bq 3 (az 2 dH (ae (af 0) (ae (af 2) ag))))
  (aC (iH (bp (aj j' (aj bH (af 0) (af 2)) (gC (.str " ")))) (fQ (fo pI (af 1) (az 1 bw (ae (cL (af 0) (fe (af 2)) (fe (af 3))) ag)))) bt)
  (bq 2 (af 3))))
def jh:GS:=(aC (bq 1 (hZ ag))
  (aC (bq 2 (gC (.int 0)))
  (aC (eD cM (bp (aj oLt (af 2) (aI dJ (ae (af 0) ag)))) bD)
  (bb (af 1)))))
def gM:List Wv->Hs->Re Wv:=aK 4 jh
def nX:Ct:=cB lh ["text","words","start","end"] ["len"] [("word_end",2,dH),("read_word",1,bw)]
theorem A1:aU 30 (nX) (defBody lh)=jh:=by kernel_rfl
theorem yZ:FnScope (nX).N ["text"] (defScope lh):=ir ⟨rfl,rfl,rfl,rfl⟩ (by decide+kernel)
abbrev eW:Stmt:=top 70
def bI:GS:=(aC (iH (bp (aj oEq (af 2) (bS (ae (gC (.str "sign")) (ae (gC (.str "(")) ag))))) (jw (λi j=>i+j) 1 (gC (.int 1))) bt)
  (aC (iH (bp (aj oEq (af 2) (bS (ae (gC (.str "sign")) (ae (gC (.str ")")) ag))))) (jw (λi j=>i - j) 1 (gC (.int 1))) bt)
  (iH (bp (aj MM (af 1) (gC (.int 40)))) (fJ "BadText" (ae (gC (.str "brackets too deep within one another")) ag)) bt)))
def eX:GS:=(aC (bq 1 (gC (.int 0)))
  (Af 2 (af 0) bI))
def cI:List Wv->Hs->Re Wv:=aK 3 eX
def gN:Ct:={ cB eW ["words","deep","word"] [] []with consts:=[("MOST_BRACKETS",(.int 40))],clss:=["BadText"] }
theorem qf:aU 30 (gN) (defBody eW)=eX:=by kernel_rfl
theorem oT:FnScope (gN).N ["words"] (defScope eW):=ir ⟨rfl,rfl,rfl,rfl⟩ (by decide+kernel)
abbrev df:Stmt:=L2.inClass (top 71) 0
def fj:GS:=(aC (qz "WordRow" "words" (af 1) (af 0))
  (qz "WordRow" "spot" (gC (.int 0)) (af 0)))
def bJ:List Wv->Hs->Re Wv:=aK 2 fj
def fk:Ct:={ cB df ["self","words"] [] []with it:={ c:="WordRow",wt:=[],ini:=[],own:=["words","spot"] } }
theorem mW:aU 30 (fk) (defBody df)=fj:=by kernel_rfl
theorem lZ:FnScope (fk).N ["self","words"] (defScope df):=ir ⟨rfl,rfl,rfl,rfl⟩ (by decide+kernel)
abbrev jK:Stmt:=top 73
def l6:GS:=(aC (bq 3 (yv (af 0)))
  (aC (bq 4 (yv (af 0)))
  (fQ (fo pI (af 0) (bS (ae (yv (af 1)) (ae (af 4) (ae (af 3) ag))))))))
def l7:GS:=(eD cM (qP (iI (af 1)) (bp (aj UB (sV cO (aj bH (af 1) (S0 uI (gC (.int 1))))) (af 2)))) l6)
def fT:List Wv->Hs->Re Wv:=aK 5 l7
def l8:Ct:={ cB jK ["parts","ops","binding","right","left"] [] []with u0:=[("BINDING",cO)] }
theorem y0:aU 30 (l8) (defBody jK)=l7:=by kernel_rfl
theorem wY:FnScope (l8).N ["parts","ops","binding"] (defScope jK):=ir ⟨rfl,rfl,rfl,rfl⟩ (by decide+kernel)
abbrev eZ:Stmt:=L2.inClass (top 71) 1
def gO:GS:=(bb (vN (bp (aj oLt (ua "WordRow" "spot" (af 0)) (aI dJ (ae (ua "WordRow" "words" (af 0)) ag)))) (aj bH (ua "WordRow" "words" (af 0)) (ua "WordRow" "spot" (af 0))) (gC (.jS [.str "end",.str ""]))))
def aD:List Wv->Hs->Re Wv:=aK 1 gO
def gP:Ct:={ cB eZ ["self"] ["len"] []with consts:=[("END",(.jS [.str "end",.str ""]))],it:={ c:="WordRow",wt:=[],ini:=[],own:=["words","spot"] } }
theorem qg:aU 30 (gP) (defBody eZ)=gO:=by kernel_rfl
theorem oU:FnScope (gP).N ["self"] (defScope eZ):=ir ⟨rfl,rfl,rfl,rfl⟩ (by decide+kernel)
abbrev e_:Stmt:=L2.inClass (top 71) 2
def gQ:GS:=(aC (bq 1 (f9 "WordRow" "ahead" 1 aD (af 0) ag))
  (aC (uZ (λi j=>i+j) "WordRow" "spot" (af 0) (gC (.int 1)))
  (bb (af 1))))
def aJ:List Wv->Hs->Re Wv:=aK 2 gQ
def gR:Ct:={ cB e_ ["self","word"] [] []with it:={ c:="WordRow",wt:=[("ahead",1,aD)],ini:=[],own:=["spot"] } }
theorem qh:aU 30 (gR) (defBody e_)=gQ:=by kernel_rfl
theorem oV:FnScope (gR).N ["self"] (defScope e_):=ir ⟨rfl,rfl,rfl,rfl⟩ (by decide+kernel)
abbrev cW:Stmt:=L2.inClass (top 71) 3
def eI:GS:=(iH (bp (aj j' (f9 "WordRow" "taken" 1 aJ (af 0) ag) (bS (ae (gC (.str "sign")) (ae (af 1) ag))))) (fJ "BadText" (ae (XI [(gC (.str "no ")),(XH (af 1)),(gC (.str " where it is due"))]) ag)) bt)
def aP:List Wv->Hs->Re Wv:=aK 2 eI
def eJ:Ct:={ cB cW ["self","sign"] [] []with clss:=["BadText"],it:={ c:="WordRow",wt:=[("taken",1,aJ)],ini:=[],own:=[] } }
theorem l_:aU 30 (eJ) (defBody cW)=eI:=by kernel_rfl
theorem lz:FnScope (eJ).N ["self","sign"] (defScope cW):=ir ⟨rfl,rfl,rfl,rfl⟩ (by decide+kernel)
abbrev fb:Stmt:=top 77
def gS:GS:=(aC (bq 1 (f9 "WordRow" "taken" 1 aJ (af 0) ag))
  (aC (iH (bp (aj j' (aj bH (af 1) (gC (.int 0))) (gC (.str "area")))) (fJ "BadText" (ae (gC (.str "no area's name where one is due")) ag)) bt)
  (bb (aj bH (af 1) (gC (.int 1))))))
def dv:List Wv->Hs->Re Wv:=aK 2 gS
def gT:Ct:={ cB fb ["row","word"] [] []with clss:=["BadText"],it:={ c:="WordRow",wt:=[("taken",1,aJ)],ini:=[],own:=[] } }
theorem qi:aU 30 (gT) (defBody fb)=gS:=by kernel_rfl
theorem oW:FnScope (gT).N ["row"] (defScope fb):=ir ⟨rfl,rfl,rfl,rfl⟩ (by decide+kernel)
abbrev jL:Stmt:=top 76
def cw(ax au ao aq:List Wv->Hs->Re Wv):GS:=(aC (fQ (f9 "WordRow" "pass_sign" 2 aP (af 0) (ae (af 3) ag)))
  (aC (fQ (fo pI (af 2) (az 1 aq (ae (af 0) ag))))
  (bq 3 (gC (.str ",")))))
def bW(ax au ao aq:List Wv->Hs->Re Wv):GS:=(aC (bq 2 (hZ (ae (af 1) ag)))
  (aC (bq 3 (gC (.str "(")))
  (aC (nA 4 (ae (az 1 cq (ae (af 1) ag)) ag) (cw ax au ao aq))
  (aC (iH (iI (az 1 fL (ae (af 1) ag))) (aC (fQ (f9 "WordRow" "pass_sign" 2 aP (af 0) (ae (af 3) ag)))
    (fQ (fo sW (af 2) (az 1 dv (ae (af 0) ag))))) bt)
  (aC (fQ (f9 "WordRow" "pass_sign" 2 aP (af 0) (ae (gC (.str ")")) ag)))
  (bb (aI yh (ae (af 2) ag))))))))
def qE(ax au ao aq:List Wv->Hs->Re Wv):Ct where
  N:=["row","word","entries","opening","done"]
  names:=(defScope jL).names
  consts:=[]
  bl:=["range","tuple"]
  fns:=[("has_area",1,fL),("part_many",1,cq),("read_part",1,aq),("read_area_word",1,dv)]
  tb:=fW
  tt:=cT
  tc:=oO
  it:={ c:="WordRow",wt:=[("pass_sign",2,aP)],ini:=[],own:=[] }
theorem y3(ax au ao aq:List Wv->Hs->Re Wv):aU 30 (qE ax au ao aq) (defBody jL)=bW ax au ao aq:=by kernel_rfl
theorem wZ(ax au ao aq:List Wv->Hs->Re Wv):FnScope ["row","word","entries","opening","done"] ["row","word"] (defScope jL):=ir ⟨rfl,rfl,rfl,rfl⟩ (by decide+kernel)
abbrev iN:Stmt:=top 75
def a9(ax au ao aq:List Wv->Hs->Re Wv):GS:=(aC (bq 1 (f9 "WordRow" "taken" 1 aJ (af 0) ag))
  (aC (iH (bp (aj oEq (aj bH (af 1) (gC (.int 0))) (gC (.str "whole")))) (bb (aj bH (af 1) (gC (.int 1)))) bt)
  (aC (iH (bp (aj oEq (aj bH (af 1) (gC (.int 0))) (gC (.str "call")))) (bb (az 2 ax (ae (af 0) (ae (aj bH (af 1) (gC (.int 1))) ag)))) bt)
  (aC (iH (bp (aj j' (af 1) (bS (ae (gC (.str "sign")) (ae (gC (.str "(")) ag))))) (fJ "BadText" (ae (gC (.str "no formula where one is due")) ag)) bt)
  (aC (bq 2 (az 1 aq (ae (af 0) ag)))
  (aC (fQ (f9 "WordRow" "pass_sign" 2 aP (af 0) (ae (gC (.str ")")) ag)))
  (bb (af 2))))))))
def oX(ax au ao aq:List Wv->Hs->Re Wv):Ct where
  N:=["row","word","formula"]
  names:=(defScope iN).names
  consts:=[]
  bl:=[]
  fns:=[("read_part",1,aq),("read_call",2,ax)]
  tb:=fW
  tt:=cT
  tc:=oO
  clss:=["BadText"]
  it:={ c:="WordRow",wt:=[("taken",1,aJ),("pass_sign",2,aP)],ini:=[],own:=[] }
theorem w6(ax au ao aq:List Wv->Hs->Re Wv):aU 30 (oX ax au ao aq) (defBody iN)=a9 ax au ao aq:=by kernel_rfl
theorem uo(ax au ao aq:List Wv->Hs->Re Wv):FnScope ["row","word","formula"] ["row"] (defScope iN):=ir ⟨rfl,rfl,rfl,rfl⟩ (by decide+kernel)
abbrev gq:Stmt:=top 74
def oY(ax au ao aq:List Wv->Hs->Re Wv):GS:=(bq 2 (bS (ae (gC (.str "minus")) (ae (af 2) ag))))
def jM(ax au ao aq:List Wv->Hs->Re Wv):GS:=(aC (fQ (f9 "WordRow" "taken" 1 aJ (af 0) ag))
  (jw (λi j=>i+j) 1 (gC (.int 1))))
def dw(ax au ao aq:List Wv->Hs->Re Wv):GS:=(aC (bq 1 (gC (.int 0)))
  (aC (eD cM (bp (aj oEq (f9 "WordRow" "ahead" 1 aD (af 0) ag) (bS (ae (gC (.str "sign")) (ae (gC (.str "-")) ag))))) (jM ax au ao aq))
  (aC (bq 2 (az 1 au (ae (af 0) ag)))
  (aC (nA 3 (ae (af 1) ag) (oY ax au ao aq))
  (bb (af 2))))))
def md(ax au ao aq:List Wv->Hs->Re Wv):Ct where
  N:=["row","minuses","formula","done"]
  names:=(defScope gq).names
  consts:=[]
  bl:=["range"]
  fns:=[("read_whole",1,au)]
  tb:=fW
  tt:=cT
  tc:=oO
  it:={ c:="WordRow",wt:=[("ahead",1,aD),("taken",1,aJ)],ini:=[],own:=[] }
theorem tK(ax au ao aq:List Wv->Hs->Re Wv):aU 30 (md ax au ao aq) (defBody gq)=dw ax au ao aq:=by kernel_rfl
theorem rj(ax au ao aq:List Wv->Hs->Re Wv):FnScope ["row","minuses","formula","done"] ["row"] (defScope gq):=ir ⟨rfl,rfl,rfl,rfl⟩ (by decide+kernel)
abbrev jN:Stmt:=top 72
def eK(ax au ao aq:List Wv->Hs->Re Wv):GS:=(aC (bq 3 (aj bH (f9 "WordRow" "taken" 1 aJ (af 0) ag) (gC (.int 1))))
  (aC (fQ (az 3 fT (ae (af 1) (ae (af 2) (ae (sV cO (af 3)) ag)))))
  (aC (fQ (fo pI (af 2) (af 3)))
  (fQ (fo pI (af 1) (az 1 ao (ae (af 0) ag)))))))
def bX(ax au ao aq:List Wv->Hs->Re Wv):GS:=(aC (bq 1 (hZ (ae (az 1 ao (ae (af 0) ag)) ag)))
  (aC (bq 2 (hZ ag))
  (aC (eD cM (qP (bp (aj oEq (aj bH (f9 "WordRow" "ahead" 1 aD (af 0) ag) (gC (.int 0))) (gC (.str "sign")))) (bp (kj false cO (aj bH (f9 "WordRow" "ahead" 1 aD (af 0) ag) (gC (.int 1)))))) (eK ax au ao aq))
  (aC (fQ (az 3 fT (ae (af 1) (ae (af 2) (ae (gC (.int 0)) ag)))))
  (bb (aj bH (af 1) (gC (.int 0))))))))
def qF(ax au ao aq:List Wv->Hs->Re Wv):Ct where
  N:=["row","parts","ops","op"]
  names:=(defScope jN).names
  consts:=[]
  bl:=[]
  fns:=[("join_down",3,fT),("read_operand",1,ao)]
  tb:=fW
  tt:=cT
  tc:=oO
  u0:=[("BINDING",cO)]
  it:={ c:="WordRow",wt:=[("taken",1,aJ),("ahead",1,aD)],ini:=[],own:=[] }
theorem y6(ax au ao aq:List Wv->Hs->Re Wv):aU 30 (qF ax au ao aq) (defBody jN)=bX ax au ao aq:=by kernel_rfl
theorem w8(ax au ao aq:List Wv->Hs->Re Wv):FnScope ["row","parts","ops","op"] ["row"] (defScope jN):=ir ⟨rfl,rfl,rfl,rfl⟩ (by decide+kernel)
def aM:Nat->(List Wv->Hs->Re Wv)×(List Wv->Hs->Re Wv)×(List Wv->Hs->Re Wv)×(List Wv->Hs->Re Wv)
  | 0=>(Ar,Ar,Ar,Ar)
  |n+1=>(aK 5 (bW ((aM n).1) ((aM n).2.1) ((aM n).2.2.1) ((aM n).2.2.2)),aK 3 (a9 ((aM n).1) ((aM n).2.1) ((aM n).2.2.1) ((aM n).2.2.2)),aK 4 (dw ((aM n).1) ((aM n).2.1) ((aM n).2.2.1) ((aM n).2.2.2)),aK 4 (bX ((aM n).1) ((aM n).2.1) ((aM n).2.2.1) ((aM n).2.2.2)))
def aS(n:Nat):List Wv->Hs->Re Wv:=(aM n).1
def aN(n:Nat):List Wv->Hs->Re Wv:=(aM n).2.1
def aF(n:Nat):List Wv->Hs->Re Wv:=(aM n).2.2.1
def aT(n:Nat):List Wv->Hs->Re Wv:=(aM n).2.2.2
theorem qj(n:Nat):aS (n+1)=aK 5 (bW (aS n) (aN n) (aF n) (aT n)):=rfl
def ax:List Wv->Hs->Re Wv:=aS 140
theorem oZ(n:Nat):aN (n+1)=aK 3 (a9 (aS n) (aN n) (aF n) (aT n)):=rfl
def au:List Wv->Hs->Re Wv:=aN 140
theorem mX(n:Nat):aF (n+1)=aK 4 (dw (aS n) (aN n) (aF n) (aT n)):=rfl
def ao:List Wv->Hs->Re Wv:=aF 140
theorem qk(n:Nat):aT (n+1)=aK 4 (bX (aS n) (aN n) (aF n) (aT n)):=rfl
def aq:List Wv->Hs->Re Wv:=aT 140
abbrev fI:Stmt:=top 60
def cF:GS:=(aC (bq 1 (az 1 gM (ae (af 0) ag)))
  (aC (fQ (az 1 cI (ae (af 1) ag)))
  (aC (bq 2 (yx "WordRow" 2 bJ (ae (af 1) ag)))
  (aC (bq 3 (az 1 aq (ae (af 2) ag)))
  (aC (iH (bp (aj j' (f9 "WordRow" "ahead" 1 aD (af 2) ag) (gC (.jS [.str "end",.str ""])))) (fJ "BadText" (ae (gC (.str "words behind the formula's end")) ag)) bt)
  (bb (af 3)))))))
def bL:List Wv->Hs->Re Wv:=aK 4 cF
def iB:Ct:={ cB fI ["text","words","row","formula"] [] [("words_of",1,gM),("check_brackets",1,cI),("read_part",1,aq)]with consts:=[("END",(.jS [.str "end",.str ""]))],clss:=["BadText"],it:={ c:="WordRow",wt:=[("ahead",1,aD)],ini:=[("WordRow",2,bJ)],own:=[] } }
theorem rk:aU 30 (iB) (defBody fI)=cF:=by kernel_rfl
theorem ql:FnScope (iB).N ["text"] (defScope fI):=ir ⟨rfl,rfl,rfl,rfl⟩ (by decide+kernel)
abbrev gw:Stmt:=top 59
def eL:GS:=(bb (az 1 cK (ae (az 1 bL (ae (af 0) ag)) ag)))
def bU:List Wv->Hs->Re Wv:=aK 1 eL
def jj:Ct:=cB gw ["text"] [] [("made_formula",1,cK),("read_unlooked",1,bL)]
theorem tL:aU 30 (jj) (defBody gw)=eL:=by kernel_rfl
theorem rn:FnScope (jj).N ["text"] (defScope gw):=ir ⟨rfl,rfl,rfl,rfl⟩ (by decide+kernel)
abbrev ig:Stmt:=top 81
def ij:GS:=(aC (bq 1 (aI (dU fW cT) (ae (af 0) (ae (bS (ae (gC (.cls "BadArea")) (ae (gC (.cls "BadContent")) (ae (gC (.cls "BadCount")) (ae (gC (.cls "BadPlace")) (ae (gC (.cls "BadTable")) (ae (gC (.cls "Clash")) (ae (gC (.cls "Full")) (ae (gC (.cls "NoCell")) (ae (gC (.cls "NoColumn")) ag)))))))))) ag))))
  (aC (bq 1 (Aa (af 1) (Aa (aI (dU fW cT) (ae (af 0) (ae (bS (ae (gC (.cls "NoDeed")) (ae (gC (.cls "NoRoom")) (ae (gC (.cls "NoTable")) (ae (gC (.cls "NotWaiting")) ag))))) ag))) (xR (aI (dU fW cT) (ae (af 0) (ae (gC (.ty "ValueError")) ag)))))))
  (aC (bq 2 (hZ (ae (aI (dU fW cT) (ae (af 0) (ae (gC (.cls "BadText")) ag))) (ae (aI (dU fW cT) (ae (af 0) (ae (gC (.cls "BadFormula")) ag))) ag))))
  (aC (iH (JH (iI (af 1)) (bp (aj j' (jv (dX lP (af 2) (ae (gC (.bl true)) ag)) (fo eR (af 2) (gC (.bl true)))) (gC (.int 1))))) (bb (gC (.str "other"))) bt)
  (bb (aj bH (hZ (ae (gC (.str "text")) (ae (gC (.str "formula")) ag))) (jv (dX jV (af 2) (ae (gC (.bl true)) ag)) (jv (fo eS (af 2) (gC (.bl true))) (pN kM (af 2) (gC (.bl true)))))))))))
def cX:List Wv->Hs->Re Wv:=aK 3 ij
def ip:Ct:={ cB ig ["e","other","marks"] ["isinstance","ValueError"] []with xD:=["BadArea","BadContent","BadCount","BadPlace","BadTable","Clash","Full","NoCell","NoColumn","BadText","BadFormula","NoDeed","NoRoom","NoTable","NotWaiting"] }
theorem y7:aU 30 (ip) (defBody ig)=ij:=by kernel_rfl
theorem w_:aU 30 (ip).un (defBody ig)=ij:=by kernel_rfl
theorem o_:FnScope (ip).N ["e"] (defScope ig):=ir ⟨rfl,rfl,rfl,rfl⟩ (by decide+kernel)
abbrev jO:Stmt:=top 85
def dy:GS:=(iH (bp (aj oEq (af 0) (gC (.int 0)))) (fQ (az 1 cK (ae (af 1) ag))) (fQ (az 1 bU (ae (af 1) ag))))
def jk:GS:=(bq 2 (az 1 cX (ae (af 3) ag)))
def eM:GS:=(aC (bq 2 (gC (.str "told")))
  (aC (DB (λy=>oO.lookup (y,("SheetError":PySem.Str))) 3 dy jk)
  (bb (af 2))))
def a7:List Wv->Hs->Re Wv:=aK 4 eM
def me:Ct:={ cB jO ["way","what","word","e"] [] [("made_formula",1,cK),("read_formula",1,bU),("_law_kind",1,cX)]with clss:=["SheetError"],xE:=["_law_kind"] }
theorem y8:aU 30 (me) (defBody jO)=eM:=by kernel_rfl
theorem xa:FnScope (me).N ["way","what"] (defScope jO):=ir ⟨rfl,rfl,rfl,rfl⟩ (by decide+kernel)
abbrev B6:Stmt:=top 86
def pd:GS:=(aC (bq 2 (az 1 i8 (ae (af 1) ag)))
  (aC (qw [3,4,5] (az 1 b_ (ae (af 2) ag)))
  (aC (bq 6 (aj bH (hZ (ae (gC (.str "formula")) (ae (gC (.str "told")) ag))) (aI kg (ae (af 5) ag))))
  (aC (iH (JH (bp (aj j' (az 2 a7 (ae (gC (.int 0)) (ae (af 3) ag))) (af 6))) (bp (aj j' (az 2 a7 (ae (gC (.int 1)) (ae (af 4) ag))) (af 6)))) (bb (gC (.bl false))) bt)
  (aC (bq 7 (aj bH (hZ (ae (gC (.str " 1")) (ae (gC (.str ")")) (ae (gC (.str " +")) (ae (gC (.str " lost")) (ae (gC (.str ",")) (ae (gC (.str " \"")) (ae (gC (.str " a100")) (ae (gC (.str "(")) ag))))))))) (az 2 aG (ae (af 2) (ae (gC (.int 8)) ag)))))
  (aC (iH (bp (aj j' (az 2 a7 (ae (gC (.int 1)) (ae (aj bA (af 4) (af 7)) ag))) (gC (.str "text")))) (bb (gC (.bl false))) bt)
  (aC (bq 8 (aj bA (gC (.int 38)) (az 2 aG (ae (af 2) (ae (gC (.int 5)) ag)))))
  (aC (bq 9 (az 2 aG (ae (af 2) (ae (gC (.int 11)) ag))))
  (aC (bq 10 (aj bH (hZ (ae (gC (.str "a1")) (ae (gC (.str "sum(a1:b2)")) (ae (gC (.str "find(a1, a1:b2)")) (ae (gC (.str "rest(2, a1)")) ag))))) (az 2 aG (ae (af 2) (ae (gC (.int 4)) ag)))))
  (aC (bq 4 (aj bH (hZ (ae (aj bA (aj di (gC (.str "not(")) (af 9)) (aj di (gC (.str "(")) (aj lK (af 8) (af 9)))) (ae (aj bA (aj di (gC (.str "(")) (aj lK (af 8) (af 9))) (aj di (gC (.str "not(")) (af 9))) ag))) (az 2 aG (ae (af 2) (ae (gC (.int 2)) ag)))))
  (aC (bq 8 (aj bA (af 8) (aI kg (ae (aj j' (af 10) (gC (.str "a1"))) ag))))
  (aC (iH (bp (aj j' (az 2 a7 (ae (gC (.int 1)) (ae (aj bA (aj bA (af 4) (af 10)) (aj di (gC (.str ")")) (jv (dX lP (af 4) (ae (gC (.str "(")) ag)) (fo eR (af 4) (gC (.str "(")))))) ag))) (aj bH (hZ (ae (gC (.str "text")) (ae (gC (.str "told")) ag))) (aI kg (ae (aj oLe (af 8) (gC (.int 40))) ag))))) (bb (gC (.bl false))) bt)
  (aC (bq 11 (aj bA (gC (.int 97)) (az 2 aG (ae (af 2) (ae (gC (.int 5)) ag)))))
  (iH (bp (aj j' (az 2 a7 (ae (gC (.int 1)) (ae (aj bA (gC (.str "c")) (aI oC (ae (af 11) ag))) ag))) (aj bH (hZ (ae (gC (.str "text")) (ae (gC (.str "told")) ag))) (aI kg (ae (aj oLt (af 11) (gC (.int 100))) ag))))) (bb (gC (.bl false))) bt))))))))))))))
def Ii:GS:=(aC (Af 1 (aj bA (hZ (ae (gC (.int 0)) (ae (gC (.int 1)) (ae (gC (.int 2)) (ae (gC (.int 3)) (ae (gC (.int 4)) (ae (gC (.int 5)) (ae (gC (.int 6)) (ae (gC (.int 7)) ag))))))))) (af 0)) pd)
  (bb (gC (.bl true))))
def F_law:List Wv->Hs->Re Wv:=aK 12 Ii
def Ij:Ct:=cB B6 ["script","cell","own","formula","text","good","due","tail","deep","called","inner","row"] ["int","str"] [("_law_own",1,i8),("_law_case",1,b_),("_law_digit",2,aG),("_law_word",2,a7)]
theorem VB:aU 30 (Ij) (defBody B6)=Ii:=by kernel_rfl
theorem QT:FnScope (Ij).N ["script"] (defScope B6):=ir ⟨rfl,rfl,rfl,rfl⟩ (by decide+kernel)
abbrev S:=PySem.Str
def EI:Int:=10 ^ (60:Int).toNat
def Sg(c:Nat):Prop:=32<=c/\c<=126/\c≠34/\c≠37
def aaY(s:S):Prop:=s.length<=40/\∀c∈s.cps.toList,Sg c
def ku(a b:Int):Prop:=0<=a/\a < 99/\0<=b/\b < 26
def Eg(a b c d:Int):Prop:=0<=a/\a<=c/\c < 99/\0<=b/\b<=d/\d < 26/\(c - a+1) * (d - b+1)<=300
variable{st:Hs}{l:Nat}
theorem digit{n many:Int}(h:st[l]? =some (.lst [.int n]))(hm:many≠0/\many.natAbs.log2 < 9000):
  aG [.ref l,.int many] st= .ok (.int (n.fmod many)) (st.set l (.lst [.int (n.fdiv many)])):=by
 have hl:av st l=some [.int n]:=by unfold av;rw[h]
 have h0:L2.qN [Wv.int n] 0=some (.int n):=rfl;unfold aG aK kQ;simp[mU hl h0,BZ hm.1,wH hm,BA,US,h,L2.EC]
theorem p60:vQ (.int 10) (.int 60) st= .ok (.int EI) st:=Vs (by decide)
instance {c:Nat}:Decidable (Sg c):=by unfold Sg;infer_instance
variable{i:Int}
theorem f2:lu (.int i) (.int 2) st= .ok (.int (i.fdiv 2)) st:=wH (by decide)
theorem f8:lu (.int i) (.int 8) st= .ok (.int (i.fdiv 8)) st:=wH (by decide)
theorem own{c:Int}:∃n:Int,i8 [.int c] st= .ok (.ref st.length) (st++[.lst [.int n]]):=by
 have loop:∀(a:Option Wv)(g s:Int),0<=s->s < 2147483648->∃(o3:Option Wv)(g' s':Int),ju 3 gU (gE 0 60) [a,some (.int g),some (.int s),none] st= .nx [a,some (.int g'),some (.int s'),o3] st:=by
  intro a g s h0 h1;obtain⟨ρ,st',e,q⟩:=yK (i:=3) (gb:=gU) (λρ st'=>∃(o3:Option Wv)(g s:Int),0<=s/\s < 2147483648/\ρ=[a,some (.int g),some (.int s),o3]/\st'=st) (gE 0 60) [a,some (.int g),some (.int s),none] st ⟨none,g,s,h0,h1,rfl,rfl⟩ (by
   rintro w hw _ st ⟨o3,g,s,h0,h1,rfl,rfl⟩;obtain⟨k,rfl,k0,k1⟩:=Ma hw;have z1:di (.int s) (.int s) st= .ok (.int (s * s)) st:=B2 (by omega) (by omega);have z2:di (.int 977) (.int k) st= .ok (.int (977 * k)) st:=B2 (by decide) (by decide);have z3:di (.int g) (.int 268435399) st= .ok (.int (g * 268435399)) st:=mul_r (by decide) (by decide);generalize hs:(s * s+977 * k+1).fmod 2147483647=s';have s0:0<=s':=by rw[<-hs];exact A2 _ (by decide)
   have s1:s' < 2147483647:=by rw[<-hs];exact Il _ (by decide)
   have z4:di (.int s') (.int 69621) st= .ok (.int (s' * 69621)) st:=mul_r (by decide) (by decide);refine⟨_,_,?_,⟨some (.int k),g * 268435399+((s' * 69621).fmod 2147483647).fdiv 8,s',s0,by omega,rfl,rfl⟩⟩;unfold gU;simp[z1,z2,z3,z4,BZ,hs,f8])
  obtain⟨o3,g',s',_,_,rfl,rfl⟩:=q;exact⟨o3,g',s',e⟩
 unfold i8 aK nI;by_cases b:(if c < 0 then -c else c).fmod 2=1
 ·exact⟨_,by simp[BZ,b,f2];rfl⟩
 ·have b':((if c < 0 then -c else c).fmod 2 == 1)=false:=beq_false_of_ne b;generalize hs:((if c < 0 then -c else c).fdiv 2).fmod 2147483629+1=s;have s0:0<=s:=by have:=A2 ((if c < 0 then -c else c).fdiv 2) (b:=2147483629) (by decide);omega
  have s1:s < 2147483648:=by have:=Il ((if c < 0 then -c else c).fdiv 2) (b:=2147483629) (by decide);omega
  obtain⟨o3,g',s',e⟩:=loop (some (.int (if c < 0 then -c else c))) 0 s s0 s1;have c60:nz 60:=Mb (by decide) (by decide);exact⟨g',by simp[BZ,b',f2,hs,c60,e]⟩
variable{x:S}
theorem Mc{ys:List S}:fV (.str x) (.tup (ys.map Wv.str)) st= .ok (.bl (decide (x∈ys))) st:=by
 have e1:(ys.map Wv.str).all cS=true:=by rw[nG];intro w hw;obtain⟨y,_,rfl⟩:=List.mem_map.mp hw;rfl
 have e2:((ys.map Wv.str).any λz=>Dm z (.str x))=decide (x∈ys):=by
  rw[List.any_map]
  induction ys with
  |nil=>rfl
  |cons y r ih=>
   rw[sy,ih (by rw[nG];intro w hw;obtain⟨y,_,rfl⟩:=List.mem_map.mp hw;rfl)];show((y == x)||decide (x∈r))=_;by_cases c:y=x
   ·subst c;simp
   ·have:(y == x)=false:=beq_false_of_ne c;rw[this];simp[cR c]
 show(if cS (.str x)=true/\(ys.map Wv.str).all cS=true then Re.ok (Wv.bl ((ys.map Wv.str).any λz=>Dm z (.str x))) st else .bad)=_;rw[if_pos ⟨rfl,e1⟩,e2]
def AF:List S:=["sum","count","least","greatest","find"]
theorem pe:fL [.str x] st= .ok (.bl (decide (x∈AF))) st:=by have e:fV (.str x) (.jS [.str "sum",.str "count",.str "least",.str "greatest",.str "find"]) st= .ok (.bl (decide (x∈AF))) st:=Mc (ys:=AF);unfold fL aK nM;simp[e]
variable{ws:List Wv}
theorem qG{x:Wv}:bH (.tup (x::ws)) (.int 0) st= .ok x st:=jx (L2.eO (j:=0) rfl)
variable{y:Wv}
theorem Io{x:Wv}:bH (.tup (x::y::ws)) (.int 1) st= .ok y st:=jx (L2.eO (j:=1) rfl)
variable{us:List Wv}{hi:Option Int}
theorem Md{lo:Option Int}(h:¬nD ws.length lo hi)(h2:oB ws lo hi=us):oH (.tup ws) lo hi st= .ok (.tup us) st:=by show(if nD ws.length lo hi then Re.ok (Wv.tup ws) st else S7 (.tup ws) lo hi st)=_;rw[if_neg h];show(if nD ws.length lo hi then Re.bad else Re.ok (Wv.tup (oB ws lo hi)) st)=_;rw[if_neg h,h2]
variable{k:Int}
theorem mP(h:aB.lookup x=some (.int k)):cq [.str x] st= .ok (.int k) st:=by unfold cq aK lT;simp[B4 h]
theorem Ip(h:aB.lookup x=some (.int k))(n1:¬nD (ws.length+1) (some 1) (some (1+k)))(hc:oB (.str x::ws) (some 1) (some (1+k))=us)(st:Hs):dG [.tup (.str x::ws)] st= .ok (.tup us) st:=by unfold dG aK nK;have s:=Md (ws:=.str x::ws) (us:=us) (lo:=some 1) (hi:=some (1+k)) (st:=st) n1 hc;simp[qG,mP h,s]
theorem Me(h:aB.lookup x=some (.int k))(n1:¬nD (ws.length+1) (some (1+k)) none)(hc:oB (.str x::ws) (some (1+k)) none=us)(st:Hs):iR [.tup (.str x::ws)] st= .ok (.tup us) st:=by unfold iR aK p_;have s:=Md (ws:=.str x::ws) (us:=us) (lo:=some (1+k)) (hi:=none) (st:=st) n1 hc;simp[qG,mP h,s]
theorem VC(h:st[l]? =some (.lst ws)):yh [.ref l] st= .ok (.tup ws) st:=by
 show(match av st l with |some ws=>Re.ok (Wv.tup ws) st |none=> .bad)=_
 rw[bT h]
theorem B7:∀n:Nat,jC (aR n (.bl true))=some (aR n true)
 | 0=>rfl
 |n+1=>by rw[iY];unfold jC;rw[B7 n];rfl
variable{n:Nat}
theorem Mf(h:av st l=some (aR n (.bl true))):qR [.ref l] st= .ok (.bl true) st:=by
 show(match av st l with |some ws=>(match jC ws with |some bs=>Re.ok (Wv.bl (bs.all id)) st |none=> .bad) |none=> .bad)=_
 rw[h];dsimp only;rw[B7];dsimp only
 congr 2
 rw[nG];intro x hx;exact(List.mem_replicate.mp hx).2
variable{cs:iw}{gt:GT}{ge:GE}{ρ:bR}
theorem Eh(h1:∀v∈ws,∀s,gt (some v::jU cs ρ) s= .ok true s)(h2:∀v∈ws,∀s,ge (some v::jU cs ρ) s= .ok (.bl true) s)(hl:ws.length < lim):
  f7 cs gt ge ρ (none,ws) st= .ok (.ref st.length) (st++[.lst (aR ws.length (.bl true))]):=by
 rw[pR (w:=(none,ws)) (t:=λ_=>true) (f:=λ_=> .bl true) trivial (λv hv acc=>h1 v hv _) (λv hv _ acc=>h2 v hv _) hl];have e:((ws.filter λ_=>true).map λ_=>Wv.bl true)=aR ws.length (Wv.bl true):=by rw[List.filter_eq_self.mpr (λ_ _=>rfl),List.map_const']
 show Re.ok _ (st++[.lst ((ws.filter λ_=>true).map λ_=>Wv.bl true)])=_;rw[e]
theorem tup_is:dU fW cT [.tup ws,.ty "tuple"] st= .ok (.bl true) st:=rfl
theorem str_is:dU fW cT [.str x,.ty "str"] st= .ok (.bl true) st:=rfl
theorem int_is:dU fW cT [.int i,.ty "int"] st= .ok (.bl true) st:=rfl
theorem QU:dU fW cT [.int i,.ty "bool"] st= .ok (.bl false) st:=rfl
theorem iq:dJ [.tup ws] st= .ok (.int ws.length) st:=rfl
variable{c:Nat}
theorem Ei(h:Sg c):cJ [.int (c:Nat)] st= .ok (.bl true) st:=by
 obtain⟨h1,h2,h3,h4⟩:=h;have n1:j' (.int (c:Nat)) (.int 34) st= .ok (.bl true) st:=by rw[ue];congr 2;simp;omega
 have n2:j' (.int (c:Nat)) (.int 37) st= .ok (.bl true) st:=by rw[ue];congr 2;simp;omega
 have l1:(32:Int)<=(c:Nat):=by omega
 have l2:((c:Nat):Int)<=126:=by omega
 unfold cJ aK gg;simp[-ue,l1,l2,n1,n2]
theorem Ym(h:aaY x)(st:Hs):∃st',dO [.str x] st= .ok (.bl true) st'/\Gr st st':=by
 have c:=Eh (cs:=[]) (gt:=cU) (ge:=bB) (ρ:=[some (.str x)]) (ws:=bo x) (st:=st) (λ_ _ _=>rfl) (λv hv s=>by unfold bo at hv;obtain⟨i,hi,rfl⟩:=List.mem_map.mp hv;have o:DU [.str ⟨#[i]⟩] s= .ok (.int (i:Nat)) s:=rfl;unfold bB;simp[o,Ei (h.2 i hi)]) (by have:=h.1;unfold bo lim;rw[iW];show x.cps.toList.length < _;rw[lD];exact B8 (h.1:x.cps.size<=40) (by decide));have q:=Mf (st:=st++[.lst (aR (bo x).length (.bl true))]) (l:=st.length) cz;have g1:Gr st (st++[.lst (aR (bo x).length (.bl true))]):=Gr.push;generalize st++[.lst (aR (bo x).length (.bl true))]=s1 at c q g1;have ht:a_ [.str x] st= .ok (.bl true) s1:=by unfold a_ aK dk;simp[c,q]
 have ln:dJ [.str x] st= .ok (.int x.length) st:=B3 (b5 h.1 (by decide));have VD:(x.length:Int)<=40:=by have:=h.1;omega
 refine⟨s1,?_,g1⟩;unfold dO aK gG;simp[str_is,ln,VD,ht]
theorem Nd(h:av st l=some ws):F8 (.ref l) st= .ok (!ws.isEmpty) st:=by unfold F8;simp only[h]
theorem Iq{zs:List Wv}(h:st[l]? =some (.lst ws))(hl:ws.length+zs.length<=lim):sW (.ref l) (.tup zs) st= .ok .cG (st.set l (.lst (ws++zs))):=by unfold sW;simp only[h];rw[if_pos hl]
def pl:Nat->Wv->Prop
 | 0,_=>False
 |n+1,w=>match w with
  |.int _=>True
  |.str x=>x.length<=1000
  |.tup ws=>ws.length<=300/\∀v∈ws,pl n v
  |_=>False
def rA:Wv->Bool
 |.int _=>true
 |_=>false
def uq:Wv->Bool
 |.int i=>i == 0||i == 1
 |_=>false
def rV(c:Nat):Bool:=decide (Sg c)
def mf(w:Wv)(m:Nat):Bool:=match w with
 |.tup ws=>decide (ws.length=m)&&ws.all rA
 |_=>false
def ur(w:Wv)(m:Nat):Bool:=match w with
 |.tup ws=>(decide (ws.length=m)&&ws.all rA)&&ws.all uq
 |_=>false
instance {a b:Int}:Decidable (ku a b):=by unfold ku;infer_instance
instance {a b c d:Int}:Decidable (Eg a b c d):=by unfold Eg;infer_instance
def A3:Wv->Bool
 |.tup [.int a,.int b]=>decide (ku a b)
 |_=>false
def Ir:Wv->Bool
 |.tup [.int a,.int b,.int c,.int d]=>decide (Eg a b c d)
 |_=>false
def Ej:Wv->Bool
 |.int i=>decide (0<=i)&&decide (i<=EI)
 |_=>false
def u7:Wv->Bool
 |.str x=>decide (x.length<=40)&&x.cps.toList.all rV
 |_=>false
def Yn(f:Wv->Bool):List Wv->Bool
 |[v]=>f v
 |_=>false
def VE(f:Wv->Wv->Bool):List Wv->Bool
 |[u,v]=>f u v
 |_=>false
theorem Iu{f:Wv->Bool}:∀{tl:List Wv},tl.length≠1->Yn f tl=false
 |[],_=>rfl
 |[_],h=>absurd rfl h
 |_::_::_,_=>rfl
theorem Iv{f:Wv->Wv->Bool}:∀{tl:List Wv},tl.length≠2->VE f tl=false
 |[],_=>rfl
 |[_],_=>rfl
 |[_,_],h=>absurd rfl h
 |_::_::_::_,_=>rfl
def tM(x:S)(tl:List Wv):Bool :=
 if x="num" then Yn Ej tl
 else if x="text" then Yn u7 tl
 else if x="at" then VE (λl p=>mf l 2&&(A3 l&&ur p 2)) tl
 else if x∈AF then VE (λl p=>mf l 4&&(Ir l&&ur p 4)) tl
 else tl.isEmpty
def eN:Wv->Bool
 |.tup (.str x::ws)=>(match aB.lookup x with
  |some (.int k)=>decide (k.toNat<=ws.length)&&tM x (ws.drop k.toNat)
  |_=>false)
 |_=>false
def jl:Wv->List Wv
 |.tup (.str x::ws)=>(match aB.lookup x with
  |some (.int k)=>ws.take k.toNat
  |_=>[])
 |_=>[]
theorem B9:∀bs:List Bool,jC (bs.map Wv.bl)=some bs
 |[]=>rfl
 |b::r=>by rw[iT];unfold jC;rw[B9 r]
theorem tN{bs:List Bool}(h:av st l=some (bs.map Wv.bl)):qR [.ref l] st= .ok (.bl (bs.all id)) st:=by
 show(match av st l with |some ws=>(match jC ws with |some bs=>Re.ok (Wv.bl (bs.all id)) st |none=> .bad) |none=> .bad)=_
 rw[h];dsimp only;rw[B9]
theorem rW(t:Wv->Bool)(h1:∀v∈ws,∀s,gt (some v::jU cs ρ) s= .ok true s)(h2:∀v∈ws,∀s,ge (some v::jU cs ρ) s= .ok (.bl (t v)) s)(hl:ws.length < lim):
  f7 cs gt ge ρ (none,ws) st= .ok (.ref st.length) (st++[.lst ((ws.map t).map Wv.bl)]):=by
 rw[pR (w:=(none,ws)) (t:=λ_=>true) (f:=λv=> .bl (t v)) trivial (λv hv acc=>h1 v hv _) (λv hv _ acc=>h2 v hv _) hl];have e:((ws.filter λ_=>true).map λv=>Wv.bl (t v))=(ws.map t).map Wv.bl:=by rw[List.filter_eq_self.mpr (λ_ _=>rfl),Iw];rfl
 show Re.ok _ (st++[.lst ((ws.filter λ_=>true).map λv=>Wv.bl (t v))])=_;rw[e]
theorem xb{t:Wv->Bool}:(ws.map t).all id=ws.all t:=by rw[wa];rfl
theorem Iy:dU fW cT [.int i,.ty "tuple"] st= .ok (.bl false) st:=rfl
theorem Iz:dU fW cT [.str x,.ty "tuple"] st= .ok (.bl false) st:=rfl
theorem IA:dU fW cT [.int i,.ty "str"] st= .ok (.bl false) st:=rfl
theorem IB:dU fW cT [.tup ws,.ty "str"] st= .ok (.bl false) st:=rfl
theorem QV:dU fW cT [.str x,.ty "int"] st= .ok (.bl false) st:=rfl
theorem QW:dU fW cT [.tup ws,.ty "int"] st= .ok (.bl false) st:=rfl
variable{v:Wv}
theorem IC(h:pl n v)(st:Hs):fM [v] st= .ok (.bl (rA v)) st:=by
 cases n with
 |zero=>exact aa h
 |succ n=>
  unfold fM aK nO;cases v with
  |int i=>simp[int_is,QU,rA]
  |str x=>simp[QV,rA]
  |tup ws=>simp[QW,rA]
  |_=>exact aa h
variable{a b:Nat}
theorem ID:oEq (.int (a:Nat)) (.int (b:Nat)) st= .ok (.bl (decide (a=b))) st:=by
 rw[qW]
 congr 2
 rw[hU];simp;omega
theorem VF(h:pl n v)(m:Nat)(st:Hs):∃st',aQ [v,.int (m:Nat)] st= .ok (.bl (mf v m)) st'/\Gr st st':=by
 cases n with
 |zero=>exact aa h
 |succ n=>
  cases v with
  |int i=>exact⟨st,by unfold aQ aK cP;simp[Iy,mf],Gr.refl⟩
  |str x=>exact⟨st,by unfold aQ aK cP;simp[Iz,mf],Gr.refl⟩
  |tup ws=>
   have hw:ws.length<=300:=h.1;have eq:=ID (a:=ws.length) (b:=m) (st:=st);by_cases c:ws.length=m
   ·rw[decide_eq_true c]at eq;have cp:=rW (cs:=[]) (gt:=iE) (ge:=fh) (ρ:=[some (.tup ws),some (.int (m:Nat))]) (ws:=ws) (st:=st) rA (λ_ _ _=>rfl) (λv hv s=>by unfold fh;simp[IC (h.2 v hv)]) (by unfold lim;omega);have al:=tN (st:=st++[.lst ((ws.map rA).map Wv.bl)]) (l:=st.length) (bs:=ws.map rA) cz;rw[xb]at al;have g1:Gr st (st++[.lst ((ws.map rA).map Wv.bl)]):=Gr.push;generalize st++[.lst ((ws.map rA).map Wv.bl)]=s1 at cp al g1;refine⟨s1,?_,g1⟩;have rb:mf (.tup ws) m=ws.all rA:=by show(decide (ws.length=m)&&ws.all rA)=_;rw[decide_eq_true c];rfl
    rw[rb];unfold aQ aK cP;simp[-qW,tup_is,iq,eq,cp,al]
   ·rw[decide_eq_false c]at eq;refine⟨st,?_,Gr.refl⟩;have rb:mf (.tup ws) m=false:=by show(decide (ws.length=m)&&ws.all rA)=_;rw[decide_eq_false c];rfl
    rw[rb];unfold aQ aK cP;simp[-qW,tup_is,iq,eq]
  |_=>exact aa h
theorem aa0(h:pl n v)(m:Nat)(st:Hs):∃st',cD [v,.int (m:Nat)] st= .ok (.bl (ur v m)) st'/\Gr st st':=by
 obtain⟨s1,e1,g1⟩:=VF h m st;cases n with
 |zero=>exact aa h
 |succ n=>
  cases v with
  |int i=>exact⟨s1,by unfold cD aK gH;simp[e1,mf,ur],g1⟩
  |str x=>exact⟨s1,by unfold cD aK gH;simp[e1,mf,ur],g1⟩
  |tup ws=>
   have hw:ws.length<=300:=h.1;cases c:mf (.tup ws) m with
   |false=>
    rw[c]at e1;have c':(decide (ws.length=m)&&ws.all rA)=false:=c;refine⟨s1,?_,g1⟩;have pb:ur (.tup ws) m=false:=by show((decide (ws.length=m)&&ws.all rA)&&ws.all uq)=false;rw[c'];rfl
    rw[pb];unfold cD aK gH;simp[e1]
   |true=>
    rw[c]at e1;have c':(decide (ws.length=m)&&ws.all rA)=true:=c;have ci:=(Bool.and_eq_true_iff.mp c').2;rw[nG]at ci;have cp:=rW (cs:=[]) (gt:=lV) (ge:=ja) (ρ:=[some (.tup ws),some (.int (m:Nat))]) (ws:=ws) (st:=s1) uq (λ_ _ _=>rfl) (λv hv s=>by
     have q:=ci v hv;cases v with
     |int i=>
      have e:fV (.int i) (.tup [.int 0,.int 1]) s= .ok (.bl (uq (.int i))) s:=by
       show Re.ok (Wv.bl (((0:Int) == i)||(((1:Int) == i)||false))) s=_
       congr 2
       show _=((i == 0)||(i == 1));rw[Fs,hU];simp;omega
      unfold ja;simp[e]
     |_=>cases q) (by unfold lim;omega)
    have al:=tN (st:=s1++[.lst ((ws.map uq).map Wv.bl)]) (l:=s1.length) (bs:=ws.map uq) cz;rw[xb]at al;have g2:Gr s1 (s1++[.lst ((ws.map uq).map Wv.bl)]):=Gr.push;generalize s1++[.lst ((ws.map uq).map Wv.bl)]=s2 at cp al g2;refine⟨s2,?_,g1.trans g2⟩;have pb:ur (.tup ws) m=ws.all uq:=by show((decide (ws.length=m)&&ws.all rA)&&ws.all uq)=_;rw[c'];rfl
    rw[pb];unfold cD aK gH;simp[e1,cp,al]
  |_=>exact aa h
theorem IE{a b:Int}:cZ [.tup [.int a,.int b]] st= .ok (.bl (decide (ku a b))) st:=by
 have a0:bH (.tup [.int a,.int b]) (.int 0) st= .ok (.int a) st:=jx rfl;have a1:bH (.tup [.int a,.int b]) (.int 1) st= .ok (.int b) st:=jx rfl;unfold cZ aK nQ ku;by_cases c1:0<=a
 ·by_cases c2:a < 99
  ·by_cases c3:0<=b
   ·by_cases c4:b < 26<;>simp[a0,a1,c1,c2,c3,c4]
   ·simp[a0,a1,c1,c2,c3]
  ·simp[a0,a1,c1,c2]
 ·simp[a0,a1,c1]
theorem Nf{a b c d:Int}:c7 [.tup [.int a,.int b,.int c,.int d]] st= .ok (.bl (decide ((a<=c/\b<=d)/\ku a b/\ku c d))) st:=by
 have x0:bH (.tup [.int a,.int b,.int c,.int d]) (.int 0) st= .ok (.int a) st:=jx rfl;have x1:bH (.tup [.int a,.int b,.int c,.int d]) (.int 1) st= .ok (.int b) st:=jx rfl;have x2:bH (.tup [.int a,.int b,.int c,.int d]) (.int 2) st= .ok (.int c) st:=jx rfl;have x3:bH (.tup [.int a,.int b,.int c,.int d]) (.int 3) st= .ok (.int d) st:=jx rfl;have s1:oH (.tup [.int a,.int b,.int c,.int d]) none (some 2) st= .ok (.tup [.int a,.int b]) st:=Md (by show ¬nD 4 none (some 2);decide+kernel) rfl;have s2:oH (.tup [.int a,.int b,.int c,.int d]) (some 2) none st= .ok (.tup [.int c,.int d]) st:=Md (by show ¬nD 4 (some 2) none;decide+kernel) rfl;unfold c7 aK j0;by_cases c1:a<=c
 ·by_cases c2:b<=d
  ·by_cases c3:ku a b<;>simp[x0,x1,x2,x3,c1,c2,s1,s2,IE,c3]
  ·simp[x0,x1,x2,x3,c1,c2]
 ·simp[x0,x2,c1]
theorem VG{a b c d:Int}:gI [.tup [.int a,.int b,.int c,.int d]] st= .ok (.bl (decide (Eg a b c d))) st:=by
 have x0:bH (.tup [.int a,.int b,.int c,.int d]) (.int 0) st= .ok (.int a) st:=jx rfl;have x1:bH (.tup [.int a,.int b,.int c,.int d]) (.int 1) st= .ok (.int b) st:=jx rfl;have x2:bH (.tup [.int a,.int b,.int c,.int d]) (.int 2) st= .ok (.int c) st:=jx rfl;have x3:bH (.tup [.int a,.int b,.int c,.int d]) (.int 3) st= .ok (.int d) st:=jx rfl;have cg:=Nf (a:=a) (b:=b) (c:=c) (d:=d) (st:=st);unfold gI aK pX;by_cases q:(a<=c/\b<=d)/\ku a b/\ku c d
 ·rw[decide_eq_true q]at cg;obtain⟨⟨q1,q2⟩,⟨h1,h2,h3,h4⟩,⟨h5,h6,h7,h8⟩⟩:=q;have m:di (.int (c - a+1)) (.int (d - b+1)) st= .ok (.int ((c - a+1) * (d - b+1))) st:=B2 (by omega) (by omega);have hm:ib [.tup [.int a,.int b,.int c,.int d]] st= .ok (.int ((c - a+1) * (d - b+1))) st:=by unfold ib aK lW;simp[x0,x1,x2,x3,m]
  have e:decide (Eg a b c d)=decide ((c - a+1) * (d - b+1)<=300):=decide_eq_decide.mpr ⟨λz=>z.2.2.2.2.2.2,λz=>⟨h1,q1,h6,h3,q2,h8,z⟩⟩;rw[e];simp[cg,hm]
 ·rw[decide_eq_false q]at cg;have e:decide (Eg a b c d)=false:=decide_eq_false λ⟨h1,h2,h3,h4,h5,h6,_⟩=>q ⟨⟨h2,h5⟩,⟨h1,by omega,h4,by omega⟩,⟨by omega,h3,by omega,h6⟩⟩;rw[e];simp[cg]
theorem signG:cJ [.int (c:Nat)] st= .ok (.bl (rV c)) st:=by
 unfold rV Sg;unfold cJ aK gg;have e1:decide ((32:Int)<=(c:Nat))=decide (32<=c):=decide_eq_decide.mpr (by omega);have e2:decide (((c:Nat):Int)<=126)=decide (c<=126):=decide_eq_decide.mpr (by omega);have n1:j' (.int (c:Nat)) (.int 34) st= .ok (.bl (decide (c≠34))) st:=by rw[ue];congr 2;rw[hU];simp;omega
 have n2:j' (.int (c:Nat)) (.int 37) st= .ok (.bl (decide (c≠37))) st:=by rw[ue];congr 2;rw[hU];simp;omega
 by_cases c1:32<=c
 ·have Tv:(32:Int)<=(c:Nat):=by omega
  by_cases c2:c<=126
  ·have VH:((c:Nat):Int)<=126:=by omega
   by_cases c3:c=34
   ·have t:decide (32<=c/\c<=126/\c≠34/\c≠37)=false:=decide_eq_false λz=>z.2.2.1 c3;rw[decide_eq_false (λz=>z c3)]at n1;rw[t];simp[-ue,Tv,VH,n1]
   ·rw[decide_eq_true c3]at n1;by_cases c4:c=37
    ·have t:decide (32<=c/\c<=126/\c≠34/\c≠37)=false:=decide_eq_false λz=>z.2.2.2 c4;rw[decide_eq_false (λz=>z c4)]at n2;rw[t];simp[-ue,Tv,VH,n1,n2]
    ·have t:decide (32<=c/\c<=126/\c≠34/\c≠37)=true:=decide_eq_true ⟨c1,c2,c3,c4⟩;rw[decide_eq_true c4]at n2;rw[t];simp[-ue,Tv,VH,n1,n2]
  ·have VH:¬((c:Nat):Int)<=126:=by omega
   have t:decide (32<=c/\c<=126/\c≠34/\c≠37)=false:=decide_eq_false λz=>c2 z.2.1;rw[t];simp[-ue,Tv,VH]
 ·have Tv:¬(32:Int)<=(c:Nat):=by omega
  have t:decide (32<=c/\c<=126/\c≠34/\c≠37)=false:=decide_eq_false λz=>c1 z.1;rw[t];simp[-ue,Tv]
theorem VI(h:pl n v)(st:Hs):∃st',dO [v] st= .ok (.bl (u7 v)) st'/\Gr st st':=by
 cases n with
 |zero=>exact aa h
 |succ n=>
  cases v with
  |int i=>exact⟨st,by unfold dO aK gG;simp[IA,u7],Gr.refl⟩
  |tup ws=>exact⟨st,by unfold dO aK gG;simp[IB,u7],Gr.refl⟩
  |str x=>
   have hx:x.length<=1000:=h;have ln:dJ [.str x] st= .ok (.int x.length) st:=B3 (by unfold lim;omega);by_cases c:x.length<=40
   ·have cp:=rW (cs:=[]) (gt:=cU) (ge:=bB) (ρ:=[some (.str x)]) (ws:=bo x) (st:=st) (λv=>match v with |.str z=>rV (z.cps.getD 0 0) |_=>false) (λ_ _ _=>rfl) (λv hv s=>by unfold bo at hv;obtain⟨i,hi,rfl⟩:=List.mem_map.mp hv;have o:DU [.str ⟨#[i]⟩] s= .ok (.int (i:Nat)) s:=rfl;unfold bB;simp[o,signG]) (by unfold bo lim;rw[iW];show x.cps.toList.length < _;rw[lD];exact B8 (c:x.cps.size<=40) (by decide))
    have al:=tN (st:=st++[.lst (((bo x).map (λv=>match v with |.str z=>rV (z.cps.getD 0 0) |_=>false)).map Wv.bl)]) (l:=st.length) cz
    rw[xb]at al;have ea:(bo x).all (λv=>match v with |.str z=>rV (z.cps.getD 0 0) |_=>false)=x.cps.toList.all rV:=by unfold bo;rw[wa];rfl
    rw[ea]at al;have g1:Gr st (st++[.lst (((bo x).map (λv=>match v with |.str z=>rV (z.cps.getD 0 0) |_=>false)).map Wv.bl)]):=Gr.push
    generalize st++[.lst (((bo x).map (λv=>match v with |.str z=>rV (z.cps.getD 0 0) |_=>false)).map Wv.bl)]=s1 at cp al g1
    have ht:a_ [.str x] st= .ok (.bl (x.cps.toList.all rV)) s1:=by unfold a_ aK dk;simp[cp,al]
    have VD:(x.length:Int)<=40:=by omega
    refine⟨s1,?_,g1⟩;have tb:u7 (.str x)=x.cps.toList.all rV:=by show(decide (x.length<=40)&&_)=_;rw[decide_eq_true c];rfl
    rw[tb];unfold dO aK gG;simp[str_is,ln,VD,ht]
   ·have VD:¬(x.length:Int)<=40:=by omega
    have tb:u7 (.str x)=false:=by show(decide (x.length<=40)&&_)=_;rw[decide_eq_false c];rfl
    refine⟨st,?_,Gr.refl⟩;rw[tb];unfold dO aK gG;simp[str_is,ln,VD]
  |_=>exact aa h
theorem u9{α:Type}:∀{l:List (S×α)}{x:S}{a:α},l.lookup x=some a->(x,a)∈l
 |[],_,_,h=>by cases h
 |(y,b)::r,x,a,h=>by
  rw[f6]at h;cases e:x == y with
  |true=>rw[e]at h;cases h;rw[eq_of_beq e];exact dg
  |false=>rw[e]at h;exact b8 _ (u9 h)
theorem counts{w:Wv}(h:aB.lookup x=some w):∃k:Nat,w= .int (k:Nat)/\k<=3:=by
 have m:=u9 h;have q:∀p∈aB,∃k:Nat,p.2=Wv.int (k:Nat)/\k<=3:=by intro p hp;simp only[aB,List.mem_cons,List.not_mem_nil,or_false]at hp;rcases hp with rfl |rfl |rfl |rfl |rfl |rfl |rfl |rfl |rfl |rfl |rfl |rfl |rfl |rfl |rfl |rfl |rfl |rfl |rfl |rfl |rfl<;>first |exact⟨0,rfl,by decide⟩ |exact⟨1,rfl,by decide⟩ |exact⟨2,rfl,by decide⟩ |exact⟨3,rfl,by decide⟩
 exact q _ m
variable{k:Nat}
theorem IF:¬nD (n+1) (some (1+(k:Nat))) hi:=by
 intro h;have h1:HT.eu (n+1) 0 (some (1+(k:Nat)))=0:=h.1;have e:(1+(k:Nat):Int)=((k+1:Nat):Int):=by omega
 rw[e,HT.rK]at h1;omega
theorem QX:oB (y::ws) (some 1) (some (1+(k:Nat)))=ws.take k:=by
 have e:(1+(k:Nat):Int)=((k+1:Nat):Int):=by omega
 have e1:(1:Int)=((1:Nat):Int):=rfl;unfold oB;rw[e,e1,HT.rK,HT.rK,iV];have m1:min 1 (ws.length+1)=1:=by omega
 rw[m1];show ws.take (min (k+1) (ws.length+1) - 1)=_;have m2:min (k+1) (ws.length+1) - 1=min k ws.length:=by omega
 rw[m2];by_cases c:k<=ws.length
 ·rw[Nat.min_eq_left c]
 ·rw[Nat.min_eq_right (by omega),B_ (aA _),B_ (by omega)]
theorem QY:oB (y::ws) (some (1+(k:Nat))) none=ws.drop k:=by
 have e:(1+(k:Nat):Int)=((k+1:Nat):Int):=by omega
 unfold oB;rw[e,HT.rK,HT.Fn,iV];by_cases c:k<=ws.length
 ·have m1:min (k+1) (ws.length+1)=k+1:=by omega
  rw[m1,List.drop_succ_cons,B_ (by rw[pE];omega)]
 ·have m1:min (k+1) (ws.length+1)=ws.length+1:=by omega
  rw[m1,List.drop_succ_cons,IG (aA _),IG (by omega),List.take_nil]
theorem IH(h:aB.lookup x=some (.int (k:Nat)))(st:Hs):dG [.tup (.str x::ws)] st= .ok (.tup (ws.take k)) st:=by have n1:¬nD (ws.length+1) (some 1) (some (1+(k:Nat))):=IF (k:=0);exact Ip h n1 QX st
theorem QZ(h:aB.lookup x=some (.int (k:Nat)))(st:Hs):iR [.tup (.str x::ws)] st= .ok (.tup (ws.drop k)) st:=Me h IF QY st
theorem len_eq:oEq (.int (ws.length:Nat)) (.int (n:Nat)) st= .ok (.bl (decide (ws.length=n))) st:=ID
theorem II{tl:List Wv}(hp:∀v∈tl,pl n v)(st:Hs):∃st',bO [.str x,.tup tl] st= .ok (.bl (tM x tl)) st'/\Gr st st':=by
 have l1:=len_eq (ws:=tl) (n:=1) (st:=st);have l2:=len_eq (ws:=tl) (n:=2) (st:=st);have l0:=len_eq (ws:=tl) (n:=0) (st:=st);have Ng:oEq (.int (tl.length:Nat)) (.int 1) st= .ok (.bl (decide (tl.length=1))) st:=l1;have l2':oEq (.int (tl.length:Nat)) (.int 2) st= .ok (.bl (decide (tl.length=2))) st:=l2;have l0':oEq (.int (tl.length:Nat)) (.int 0) st= .ok (.bl (decide (tl.length=0))) st:=l0;unfold tM;have no1:∀{tl:List Wv},tl.length≠1->oEq (.int (tl.length:Nat)) (.int 1) st= .ok (.bl false) st:=λ{tl} h=>by have:=len_eq (ws:=tl) (n:=1) (st:=st);rw[decide_eq_false h]at this;exact this
 by_cases c1:x="num"
 ·subst c1;rw[if_pos rfl];by_cases cl:tl.length=1
  ·match tl,cl,hp with
   |[v],_,hp=>
    refine⟨st,?_,Gr.refl⟩;have w:=IC (hp v (by simp)) st;show bO [.str "num",.tup [v]] st= .ok (.bl (Ej v)) st;cases v with
    |int i=>
     by_cases q0:0<=i
     ·by_cases q1:i<=EI
      ·unfold bO aK cA;simp[iq,qG,w,rA,p60,q0,q1,Ej]
      ·unfold bO aK cA;simp[iq,qG,w,rA,p60,q0,q1,Ej]
     ·unfold bO aK cA;simp[iq,qG,w,rA,q0,Ej]
    |_=>unfold bO aK cA;simp[iq,qG,w,rA,Ej]
  ·have b:=no1 cl;rw[Iu cl];refine⟨st,?_,Gr.refl⟩;unfold bO aK cA;simp[-qW,iq,b]
 rw[if_neg c1];have b1:(x == ("num":S))=false:=beq_false_of_ne c1;by_cases c2:x="text"
 ·subst c2;rw[if_pos rfl];by_cases cl:tl.length=1
  ·match tl,cl,hp with
   |[v],_,hp=>obtain⟨s1,e1,g1⟩:=VI (hp v (by simp)) st;exact⟨s1,by unfold bO aK cA;simp[b1,iq,qG,e1,Yn],g1⟩
  ·have b:=no1 cl;rw[Iu cl];refine⟨st,?_,Gr.refl⟩;unfold bO aK cA;simp[-qW,b1,iq,b]
 rw[if_neg c2];have b2:(x == ("text":S))=false:=beq_false_of_ne c2
 -- two things: a row of m numbers,and its pins
 have two:∀(m:Nat)(fP:List Wv->Hs->Re Wv)(tB:Wv->Bool),m<=4->(∀v (s:Hs),pl n v->mf v m=true->fP [v] s= .ok (.bl (tB v)) s)->∀u v,pl n u->pl n v->∃st',bZ (az 2 aQ (ae (aj bH (af 1) (gC (.int 0))) (ae (gC (.int (m:Nat))) ag))) (bZ (az 1 fP (ae (aj bH (af 1) (gC (.int 0))) ag)) (az 2 cD (ae (aj bH (af 1) (gC (.int 1))) (ae (gC (.int (m:Nat))) ag)))) [some (.str x),some (.tup [u,v])] st= .ok (.bl (mf u m&&(tB u&&ur v m))) st'/\Gr st st':=by
  intro m fP tB hm hf u v hu hv;obtain⟨s1,e1,g1⟩:=VF hu m st;cases r:mf u m with
  |false=>rw[r]at e1;exact⟨s1,by simp[qG,e1],g1⟩
  |true=>
   rw[r]at e1;have e2:=hf u s1 hu r;cases t:tB u with
   |false=>rw[t]at e2;exact⟨s1,by simp[qG,e1,e2],g1⟩
   |true=>rw[t]at e2;obtain⟨s3,e3,g3⟩:=aa0 hv m s1;exact⟨s3,by simp[qG,Io,e1,e2,e3],g1.trans g3⟩
 have no2:∀{tl:List Wv},tl.length≠2->oEq (.int (tl.length:Nat)) (.int 2) st= .ok (.bl false) st:=λ{tl} h=>by have:=len_eq (ws:=tl) (n:=2) (st:=st);rw[decide_eq_false h]at this;exact this
 have one:∀{w:Wv},rA w=true->∃i,w= .int i:=λ{w} h=>by cases w<;>first |exact⟨_,rfl⟩ |cases h
 have VJ:∀v,mf v 2=true->∃a b,v= .tup [.int a,.int b]:=by
  intro v hv;cases v with
  |tup ws=>
   obtain⟨h1,h2⟩:=Bool.and_eq_true_iff.mp (show(decide (ws.length=2)&&ws.all rA)=true from hv)
   match ws,of_decide_eq_true h1,h2 with
   |[u,v],_,h2=>simp only[cC,List.all_nil,Bool.and_true,VL]at h2;obtain⟨a,rfl⟩:=one h2.1;obtain⟨b,rfl⟩:=one h2.2;exact⟨a,b,rfl⟩
  |_=>cases hv
 have VM:∀v,mf v 4=true->∃a b c d,v= .tup [.int a,.int b,.int c,.int d]:=by
  intro v hv;cases v with
  |tup ws=>
   obtain⟨h1,h2⟩:=Bool.and_eq_true_iff.mp (show(decide (ws.length=4)&&ws.all rA)=true from hv)
   match ws,of_decide_eq_true h1,h2 with
   |[u,v,w,z],_,h2=>simp only[cC,List.all_nil,Bool.and_true,VL]at h2;obtain⟨a,rfl⟩:=one h2.1;obtain⟨b,rfl⟩:=one h2.2.1;obtain⟨c,rfl⟩:=one h2.2.2.1;obtain⟨d,rfl⟩:=one h2.2.2.2;exact⟨a,b,c,d,rfl⟩
  |_=>cases hv
 by_cases c3:x="at"
 ·subst c3;rw[if_pos rfl];by_cases cl:tl.length=2
  ·match tl,cl,hp with
   |[u,v],_,hp=>
    obtain⟨s1,e1,g1⟩:=two 2 cZ A3 (by decide) (λv s _ hr=>by obtain⟨a,b,rfl⟩:=VJ v hr;exact IE) u v (hp u (by simp)) (hp v (by simp));refine⟨s1,?_,g1⟩;have uR:bZ (az 2 aQ (ae (aj bH (af 1) (gC (.int 0))) (ae (gC (.int 2)) ag))) (bZ (az 1 cZ (ae (aj bH (af 1) (gC (.int 0))) ag)) (az 2 cD (ae (aj bH (af 1) (gC (.int 1))) (ae (gC (.int 2)) ag)))) [some (.str "at"),some (.tup [u,v])] st= .ok (.bl (mf u 2&&(A3 u&&ur v 2))) s1:=e1;have lq:aj oEq (aI dJ (ae (af 1) ag)) (gC (.int 2)) [some (.str "at"),some (.tup [u,v])] st= .ok (.bl true) st:=by simp[iq]
    have an:∀G:GE,bZ (aj oEq (aI dJ (ae (af 1) ag)) (gC (.int 2))) G [some (.str "at"),some (.tup [u,v])] st=G [some (.str "at"),some (.tup [u,v])] st:=λG=>by rw[wD,lq];rfl
    unfold bO aK cA;simp[-wD,b1,b2,an,uR,VE]
  ·have b:=no2 cl;rw[Iv cl];refine⟨st,?_,Gr.refl⟩;unfold bO aK cA;simp[-qW,b1,b2,iq,b]
 rw[if_neg c3];have b3:(x == ("at":S))=false:=beq_false_of_ne c3;by_cases c4:x∈AF
 ·rw[if_pos c4];by_cases cl:tl.length=2
  ·match tl,cl,hp with
   |[u,v],_,hp=>
    obtain⟨s1,e1,g1⟩:=two 4 gI Ir (by decide) (λv s _ hr=>by obtain⟨a,b,c,d,rfl⟩:=VM v hr;exact VG) u v (hp u (by simp)) (hp v (by simp));refine⟨s1,?_,g1⟩;have uR:bZ (az 2 aQ (ae (aj bH (af 1) (gC (.int 0))) (ae (gC (.int 4)) ag))) (bZ (az 1 gI (ae (aj bH (af 1) (gC (.int 0))) ag)) (az 2 cD (ae (aj bH (af 1) (gC (.int 1))) (ae (gC (.int 4)) ag)))) [some (.str x),some (.tup [u,v])] st= .ok (.bl (mf u 4&&(Ir u&&ur v 4))) s1:=e1;have lq:aj oEq (aI dJ (ae (af 1) ag)) (gC (.int 2)) [some (.str x),some (.tup [u,v])] st= .ok (.bl true) st:=by simp[iq]
    have an:∀G:GE,bZ (aj oEq (aI dJ (ae (af 1) ag)) (gC (.int 2))) G [some (.str x),some (.tup [u,v])] st=G [some (.str x),some (.tup [u,v])] st:=λG=>by rw[wD,lq];rfl
    unfold bO aK cA;simp[-wD,b1,b2,b3,pe,c4,an,uR,VE]
  ·have b:=no2 cl;rw[Iv cl];refine⟨st,?_,Gr.refl⟩;unfold bO aK cA;simp[-qW,b1,b2,b3,pe,c4,iq,b]
 ·rw[if_neg c4];refine⟨st,?_,Gr.refl⟩;have hm:tl.isEmpty=decide (tl.length=0):=by cases tl<;>simp
  rw[hm];unfold bO aK cA;simp[-qW,b1,b2,b3,pe,c4,iq,l0']
theorem IJ(lk:aB.lookup x=some (.int (k:Nat))):eN (.tup (.str x::ws))=(decide (k<=ws.length)&&tM x (ws.drop k)):=by
 show(match aB.lookup x with |some (.int k)=>(decide (k.toNat<=ws.length)&&tM x (ws.drop k.toNat)) |_=>false)=_
 rw[lk];rfl
theorem tO(lk:aB.lookup x=some (.int (k:Nat))):jl (.tup (.str x::ws))=ws.take k:=by
 show(match aB.lookup x with |some (.int k)=>ws.take k.toNat |_=>[])=_
 rw[lk];rfl
theorem Q0{w:Wv}(h:pl (n+1) w)(st:Hs):∃st',cE [w] st= .ok (.bl (eN w)) st'/\Gr st st':=by
 cases w with
 |int i=>exact⟨st,by unfold cE aK c9;simp[Iy,eN],Gr.refl⟩
 |str x=>exact⟨st,by unfold cE aK c9;simp[Iz,eN],Gr.refl⟩
 |tup us=>
  cases us with
  |nil=>exact⟨st,by unfold cE aK c9;simp[tup_is,iq,eN],Gr.refl⟩
  |cons u ws=>
   obtain⟨m,l0,b0⟩:∃m:Int,(∀st:Hs,dJ [.tup (u::ws)] st= .ok (.int m) st)/\(m == 0)=false:=⟨((ws.length+1:Nat):Int),λ_=>rfl,beq_false_of_ne (by omega)⟩;have hu:pl n u:=h.2 u dg;have hws:∀v∈ws,pl n v:=λv hv=>h.2 v (b8 _ hv);have w0:∀st:Hs,bH (.tup (u::ws)) (.int 0) st= .ok u st:=λ_=>qG;cases n with
   |zero=>exact aa hu
   |succ n=>
    cases u with
    |int i=>exact⟨st,by unfold cE aK c9;simp[tup_is,l0,b0,w0,IA,eN],Gr.refl⟩
    |tup vs=>exact⟨st,by unfold cE aK c9;simp[tup_is,l0,b0,w0,IB,eN],Gr.refl⟩
    |str x=>
     cases lk:aB.lookup x with
     |none=>
      have pb:eN (.tup (.str x::ws))=false:=by
       show(match aB.lookup x with |some (.int k)=>(decide (k.toNat<=ws.length)&&tM x (ws.drop k.toNat)) |_=>false)=false
       rw[lk]
      rw[pb];exact⟨st,by unfold cE aK c9;simp[tup_is,l0,b0,w0,str_is,lk],Gr.refl⟩
     |some v=>
      obtain⟨k,rfl,hk⟩:=counts lk;have pb:=IJ (ws:=ws) lk;have pm:=mP (st:=st) lk;have p1:=IH (ws:=ws) lk st;have t1:=QZ (ws:=ws) lk st;obtain⟨s1,e1,g1⟩:=II (x:=x) (tl:=ws.drop k) (λv hv=>hws v (P7 hv)) st;have eq:oEq (.int ((ws.take k).length:Nat)) (.int (k:Nat)) st= .ok (.bl (decide (k<=ws.length))) st:=by
       rw[ID]
       congr 2
       refine decide_eq_decide.mpr ?_;rw[lF];omega
      rw[pb];cases c:decide (k<=ws.length)with
      |false=>rw[c]at eq;exact⟨st,by unfold cE aK c9;simp[-qW,-lF,tup_is,l0,qW (j:=0),b0,w0,str_is,lk,p1,iq,pm,eq],Gr.refl⟩
      |true=>rw[c]at eq;exact⟨s1,by unfold cE aK c9;simp[-qW,-lF,tup_is,l0,qW (j:=0),b0,w0,str_is,lk,p1,iq,pm,eq,t1,e1],g1⟩
    |_=>exact aa hu
 |_=>exact aa h
theorem qm{w:Wv}(h:eN w=true):∃x ws,∃k:Nat,w= .tup (.str x::ws)/\aB.lookup x=some (.int (k:Nat))/\k<=3:=by
 cases w with
 |tup us=>
  cases us with
  |nil=>cases h
  |cons u ws=>
   cases u with
   |str x=>
    cases lk:aB.lookup x with
    |none=>
     have h':(match aB.lookup x with |some (.int k)=>(decide (k.toNat<=ws.length)&&tM x (ws.drop k.toNat)) |_=>false)=true:=h
     rw[lk]at h';cases h'
    |some v=>obtain⟨k,rfl,hk⟩:=counts lk;exact⟨x,ws,k,rfl,lk,hk⟩
   |_=>cases h
 |_=>cases h
def pf(ws:List Wv):List Wv:=ws.flatMap jl
theorem IK{w:Wv}(h:pl (n+1) w)(hp:eN w=true):∀v∈jl w,pl n v:=by obtain⟨x,ws,k,rfl,lk,_⟩:=qm hp;intro v hv;rw[tO lk]at hv;exact h.2 v (b8 _ (P8 hv))
theorem u_{w:Wv}(hp:eN w=true):(jl w).length<=3:=by obtain⟨x,ws,k,rfl,lk,hk⟩:=qm hp;rw[tO lk,lF];omega
theorem y9:∀{ws:List Wv},(∀w∈ws,eN w=true)->(pf ws).length<=3 * ws.length
 |[],_=>aA _
 |w::r,h=>by have h1:=u_ (h w dg);have h2:=y9 λv hv=>h v (b8 _ hv);have e:pf (w::r)=jl w++pf r:=rfl;rw[e,kI,iV];omega
theorem qH{L A:Nat}{all:List Wv}(hne:L≠A):∀(ws acc:List Wv)(o2:Option Wv)(st:Hs),(∀w∈ws,eN w=true)->st[A]? =some (.lst acc)->av st L=some all->acc.length+3 * ws.length<=1000->
  ∃o2' st',forL 2 dj L all ws [some (.ref L),some (.ref A),o2] st= .nx [some (.ref L),some (.ref A),o2'] st'/\bE A st st'/\st'[A]? =some (.lst (acc++pf ws))
 |[],acc,o2,st,_,hA,_,_=>⟨o2,st,rfl,bE.refl,by simpa [pf]using hA⟩
 |w::r,acc,o2,st,ho,hA,hL,hl=>by
  have hl':acc.length+3 * (r.length+1)<=1000:=hl;have k3:=u_ (ho w dg);have pw:∀st:Hs,dG [w] st= .ok (.tup (jl w)) st:=λst=>by obtain⟨x,ws,k,rfl,lk,_⟩:=qm (ho w dg);rw[tO lk];exact IH lk st
  have ex:=Iq (zs:=jl w) hA (by unfold lim;omega);have kk:bE A st (st.set A (.lst (acc++jl w))):=bE.set;have hA2:=iJ (o':=.lst (acc++jl w)) hA;have hL2:=kk.lst hL hne;generalize st.set A (.lst (acc++jl w))=s1 at ex kk hA2 hL2;have e1:dj ([some (.ref L),some (.ref A),o2].set 2 (some w)) st= .nx [some (.ref L),some (.ref A),some w] s1:=by have km:=λga=>oN (mt:=sW) (ga:=ga) (ρ:=[some (.ref L),some (.ref A),some w]) (bT hA);unfold dj;simp[km,pw,ex]
  obtain⟨o2',s2,e2,k2,h2⟩:=qH hne r (acc++jl w) (some w) s1 (λg hg=>ho g (b8 _ hg)) hA2 hL2 (by rw[kI];omega);refine⟨o2',s2,?_,kk.trans k2,by rw[h2];simp[pf]⟩;unfold forL;rw[e1];simp only[if_pos hL2];exact e2
theorem Q1{L:Nat}(ho:∀w∈ws,eN w=true)(hl:ws.length<=300)(h:st[L]? =some (.lst ws)):
  ∃st',fu [.ref L] st= .ok (.ref st.length) st'/\Gr st st'/\st'[st.length]? =some (.lst (pf ws)):=by
 have hL:L < st.length:=kO h;have h1:av (st++[.lst []]) L=some ws:=bT (ft h);obtain⟨o2,s1,e1,k1,g1⟩:=qH (L:=L) (A:=st.length) (all:=ws) (by omega) ws [] none (st++[.lst []]) ho eh h1 (by simp;omega);have uR:kFor 2 dj [some (.ref L),some (.ref st.length),none] (.ref L) (st++[.lst []])= .nx [some (.ref L),some (.ref st.length),o2] s1:=by rw[wJ h1];exact e1
 refine⟨s1,?_,Gr.lR (aA _) Gr.push k1,by simpa using g1⟩;unfold fu aK jY;simp[uR]
theorem Ek(t:Wv->Bool)(h0:av st k=some ws)(h1:∀v∈ws,∀s,gt (some v::jU cs ρ) s= .ok true s)
  (h2:∀v∈ws,∀s,∃s',ge (some v::jU cs ρ) s= .ok (.bl (t v)) s'/\Gr s s')(hl:ws.length < lim):∃st',f7 cs gt ge ρ (some k,ws) st= .ok (.ref st.length) st'/\Gr st st'/\av st' st.length=some ((ws.map t).map Wv.bl):=by
 obtain⟨st',us,e,p,g,hu,hE⟩:=u6 (w:=(some k,ws)) (gt:=λv=>gt (some v::jU cs ρ)) (ge:=λv=>ge (some v::jU cs ρ)) (rr:=st.length) (λv:Wv=>v) (λs=>Gr st s) (λv u=>u= .bl (t v))
  (λs acc h=>Gr.lR (aA _) h bE.set) (λs h=>h.lst h0) ws (λv hv s acc hp hg=>by obtain⟨s',e',g'⟩:=h2 v hv s;exact⟨s,h1 v hv s,hp,hg,_,s',e',rfl,hp.trans g',g'.get hg⟩) [] (st++[.lst []]) Gr.push eh (by simpa using hl)
 rw[List.map_id']at e;have Zi:us=(ws.map t).map Wv.bl:=by refine List.ext_getElem (by simp[hu]) λj h1 h2=>?_;rw[hE j (by rw[<-hu];exact h1) h1];simp
 subst Zi;refine⟨st',?_,p,?_⟩
 ·unfold f7;dsimp only;rw[e]
 ·rw[bT g];simp
def EJ:PySem.Str:="abcdefghijklmnopqrstuvwxyz"
def IL(c:Nat):Bool:=!(fY EJ ⟨#[c]⟩ 0 EJ.length 1).isEmpty
def rX(c:Nat):Bool:=!(fY ("0123456789":PySem.Str) ⟨#[c]⟩ 0 ("0123456789":PySem.Str).length 1).isEmpty
theorem Mg(c:Nat):rX c=true↔48<=c/\c<=57:=by
 unfold rX;rw[Mh];have e:("0123456789":PySem.Str).cps.toList=[48,49,50,51,52,53,54,55,56,57]:=by decide+kernel
 constructor
 ·rintro⟨i,h⟩;have q:=(B' _ c i).mp h;rw[e]at q;have m:=sj q;simp at m;omega
 ·intro h;refine⟨c - 48,(B' _ c _).mpr ?_⟩;rw[e];obtain⟨d,rfl⟩:∃d,c=48+d:=⟨c - 48,by omega⟩;have hd:d < 10:=by omega
  have e2:48+d - 48=d:=by omega
  rw[e2];revert h;clear e2;revert d;decide
theorem ixS{r:List Nat}(h:r.length < 1000):bH (.str ⟨(a::r).toArray⟩) (.int 0) st= .ok (.str ⟨#[a]⟩) st:=by
 have hz:(⟨(a::r).toArray⟩:PySem.Str).length<=lim:=by show(a::r).toArray.size<=lim;simp;unfold lim;omega
 show(if(⟨(a::r).toArray⟩:PySem.Str).length<=lim then(match L2.qN (a::r).toArray.toList 0 with |some c=>Re.ok (Wv.str ⟨#[c]⟩) st |none=> .bad)else .bad)=_
 rw[if_pos hz];have e:L2.qN (a::r).toArray.toList 0=some a:=by simpa using VA (a:=a) (r:=r)
 rw[e]
def Q2(fs:List Nat):Bool:=decide (fs.headD 0≠48)&&fs.all rX
theorem A4{r:List Nat}(h:r.length < 100):∃st',dM [.str ⟨(b::r).toArray⟩] st= .ok (.bl (Q2 (b::r))) st'/\Gr st st':=by
 have i0:=ixS (a:=b) (r:=r) (st:=st) (by omega);have en:j' (.str ⟨#[b]⟩) (.str "0") st= .ok (.bl (decide (b≠48))) st:=by
  have e0:("0":PySem.Str)=⟨#[48]⟩:=by decide+kernel
  rw[e0,Ia];by_cases c:b=48
  ·subst c;rfl
  ·have:((⟨#[b]⟩:PySem.Str) == ⟨#[48]⟩)=false:=by apply beq_false_of_ne;intro z;have:=congrArg (λs:PySem.Str=>s.cps.toList) z;simp at this;exact c this
   rw[this];simp[c]
 have cr:∀ρ,f7 [] iF fi ρ (none,bo ⟨(b::r).toArray⟩) st= .ok (.ref st.length) (st++[.lst ((b::r).map λc=>Wv.bl (rX c))]):=by
  intro ρ;rw[pR (w:=(none,bo ⟨(b::r).toArray⟩)) (t:=λ_=>true) (f:=λv=>match v with |.str z=> .bl (rX (z.cps.toList.headD 0)) |v=>v) trivial]
  ·have ef:((bo ⟨(b::r).toArray⟩).filter λ_=>true)=bo ⟨(b::r).toArray⟩:=List.filter_eq_self.mpr λ_ _=>rfl;show Re.ok _ (st++[Ob.lst (List.map _ ((bo ⟨(b::r).toArray⟩).filter λ_=>true))])=_;rw[ef];unfold bo;rw[Iw];rfl
  ·intro v hv acc;rfl
  ·intro v hv _ acc;unfold bo at hv;obtain⟨c,_,rfl⟩:=List.mem_map.mp hv;unfold fi;simp;rfl
  ·unfold bo;simp;unfold lim;omega
 unfold dM aK iz Q2;by_cases c:b=48
 ·refine⟨st,?_,Gr.refl⟩;subst c;have en':j' (.str ⟨#[48]⟩) (.str "0") st= .ok (.bl false) st:=by rw[en];simp
  simp[i0,en']
 ·refine⟨st++[.lst ((b::r).map λc=>Wv.bl (rX c))],?_,Gr.push⟩;have en':j' (.str ⟨#[b]⟩) (.str "0") st= .ok (.bl true) st:=by rw[en];simp[c]
  have bls:∀l:List Nat,jC (l.map λc=>Wv.bl (rX c))=some (l.map rX):=by
   intro l
   induction l with
   |nil=>rfl
   |cons a t ih=>rw[iT];unfold jC;rw[ih];rfl
  have al:qR [.ref st.length] (st++[.lst ((b::r).map λc=>Wv.bl (rX c))])= .ok (.bl ((b::r).all rX)) (st++[.lst ((b::r).map λc=>Wv.bl (rX c))]):=by
   unfold qR;simp only[cz,bls]
   congr 2
   simp[wa]
  have sq:sR (.str ⟨(b::r).toArray⟩) st= .ok (none,bo ⟨(b::r).toArray⟩) st:=rfl;simp only[iT]at al cr;simp[i0,en',sq,cr,al,c]
def nm(cs:List Nat):Bool:=decide (cs.length=2\/cs.length=3)&&IL (cs.headD 0)&&Q2 cs.tail
theorem IM{r:List Nat}:aY ⟨(a::r).toArray⟩ (some 1) none=⟨r.toArray⟩:=by
 have q:=PyProof.Rows.slice_closes_fromL (x:=⟨(a::r).toArray⟩) (i:=1) (b:=(⟨(a::r).toArray⟩:PySem.Str).length) (by decide) (by show(1:Int)<=(((a::r).toArray.size:Nat):Int);simp;omega) rfl;rw[eq_of_beq q];have e:((((⟨(a::r).toArray⟩:PySem.Str).length:Nat):Int) - 1).toNat=r.length:=by show((((a::r).toArray.size:Nat):Int) - 1).toNat=_;simp
 rw[e];simp
variable{cs:List Nat}
theorem Q3(h:cs.length < 1000):dJ [.str ⟨cs.toArray⟩] st= .ok (.int cs.length) st:=by
 have e:(⟨cs.toArray⟩:PySem.Str).length=cs.length:=by show cs.toArray.size=_;simp
 have:=B3 (z:=⟨cs.toArray⟩) (st:=st) (by rw[e];unfold lim;omega)
 rwa [e]at this
theorem iO{z:PySem.Str}{lo:Option Int}(h:z.length<=lim):oH (.str z) lo hi st= .ok (.str (aY z lo hi)) st:=by show(if z.length<=lim then Re.ok (Wv.str (aY z lo hi)) st else .bad)=_;rw[if_pos h]
theorem IP(h:cs.length < 1000):(⟨cs.toArray⟩:PySem.Str).length<=lim:=by show cs.toArray.size<=lim;simp;unfold lim;omega
theorem Ca(h:cs.length < 100):∃st',kr [.str ⟨cs.toArray⟩] st= .ok (.bl (nm cs)) st'/\Gr st st':=by
 have ln:=Q3 (cs:=cs) (st:=st) (by omega);have Tw:fV (.int cs.length) (.tup [.int 2,.int 3]) st= .ok (.bl (decide (cs.length=2\/cs.length=3))) st:=by
  show Re.ok (Wv.bl ([Wv.int 2,.int 3].any λz=>Dm z (.int cs.length))) st=_
  congr 2
  show(((2:Int) == cs.length)||(((3:Int) == cs.length)||false))=_;rw[Fs,hU];simp;omega
 generalize hcl:(cs.length:Int)=cl at ln Tw;unfold kr aK qc nm;by_cases c:cs.length=2\/cs.length=3
 ·match cs,c with
  |[],c=>simp at c
  |a::r,c=>
   have i0:=ixS (a:=a) (r:=r) (st:=st) (by have:=h;simp at this;omega);have il:fV (.str ⟨#[a]⟩) (.str EJ) st= .ok (.bl (IL a)) st:=rfl;have sl:=iO (z:=⟨(a::r).toArray⟩) (lo:=some 1) (hi:=none) (st:=st) (IP (by omega));rw[IM]at sl;have Yo:fV (.str ⟨#[a]⟩) (.str "abcdefghijklmnopqrstuvwxyz") st= .ok (.bl (IL a)) st:=il;cases r with
   |nil=>simp at c
   |cons b r'=>
    obtain⟨st',er,g⟩:=A4 (b:=b) (r:=r') (st:=st) (by simp at h;omega);rw[decide_eq_true c]at Tw ⊢;cases hl:IL a with
    |false=>rw[hl]at Yo;refine⟨st,?_,Gr.refl⟩;simp[ln,Tw,i0,Yo,hl]
    |true=>rw[hl]at Yo;refine⟨st',?_,g⟩;simp[ln,Tw,i0,Yo,sl,er,hl]
 ·rw[decide_eq_false c]at Tw ⊢;exact⟨st,by simp[ln,Tw],Gr.refl⟩
theorem Mi(h:nm cs=false)(hl:cs.length < 100):∃st',cV [.str ⟨cs.toArray⟩] st= .err "BadText" st'/\Gr st st':=by obtain⟨st',en,g⟩:=Ca (cs:=cs) (st:=st) hl;rw[h]at en;refine⟨st',?_,g⟩;unfold cV aK iM;simp[en,lim]
def tx(L:List Nat):S:=⟨L.toArray⟩
theorem j7(L:List Nat):(tx L).length=L.length:=by show L.toArray.size=_;simp
theorem A5(z:S):tx z.cps.toList=z:=rfl
theorem mQ(L:List Nat):(tx L).cps.toList=L:=rfl
inductive Rr(α:Type)
 |ok (a:α)
 |no
 |un
variable{α:Type}
def uu(r:Rr α)(t:α->Wv)(x:Re Wv)(st:Hs):Prop:=match r with
 |.ok a=>∃st',x= .ok (t a) st'/\Gr st st'
 |.no=>∃st',x= .err "BadText" st'/\Gr st st'
 |.un=>True
variable{i:Nat}{L:List Nat}
theorem qI(h:L[i]? =some c)(hl:L.length<=1000):bH (.str (tx L)) (.int (i:Nat)) st= .ok (.str (tx [c])) st:=by
 show(if(tx L).length<=lim then(match L2.qN (tx L).cps.toList (i:Nat)with |some c=>Re.ok (Wv.str ⟨#[c]⟩) st |none=> .bad)else .bad)=_
 rw[if_pos (by rw[j7];unfold lim;omega),mQ,L2.eO h];rfl
variable{j:Nat}
theorem VN(h:i<=j)(hj:j<=L.length)(hl:L.length<=1000):oH (.str (tx L)) (some (i:Nat)) (some (j:Nat)) st= .ok (.str (tx ((L.drop i).take (j - i)))) st:=by
 rw[iO (by rw[j7];unfold lim;omega),eq_of_beq (PyProof.Rows.slice_closes (x:=tx L) (i:=(i:Nat)) (j:=(j:Nat)) ⟨by omega,by omega,by rw[mQ];omega⟩)];have e:(((j:Nat):Int) - (i:Nat)).toNat=j - i:=by omega
 rw[e,sm,mQ];rfl
theorem IQ(hl:L.length<=1000):dJ [.str (tx L)] st= .ok (.int (L.length:Nat)) st:=by
 have:=B3 (z:=tx L) (st:=st) (by rw[j7];unfold lim;omega)
 rwa [j7]at this
theorem xc:fV (.str (tx [c])) (.str "0123456789") st= .ok (.bl (rX c)) st:=rfl
def xf(c:Nat):Bool:=IL c||(rX c||decide (tx [c]∈(["$",":"]:List S)))
theorem El:dm [.str (tx [c])] st= .ok (.bl (xf c)) st:=by have e1:fV (.str (tx [c])) (.str "abcdefghijklmnopqrstuvwxyz") st= .ok (.bl (IL c)) st:=rfl;have e2:=xc (c:=c) (st:=st);have e3:fV (.str (tx [c])) (.tup [.str "$",.str ":"]) st= .ok (.bl (decide (tx [c]∈(["$",":"]:List S)))) st:=Mc (ys:=["$",":"]);unfold dm aK jd xf;generalize IL c=a at e1 ⊢;generalize rX c=b at e2 ⊢;generalize decide (tx [c]∈(["$",":"]:List S))=d at e3 ⊢;cases a<;>cases b<;>simp[e1,e2,e3]
variable{gb:GS}{ρ':bR}{st1 st':Hs}
theorem Cb(h:gt ρ st= .ok true st1)(k:gb ρ st1= .nx ρ' st'):wj gt gb (n+1) ρ st=wj gt gb n ρ' st':=by rw[wj,h];simp[k]
theorem tP(h:gt ρ st= .ok false st1):wj gt gb (n+1) ρ st= .nx ρ st1:=by rw[wj,h];simp
theorem scan{L:List Nat}{p:Nat->Bool}{gt:GT}{b:Option Wv}(h1:∀j c,L[j]? =some c->∀st,gt [some (.str (tx L)),b,some (.int (j:Nat))] st= .ok (p c) st)(h2:∀st,gt [some (.str (tx L)),b,some (.int (L.length:Nat))] st= .ok false st){st:Hs}:
  ∀(r:List Nat)(M j:Nat),L.drop j=r->j<=L.length->r.length < M->wj gt (jw (λi j=>i+j) 2 (gC (.int 1))) M [some (.str (tx L)),b,some (.int (j:Nat))] st= .nx [some (.str (tx L)),b,some (.int ((j+(r.takeWhile p).length:Nat):Int))] st
 |[],M,j,hr,hj,hM=>by
  have e:j=L.length:=by have:=congrArg nu hr;rw[pE]at this;simp at this;omega
  subst e;obtain⟨m,rfl⟩:∃m,M=m+1:=⟨M - 1,by have:=hM;simp at this;omega⟩;exact tP (h2 st)
 |c::r,M,j,hr,hj,hM=>by
  have hc:L[j]? =some c:=by rw[<-List.head?_drop,hr];rfl
  obtain⟨m,rfl⟩:∃m,M=m+1:=⟨M - 1,by have:=hM;simp at this;omega⟩;have hd:L.drop (j+1)=r:=by rw[<-List.drop_drop,hr];rfl
  have hlt:j < L.length:=(List.getElem?_eq_some_iff.mp hc).1;rw[List.takeWhile_cons];cases q:p c with
  |false=>refine tP ?_;rw[h1 j c hc st,q]
  |true=>
   have e1:jw (λi j=>i+j) 2 (gC (.int 1)) [some (.str (tx L)),b,some (.int (j:Nat))] st= .nx [some (.str (tx L)),b,some (.int ((j+1:Nat):Int))] st:=by unfold jw;simp[yq]
   have t1:=h1 j c hc st;rw[q]at t1;rw[Cb t1 e1,scan h1 h2 r m (j+1) hd (by omega) (by simp at hM;omega)];rw[if_pos rfl,iV,show j+1+(r.takeWhile p).length=j+((r.takeWhile p).length+1) by omega]
def fU(L:List Nat)(i:Nat):Int:=Txt.find3 (tx L) ⟨#[34]⟩ (i+1:Nat)
def mi(p:Nat->Bool)(L:List Nat)(i:Nat):Nat:=((L.drop i).takeWhile p).length
def y_(L:List Nat)(i:Nat):Rr Nat:=match L[i]? with
 |none=> .un
 |some c=>if c=34 then(if fU L i < 0 then .no else .ok ((fU L i).toNat+1))else if rX c=true then .ok (i+mi rX L i)else .ok (max (i+mi xf L i) (i+1))
variable{p:Nat->Bool}
theorem Cc(hi:i<=L.length):i+mi p L i<=L.length:=by have h:=(List.takeWhile_sublist p (l:=L.drop i)).length_le;rw[pE]at h;unfold mi;omega
theorem IS(h:L[i]? =some c)(hp:p c=true):0 < mi p L i:=by have hlt:=(List.getElem?_eq_some_iff.mp h).1;unfold mi;rw[vV hlt,List.takeWhile_cons];have e:L[i]=c:=(List.getElem?_eq_some_iff.mp h).2;rw[e,hp];simp
theorem IT(h:i < L.length)(hn:¬fU L i < 0):i < (fU L i).toNat/\(fU L i).toNat < L.length:=by
 unfold fU at hn ⊢;rcases StrLaws.find3_spec (tx L) 34 ((i+1:Nat):Int)with ⟨e,_⟩ |⟨k,e,k1,k2,_⟩
 ·rw[e]at hn;exact absurd (by decide) hn
 ·rw[e,sm];rw[j7]at k1 k2;refine⟨?_,k2⟩;have q:fromIndex L.length ((i+1:Nat):Int)=i+1:=by unfold fromIndex;split<;>omega
  omega
theorem Q4(h:y_ L i= .ok j):i < j/\j<=L.length:=by
 unfold y_ at h;cases hc:L[i]? with
 |none=>rw[hc]at h;cases h
 |some c=>
  rw[hc]at h;have hlt:=(List.getElem?_eq_some_iff.mp hc).1;dsimp only at h;by_cases a:c=34
  ·rw[if_pos a]at h;by_cases b:fU L i < 0
   ·rw[if_pos b]at h;cases h
   ·rw[if_neg b]at h;cases h;have:=IT hlt b;omega
  ·rw[if_neg a]at h;by_cases b:rX c=true
   ·rw[if_pos b]at h;cases h;have:=IS hc b;have:=Cc (p:=rX) (L:=L) (i:=i) (by omega);omega
   ·rw[if_neg b]at h;cases h;have:=Cc (p:=xf) (L:=L) (i:=i) (by omega);omega
theorem xg(st:Hs):eG [.str (tx L),.int (i:Nat)] st=if fU L i < 0 then .err "BadText" st else .ok (.int (fU L i)) st:=by have e:sZ (tx L) [.str "\"",.int ((i:Int)+1)] st= .ok (.int (fU L i)) st:=rfl;unfold eG aK jf;by_cases c:fU L i < 0<;>simp[e,c,lim]
theorem Q5:sQ [.int (a:Nat),.int (b:Nat)] st= .ok (.int ((max a b:Nat):Int)) st:=by
 show Re.ok (Wv.int (if((a:Nat):Int) < (b:Nat)then((b:Nat):Int)else(a:Nat))) st=_;by_cases c:a < b
 ·rw[if_pos (by omega),Nat.max_eq_right (by omega)]
 ·rw[if_neg (by omega),Nat.max_eq_left (by omega)]
theorem IU(hl:L.length<=1000)(st:Hs):uu (y_ L i) (λj=> .int (j:Nat)) (dH [.str (tx L),.int (i:Nat)] st) st:=by
 unfold y_;cases hc:L[i]? with
 |none=>exact trivial
 |some c=>
  have hlt:=(List.getElem?_eq_some_iff.mp hc).1;have a1:=qI (st:=st) hc hl;have Tx:oEq (.str (tx [c])) (.str "\"") st= .ok (.bl (decide (c=34))) st:=by
   have e0:("\"":S)=tx [34]:=by decide+kernel
   rw[e0,wG];by_cases q:c=34
   ·subst q;rfl
   ·have:(tx [c] == tx [34])=false:=by apply beq_false_of_ne;intro z;have:=congrArg (λs:S=>s.cps.toList) z;simp[tx]at this;exact q this
    rw[this];simp[q]
  have f1:=xc (c:=c) (st:=st);have cm:=xg (L:=L) (i:=i) st;have ml:∀(gt:GT)(b:Option Wv)(p:Nat->Bool),(∀j c,L[j]? =some c->∀st,gt [some (.str (tx L)),b,some (.int (j:Nat))] st= .ok (p c) st)->(∀st,gt [some (.str (tx L)),b,some (.int (L.length:Nat))] st= .ok false st)->eD cM gt (jw (λi j=>i+j) 2 (gC (.int 1))) [some (.str (tx L)),b,some (.int (i:Nat))] st= .nx [some (.str (tx L)),b,some (.int ((i+mi p L i:Nat):Int))] st:=λgt b p h1 h2=>by refine scan h1 h2 (L.drop i) cM i rfl (by omega) ?_;rw[pE];unfold cM;omega
  have ln:=λst=>IQ (L:=L) (st:=st) hl;have w1:=ml (qP (bp (aj oLt (af 2) (aI dJ (ae (af 0) ag)))) (bp (aj fV (aj bH (af 0) (af 2)) (gC (.str "0123456789"))))) (some (.int (i:Nat))) rX (λj c h st=>by have lt:=(List.getElem?_eq_some_iff.mp h).1;simp[ln,qI h hl,xc,lt]) (λst=>by simp[ln]);have w2:=ml (qP (bp (aj oLt (af 2) (aI dJ (ae (af 0) ag)))) (iI (az 1 dm (ae (aj bH (af 0) (af 2)) ag)))) (some (.int (i:Nat))) xf (λj c h st=>by have lt:=(List.getElem?_eq_some_iff.mp h).1;simp[ln,qI h hl,El,lt]) (λst=>by simp[ln]);dsimp only;by_cases a:c=34
  ·rw[if_pos a];rw[decide_eq_true a]at Tx;by_cases b:fU L i < 0
   ·rw[if_pos b]at cm ⊢;refine⟨st,?_,Gr.refl⟩;unfold dH aK gJ;simp[a1,Tx,cm]
   ·rw[if_neg b]at cm ⊢;refine⟨st,?_,Gr.refl⟩;have t0:((((fU L i).toNat+1:Nat):Nat):Int)=fU L i+1:=by omega
    show dH _ st=Re.ok (Wv.int (((fU L i).toNat+1:Nat):Int)) st;rw[t0];unfold dH aK gJ;simp[a1,Tx,cm]
  ·rw[if_neg a];rw[decide_eq_false a]at Tx;by_cases b:rX c=true
   ·rw[if_pos b];rw[b]at f1;refine⟨st,?_,Gr.refl⟩;unfold dH aK gJ m_;simp[a1,Tx,f1,w1]
   ·rw[if_neg b];rw[xh]at b;rw[b]at f1;refine⟨st,?_,Gr.refl⟩;have mx:=Q5 (a:=i+mi xf L i) (b:=i+1) (st:=st);unfold dH aK gJ m8;simp[a1,Tx,f1,w2];simpa using mx
theorem IV(x:S)(h:x.length<=1000)(st:Hs):∃st',a_ [.str x] st= .ok (.bl (x.cps.toList.all rV)) st'/\Gr st st':=by
 have cp:=rW (cs:=[]) (gt:=cU) (ge:=bB) (ρ:=[some (.str x)]) (ws:=bo x) (st:=st) (λv=>match v with |.str z=>rV (z.cps.toList.headD 0) |_=>false) (λ_ _ _=>rfl) (λv hv s=>by unfold bo at hv;obtain⟨i,hi,rfl⟩:=List.mem_map.mp hv;have o:DU [.str ⟨#[i]⟩] s= .ok (.int (i:Nat)) s:=rfl;unfold bB;simp[o,signG]) (by unfold bo lim;rw[iW];show x.cps.toList.length < _;rw[lD];exact B8 (h:x.cps.size<=1000) (by decide))
 have e:(bo x).map (λv=>match v with |.str z=>rV (z.cps.toList.headD 0) |_=>false)=x.cps.toList.map rV:=by unfold bo;rw[Iw];rfl
 rw[e]at cp;have al:=tN (l:=st.length) (bs:=x.cps.toList.map rV) (st:=st++[.lst ((x.cps.toList.map rV).map Wv.bl)]) cz;have e2:(x.cps.toList.map rV).all id=x.cps.toList.all rV:=by rw[wa];rfl
 rw[e2]at al;refine⟨_,?_,Gr.push (o:=.lst ((x.cps.toList.map rV).map Wv.bl))⟩;generalize st++[.lst ((x.cps.toList.map rV).map Wv.bl)]=s1 at cp al ⊢;have sq:sR (.str x) st= .ok (none,bo x) st:=rfl;unfold a_ aK dk;simp[cp,sq,al]
inductive Wd
 |num (n:Int)
 |txt (s:S)
 |za
 |pt (r c p q:Int)
 |cl (x:S)
 |sg (x:S)
 |ar (a b c d p q r s:Int)
 |en
def Wd.w:Wd->Wv
 |.num n=> .tup [.str "whole",.tup [.str "num",.int n]]
 |.txt s=> .tup [.str "whole",.tup [.str "text",.str s]]
 |.za=> .tup [.str "whole",.tup [.str "lost"]]
 |.pt r c p q=> .tup [.str "whole",.tup [.str "at",.tup [.int r,.int c],.tup [.int p,.int q]]]
 |.cl x=> .tup [.str "call",.str x]
 |.sg x=> .tup [.str "sign",.str x]
 |.ar a b c d p q r s=> .tup [.str "area",.tup [.tup [.int a,.int b,.int c,.int d],.tup [.int p,.int q,.int r,.int s]]]
 |.en=> .jS [.str "end",.str ""]
def numOf(z:S):Rr Int:=match PySem.intText? z with
 |some n=>if z.length<=640 then .ok n else .un
 |none=> .un
variable{z:S}
theorem IW{n:Int}(h:numOf z= .ok n)(st:Hs):kg [.str z] st= .ok (.int n) st:=by
 unfold numOf at h;show(match PySem.intText? z with |some n=>if z.length<=640 then .ok (.int n) st else .bad |none=> .bad)=Re.ok (Wv.int n) st
 cases e:PySem.intText? z with
 |none=>rw[e]at h;cases h
 |some k=>
  rw[e]at h;dsimp only at h ⊢;by_cases c:z.length<=640
  ·rw[if_pos c]at h ⊢;cases h;rfl
  ·rw[if_neg c]at h;cases h
def Cd(c:Nat):Rr Nat:=match fY EJ (tx [c]) 0 EJ.length 1 with
 |i::_=> .ok i
 |[]=> .un
theorem Q6(h:Cd c= .ok i)(st:Hs):jV "abcdefghijklmnopqrstuvwxyz" [.str (tx [c])] st= .ok (.int (i:Nat)) st:=by
 unfold Cd at h;show(match fY EJ (tx [c]) 0 EJ.length 1 with |i::_=> .ok (.int (i:Nat)) st |[]=> .bad)=Re.ok (Wv.int (i:Nat)) st
 cases e:fY EJ (tx [c]) 0 EJ.length 1 with
 |nil=>rw[e]at h;cases h
 |cons j r=>rw[e]at h;cases h;rfl
def xi(L:List Nat):Rr (Int×Nat):=if 100<=L.length then .un else if nm L=false then .no else match L with
 |[]=> .un
 |a::r=>(match numOf (tx r),Cd a with
  |.ok n,.ok i=> .ok (n - 1,i)
  |_,_=> .un)
def plW(x:Int×Nat):Wv:=.tup [.int x.1,.int (x.2:Nat)]
theorem A6(L:List Nat)(st:Hs):uu (xi L) plW (cV [.str (tx L)] st) st:=by
 unfold xi;by_cases c:100<=L.length
 ·rw[if_pos c];exact trivial
 rw[if_neg c];by_cases b:nm L=false
 ·rw[if_pos b];exact Mi b (by omega)
 rw[if_neg b];cases L with
 |nil=>exact trivial
 |cons a r=>
  dsimp only;cases e1:numOf (tx r)with
  |no=>exact trivial
  |un=>exact trivial
  |ok n=>
   cases e2:Cd a with
   |no=>exact trivial
   |un=>exact trivial
   |ok i=>obtain⟨st',en,g⟩:=Ca (cs:=a::r) (st:=st) (by omega);rw[Bool.not_eq_false]at b;rw[b]at en;refine⟨st',?_,g⟩;have sl:=iO (z:=⟨(a::r).toArray⟩) (lo:=some 1) (hi:=none) (st:=st') (IP (by omega));rw[IM]at sl;have i0:=ixS (a:=a) (r:=r) (st:=st') (by simp at c;omega);have it:kg [.str ⟨r.toArray⟩] st'= .ok (.int n) st':=IW e1 st';have hi:jV "abcdefghijklmnopqrstuvwxyz" [.str ⟨#[a]⟩] st'= .ok (.int (i:Nat)) st':=Q6 e2 st';have al:∀g2:GE,jv (dX jV (gC (.str "abcdefghijklmnopqrstuvwxyz")) (ae (aj bH (af 0) (gC (.int 0))) ag)) g2 [some (.str ⟨(a::r).toArray⟩)] st'= .ok (.int i) st':=λg2=>wL (by simp[i0,hi]);show cV [.str ⟨(a::r).toArray⟩] st=_;unfold cV aK iM;simp[en,sl,it,al];rfl
def fm(b:Bool):Int:=if b=true then 1 else 0
def rB(z:S):Rr (Int×Int×Int×Int):=if 1000<=z.length then .un else match z.cps.toList with
 |[]=> .un
 |a::_=>
  let cp:=fm (tx [a] == "$")
  let bare:=aY z (some cp) none
  let rp:=fm (aY bare (some 1) (some 2) == "$")
  let x:=aY bare none (some 1)
  let y:=aY bare (some (1+rp)) none
  if 1000<=bare.length\/1000 < x.length+y.length then .un else match xi (x++y).cps.toList with
  |.ok (r,c)=> .ok (r,(c:Nat),rp,cp)
  |.no=> .no
  |.un=> .un
def Q7(x:Int×Int×Int×Int):Wv:=.tup [.str "at",.tup [.int x.1,.int x.2.1],.tup [.int x.2.2.1,.int x.2.2.2]]
variable{b:Bool}
theorem Ce{g:GT}(h:g ρ st= .ok b st):vN g (gC (.int 1)) (gC (.int 0)) ρ st= .ok (.int (fm b)) st:=by cases b<;>simp[h,fm]
theorem mj(z:S)(st:Hs):uu (rB z) Q7 (b6 [.str z] st) st:=by
 unfold rB;by_cases c:1000<=z.length
 ·rw[if_pos c];exact trivial
 rw[if_neg c];cases hz:z.cps.toList with
 |nil=>exact trivial
 |cons a t=>
  dsimp only;have a1:bH (.str z) (.int 0) st= .ok (.str (tx [a])) st:=by have:=qI (L:=z.cps.toList) (i:=0) (c:=a) (st:=st) (by rw[hz];rfl) (by rw[lD];have:z.cps.size=z.length:=rfl;omega);exact this
  have t1:vN (bp (aj oEq (aj bH (af 0) (gC (.int 0))) (gC (.str "$")))) (gC (.int 1)) (gC (.int 0)) [some (.str z),none,none,none] st= .ok (.int (fm (tx [a] == "$"))) st:=Ce (by simp[a1,wG]);generalize fm (tx [a] == "$")=cp at t1 ⊢;have s1:oH (.str z) (some cp) none st= .ok (.str (aY z (some cp) none)) st:=iO (by unfold lim;omega);generalize aY z (some cp) none=bare at s1 ⊢;by_cases cb:1000<=bare.length\/1000 < (aY bare none (some 1)).length+(aY bare (some (1+fm (aY bare (some 1) (some 2) == "$"))) none).length
  ·rw[if_pos cb];exact trivial
  rw[if_neg cb];have cb1:bare.length<=lim:=by unfold lim;omega
  have s2:oH (.str bare) (some 1) (some 2) st= .ok (.str (aY bare (some 1) (some 2))) st:=iO cb1;have t2:vN (bp (aj oEq (cL (af 2) (fe (gC (.int 1))) (fe (gC (.int 2)))) (gC (.str "$")))) (gC (.int 1)) (gC (.int 0)) [some (.str z),some (.int cp),some (.str bare),none] st= .ok (.int (fm (aY bare (some 1) (some 2) == "$"))) st:=Ce (by simp[s2,wG]);generalize fm (aY bare (some 1) (some 2) == "$")=rp at t2 cb ⊢;have s3:oH (.str bare) none (some 1) st= .ok (.str (aY bare none (some 1))) st:=iO cb1;have s4:oH (.str bare) (some (1+rp)) none st= .ok (.str (aY bare (some (1+rp)) none)) st:=iO cb1;generalize aY bare none (some 1)=x at s3 cb ⊢;generalize aY bare (some (1+rp)) none=y at s4 cb ⊢;have ad:bA (.str x) (.str y) st= .ok (.str (x++y)) st:=f_ (by unfold lim;omega);have rp':=A6 (x++y).cps.toList st;rw[A5]at rp';cases e:xi (x++y).cps.toList with
  |un=>exact trivial
  |no=>rw[e]at rp';obtain⟨st',e1,g⟩:=rp';refine⟨st',?_,g⟩;unfold b6 aK gZ;simp[-M8,t1,s1,t2,s3,s4,ad,e1]
  |ok v=>obtain⟨r,cc⟩:=v;rw[e]at rp';obtain⟨st',e1,g⟩:=rp';refine⟨st',?_,g⟩;unfold b6 aK gZ;simp[-M8,t1,s1,t2,s3,s4,ad,e1];rfl
theorem joined{a b c d:Int}:dq [.tup [.int a,.int b],.tup [.int c,.int d]] st=if(a<=c/\b<=d)/\ku a b/\ku c d then .ok (.tup [.int a,.int b,.int c,.int d]) st else .err "BadText" st:=by
 have ad:bA (.tup [.int a,.int b]) (.tup [.int c,.int d]) st= .ok (.tup [.int a,.int b,.int c,.int d]) st:=rfl;have hc:=Nf (a:=a) (b:=b) (c:=c) (d:=d) (st:=st);unfold dq aK gK;by_cases h:(a<=c/\b<=d)/\ku a b/\ku c d
 ·rw[decide_eq_true h]at hc;rw[if_pos h];simp[ad,hc]
 ·rw[decide_eq_false h]at hc;rw[if_neg h];simp[ad,hc,lim]
def joinR(u v:Int×Int×Int×Int):Rr Wd:=if(u.1<=v.1/\u.2.1<=v.2.1)/\ku u.1 u.2.1/\ku v.1 v.2.1 then .ok (.ar u.1 u.2.1 v.1 v.2.1 u.2.2.1 u.2.2.2 v.2.2.1 v.2.2.2)else .no
def qJ(z:S):Rr Wd:=if 100<=z.length then .un else match eQ z ":" with
 |[x,y]=>if x=""\/y="" then .no else(match rB x with
  |.no=> .no
  |.un=> .un
  |.ok u=>(match rB y with
   |.no=> .no
   |.un=> .un
   |.ok v=>joinR u v))
 |_=> .no
def Yp:Wd->Wv
 |.ar a b c d p q r s=> .tup [.tup [.int a,.int b,.int c,.int d],.tup [.int p,.int q,.int r,.int s]]
 |_=> .cG
theorem gy(x y:S):(x == y)=decide (x=y):=by
 by_cases c:x=y
 ·subst c;simp
 ·rw[beq_false_of_ne c,decide_eq_false c]
theorem at2{x a b:Wv}:bH (.tup [x,a,b]) (.int 1) st= .ok a st/\bH (.tup [x,a,b]) (.int 2) st= .ok b st:=⟨jx rfl,jx rfl⟩
theorem Em(z:S)(st:Hs):uu (qJ z) Yp (aX [.str z] st) st:=by
 unfold qJ;by_cases hz:100<=z.length
 ·rw[if_pos hz];exact trivial
 rw[if_neg hz];have sp:pL z [.str ":"] st= .ok (.ref st.length) (st++[.lst ((eQ z ":").map Wv.str)]):=by unfold pL;dsimp only;rw[if_pos ⟨rfl,by unfold lim;omega⟩]
 generalize eQ z ":"=xs at sp ⊢;have g1:Gr st (st++[.lst (xs.map Wv.str)]):=Gr.push;have hl:av (st++[.lst (xs.map Wv.str)]) st.length=some (xs.map Wv.str):=cz;generalize st++[.lst (xs.map Wv.str)]=s1 at sp g1 hl;have ln:dJ [.ref st.length] s1= .ok (.int (xs.length:Nat)) s1:=by have:=Ie hl;rwa [iW]at this
 by_cases c2:xs.length=2
 ·match xs,c2 with
  |[x,y],_=>
   have i0:bH (.ref st.length) (.int 0) s1= .ok (.str x) s1:=mU hl (L2.eO (j:=0) rfl);have i1:bH (.ref st.length) (.int 1) s1= .ok (.str y) s1:=mU hl (L2.eO (j:=1) rfl);have ie:qS false (.str "") (.ref st.length) s1= .ok (.bl (decide (x=""\/y=""))) s1:=by
    have d1:bV s1 20 (.ref st.length)=some (.list [.str x,.str y]):=by unfold bV;simp only[hl];rfl
    have d2:bV s1 20 (.str "")=some (.str ""):=rfl;unfold qS;rw[d1,d2];show Re.ok (Wv.bl (((x == "")||((y == "")||false)) != false)) s1=_;rw[gy,gy];simp
   have rx:=mj x s1;dsimp only;by_cases ce:x=""\/y=""
   ·rw[if_pos ce];rw[decide_eq_true ce]at ie;refine⟨s1,?_,g1⟩;unfold aX aK bC;simp[sp,ln,ie,lim]
   rw[if_neg ce];rw[decide_eq_false ce]at ie;cases ex:rB x with
   |un=>exact trivial
   |no=>rw[ex]at rx;obtain⟨s2,e2,g2⟩:=rx;refine⟨s2,?_,g1.trans g2⟩;unfold aX aK bC;simp[sp,ln,ie,i0,e2]
   |ok u=>
    obtain⟨a,b,p,q⟩:=u;rw[ex]at rx;obtain⟨s2,e2,g2⟩:=rx;have i1':bH (.ref st.length) (.int 1) s2= .ok (.str y) s2:=mU (g2.lst hl) (L2.eO (j:=1) rfl);have ry:=mj y s2;dsimp only;cases ey:rB y with
    |un=>exact trivial
    |no=>rw[ey]at ry;obtain⟨s3,e3,g3⟩:=ry;refine⟨s3,?_,g1.trans (g2.trans g3)⟩;unfold aX aK bC;simp[sp,ln,ie,i0,e2,i1',e3]
    |ok v=>
     obtain⟨c,d,r,s⟩:=v;rw[ey]at ry;obtain⟨s3,e3,g3⟩:=ry;have jn:=joined (a:=a) (b:=b) (c:=c) (d:=d) (st:=s3);have ad:bA (.tup [.int p,.int q]) (.tup [.int r,.int s]) s3= .ok (.tup [.int p,.int q,.int r,.int s]) s3:=rfl;unfold Q7 at e2 e3;dsimp only at e2 e3;unfold joinR;dsimp only;by_cases h:(a<=c/\b<=d)/\ku a b/\ku c d
     ·rw[if_pos h]at jn ⊢;refine⟨s3,?_,g1.trans (g2.trans g3)⟩;unfold aX aK bC;simp[sp,ln,ie,i0,e2,i1',e3,at2.1,at2.2,jn,ad];rfl
     ·rw[if_neg h]at jn ⊢;refine⟨s3,?_,g1.trans (g2.trans g3)⟩;unfold aX aK bC;simp[sp,ln,ie,i0,e2,i1',e3,at2.1,at2.2,jn,ad]
 ·have e:(match xs with
    |[x,y]=>if x=""\/y="" then(.no:Rr Wd)else(match rB x with
     |.no=> .no
     |.un=> .un
     |.ok u=>(match rB y with
      |.no=> .no
      |.un=> .un
      |.ok v=>joinR u v))
    |_=> .no)= .no:=by
   match xs,c2 with
   |[],_=>rfl
   |[_],_=>rfl
   |[_,_],h=>exact absurd rfl h
   |_::_::_::_,_=>rfl
  rw[e];have n2:j' (.int (xs.length:Nat)) (.int 2) s1= .ok (.bl true) s1:=by
   have:((xs.length:Nat):Int)≠2:=by omega
   have q:j' (.int (xs.length:Nat)) (.int 2) s1= .ok (.bl (!(((xs.length:Nat):Int) == 2))) s1:=rfl;rw[q,beq_false_of_ne this];rfl
  refine⟨s1,?_,g1⟩;unfold aX aK bC;simp[sp,ln,n2,lim]
def CW:List S:=["not","rest","if","else","sum","count","least","greatest","find"]
def SW:List S:=["+","-","*","/","&","<","=","(",")",","]
def IX(z:S):Bool:=!(fY z ":" 0 z.length 1).isEmpty
def En(z:S):Rr Wd:=let t:=aY z (some 1) (some (-1));if 1000 < t.length then .un else if t.cps.toList.all rV=true then .ok (.txt t)else .no
def Eo(c:Nat)(z:S):Rr Wd:=if c=48/\z≠"0" then .no else match numOf (aY z none (some 62))with
 |.ok n=> .ok (.num n)
 |_=> .un
def Mj(z:S):Rr Wd:=match rB z with
 |.ok v=> .ok (.pt v.1 v.2.1 v.2.2.1 v.2.2.2)
 |.no=> .no
 |.un=> .un
def va(z:S):Rr Wd:=match z.cps.toList with
 |[]=> .un
 |c::_=>if 1000<=z.length then .un else if c=34 then En z else if rX c=true then Eo c z else if z="lost" then .ok .za else if z∈CW then .ok (.cl z)else if z∈SW then .ok (.sg z)else if IX z=true then qJ z else Mj z
theorem Cf(a b:Nat):(tx [a] == tx [b])=decide (a=b):=by
 rw[gy,hU,decide_eq_true_eq,decide_eq_true_eq];constructor
 ·intro z;have:=congrArg (λs:S=>s.cps.toList) z;simpa [tx]using this
 ·intro z;rw[z]
def inW(d:Wd):Wv:=match d with
 |.num n=> .tup [.str "num",.int n]
 |.txt s=> .tup [.str "text",.str s]
 |.ar a b c d p q r s=>Yp (.ar a b c d p q r s)
 |.pt r c p q=>Q7 (r,c,p,q)
 |_=> .cG
theorem zb(z:S)(hz:z.length < 1000)(st:Hs):uu (En z) inW (dP [.str z] st) st:=by
 unfold En;have s1:oH (.str z) (some 1) (some (-1)) st= .ok (.str (aY z (some 1) (some (-1)))) st:=iO (by unfold lim;omega);generalize aY z (some 1) (some (-1))=t at s1 ⊢;dsimp only;by_cases c:1000 < t.length
 ·rw[if_pos c];exact trivial
 rw[if_neg c];obtain⟨st',e,g⟩:=IV t (by omega) st;cases h:t.cps.toList.all rV with
 |true=>rw[h]at e;rw[if_pos rfl];refine⟨st',?_,g⟩;unfold dP aK hG;simp[s1,e];rfl
 |false=>rw[h]at e;rw[if_neg (by decide)];refine⟨st',?_,g⟩;unfold dP aK hG;simp[s1,e,lim]
variable{t:List Nat}
theorem zd(z:S)(hz:z.length < 1000)(h:z.cps.toList=c::t)(st:Hs):uu (Eo c z) inW (dQ [.str z] st) st:=by
 have a1:bH (.str z) (.int 0) st= .ok (.str (tx [c])) st:=qI (L:=z.cps.toList) (i:=0) (c:=c) (st:=st) (by rw[h];rfl) (by rw[lD];have:z.cps.size=z.length:=rfl;omega);have e1:oEq (.str (tx [c])) (.str "0") st= .ok (.bl (decide (c=48))) st:=by
  have e0:("0":S)=tx [48]:=by decide+kernel
  rw[e0,wG,Cf]
 have e2:j' (.str z) (.str "0") st= .ok (.bl (decide (z≠"0"))) st:=by rw[Ia,gy];simp
 have s1:oH (.str z) none (some 62) st= .ok (.str (aY z none (some 62))) st:=iO (by unfold lim;omega);unfold Eo;by_cases k:c=48/\z≠"0"
 ·rw[if_pos k];rw[decide_eq_true k.1]at e1;rw[decide_eq_true k.2]at e2;refine⟨st,?_,Gr.refl⟩;unfold dQ aK hJ;simp[a1,e1,e2,lim]
 rw[if_neg k];cases hn:numOf (aY z none (some 62))with
 |no=>exact trivial
 |un=>exact trivial
 |ok n=>
  have it:=IW hn st;refine⟨st,?_,Gr.refl⟩;unfold dQ aK hJ;by_cases q:c=48
  ·have q2:decide (z≠"0")=false:=decide_eq_false λh=>k ⟨q,h⟩;rw[decide_eq_true q]at e1;rw[q2]at e2;simp[a1,e1,e2,s1,it];rfl
  ·rw[decide_eq_false q]at e1;simp[a1,e1,s1,it];rfl
variable{d:Wd}
theorem Ml(h:qJ z= .ok d):d.w= .tup [.str "area",Yp d]:=by
 unfold qJ at h;by_cases c:100<=z.length
 ·rw[if_pos c]at h;cases h
 rw[if_neg c]at h;split at h
 ·rename_i x y e;by_cases q:x=""\/y=""
  ·rw[if_pos q]at h;cases h
  rw[if_neg q]at h;cases e1:rB x with
  |no=>rw[e1]at h;cases h
  |un=>rw[e1]at h;cases h
  |ok u=>
   rw[e1]at h;dsimp only at h;cases e2:rB y with
   |no=>rw[e2]at h;cases h
   |un=>rw[e2]at h;cases h
   |ok v=>
    rw[e2]at h;dsimp only at h;unfold joinR at h;by_cases k:(u.1<=v.1/\u.2.1<=v.2.1)/\ku u.1 u.2.1/\ku v.1 v.2.1
    ·rw[if_pos k]at h;cases h;rfl
    ·rw[if_neg k]at h;cases h
 ·cases h
theorem Ep(z:S)(st:Hs):uu (va z) Wd.w (bw [.str z] st) st:=by
 unfold va;cases h:z.cps.toList with
 |nil=>exact trivial
 |cons c t=>
  dsimp only;by_cases hz:1000<=z.length
  ·rw[if_pos hz];exact trivial
  rw[if_neg hz];have a1:bH (.str z) (.int 0) st= .ok (.str (tx [c])) st:=qI (L:=z.cps.toList) (i:=0) (c:=c) (st:=st) (by rw[h];rfl) (by rw[lD];have:z.cps.size=z.length:=rfl;omega);have e1:oEq (.str (tx [c])) (.str "\"") st= .ok (.bl (decide (c=34))) st:=by
   have e0:("\"":S)=tx [34]:=by decide+kernel
   rw[e0,wG,Cf]
  have f1:=xc (c:=c) (st:=st);have el:oEq (.str z) (.str "lost") st= .ok (.bl (decide (z="lost"))) st:=by rw[wG,gy]
  have ic:fV (.str z) (.jS [.str "not",.str "rest",.str "if",.str "else",.str "sum",.str "count",.str "least",.str "greatest",.str "find"]) st= .ok (.bl (decide (z∈CW))) st:=Mc (ys:=CW);have is:fV (.str z) (.jS [.str "+",.str "-",.str "*",.str "/",.str "&",.str "<",.str "=",.str "(",.str ")",.str ","]) st= .ok (.bl (decide (z∈SW))) st:=Mc (ys:=SW);have ik:fV (.str ":") (.str z) st= .ok (.bl (IX z)) st:=rfl;by_cases k1:c=34
  ·rw[if_pos k1];rw[decide_eq_true k1]at e1;have r:=zb z (by omega) st;unfold En at r ⊢;dsimp only at r ⊢;by_cases q:1000 < (aY z (some 1) (some (-1))).length
   ·rw[if_pos q];exact trivial
   rw[if_neg q]at r ⊢;by_cases q2:(aY z (some 1) (some (-1))).cps.toList.all rV=true
   ·rw[if_pos q2]at r ⊢;obtain⟨s1,e,g⟩:=r;refine⟨s1,?_,g⟩;unfold bw aK bP;simp[a1,e1,e];rfl
   ·rw[if_neg q2]at r ⊢;obtain⟨s1,e,g⟩:=r;refine⟨s1,?_,g⟩;unfold bw aK bP;simp[a1,e1,e]
  rw[if_neg k1];rw[decide_eq_false k1]at e1;by_cases k2:rX c=true
  ·rw[if_pos k2];rw[k2]at f1;have r:=zd z (by omega) h st;unfold Eo at r ⊢;by_cases q:c=48/\z≠"0"
   ·rw[if_pos q]at r ⊢;obtain⟨s1,e,g⟩:=r;refine⟨s1,?_,g⟩;unfold bw aK bP;simp[a1,e1,f1,e]
   rw[if_neg q]at r ⊢;cases hn:numOf (aY z none (some 62))with
   |no=>exact trivial
   |un=>exact trivial
   |ok n=>rw[hn]at r;obtain⟨s1,e,g⟩:=r;refine⟨s1,?_,g⟩;unfold bw aK bP;simp[a1,e1,f1,e];rfl
  rw[if_neg k2];rw[xh]at k2;rw[k2]at f1;by_cases k3:z="lost"
  ·rw[if_pos k3];rw[decide_eq_true k3]at el;refine⟨st,?_,Gr.refl⟩;unfold bw aK bP;simp[a1,e1,f1,el];rfl
  rw[if_neg k3];rw[decide_eq_false k3]at el;by_cases k4:z∈CW
  ·rw[if_pos k4];rw[decide_eq_true k4]at ic;refine⟨st,?_,Gr.refl⟩;unfold bw aK bP;simp[a1,e1,f1,el,ic];rfl
  rw[if_neg k4];rw[decide_eq_false k4]at ic;by_cases k5:z∈SW
  ·rw[if_pos k5];rw[decide_eq_true k5]at is;refine⟨st,?_,Gr.refl⟩;unfold bw aK bP;simp[a1,e1,f1,el,ic,is];rfl
  rw[if_neg k5];rw[decide_eq_false k5]at is;by_cases k6:IX z=true
  ·rw[if_pos k6];rw[k6]at ik;have r:=Em z st;cases ha:qJ z with
   |un=>exact trivial
   |no=>rw[ha]at r;obtain⟨s1,e,g⟩:=r;refine⟨s1,?_,g⟩;unfold bw aK bP;simp[a1,e1,f1,el,ic,is,ik,e]
   |ok d=>rw[ha]at r;obtain⟨s1,e,g⟩:=r;have hd:d.w= .tup [.str "area",Yp d]:=Ml ha;refine⟨s1,?_,g⟩;show bw [.str z] st= .ok d.w s1;rw[hd];unfold bw aK bP;simp[a1,e1,f1,el,ic,is,ik,e]
  rw[if_neg k6];rw[xh]at k6;rw[k6]at ik;have r:=mj z st;unfold Mj;cases hp:rB z with
  |un=>exact trivial
  |no=>rw[hp]at r;obtain⟨s1,e,g⟩:=r;refine⟨s1,?_,g⟩;unfold bw aK bP;simp[a1,e1,f1,el,ic,is,ik,e]
  |ok v=>rw[hp]at r;obtain⟨s1,e,g⟩:=r;refine⟨s1,?_,g⟩;unfold bw aK bP;simp[a1,e1,f1,el,ic,is,ik,e];rfl
def jm:Nat->List Nat->Nat->Rr (List Wd)
 | 0,_,_=> .un
 |n+1,L,i=>if L.length<=i then .ok []else match y_ L i with
  |.no=> .no
  |.un=> .un
  |.ok j=>if L[i]? =some 32 then jm n L j else match va (tx ((L.drop i).take (j - i)))with
   |.no=> .no
   |.un=> .un
   |.ok w=>(match jm n L j with
    |.ok ws=> .ok (w::ws)
    |.no=> .no
    |.un=> .un)
variable{c:S}
theorem vb(h:gt ρ st= .ok true st1)(k:gb ρ st1= .err c ρ' st'):wj gt gb (n+1) ρ st= .err c ρ' st':=by rw[wj,h];simp[k]
abbrev ph:GT:=bp (aj oLt (af 2) (aI dJ (ae (af 0) ag)))
def VO(r:Rr (List Wd))(acc:List Wd)(l:Nat)(x:Rs)(st:Hs)(L:List Nat):Prop:=match r with
 |.ok ws=>∃i' o3 st',x= .nx [some (.str (tx L)),some (.ref l),i',o3] st'/\bE l st st'/\st'[l]? =some (.lst ((acc++ws).map Wd.w))
 |.no=>∃ρ st',x= .err "BadText" ρ st'/\bE l st st'
 |.un=>True
theorem nY{L:List Nat}(hl:L.length<=1000):∀(n:Nat)(acc:List Wd)(i l M:Nat)(o3:Option Wv)(st:Hs),n<=M->acc.length+n<=5000->st[l]? =some (.lst (acc.map Wd.w))->VO (jm n L i) acc l (wj ph bD M [some (.str (tx L)),some (.ref l),some (.int (i:Nat)),o3] st) st L
 | 0,_,_,_,_,_,_,_,_,_=>trivial
 |n+1,acc,i,l,M,o3,st,hM,ha,h=>by
  obtain⟨M,rfl⟩:∃m,M=m+1:=⟨M - 1,by omega⟩;have ln:=IQ (L:=L) (st:=st) hl;unfold jm;by_cases c:L.length<=i
  ·rw[if_pos c];have t:ph [some (.str (tx L)),some (.ref l),some (.int (i:Nat)),o3] st= .ok false st:=by
    have:¬i < L.length:=by omega
    simp[ln,this]
   rw[tP t];exact⟨_,_,st,rfl,bE.refl,by rw[iX];exact h⟩
  rw[if_neg c];have lt:i < L.length:=by omega
  have t:ph [some (.str (tx L)),some (.ref l),some (.int (i:Nat)),o3] st= .ok true st:=by simp[ln,lt]
  obtain⟨ch,hc⟩:∃ch,L[i]? =some ch:=⟨L[i],fg lt⟩;have we:=IU (i:=i) hl st;cases hw:y_ L i with
  |un=>exact trivial
  |no=>
   rw[hw]at we;obtain⟨s1,e1,g1⟩:=we;have b:bD [some (.str (tx L)),some (.ref l),some (.int (i:Nat)),o3] st= .err "BadText" [some (.str (tx L)),some (.ref l),some (.int (i:Nat)),o3] s1:=by unfold bD;simp[e1]
   exact⟨_,s1,vb t b,Gr.keep g1⟩
  |ok j=>
   rw[hw]at we;obtain⟨s1,e1,g1⟩:=we;dsimp only at e1;have hb:=Q4 hw;have a1:=qI (st:=s1) hc hl;have h1:=g1.get h;have en:j' (.str (tx [ch])) (.str " ") s1= .ok (.bl (!decide (ch=32))) s1:=by
    have e0:(" ":S)=tx [32]:=by decide+kernel
    rw[e0,Ia,Cf]
   dsimp only;by_cases k:ch=32
   ·rw[hc,if_pos (by rw[k])];rw[decide_eq_true k]at en;have b:bD [some (.str (tx L)),some (.ref l),some (.int (i:Nat)),o3] st= .nx [some (.str (tx L)),some (.ref l),some (.int (j:Nat)),some (.int (j:Nat))] s1:=by unfold bD;simp[e1,a1,en]
    rw[Cb t b];have r:=nY hl n acc j l M (some (.int (j:Nat))) s1 (by omega) (by omega) h1;cases hr:jm n L j with
    |un=>exact trivial
    |no=>rw[hr]at r;obtain⟨ρ,s2,e2,k2⟩:=r;exact⟨ρ,s2,e2,(Gr.keep g1).trans k2⟩
    |ok ws=>rw[hr]at r;obtain⟨i',o',s2,e2,k2,q⟩:=r;exact⟨i',o',s2,e2,(Gr.keep g1).trans k2,q⟩
   ·rw[hc,if_neg (by intro z;exact k (Option.some.inj z))];rw[decide_eq_false k]at en;have sl:=VN (L:=L) (i:=i) (j:=j) (st:=s1) (by omega) hb.2 hl;have ze:=Ep (tx ((L.drop i).take (j - i))) s1;generalize tx ((L.drop i).take (j - i))=z at sl ze ⊢;cases hz:va z with
    |un=>exact trivial
    |no=>
     rw[hz]at ze;obtain⟨s2,e2,g2⟩:=ze;have q1:=bT h1;have b:bD [some (.str (tx L)),some (.ref l),some (.int (i:Nat)),o3] st= .err "BadText" [some (.str (tx L)),some (.ref l),some (.int (i:Nat)),some (.int (j:Nat))] s2:=by unfold bD;simp[e1,a1,en,sl,e2,m7,q1]
     exact⟨_,s2,vb t b,Gr.keep (g1.trans g2)⟩
    |ok w=>
     rw[hz]at ze;obtain⟨s2,e2,g2⟩:=ze;have q1:=bT h1;have h2:=g2.get h1;have ap:=yI (v:=w.w) h2 (by rw[iW];unfold lim;omega);have b:bD [some (.str (tx L)),some (.ref l),some (.int (i:Nat)),o3] st= .nx [some (.str (tx L)),some (.ref l),some (.int (j:Nat)),some (.int (j:Nat))] (s2.set l (.lst (acc.map Wd.w++[w.w]))):=by unfold bD;simp[e1,a1,en,sl,e2,ap,m7,q1]
     rw[Cb t b];have r:=nY hl n (acc++[w]) j l M (some (.int (j:Nat))) (s2.set l (.lst (acc.map Wd.w++[w.w]))) (by omega) (by rw[kI];simp;omega) (by rw[iJ h2];simp);have kk:bE l st (s2.set l (.lst (acc.map Wd.w++[w.w]))):=(Gr.keep (g1.trans g2)).trans bE.set;dsimp only;cases hr:jm n L j with
     |un=>exact trivial
     |no=>rw[hr]at r;obtain⟨ρ,s3,e3,k3⟩:=r;exact⟨ρ,s3,e3,kk.trans k3⟩
     |ok ws=>rw[hr]at r;obtain⟨i',o',s3,e3,k3,q⟩:=r;exact⟨i',o',s3,e3,kk.trans k3,by rw[q];simp⟩
def tQ(z:S):Rr (List Wd):=if 1000 < z.length then .un else jm 1100 z.cps.toList 0
theorem words_of(z:S)(st:Hs):match tQ z with
  |.ok ws=>∃st',gM [.str z] st= .ok (.ref st.length) st'/\Gr st st'/\st'[st.length]? =some (.lst (ws.map Wd.w))
  |.no=>∃st',gM [.str z] st= .err "BadText" st'/\Gr st st'
  |.un=>True:=by
 unfold tQ;by_cases c:1000 < z.length
 ·rw[if_pos c];exact trivial
 rw[if_neg c];have hl:z.cps.toList.length<=1000:=by rw[lD];have:z.cps.size=z.length:=rfl;omega
 have r:=nY hl 1100 [] 0 st.length cM none (st++[.lst []]) (by unfold cM;omega) (by decide) eh;rw[A5]at r;cases h:jm 1100 z.cps.toList 0 with
 |un=>exact trivial
 |no=>rw[h]at r;obtain⟨ρ,s1,e1,k1⟩:=r;have uR:eD cM ph bD [some (.str z),some (.ref st.length),some (.int 0),none] (st++[.lst []])= .err "BadText" ρ s1:=e1;refine⟨s1,?_,Gr.lR (aA _) Gr.push k1⟩;refine wI (n:=4) (g:=jh) (ρ:=ρ) ?_;unfold jh;simp[-M4,uR]
 |ok ws=>rw[h]at r;obtain⟨i',o',s1,e1,k1,q⟩:=r;have uR:eD cM ph bD [some (.str z),some (.ref st.length),some (.int 0),none] (st++[.lst []])= .nx [some (.str z),some (.ref st.length),i',o'] s1:=e1;refine⟨s1,?_,Gr.lR (aA _) Gr.push k1,q⟩;unfold gM aK jh;simp[-M4,uR]
variable{f:S}{g:GE}{fs:List (S×Wv)}
theorem VP{w:Wv}(h:g ρ st= .ok (.ref k) st1)(h2:st1[k]? =some (.ins c fs))(h3:fs.lookup f=some w):ua c f g ρ st= .ok w st1:=by
 have e:dZ st1 c (.ref k)=some fs:=by unfold dZ;simp[h2]
 unfold ua;rw[h];show(match(dZ st1 c (.ref k)).bind (·.lookup f)with |some w=>Re.ok w st1 |none=> .bad)=_
 rw[e];show(match fs.lookup f with |some w=>Re.ok w st1 |none=> .bad)=_
 rw[h3]
variable{go:GE}{st2:Hs}
theorem Er{F:List Wv->Hs->Re Wv}{ga:GA}(h:go ρ st= .ok (.ref k) st1)(h2:st1[k]? =some (.ins c fs))(h3:fs.lookup f=none)(h4:ga ρ st1= .ok ws st2)(h5:ws.length+1=n):
  f9 c f n F go ga ρ st=F (.ref k::ws) st2:=by
 have e:dZ st1 c (.ref k)=some fs:=by unfold dZ;simp[h2]
 unfold f9;rw[h];show(match(dZ st1 c (.ref k)).map (·.lookup f)with
  |some none=>(ga ρ st1).bind λws st2=>if ws.length+1=n then F (.ref k::ws) st2 else .bad
  |_=> .bad)=_
 rw[e];show(match some (fs.lookup f)with
  |some none=>(ga ρ st1).bind λws st2=>if ws.length+1=n then F (.ref k::ws) st2 else .bad
  |_=> .bad)=_
 rw[h3];dsimp only;rw[h4];show(if ws.length+1=n then F (.ref k::ws) st2 else .bad)=_;rw[if_pos h5]
theorem VQ{gv:GE}(h1:gv ρ st= .ok v st1)(h2:go ρ st1= .ok (.ref k) st2)(h3:st2[k]? =some (.ins c fs))(h4:fs.length < 900):qz c f gv go ρ st= .nx ρ (st2.set k (.ins c (yw f v fs))):=by
 have e:dZ st2 c (.ref k)=some fs:=by unfold dZ;simp[h3]
 unfold qz;rw[h1];show(go ρ st1).bM ρ _=_;rw[h2];show(match ub c f (.ref k) v st2 with |some st3=>Rs.nx ρ st3 |none=> .bad)=_
 unfold ub;rw[e];dsimp only;rw[if_pos h4]
def ei(d:Wd)(x:S):Bool:=match d with
 |.sg y=>decide (y=x)
 |_=>false
theorem IY(d:Wd)(x:S)(st:Hs):oEq d.w (.tup [.str "sign",.str x]) st= .ok (.bl (ei d x)) st:=by
 have dx:bV st 20 (.tup [.str "sign",.str x])=some (.tuple [.str "sign",.str x]):=rfl;cases d with
 |sg y=>have dd:bV st 20 (Wd.sg y).w=some (.tuple [.str "sign",.str y]):=rfl;unfold oEq;rw[dd,dx];show Re.ok (Wv.bl ((("sign":S) == "sign")&&((y == x)&&true))) st=_;rw[gy y x];simp[ei]
 |_=>rfl
theorem Nh(d:Wd)(x:S)(st:Hs):j' d.w (.tup [.str "sign",.str x]) st= .ok (.bl (!ei d x)) st:=by
 have dx:bV st 20 (.tup [.str "sign",.str x])=some (.tuple [.str "sign",.str x]):=rfl;cases d with
 |sg y=>have dd:bV st 20 (Wd.sg y).w=some (.tuple [.str "sign",.str y]):=rfl;unfold j';rw[dd,dx];show Re.ok (Wv.bl (!((("sign":S) == "sign")&&((y == x)&&true)))) st=_;rw[gy y x];simp[ei]
 |_=>rfl
def IZ:List Wd->Int->Bool
 |[],_=>true
 |w::r,d=>if 40 < d+fm (ei w "(") - fm (ei w ")")then false else IZ r (d+fm (ei w "(") - fm (ei w ")"))
theorem Mm(l:Nat)(w:Wd)(d:Int)(st:Hs):bI [some (.ref l),some (.int d),some w.w] st=if 40 < d+fm (ei w "(") - fm (ei w ")")then .err "BadText" [some (.ref l),some (.int (d+fm (ei w "(") - fm (ei w ")"))),some w.w] st else .nx [some (.ref l),some (.int (d+fm (ei w "(") - fm (ei w ")"))),some w.w] st:=by
 have e1:=IY w "(" st;have e2:=IY w ")" st;generalize ei w "("=a at e1 ⊢;generalize ei w ")"=b at e2 ⊢;unfold bI;cases a<;>cases b
 ·have q:d+fm false - fm false=d:=by simp[fm]
  rw[q];by_cases c:40 < d<;>simp[e1,e2,c,lim]
 ·have q:d+fm false - fm true=d - 1:=by simp[fm]
  rw[q];by_cases c:40 < d - 1<;>simp[e1,e2,c,lim,jw,yq]
 ·have q:d+fm true - fm false=d+1:=by simp[fm]
  rw[q];by_cases c:40 < d+1<;>simp[e1,e2,c,lim,jw,yq]
 ·have q:d+fm true - fm true=d+1 - 1:=by simp[fm]
  rw[q];by_cases c:40 < d+1 - 1
  ·have c':40 < d:=by omega
   simp[e1,e2,c',lim,jw,yq]
  ·have c':¬40 < d:=by omega
   simp[e1,e2,c',lim,jw,yq]
theorem Cg{l:Nat}{all:List Wv}{st:Hs}(hl:av st l=some all):∀(ws:List Wd)(d:Int)(o:Option Wv),(IZ ws d=true/\∃ρ,forL 2 bI l all (ws.map Wd.w) [some (.ref l),some (.int d),o] st= .nx ρ st)\/(IZ ws d=false/\∃ρ,forL 2 bI l all (ws.map Wd.w) [some (.ref l),some (.int d),o] st= .err "BadText" ρ st)
 |[],d,o=> .inl ⟨rfl,_,rfl⟩
 |w::r,d,o=>by
  have t:=Mm l w d st;rw[iT];unfold forL IZ;rw[show([some (.ref l),some (.int d),o]:bR).set 2 (some w.w)=[some (.ref l),some (.int d),some w.w] from rfl];generalize d+fm (ei w "(") - fm (ei w ")")=d' at t ⊢;by_cases c:40 < d'
  ·rw[if_pos c]at t ⊢;rw[t];exact .inr ⟨rfl,_,rfl⟩
  ·rw[if_neg c]at t ⊢;rw[t];dsimp only;rw[if_pos hl];exact Cg hl r d' (some w.w)
variable{ws:List Wd}
theorem brackets(h:st[l]? =some (.lst (ws.map Wd.w))):cI [.ref l] st=if IZ ws 0=true then .ok .cG st else .err "BadText" st:=by
 have hl:=bT h;rcases Cg hl ws 0 none with ⟨b,ρ,e⟩ |⟨b,ρ,e⟩
 ·rw[if_pos b];have e':kFor 2 bI [some (.ref l),some (.int 0),none] (.ref l) st= .nx ρ st:=by rw[wJ hl];exact e
  unfold cI aK eX;simp[e']
 ·rw[if_neg (by rw[b];decide)];have e':kFor 2 bI [some (.ref l),some (.int 0),none] (.ref l) st= .err "BadText" ρ st:=by rw[wJ hl];exact e
  unfold cI aK eX;simp[e']
theorem aa7{f:Int->Int->Int}{fl:S}{Yq:List (S×Wv)}{a b:Int}(h1:go ρ st= .ok (.ref k) st1)(h2:st1[k]? =some (.ins c fs))(h3:fs.lookup fl=some (.int a))(h4:ge ρ st1= .ok (.int b) st2)(h5:st2[k]? =some (.ins c Yq))(h6:Yq.length < 900):uZ f c fl go ge ρ st= .nx ρ (st2.set k (.ins c (yw fl (.int (f a b)) Yq))):=by
 have e:dZ st1 c (.ref k)=some fs:=by unfold dZ;simp[h2]
 have e2:dZ st2 c (.ref k)=some Yq:=by unfold dZ;simp[h5]
 unfold uZ;rw[h1];dsimp only[Re.bM];rw[e];dsimp only[BO];rw[h3];dsimp only;rw[h4];show(match ub c fl (.ref k) (.int (f a b)) st2 with |some st3=>Rs.nx ρ st3 |none=> .bad)=_
 unfold ub;rw[e2];dsimp only;rw[if_pos h6]
def VR(l i:Nat):List (S×Wv):=[("words",.ref l),("spot",.int (i:Nat))]
def dz(l i:Nat):Ob:=.ins "WordRow" (VR l i)
structure At(r l i:Nat)(ws:List Wd)(st:Hs):Prop where
 row:st[r]? =some (dz l i)
 lst:st[l]? =some (.lst (ws.map Wd.w))
 few:ws.length<=2000
def hd:List Wd->Wd
 |[]=> .en
 |w::_=>w
theorem ahead{r:Nat}(h:At r l i ws st):aD [.ref r] st= .ok (hd (ws.drop i)).w st:=by
 have f1:ua "WordRow" "spot" (af 0) [some (.ref r)] st= .ok (.int (i:Nat)) st:=VP rfl h.row rfl;have f2:ua "WordRow" "words" (af 0) [some (.ref r)] st= .ok (.ref l) st:=VP rfl h.row rfl;have hl:=bT h.lst;have ln:dJ [.ref l] st= .ok (.int (ws.length:Nat)) st:=by have:=Ie hl;rwa [iW]at this
 unfold aD aK gO;by_cases c:i < ws.length
 ·have e:hd (ws.drop i)=ws[i]:=by rw[vV c];rfl
  have ix:bH (.ref l) (.int (i:Nat)) st= .ok (ws[i]).w st:=mU hl (L2.eO (by rw[fZ,fg c];rfl));rw[e];simp[f1,f2,ln,c,ix]
 ·rw[IG (by omega)];simp[f1,f2,ln,c];rfl
theorem At.to{r:Nat}(h:At r l i ws st):At r l j ws (st.set r (dz l j)):=by
 have hne:r≠l:=by intro z;have a:=h.row;have b:=h.lst;rw[z,b]at a;cases a
 exact⟨iJ h.row,by rw[iu hne];exact h.lst,h.few⟩
theorem taken{r:Nat}(h:At r l i ws st):aJ [.ref r] st= .ok (hd (ws.drop i)).w (st.set r (dz l (i+1))):=by
 have m1:f9 "WordRow" "ahead" 1 aD (af 0) ag [some (.ref r),none] st= .ok (hd (ws.drop i)).w st:=(Er (k:=r) (ws:=[]) rfl h.row rfl rfl rfl).trans (ahead h);generalize (hd (ws.drop i)).w=w at m1 ⊢;have a1:uZ (λi j=>i+j) "WordRow" "spot" (af 0) (gC (.int 1)) [some (.ref r),some w] st= .nx [some (.ref r),some w] (st.set r (dz l (i+1))):=by
  have pq:Ob.ins "WordRow" (yw "spot" (.int ((i:Int)+1)) (VR l i))=dz l (i+1):=by kernel_rfl
  rw[aa7 (a:=(i:Nat)) (b:=1) rfl h.row rfl rfl h.row (by show 2 < 900;decide),pq]
 unfold aJ aK gQ;simp[m1,a1]
abbrev RW:=Rr (Wv×Nat)
def zf(v:RW)(r l:Nat)(ws:List Wd)(x:Re Wv)(st:Hs):Prop:=match v with
 |.ok p=>∃st',x= .ok p.1 st'/\bE r st st'/\At r l p.2 ws st'
 |.no=>∃st',x= .err "BadText" st'/\bE r st st'
 |.un=>True
def Ci(x:S):Prop:=x="("\/x=","\/x=")"
theorem Es{r:Nat}(h:At r l i ws st)(hx:Ci x):aP [.ref r,.str x] st=if ei (hd (ws.drop i)) x=true then .ok .cG (st.set r (dz l (i+1)))else .err "BadText" (st.set r (dz l (i+1))):=by
 have m1:f9 "WordRow" "taken" 1 aJ (af 0) ag [some (.ref r),some (.str x)] st= .ok (hd (ws.drop i)).w (st.set r (dz l (i+1))):=(Er (k:=r) (ws:=[]) rfl h.row rfl rfl rfl).trans (taken h);have ne:=Nh (hd (ws.drop i)) x (st.set r (dz l (i+1)));generalize (hd (ws.drop i)).w=w at m1 ne;generalize ei (hd (ws.drop i)) x=b at ne ⊢;generalize st.set r (dz l (i+1))=s1 at m1 ne ⊢;unfold aP aK eI;cases b with
 |true=>simp[m1,ne]
 |false=>
  have js:∃z,XI [(gC (.str "no ")),(XH (af 1)),(gC (.str " where it is due"))] [some (.ref r),some (.str x)] s1= .ok (.str z) s1:=by rcases hx with rfl |rfl |rfl<;>exact⟨_,rfl⟩
  obtain⟨z,js⟩:=js;simp[m1,ne,js,lim]
theorem w0(d:Wd)(st:Hs):∃k,bH d.w (.int 0) st= .ok (.str k) st/\(k="whole"\/k="call"\/k="sign"\/k="area"\/k="end"):=by
 cases d with
 |num n=>exact⟨"whole",jx rfl,by simp⟩
 |txt s=>exact⟨"whole",jx rfl,by simp⟩
 |za=>exact⟨"whole",jx rfl,by simp⟩
 |pt r c p q=>exact⟨"whole",jx rfl,by simp⟩
 |cl x=>exact⟨"call",jx rfl,by simp⟩
 |sg x=>exact⟨"sign",jx rfl,by simp⟩
 |ar a b c d p q r s=>exact⟨"area",jx rfl,by simp⟩
 |en=>exact⟨"end",rfl,by simp⟩
theorem q1:(("call":S) == "whole")=false:=by decide+kernel
theorem q2:(("sign":S) == "whole")=false:=by decide+kernel
theorem q3:(("sign":S) == "call")=false:=by decide+kernel
theorem q4:(("area":S) == "whole")=false:=by decide+kernel
theorem q5:(("area":S) == "call")=false:=by decide+kernel
theorem q6:(("end":S) == "whole")=false:=by decide+kernel
theorem q7:(("end":S) == "call")=false:=by decide+kernel
theorem q8:(("end":S) == "sign")=false:=by decide+kernel
theorem q9:(("area":S) == "sign")=false:=by decide+kernel
theorem q10:(("call":S) == "sign")=false:=by decide+kernel
theorem q11:(("whole":S) == "sign")=false:=by decide+kernel
theorem q12:(("whole":S) == "area")=false:=by decide+kernel
theorem q13:(("call":S) == "area")=false:=by decide+kernel
theorem q14:(("sign":S) == "area")=false:=by decide+kernel
theorem q15:(("end":S) == "area")=false:=by decide+kernel
def jo(F:List Wv->Hs->Re Wv)(P:Nat->RW)(ws:List Wd):Prop:=∀(r l i:Nat)(st:Hs),At r l i ws st->zf (P i) r l ws (F [.ref r] st) st
def A7(F:List Wv->Hs->Re Wv)(C:Nat->S->RW)(ws:List Wd):Prop:=∀(r l i:Nat)(x:S)(st:Hs),At r l i ws st->zf (C i x) r l ws (F [.ref r,.str x] st) st
def qo(ws:List Wd)(v:RW):RW:=match v with
 |.ok p=>if ei (hd (ws.drop p.2)) ")"=true then .ok (p.1,p.2+1)else .no
 |.no=> .no
 |.un=> .un
def A8(P:Nat->RW)(C:Nat->S->RW)(ws:List Wd)(i:Nat):RW:=match hd (ws.drop i)with
 |.num n=> .ok (.tup [.str "num",.int n],i+1)
 |.txt s=> .ok (.tup [.str "text",.str s],i+1)
 |.za=> .ok (.tup [.str "lost"],i+1)
 |.pt r c p q=> .ok (.tup [.str "at",.tup [.int r,.int c],.tup [.int p,.int q]],i+1)
 |.cl x=>C (i+1) x
 |.sg x=>if x="(" then qo ws (P (i+1))else .no
 |.ar _ _ _ _ _ _ _ _=> .no
 |.en=> .no
variable{s1:Hs}
theorem zf.up{v:RW}{r:Nat}{x:Re Wv}(k:bE r st s1)(h:zf v r l ws x s1):zf v r l ws x st:=by
 cases v with
 |ok p=>obtain⟨st',e,k',a⟩:=h;exact⟨st',e,k.trans k',a⟩
 |no=>obtain⟨st',e,k'⟩:=h;exact⟨st',e,k.trans k'⟩
 |un=>trivial
theorem xj{r:Nat}(h:At r l i ws st)(h0:ρ[0]? =some (some (.ref r))):f9 "WordRow" "taken" 1 aJ (af 0) ag ρ st= .ok (hd (ws.drop i)).w (st.set r (dz l (i+1))) :=
 (Er (k:=r) (ws:=[]) (by show Tu ρ[0]? st=_;rw[h0];rfl) h.row rfl rfl rfl).trans (taken h)
theorem tR{r:Nat}(h:At r l i ws st)(hx:Ci x)(h0:ρ[0]? =some (some (.ref r)))(hg:g ρ st= .ok (.str x) st):f9 "WordRow" "pass_sign" 2 aP (af 0) (ae g ag) ρ st=if ei (hd (ws.drop i)) x=true then .ok .cG (st.set r (dz l (i+1)))else .err "BadText" (st.set r (dz l (i+1))) :=
 (Er (k:=r) (ws:=[.str x]) (by show Tu ρ[0]? st=_;rw[h0];rfl) h.row rfl (by simp[hg]) rfl).trans (Es h hx)
variable{P:Nat->RW}{F1 F2 F3 F4:List Wv->Hs->Re Wv}
theorem I0{C:Nat->S->RW}(h1:A7 F1 C ws)(h4:jo F4 P ws):jo (aK 3 (a9 F1 F2 F3 F4)) (A8 P C ws) ws:=by
 intro r l i st h;have m1:=xj (ρ:=[some (.ref r),none,none]) h rfl;have a1:=h.to (j:=i+1);have k1:bE r st (st.set r (dz l (i+1))):=bE.set;have ns:=Nh (hd (ws.drop i)) "(" (st.set r (dz l (i+1)));unfold A8;generalize st.set r (dz l (i+1))=s1 at m1 a1 k1 ns;generalize hd (ws.drop i)=d at m1 ns ⊢;cases d with
 |num n=>simp only[Wd.w]at m1;exact⟨s1,by unfold aK a9;simp[m1,qG,Io],k1,a1⟩
 |txt n=>simp only[Wd.w]at m1;exact⟨s1,by unfold aK a9;simp[m1,qG,Io],k1,a1⟩
 |za=>simp only[Wd.w]at m1;exact⟨s1,by unfold aK a9;simp[m1,qG,Io],k1,a1⟩
 |pt a b c d=>simp only[Wd.w]at m1;exact⟨s1,by unfold aK a9;simp[m1,qG,Io],k1,a1⟩
 |cl x=>
  have q:=(h1 r l (i+1) x s1 a1).up k1;have e:aK 3 (a9 F1 F2 F3 F4) [.ref r] st=F1 [.ref r,.str x] s1:=by unfold aK a9;simp only[Wd.w]at m1;cases hF:F1 [.ref r,.str x] s1<;>simp[m1,qG,Io,hF,q1]
  rw[e];exact q
 |sg x=>
  simp only[Wd.w]at m1 ns;dsimp only;by_cases c:x="("
  ·have b:ei (.sg x) "("=true:=decide_eq_true c;rw[b]at ns;rw[if_pos c];have q:=h4 r l (i+1) s1 a1;cases hP:P (i+1)with
   |un=>exact trivial
   |no=>rw[hP]at q;obtain⟨s2,e2,k2⟩:=q;refine⟨s2,?_,k1.trans k2⟩;unfold aK a9;simp[m1,qG,q2,q3,q4,q5,ns,e2]
   |ok p=>
    obtain⟨f,j⟩:=p;rw[hP]at q;obtain⟨s2,e2,k2,a2⟩:=q;have ps:=tR (ρ:=[some (.ref r),some (.tup [.str "sign",.str x]),some f]) (g:=gC (.str ")")) (x:=")") a2 (.inr (.inr rfl)) rfl rfl;unfold qo;dsimp only at ps ⊢;by_cases z:ei (hd (ws.drop j)) ")"=true
    ·rw[if_pos z]at ps ⊢;refine⟨s2.set r (dz l (j+1)),?_,(k1.trans k2).trans bE.set,a2.to⟩;unfold aK a9;simp[m1,qG,q2,q3,q4,q5,ns,e2,ps]
    ·rw[if_neg z]at ps ⊢;refine⟨s2.set r (dz l (j+1)),?_,(k1.trans k2).trans bE.set⟩;unfold aK a9;simp[m1,qG,q2,q3,q4,q5,ns,e2,ps]
  ·have b:ei (.sg x) "("=false:=decide_eq_false c;rw[b]at ns;rw[if_neg c];refine⟨s1,?_,k1⟩;unfold aK a9;simp[m1,qG,q2,q3,q4,q5,ns,lim]
 |ar a b c d p q r' s=>simp only[Wd.w]at m1 ns;refine⟨s1,?_,k1⟩;have b:ei (.ar a b c d p q r' s) "("=false:=rfl;rw[b]at ns;unfold aK a9;simp[m1,qG,q2,q3,q4,q5,ns,lim]
 |en=>refine⟨s1,?_,k1⟩;have b:ei .en "("=false:=rfl;rw[b]at ns;simp only[Wd.w]at m1 ns;have ik:bH (.jS [.str "end",.str ""]) (.int 0) s1= .ok (.str "end") s1:=rfl;unfold aK a9;simp[m1,ik,q6,q7,ns,lim]
def K2(r e:Nat)(st st':Hs):Prop:=st.length<=st'.length/\∀k,k < st.length->k≠r->k≠e->st'[k]? =st[k]?
theorem K2.refl{r e:Nat}:K2 r e st st:=⟨aA _,λ_ _ _ _=>rfl⟩
theorem K2.trans{r e:Nat}{a b c:Hs}(h:K2 r e a b)(k:K2 r e b c):K2 r e a c:=⟨b5 h.1 k.1,λj h1 h2 h3=>(k.2 j (bY h1 h.1) h2 h3).trans (h.2 j h1 h2 h3)⟩
theorem K2.r{r e:Nat}{a b:Hs}(h:bE r a b):K2 r e a b:=⟨h.1,λj h1 h2 _=>h.2 j h1 h2⟩
theorem K2.e{r e:Nat}{a:Hs}{o:Ob}:K2 r e a (a.set e o):=⟨by simp,λj _ _ h=>iu λz=>h z.symm⟩
variable{r e:Nat}{o:Ob}
theorem Ni{a b:Hs}(h:bE r a b)(he:e≠r)(g:a[e]? =some o):b[e]? =some o:=by rw[h.2 e (kO g) he];exact g
theorem At.other(h:At r l i ws st)(h1:e≠r)(h2:e≠l):At r l i ws (st.set e o):=⟨by rw[iu h1];exact h.row,by rw[iu h2];exact h.lst,h.few⟩
abbrev RA:=Rr (List Wv×Nat×S)
def argsR(P:Nat->RW)(ws:List Wd):Nat->Nat->S->List Wv->RA
 | 0,i,op,acc=> .ok (acc,i,op)
 |k+1,i,op,acc=>if ei (hd (ws.drop i)) op=true then(match P (i+1)with
  |.ok p=>argsR P ws k p.2 "," (acc++[p.1])
  |.no=> .no
  |.un=> .un)else .no
def Cj(v:RA)(r l e:Nat)(x:S)(ws:List Wd)(y:Rs)(st:Hs):Prop:=match v with
 |.ok p=>∃o st',y= .nx [some (.ref r),some (.str x),some (.ref e),some (.str p.2.2),o] st'/\K2 r e st st'/\At r l p.2.1 ws st'/\st'[e]? =some (.lst p.1)/\Ci p.2.2
 |.no=>∃ρ st',y= .err "BadText" ρ st'/\K2 r e st st'
 |.un=>True
theorem Cj.up{v:RA}{y:Rs}(k:K2 r e st s1)(h:Cj v r l e x ws y s1):Cj v r l e x ws y st:=by
 cases v with
 |ok p=>obtain⟨o,st',q,k',a⟩:=h;exact⟨o,st',q,k.trans k',a⟩
 |no=>obtain⟨ρ,st',q,k'⟩:=h;exact⟨ρ,st',q,k.trans k'⟩
 |un=>trivial
theorem vc{F1 F2 F3 F4:List Wv->Hs->Re Wv}{P:Nat->RW}{ws:List Wd}(h4:jo F4 P ws){r l e:Nat}{x:S}(Yr:e≠r)(hel:e≠l):∀(us:List Wv)(i:Nat)(op:S)(acc:List Wv)(o:Option Wv)(st:Hs),At r l i ws st->st[e]? =some (.lst acc)->Ci op->acc.length+us.length<=100->
  Cj (argsR P ws us.length i op acc) r l e x ws (ju 4 (cw F1 F2 F3 F4) us [some (.ref r),some (.str x),some (.ref e),some (.str op),o] st) st
 |[],i,op,acc,o,st,h,he,hs,_=>⟨o,st,rfl,K2.refl,h,he,hs⟩
 |u::us,i,op,acc,o,st,h,he,hs,hl=>by
  have ps:=tR (ρ:=[some (.ref r),some (.str x),some (.ref e),some (.str op),some u]) (g:=af 3) (x:=op) h hs rfl rfl;have a1:=h.to (j:=i+1);have k1:bE r st (st.set r (dz l (i+1))):=bE.set;have he1:=Ni k1 Yr he;rw[iV];unfold argsR ju;rw[show([some (.ref r),some (.str x),some (.ref e),some (.str op),o]:bR).set 4 (some u)=[some (.ref r),some (.str x),some (.ref e),some (.str op),some u] from rfl];generalize st.set r (dz l (i+1))=s1 at ps a1 k1 he1;by_cases c:ei (hd (ws.drop i)) op=true
  ·rw[if_pos c]at ps ⊢;have q:=h4 r l (i+1) s1 a1;have l1:=bT he1;cases hP:P (i+1)with
   |un=>exact trivial
   |no=>
    rw[hP]at q;obtain⟨s2,e2,k2⟩:=q;have b:cw F1 F2 F3 F4 [some (.ref r),some (.str x),some (.ref e),some (.str op),some u] st= .err "BadText" [some (.ref r),some (.str x),some (.ref e),some (.str op),some u] s2:=by unfold cw;simp[ps,m7,l1,e2]
    rw[b];exact⟨_,s2,rfl,K2.r (k1.trans k2)⟩
   |ok p=>
    rw[hP]at q;obtain⟨s2,e2,k2,a2⟩:=q;have he2:=Ni k2 Yr he1;have ap:=yI (v:=p.1) he2 (by simp at hl;unfold lim;omega);have b:cw F1 F2 F3 F4 [some (.ref r),some (.str x),some (.ref e),some (.str op),some u] st= .nx [some (.ref r),some (.str x),some (.ref e),some (.str ","),some u] (s2.set e (.lst (acc++[p.1]))):=by unfold cw;simp[ps,m7,l1,e2,ap]
    rw[b];have nx:=vc (F1:=F1) (F2:=F2) (F3:=F3) h4 (x:=x) Yr hel us p.2 "," (acc++[p.1]) (some u) (s2.set e (.lst (acc++[p.1]))) (a2.other Yr hel) (iJ he2) (.inr (.inl rfl)) (by simp at hl ⊢;omega);exact nx.up ((K2.r (k1.trans k2)).trans K2.e)
  ·rw[if_neg c]at ps ⊢;have b:cw F1 F2 F3 F4 [some (.ref r),some (.str x),some (.ref e),some (.str op),some u] st= .err "BadText" [some (.ref r),some (.str x),some (.ref e),some (.str op),some u] s1:=by unfold cw;simp[ps]
   rw[b];exact⟨_,s1,rfl,K2.r k1⟩
def tS(d:Wd):Option (List Wv):=match d with
 |.ar a b c d p q r s=>some [.tup [.int a,.int b,.int c,.int d],.tup [.int p,.int q,.int r,.int s]]
 |_=>none
theorem Et(h:At r l i ws st):dv [.ref r] st=(match tS (hd (ws.drop i))with |some us=> .ok (.tup us) (st.set r (dz l (i+1))) |none=> .err "BadText" (st.set r (dz l (i+1)))):=by have m1:=xj (ρ:=[some (.ref r),none]) h rfl;generalize hd (ws.drop i)=d at m1 ⊢;generalize st.set r (dz l (i+1))=s1 at m1 ⊢;have ik:bH (.jS [.str "end",.str ""]) (.int 0) s1= .ok (.str "end") s1:=rfl;cases d<;>simp only[Wd.w]at m1<;>unfold dv aK gS tS<;>simp[m1,qG,Io,lim,ik,q12,q13,q14,q15,Ia]
def Nj(ws:List Wd)(x:S)(v:RA):RW:=match v with
 |.ok p=>if x∈AF then(if ei (hd (ws.drop p.2.1)) p.2.2=true then(match tS (hd (ws.drop (p.2.1+1)))with
   |some us=>qo ws (.ok (.tup (p.1++us),p.2.1+1+1))
   |none=> .no)else .no)else qo ws (.ok (.tup p.1,p.2.1))
 |.no=> .no
 |.un=> .un
def I_(P:Nat->RW)(ws:List Wd)(i:Nat)(x:S):RW:=match aB.lookup x with
 |some (.int k)=>Nj ws x (argsR P ws k.toNat i "(" [.str x])
 |_=> .un
theorem K2.new(k:K2 r st.length (st++[o]) s1):bE r st s1:=⟨b5 (by simp) k.1,λj h1 h2=>by rw[k.2 j (by simp;omega) h2 (by omega),jR h1]⟩
theorem At.push(h:At r l i ws st):At r l i ws (st++[o]):=⟨ft h.row,ft h.lst,h.few⟩
theorem Ja(h:tS d=some us):us.length=2:=by cases d<;>cases h;rfl
theorem zg{P:Nat->RW}{ws:List Wd}:∀{k i:Nat}{op:S}{acc es:List Wv}{j:Nat}{op':S},argsR P ws k i op acc= .ok (es,j,op')->es.length=acc.length+k
 | 0,i,op,acc,es,j,op',h=>by cases h;rfl
 |k+1,i,op,acc,es,j,op',h=>by
  unfold argsR at h;by_cases c:ei (hd (ws.drop i)) op=true
  ·rw[if_pos c]at h;cases hP:P (i+1)with
   |no=>rw[hP]at h;cases h
   |un=>rw[hP]at h;cases h
   |ok p=>rw[hP]at h;have:=zg h;rw[this];simp;omega
  ·rw[if_neg c]at h;cases h
theorem Mn(h4:jo F4 P ws):A7 (aK 5 (bW F1 F2 F3 F4)) (I_ P ws) ws:=by
 intro r l i x st h;unfold I_;cases lk:aB.lookup x with
 |none=>exact trivial
 |some v=>
  obtain⟨k,rfl,hk⟩:=counts lk;dsimp only;rw[sm];have hr:r < st.length:=kO h.row;have hl:l < st.length:=kO h.lst;have al:=vc (F1:=F1) (F2:=F2) (F3:=F3) h4 (x:=x) (e:=st.length) (by omega) (by omega) (gE 0 k) i "(" [.str x] none (st++[.lst [.str x]]) h.push eh (.inl rfl) (by rw[iZ];simp;omega);rw[iZ]at al;have pm:=mP (st:=st++[.lst [.str x]]) lk;have cr:nz (k:Nat):=Mb (by omega) (by omega);cases hv:argsR P ws k i "(" [.str x]with
  |un=>exact trivial
  |no=>rw[hv]at al;obtain⟨ρ,s1,e1,k1⟩:=al;refine⟨s1,?_,k1.new⟩;refine wI (n:=5) (g:=bW F1 F2 F3 F4) (ρ:=ρ) ?_;unfold bW;simp[pm,cr,e1]
  |ok p=>
   obtain⟨es,j,op⟩:=p;have len:=zg hv;rw[hv]at al;obtain⟨o,s1,e1,k1,a1,ge,hs⟩:=al;dsimp only at e1 a1 ge hs;have ha:=pe (x:=x) (st:=s1);unfold Nj;dsimp only;by_cases c:x∈AF
   ·rw[if_pos c];rw[decide_eq_true c]at ha;have ps:=tR (ρ:=[some (.ref r),some (.str x),some (.ref st.length),some (.str op),o]) (g:=af 3) (x:=op) a1 hs rfl rfl;have a2:=a1.to (j:=j+1);have k2:bE r s1 (s1.set r (dz l (j+1))):=bE.set;have ge2:=Ni k2 (by omega) ge;generalize s1.set r (dz l (j+1))=s2 at ps a2 k2 ge2;by_cases c1:ei (hd (ws.drop j)) op=true
    ·rw[if_pos c1]at ps ⊢;have aw:=Et a2;have a3:=a2.to (j:=j+1+1);have k3:bE r s2 (s2.set r (dz l (j+1+1))):=bE.set;have ge3:=Ni k3 (by omega) ge2;have l2:=bT ge2;generalize s2.set r (dz l (j+1+1))=s3 at aw a3 k3 ge3;have kk:=k1.trans (K2.r (k2.trans k3));cases ea:tS (hd (ws.drop (j+1)))with
     |none=>rw[ea]at aw;refine⟨s3,?_,kk.new⟩;unfold aK bW;simp[pm,cr,e1,ha,ps,m7,l2,aw]
     |some us=>
      rw[ea]at aw;have l3:=Ja ea;have ex:=Iq (zs:=us) ge3 (by rw[len,l3];simp;unfold lim;omega);have a4:=a3.other (o:=.lst (es++us)) (e:=st.length) (by omega) (by omega);have g4:(s3.set st.length (.lst (es++us)))[st.length]? =some (.lst (es++us)):=iJ ge3;have k4:=kk.trans (K2.e (r:=r) (e:=st.length) (a:=s3) (o:=.lst (es++us)));generalize s3.set st.length (.lst (es++us))=s4 at ex a4 g4 k4;have ps2:=tR (ρ:=[some (.ref r),some (.str x),some (.ref st.length),some (.str op),o]) (g:=gC (.str ")")) (x:=")") a4 (.inr (.inr rfl)) rfl rfl;have a5:=a4.to (j:=j+1+1+1);have k5:bE r s4 (s4.set r (dz l (j+1+1+1))):=bE.set;have g5:=Ni k5 (by omega) g4;generalize s4.set r (dz l (j+1+1+1))=s5 at ps2 a5 k5 g5;have tc:=VC g5;unfold qo;dsimp only;by_cases z:ei (hd (ws.drop (j+1+1))) ")"=true
      ·rw[if_pos z]at ps2 ⊢;refine⟨s5,?_,(k4.trans (K2.r k5)).new,a5⟩;unfold aK bW;simp[pm,cr,e1,ha,ps,m7,l2,aw,ex,ps2,tc]
      ·rw[if_neg z]at ps2 ⊢;refine⟨s5,?_,(k4.trans (K2.r k5)).new⟩;unfold aK bW;simp[pm,cr,e1,ha,ps,m7,l2,aw,ex,ps2]
    ·rw[if_neg c1]at ps ⊢;refine⟨s2,?_,(k1.trans (K2.r k2)).new⟩;unfold aK bW;simp[pm,cr,e1,ha,ps]
   ·rw[if_neg c];rw[decide_eq_false c]at ha;have ps2:=tR (ρ:=[some (.ref r),some (.str x),some (.ref st.length),some (.str op),o]) (g:=gC (.str ")")) (x:=")") a1 (.inr (.inr rfl)) rfl rfl;have a5:=a1.to (j:=j+1);have k5:bE r s1 (s1.set r (dz l (j+1))):=bE.set;have g5:=Ni k5 (by omega) ge;generalize s1.set r (dz l (j+1))=s5 at ps2 a5 k5 g5;have tc:=VC g5;unfold qo;dsimp only;by_cases z:ei (hd (ws.drop j)) ")"=true
    ·rw[if_pos z]at ps2 ⊢;refine⟨s5,?_,(k1.trans (K2.r k5)).new,a5⟩;unfold aK bW;simp[pm,cr,e1,ha,ps2,tc]
    ·rw[if_neg z]at ps2 ⊢;refine⟨s5,?_,(k1.trans (K2.r k5)).new⟩;unfold aK bW;simp[pm,cr,e1,ha,ps2]
def Jb(W:Nat->RW)(ws:List Wd)(i:Nat):RW:=if ei (hd (ws.drop i)) "-"=true then .un else W i
def Nk(O:Nat->RW)(ws:List Wd)(p:Wv×Nat):RW:=match hd (ws.drop p.2)with
 |.sg x=>if(cO.lookup x).isSome=true then(match O (p.2+1)with
  |.no=> .no
  |_=> .un)else .ok p
 |_=> .ok p
def Jc(O:Nat->RW)(ws:List Wd)(i:Nat):RW:=match O i with
 |.ok p=>Nk O ws p
 |.no=> .no
 |.un=> .un
theorem Ck(h:At r l i ws st)(h0:ρ[0]? =some (some (.ref r))):f9 "WordRow" "ahead" 1 aD (af 0) ag ρ st= .ok (hd (ws.drop i)).w st :=
 (Er (k:=r) (ws:=[]) (by show Tu ρ[0]? st=_;rw[h0];rfl) h.row rfl rfl rfl).trans (ahead h)
theorem Mo{W:Nat->RW}(h2:jo F2 W ws):jo (aK 4 (dw F1 F2 F3 F4)) (Jb W ws) ws:=by
 intro r l i st h;unfold Jb;have ma:=Ck (ρ:=[some (.ref r),some (.int 0),none,none]) h rfl;have es:=IY (hd (ws.drop i)) "-" st;by_cases c:ei (hd (ws.drop i)) "-"=true
 ·rw[if_pos c];exact trivial
 rw[if_neg c];rw[xh]at c;rw[c]at es;have wl:eD cM (bp (aj oEq (f9 "WordRow" "ahead" 1 aD (af 0) ag) (bS (ae (gC (.str "sign")) (ae (gC (.str "-")) ag))))) (jM F1 F2 F3 F4) [some (.ref r),some (.int 0),none,none] st= .nx [some (.ref r),some (.int 0),none,none] st:=by show wj _ _ (99999+1) _ _=_;refine tP ?_;simp[ma,es]
 have q:=h2 r l i st h;have cr:nz 0:=Mb (by decide) (by decide);cases hW:W i with
 |un=>exact trivial
 |no=>rw[hW]at q;obtain⟨s1,e1,k1⟩:=q;refine⟨s1,?_,k1⟩;unfold aK dw;simp[wl,e1]
 |ok p=>rw[hW]at q;obtain⟨s1,e1,k1,a1⟩:=q;refine⟨s1,?_,k1,a1⟩;have f0:∀gb ρ,ju 3 gb (gE 0 0) ρ s1= .nx ρ s1:=λgb ρ=>rfl;unfold aK dw;simp[wl,e1,cr,f0]
theorem Cm{b:Nat}{w:Wv}(h:av st b=some []):fT [.ref a,.ref b,w] st= .ok .cG st:=by
 have tr:=Nd h;have wl:eD cM (qP (iI (af 1)) (bp (aj UB (sV cO (aj bH (af 1) (S0 uI (gC (.int 1))))) (af 2)))) l6 [some (.ref a),some (.ref b),some w,none,none] st= .nx [some (.ref a),some (.ref b),some w,none,none] st:=by show wj _ _ (99999+1) _ _=_;refine tP ?_;simp[tr]
 unfold fT aK l7;simp[wl]
abbrev xk:GT:=qP (bp (aj oEq (aj bH (f9 "WordRow" "ahead" 1 aD (af 0) ag) (gC (.int 0))) (gC (.str "sign")))) (bp (kj false cO (aj bH (f9 "WordRow" "ahead" 1 aD (af 0) ag) (gC (.int 1)))))
def Q8(d:Wd):Bool:=match d with
 |.sg x=>(cO.lookup x).isSome
 |_=>false
theorem Eu(h:At r l i ws st)(h0:ρ[0]? =some (some (.ref r))):xk ρ st= .ok (Q8 (hd (ws.drop i))) st:=by have ma:=Ck h h0;generalize hd (ws.drop i)=d at ma ⊢;have ik:bH (.jS [.str "end",.str ""]) (.int 0) st= .ok (.str "end") st:=rfl;cases d<;>simp only[Wd.w]at ma<;>unfold Q8<;>simp[ma,qG,Io,ik,q8,q9,q10,q11,wG]
theorem rS{O:Nat->RW}(h3:jo F3 O ws):jo (aK 4 (bX F1 F2 F3 F4)) (Jc O ws) ws:=by
 intro r l i st h;unfold Jc;have q:=h3 r l i st h;cases hO:O i with
 |un=>exact trivial
 |no=>rw[hO]at q;obtain⟨s1,e1,k1⟩:=q;refine⟨s1,?_,k1⟩;unfold aK bX;simp[e1]
 |ok p=>
  obtain⟨f,j⟩:=p;rw[hO]at q;obtain⟨s1,e1,k1,a1⟩:=q;dsimp only at e1 a1;have a2:At r l j ws (s1++[Ob.lst [f]]++[Ob.lst []]):=a1.push.push;have k2:bE r st (s1++[Ob.lst [f]]++[Ob.lst []]):=k1.trans (bE.push.trans bE.push);have g1:(s1++[Ob.lst [f]]++[Ob.lst []])[s1.length]? =some (.lst [f]):=ft eh;have g2:(s1++[Ob.lst [f]]++[Ob.lst []])[(s1++[Ob.lst [f]]).length]? =some (.lst []):=eh;have hne:(s1++[Ob.lst [f]]).length≠s1.length:=by simp
  have hr1:s1.length≠r:=by have:=kO a1.row;omega
  have hl1:s1.length≠l:=by have:=kO a1.lst;omega
  have hr2:(s1++[Ob.lst [f]]).length≠r:=by have:=kO a1.row;simp;omega
  have hl2:(s1++[Ob.lst [f]]).length≠l:=by have:=kO a1.lst;simp;omega
  generalize hb:(s1++[Ob.lst [f]]).length=b at g2 hne hr2 hl2;generalize hs:s1++[Ob.lst [f]]++[Ob.lst []]=s2 at a2 k2 g1 g2;have t:=Eu (ρ:=[some (.ref r),some (.ref s1.length),some (.ref b),none]) a2 rfl;have pre:∀(K:GS),(aC (bq 1 (hZ (ae (az 1 F3 (ae (af 0) ag)) ag))) (aC (bq 2 (hZ ag)) K)) [some (.ref r),none,none,none] st=K [some (.ref r),some (.ref s1.length),some (.ref b),none] s2:=λK=>by rw[<-hs,<-hb];simp[e1]
  have nj:=Cm (a:=s1.length) (w:=.int 0) (bT g2);have ix:bH (.ref s1.length) (.int 0) s2= .ok f s2:=mU (bT g1) (L2.eO (j:=0) rfl);have fin:Q8 (hd (ws.drop j))=false->aK 4 (bX F1 F2 F3 F4) [.ref r] st= .ok f s2:=λno=>by
   rw[no]at t;have wl:eD cM xk (eK F1 F2 F3 F4) [some (.ref r),some (.ref s1.length),some (.ref b),none] s2= .nx [some (.ref r),some (.ref s1.length),some (.ref b),none] s2:=by show wj _ _ (99999+1) _ _=_;exact tP t
   have e:bX F1 F2 F3 F4 [some (.ref r),none,none,none] st= .rt f s2:=by unfold bX;rw[pre];simp[-M6,wl,nj,ix]
   refine Vt (n:=4) (g:=bX F1 F2 F3 F4) ?_;exact e
  unfold Nk;dsimp only;cases hd':hd (ws.drop j)with
  |sg x=>
   dsimp only;cases lk:cO.lookup x with
   |none=>rw[if_neg (by simp)];exact⟨s2,fin (by rw[hd'];show(cO.lookup x).isSome=false;rw[lk];rfl),k2,a2⟩
   |some w=>
    rw[if_pos (show(some w).isSome=true from rfl)];rw[hd']at t;have t':xk [some (.ref r),some (.ref s1.length),some (.ref b),none] s2= .ok true s2:=by rw[t];show Re.ok (cO.lookup x).isSome s2=_;rw[lk];rfl
    have mt:=xj (ρ:=[some (.ref r),some (.ref s1.length),some (.ref b),none]) a2 rfl;rw[hd']at mt;simp only[Wd.w]at mt;have a3:=a2.to (j:=j+1);have k3:bE r s2 (s2.set r (dz l (j+1))):=bE.set;have g3:=Ni k3 hr1 g1;have g4:=Ni k3 hr2 g2;generalize s2.set r (dz l (j+1))=s3 at mt a3 k3 g3 g4;have nj3:=Cm (a:=s1.length) (w:=w) (bT g4);have dx:=B4 (st:=s3) lk;have ap:=yI (v:=.str x) g4 (by unfold lim;simp);have a4:=a3.other (o:=.lst ([]++[.str x])) hr2 hl2;have g5:(s3.set b (.lst ([]++[.str x])))[s1.length]? =some (.lst [f]):=by rw[iu hne];exact g3
    have k4:K2 r b s3 (s3.set b (.lst ([]++[.str x]))):=K2.e;generalize s3.set b (.lst ([]++[.str x]))=s4 at ap a4 g5 k4;have q4:=h3 r l (j+1) s4 a4;cases hO2:O (j+1)with
    |un=>exact trivial
    |ok p=>exact trivial
    |no=>
     rw[hO2]at q4;obtain⟨s5,e5,k5⟩:=q4;have body:eK F1 F2 F3 F4 [some (.ref r),some (.ref s1.length),some (.ref b),none] s2= .err "BadText" [some (.ref r),some (.ref s1.length),some (.ref b),some (.str x)] s5:=by have l4:=bT g4;have l5:=bT g5;unfold eK;simp[mt,Io,dx,nj3,m7,l4,ap,l5,e5]
     have wl:eD cM xk (eK F1 F2 F3 F4) [some (.ref r),some (.ref s1.length),some (.ref b),none] s2= .err "BadText" [some (.ref r),some (.ref s1.length),some (.ref b),some (.str x)] s5:=by show wj _ _ (99999+1) _ _=_;exact vb t' body
     refine⟨s5,?_,?_⟩
     ·refine wI (n:=4) (g:=bX F1 F2 F3 F4) (ρ:=[some (.ref r),some (.ref s1.length),some (.ref b),some (.str x)]) ?_;show bX F1 F2 F3 F4 [some (.ref r),none,none,none] st=_;unfold bX;rw[pre];simp[-M6,wl]
     ·have hbs:st.length<=b:=by rw[<-hb];have:=k1.1;simp;omega
      have kk:K2 r b st s5:=(K2.r (k2.trans k3)).trans (k4.trans (K2.r k5));exact⟨kk.1,λm h1 h2=>kk.2 m h1 h2 (by omega)⟩
  |num n=>exact⟨s2,fin (by rw[hd'];rfl),k2,a2⟩
  |txt n=>exact⟨s2,fin (by rw[hd'];rfl),k2,a2⟩
  |za=>exact⟨s2,fin (by rw[hd'];rfl),k2,a2⟩
  |pt a b c d=>exact⟨s2,fin (by rw[hd'];rfl),k2,a2⟩
  |cl x=>exact⟨s2,fin (by rw[hd'];rfl),k2,a2⟩
  |ar a b c d p q r s=>exact⟨s2,fin (by rw[hd'];rfl),k2,a2⟩
  |en=>exact⟨s2,fin (by rw[hd'];rfl),k2,a2⟩
def qK:Nat->List Wv->Nat->Nat->Bool
 | 0,_,_,_=>false
 |n+1,ws,p,d=>if ws.isEmpty=true then true else if 60 < p+ws.length\/12 < d+1 then false else if ws.all eN=true then qK n (pf ws) (p+ws.length) (d+1)else false
theorem ve{F:Wv}:∀(N n p d:Nat)(ws:List Wv)(M k:Nat)(st:Hs),d<=12->13<=d+N->13<=d+n->N < M->(∀w∈ws,pl n w)->ws.length<=300->st[k]? =some (.lst ws)->
  ∃ρ st',wj (iI (af 1)) bK M [some F,some (.ref k),some (.int (p:Nat)),some (.int (d:Nat))] st=(if qK N ws p d=true then .nx (some F::ρ) st' else .err "BadFormula" (some F::ρ) st')/\Gr st st'
 | 0,_,_,_,_,_,_,_,h1,h2,_,_,_,_,_=>by omega
 |N+1,n,p,d,ws,M,k,st,hd,hN,hn,hM,hpl,hlen,hk=>by
  obtain⟨M,rfl⟩:∃m,M=m+1:=⟨M - 1,by omega⟩;have tl:=Nd (bT hk);unfold qK;cases he:ws.isEmpty with
  |true=>rw[he]at tl;rw[if_pos (show true=true from rfl)];exact⟨[_,_,_],st,(tP (by simp[tl])).trans (if_pos rfl).symm,Gr.refl⟩
  |false=>
   rw[he]at tl;rw[if_neg (by decide)];have tt:iI (af 1) [some F,some (.ref k),some (.int (p:Nat)),some (.int (d:Nat))] st= .ok true st:=by simp[tl]
   have ln:dJ [.ref k] st= .ok (.int (ws.length:Nat)) st:=Ie (bT hk);have a1:jw (λi j=>i+j) 2 (aI dJ (ae (af 1) ag)) [some F,some (.ref k),some (.int (p:Nat)),some (.int (d:Nat))] st= .nx [some F,some (.ref k),some (.int ((p+ws.length:Nat):Int)),some (.int (d:Nat))] st:=by unfold jw;simp[ln,yq]
   have a2:jw (λi j=>i+j) 3 (gC (.int 1)) [some F,some (.ref k),some (.int ((p+ws.length:Nat):Int)),some (.int (d:Nat))] st= .nx [some F,some (.ref k),some (.int ((p+ws.length:Nat):Int)),some (.int ((d+1:Nat):Int))] st:=by unfold jw;simp[yq]
   have o1:∀s,MM (.int ((p+ws.length:Nat):Int)) (.int 60) s= .ok (.bl (decide (60 < p+ws.length))) s:=λs=>by show Re.ok (Wv.bl (decide ((60:Int) < ((p+ws.length:Nat):Int)))) s=_;rw[show decide ((60:Int) < ((p+ws.length:Nat):Int))=decide (60 < p+ws.length) from by rw[hU,decide_eq_true_eq,decide_eq_true_eq];omega]
   have o2:∀s,MM (.int ((d+1:Nat):Int)) (.int 12) s= .ok (.bl (decide (12 < d+1))) s:=λs=>by show Re.ok (Wv.bl (decide ((12:Int) < ((d+1:Nat):Int)))) s=_;rw[show decide ((12:Int) < ((d+1:Nat):Int))=decide (12 < d+1) from by rw[hU,decide_eq_true_eq,decide_eq_true_eq];omega]
   generalize hP:((p+ws.length:Nat):Int)=P at a1 a2 o1;generalize hD:((d+1:Nat):Int)=D at a2 o2;by_cases c1:60 < p+ws.length
   ·rw[if_pos (.inl c1)];rw[decide_eq_true c1]at o1;refine⟨[some (.ref k),some (.int P),some (.int D)],st,(vb tt ?_).trans (if_neg dh).symm,Gr.refl⟩
    ·unfold bK;simp[a1,a2,o1,lim]
   by_cases c2:12 < d+1
   ·rw[if_pos (.inr c2)];rw[decide_eq_false c1]at o1;rw[decide_eq_true c2]at o2;refine⟨[some (.ref k),some (.int P),some (.int D)],st,(vb tt ?_).trans (if_neg dh).symm,Gr.refl⟩
    ·unfold bK;simp[a1,a2,o1,o2,lim]
   rw[if_neg (by omega)];rw[decide_eq_false c1]at o1;rw[decide_eq_false c2]at o2;obtain⟨n,rfl⟩:∃m,n=m+1:=⟨n - 1,by omega⟩;obtain⟨s1,e1,g1,l1⟩:=Ek (cs:=[]) (gt:=jb) (ge:=fN) (ρ:=[some F,some (.ref k),some (.int P),some (.int D)]) eN (bT hk) (λ_ _ _=>rfl) (λv hv s=>by obtain⟨s',e',g'⟩:=Q0 (hpl v hv) s;refine⟨s',?_,g'⟩;unfold fN;simp[e']) (by unfold lim;omega);have al:=tN l1;rw[xb]at al;cases ca:ws.all eN with
   |false=>
    rw[ca]at al;rw[if_neg (by decide)];refine⟨[some (.ref k),some (.int P),some (.int D)],s1,(vb tt ?_).trans (if_neg dh).symm,g1⟩
    ·unfold bK;simp[a1,a2,o1,o2,Ih (bT hk),e1,al,lim]
   |true=>
    rw[ca]at al;rw[if_pos rfl];have ca':=List.all_eq_true.mp ca;obtain⟨s2,e2,g2,h2⟩:=Q1 ca' (by omega) (g1.get hk);have afs:=y9 ca';obtain⟨ρ,s3,e3,g3⟩:=ve (F:=F) N n (p+ws.length) (d+1) (pf ws) M s1.length s2 (by omega) (by omega) (by omega) (by omega) (λu hu=>by obtain⟨z,hz,hu'⟩:=List.mem_flatMap.mp hu;exact IK (hpl z hz) (ca' z hz) u hu') (by omega) h2;refine⟨ρ,s3,?_,g1.trans (g2.trans g3)⟩;have body:bK [some F,some (.ref k),some (.int (p:Nat)),some (.int (d:Nat))] st= .nx [some F,some (.ref s1.length),some (.int P),some (.int D)] s2:=by unfold bK;simp[a1,a2,o1,o2,Ih (bT hk),e1,al,e2]
    rw[Cb tt body,<-hP,<-hD];exact e3
def Q9:Nat->Wv->Bool
 | 0,_=>false
 |n+1,w=>match w with
  |.int _=>true
  |.str x=>decide (x.length<=1000)
  |.tup ws=>decide (ws.length<=300)&&ws.all (Q9 n)
  |_=>false
theorem Jd:∀{n:Nat}{w:Wv},Q9 n w=true->pl n w
 | 0,_,h=>by cases h
 |n+1,w,h=>by
  cases w with
  |int i=>exact trivial
  |str x=>have h':decide (x.length<=1000)=true:=h;have h2:=of_decide_eq_true h';exact h2
  |tup ws=>have h':(decide (ws.length<=300)&&ws.all (Q9 n))=true:=h;rw[b7,decide_eq_true_eq,nG]at h';exact⟨h'.1,λv hv=>Jd (h'.2 v hv)⟩
  |_=>cases h
theorem made{w:Wv}(h:Q9 25 w=true)(st:Hs):∃st',cK [w] st=(if qK 14 [w] 0 0=true then .ok w st' else .err "BadFormula" st')/\Gr st st':=by
 obtain⟨ρ,s1,e1,g1⟩:=ve (F:=w) 14 25 0 0 [w] cM st.length (st++[.lst [w]]) (by decide) (by decide) (by decide) (by decide) (λv hv=>by rw[List.mem_singleton.mp hv];exact Jd h) (by simp) eh;have uR:eD cM (iI (af 1)) bK [some w,some (.ref st.length),some (.int 0),some (.int 0)] (st++[.lst [w]])=_:=e1;refine⟨s1,?_,Gr.push.trans g1⟩;cases hm:qK 14 [w] 0 0 with
 |true=>rw[hm,if_pos rfl]at uR;rw[if_pos rfl];unfold cK aK eF;simp[-M5,uR]
 |false=>rw[hm,if_neg (by decide)]at uR;rw[if_neg (by decide)];refine wI (n:=4) (g:=eF) (ρ:=some w::ρ) ?_;unfold eF;simp[-M5,uR]
def A9:Nat->List Wd->(Nat->S->RW)×(Nat->RW)×(Nat->RW)×(Nat->RW)
 | 0,_=>(λ_ _=> .un,λ_=> .un,λ_=> .un,λ_=> .un)
 |n+1,ws=>(I_ (A9 n ws).2.2.2 ws,A8 (A9 n ws).2.2.2 (A9 n ws).1 ws,Jb (A9 n ws).2.1 ws,Jc (A9 n ws).2.2.1 ws)
theorem Je(ws:List Wd):∀n,A7 (aS n) (A9 n ws).1 ws/\jo (aN n) (A9 n ws).2.1 ws/\jo (aF n) (A9 n ws).2.2.1 ws/\jo (aT n) (A9 n ws).2.2.2 ws
 | 0=>⟨λ_ _ _ _ _ _=>trivial,λ_ _ _ _ _=>trivial,λ_ _ _ _ _=>trivial,λ_ _ _ _ _=>trivial⟩
 |n+1=>by obtain⟨h1,h2,h3,h4⟩:=Je ws n;rw[qj,oZ,mX,qk];exact⟨Mn h4,I0 h1 h4,Mo h2,rS h3⟩
def D7(d:Wd):Bool:=match d with
 |.en=>true
 |_=>false
theorem VS(d:Wd)(st:Hs):j' d.w (.jS [.str "end",.str ""]) st= .ok (.bl (!D7 d)) st:=by cases d<;>rfl
theorem Jf(h0:ρ[1]? =some (some (.ref l))):yx "WordRow" 2 bJ (ae (af 1) ag) ρ st= .ok (.ref st.length) (st++[dz l 0]):=by
 have i1:bJ [.ref st.length,.ref l] (st++[.ins "WordRow" []])= .ok .cG (st++[dz l 0]):=by
  have f1:qz "WordRow" "words" (af 1) (af 0) [some (.ref st.length),some (.ref l)] (st++[.ins "WordRow" []])= .nx [some (.ref st.length),some (.ref l)] (st++[.ins "WordRow" [("words",.ref l)]]):=by rw[VQ (k:=st.length) rfl rfl eh (by show 0 < 900;decide),B5];rfl
  have f2:qz "WordRow" "spot" (gC (.int 0)) (af 0) [some (.ref st.length),some (.ref l)] (st++[.ins "WordRow" [("words",.ref l)]])= .nx [some (.ref st.length),some (.ref l)] (st++[dz l 0]):=by
   rw[VQ (k:=st.length) rfl rfl eh (by show 1 < 900;decide),B5];have e:Ob.ins "WordRow" (yw "spot" (.int 0) [("words",.ref l)])=dz l 0:=by kernel_rfl
   rw[e]
  unfold bJ aK fj;simp[f1,f2]
 have a:(ae (af 1) ag) ρ st= .ok [.ref l] st:=by
  have:af 1 ρ st= .ok (.ref l) st:=by show Tu ρ[1]? st=_;rw[h0];rfl
  simp only[QR,this,L_];rfl
 unfold yx;rw[a];show XM "WordRow" bJ [.ref l] st=_;unfold XM;rw[i1]
def Q_(z:S):Rr Wv:=match tQ z with
 |.ok ws=>if 2000 < ws.length then .un else if IZ ws 0=true then(match(A9 140 ws).2.2.2 0 with
  |.ok p=>if D7 (hd (ws.drop p.2))=true then .ok p.1 else .no
  |.no=> .no
  |.un=> .un)else .no
 |.no=> .no
 |.un=> .un
theorem uv(z:S)(st:Hs):uu (Q_ z) id (bL [.str z] st) st:=by
 have wo:=words_of z st;unfold Q_;cases hw:tQ z with
 |un=>exact trivial
 |no=>rw[hw]at wo;obtain⟨s1,e1,g1⟩:=wo;refine⟨s1,?_,g1⟩;unfold bL aK cF;simp[e1]
 |ok ws=>
  rw[hw]at wo;obtain⟨s1,e1,g1,q1⟩:=wo;dsimp only;by_cases c:2000 < ws.length
  ·rw[if_pos c];exact trivial
  rw[if_neg c];have br:=brackets q1;by_cases b:IZ ws 0=true
  ·rw[if_pos b]at br ⊢;have mr:=Jf (l:=st.length) (st:=s1) (ρ:=[some (.str z),some (.ref st.length),none,none]) rfl;have a1:At s1.length st.length 0 ws (s1++[dz st.length 0]):=⟨eh,ft q1,by omega⟩;have g2:Gr st (s1++[dz st.length 0]):=g1.trans Gr.push;have hle:st.length<=s1.length:=g1.1;have q:=(Je ws 140).2.2.2 s1.length st.length 0 _ a1;generalize s1++[dz st.length 0]=s2 at mr a1 g2 q;cases hv:(A9 140 ws).2.2.2 0 with
   |un=>exact trivial
   |no=>rw[hv]at q;obtain⟨s3,e3,k3⟩:=q;have Ys:aq [.ref s1.length] s2= .err "BadText" s3:=e3;refine⟨s3,?_,Gr.lR hle g2 k3⟩;unfold bL aK cF;simp[e1,br,mr,Ys]
   |ok p=>
    obtain⟨f,j⟩:=p;rw[hv]at q;obtain⟨s3,e3,k3,a3⟩:=q;have Ys:aq [.ref s1.length] s2= .ok f s3:=e3;have ah:=(Er (go:=af 2) (ga:=ag) (ρ:=[some (.str z),some (.ref st.length),some (.ref s1.length),some f]) (c:="WordRow") (f:="ahead") (n:=1) (F:=aD) (k:=s1.length) (ws:=[]) rfl a3.row rfl rfl rfl).trans (ahead a3);have ne:=VS (hd (ws.drop j)) s3;dsimp only;by_cases en:D7 (hd (ws.drop j))=true
    ·rw[if_pos en];rw[en]at ne;refine⟨s3,?_,Gr.lR hle g2 k3⟩;unfold bL aK cF;simp[e1,br,mr,Ys,ah,ne]
    ·rw[if_neg en];rw[xh]at en;rw[en]at ne;refine⟨s3,?_,Gr.lR hle g2 k3⟩;unfold bL aK cF;simp[e1,br,mr,Ys,ah,ne,lim]
  ·rw[if_neg b]at br ⊢;refine⟨s1,?_,g1⟩;unfold bL aK cF;simp[e1,br]
variable{d:S}
theorem Cn{ds:List S}(h:lN fW c ((d::ds).map Wv.cls)=some b):dU fW cT [.iP c,.tup ((d::ds).map Wv.cls)] st= .ok (.bl b) st:=by
 show(match lN fW c ((d::ds).map Wv.cls)with |some b=>Re.ok (Wv.bl b) st |none=> .bad)=_
 rw[h]
theorem Co(h:fW.lookup (c,d)=some b):dU fW cT [.iP c,.cls d] st= .ok (.bl b) st:=by
 show(match fW.lookup (c,d)with |some b=>Re.ok (Wv.bl b) st |none=> .bad)=_
 rw[h]
theorem Jg{T:String}(h:cT.lookup (c,T)=some b):dU fW cT [.iP c,.ty T] st= .ok (.bl b) st:=by
 show(match cT.lookup (c,T)with |some b=>Re.ok (Wv.bl b) st |none=> .bad)=_
 rw[h]
theorem Jh(st:Hs):∃st',cX [.iP "BadFormula"] st= .ok (.str "formula") st'/\Gr st st':=by
 have k1:∀s:Hs,dU fW cT [.iP "BadFormula",.tup [.cls "BadArea",.cls "BadContent",.cls "BadCount",.cls "BadPlace",.cls "BadTable",.cls "Clash",.cls "Full",.cls "NoCell",.cls "NoColumn"]] s= .ok (.bl false) s:=λs=>Cn (d:="BadArea") (ds:=["BadContent","BadCount","BadPlace","BadTable","Clash","Full","NoCell","NoColumn"]) (by decide+kernel);have k2:∀s:Hs,dU fW cT [.iP "BadFormula",.tup [.cls "NoDeed",.cls "NoRoom",.cls "NoTable",.cls "NotWaiting"]] s= .ok (.bl false) s:=λs=>Cn (d:="NoDeed") (ds:=["NoRoom","NoTable","NotWaiting"]) (by decide+kernel);have k3:∀s:Hs,dU fW cT [.iP "BadFormula",.ty "ValueError"] s= .ok (.bl true) s:=λs=>Jg (by decide+kernel);have k4:∀s:Hs,dU fW cT [.iP "BadFormula",.cls "BadText"] s= .ok (.bl false) s:=λs=>Co (by decide+kernel);have k5:∀s:Hs,dU fW cT [.iP "BadFormula",.cls "BadFormula"] s= .ok (.bl true) s:=λs=>Co (by decide+kernel);have t9:∀s:Hs,yF [Wv.cls "BadArea",.cls "BadContent",.cls "BadCount",.cls "BadPlace",.cls "BadTable",.cls "Clash",.cls "Full",.cls "NoCell",.cls "NoColumn"] s= .ok (.tup [.cls "BadArea",.cls "BadContent",.cls "BadCount",.cls "BadPlace",.cls "BadTable",.cls "Clash",.cls "Full",.cls "NoCell",.cls "NoColumn"]) s:=λs=>rfl;have l1:av (st++[.lst [.bl false,.bl true]]) st.length=some [.bl false,.bl true]:=cz;have g1:Gr st (st++[.lst [.bl false,.bl true]]):=Gr.push;generalize hs1:st++[Ob.lst [Wv.bl false,Wv.bl true]]=s1 at l1 g1;have cn:eR (.ref st.length) (.bl true) s1= .ok (.int 1) s1:=by unfold eR;simp only[l1];rfl
 have l2:av (s1++[.lst [.str "text",.str "formula"]]) s1.length=some [.str "text",.str "formula"]:=cz;have g2:Gr s1 (s1++[.lst [.str "text",.str "formula"]]):=Gr.push;have Ng:=g2.lst l1;generalize hs2:s1++[Ob.lst [Wv.str "text",Wv.str "formula"]]=s2 at l2 g2 Ng;have ci:eS (.ref st.length) (.bl true) s2= .ok (.int 1) s2:=by unfold eS;simp only[Ng];rfl
 have ix:bH (.ref s1.length) (.int 1) s2= .ok (.str "formula") s2:=mU l2 rfl;have a1:jv (dX lP (af 2) (ae (gC (.bl true)) ag)) (fo eR (af 2) (gC (.bl true))) [some (.iP "BadFormula"),some (.bl false),some (.ref st.length)] s1= .ok (.int 1) s1:=by rw[wM rfl];have km:=oN (mt:=eR) (ga:=gC (.bl true)) (ρ:=[some (.iP "BadFormula"),some (.bl false),some (.ref st.length)]) l1;simp[km,cn]
 have a2:jv (dX jV (af 2) (ae (gC (.bl true)) ag)) (jv (fo eS (af 2) (gC (.bl true))) (pN kM (af 2) (gC (.bl true)))) [some (.iP "BadFormula"),some (.bl false),some (.ref st.length)] s2= .ok (.int 1) s2:=by rw[wM rfl];refine wL ?_;have km:=oN (mt:=eS) (ga:=gC (.bl true)) (ρ:=[some (.iP "BadFormula"),some (.bl false),some (.ref st.length)]) Ng;simp[km,ci]
 refine⟨s2,?_,g1.trans g2⟩;unfold cX aK ij;simp[t9,k1,k2,k3,k4,k5,hs1,a1,hs2,a2,ix]
theorem Ra(st:Hs):∃st',cX [.iP "BadText"] st= .ok (.str "text") st'/\Gr st st':=by
 have k1:∀s:Hs,dU fW cT [.iP "BadText",.tup [.cls "BadArea",.cls "BadContent",.cls "BadCount",.cls "BadPlace",.cls "BadTable",.cls "Clash",.cls "Full",.cls "NoCell",.cls "NoColumn"]] s= .ok (.bl false) s:=λs=>Cn (d:="BadArea") (ds:=["BadContent","BadCount","BadPlace","BadTable","Clash","Full","NoCell","NoColumn"]) (by decide+kernel);have k2:∀s:Hs,dU fW cT [.iP "BadText",.tup [.cls "NoDeed",.cls "NoRoom",.cls "NoTable",.cls "NotWaiting"]] s= .ok (.bl false) s:=λs=>Cn (d:="NoDeed") (ds:=["NoRoom","NoTable","NotWaiting"]) (by decide+kernel);have k3:∀s:Hs,dU fW cT [.iP "BadText",.ty "ValueError"] s= .ok (.bl true) s:=λs=>Jg (by decide+kernel);have k4:∀s:Hs,dU fW cT [.iP "BadText",.cls "BadText"] s= .ok (.bl true) s:=λs=>Co (by decide+kernel);have k5:∀s:Hs,dU fW cT [.iP "BadText",.cls "BadFormula"] s= .ok (.bl false) s:=λs=>Co (by decide+kernel);have t9:∀s:Hs,yF [Wv.cls "BadArea",.cls "BadContent",.cls "BadCount",.cls "BadPlace",.cls "BadTable",.cls "Clash",.cls "Full",.cls "NoCell",.cls "NoColumn"] s= .ok (.tup [.cls "BadArea",.cls "BadContent",.cls "BadCount",.cls "BadPlace",.cls "BadTable",.cls "Clash",.cls "Full",.cls "NoCell",.cls "NoColumn"]) s:=λs=>rfl;have l1:av (st++[.lst [.bl true,.bl false]]) st.length=some [.bl true,.bl false]:=cz;have g1:Gr st (st++[.lst [.bl true,.bl false]]):=Gr.push;generalize hs1:st++[Ob.lst [Wv.bl true,Wv.bl false]]=s1 at l1 g1;have cn:eR (.ref st.length) (.bl true) s1= .ok (.int 1) s1:=by unfold eR;simp only[l1];rfl
 have l2:av (s1++[.lst [.str "text",.str "formula"]]) s1.length=some [.str "text",.str "formula"]:=cz;have g2:Gr s1 (s1++[.lst [.str "text",.str "formula"]]):=Gr.push;have Ng:=g2.lst l1;generalize hs2:s1++[Ob.lst [Wv.str "text",Wv.str "formula"]]=s2 at l2 g2 Ng;have ci:eS (.ref st.length) (.bl true) s2= .ok (.int 0) s2:=by unfold eS;simp only[Ng];rfl
 have ix:bH (.ref s1.length) (.int 0) s2= .ok (.str "text") s2:=mU l2 rfl;have a1:jv (dX lP (af 2) (ae (gC (.bl true)) ag)) (fo eR (af 2) (gC (.bl true))) [some (.iP "BadText"),some (.bl false),some (.ref st.length)] s1= .ok (.int 1) s1:=by rw[wM rfl];have km:=oN (mt:=eR) (ga:=gC (.bl true)) (ρ:=[some (.iP "BadText"),some (.bl false),some (.ref st.length)]) l1;simp[km,cn]
 have a2:jv (dX jV (af 2) (ae (gC (.bl true)) ag)) (jv (fo eS (af 2) (gC (.bl true))) (pN kM (af 2) (gC (.bl true)))) [some (.iP "BadText"),some (.bl false),some (.ref st.length)] s2= .ok (.int 0) s2:=by rw[wM rfl];refine wL ?_;have km:=oN (mt:=eS) (ga:=gC (.bl true)) (ρ:=[some (.iP "BadText"),some (.bl false),some (.ref st.length)]) Ng;simp[km,ci]
 refine⟨s2,?_,g1.trans g2⟩;unfold cX aK ij;simp[t9,k1,k2,k3,k4,k5,hs1,a1,hs2,a2,ix]
inductive An
 |told
 |txt
 |Rb
 |un
def An.w:An->Wv
 |.told=> .str "told"
 |.txt=> .str "text"
 |.Rb=> .str "formula"
 |.un=> .cG
def qL(w:Wv):An:=if Q9 25 w=true then(if qK 14 [w] 0 0=true then .told else .Rb)else .un
def jP(z:S):An:=match Q_ z with
 |.ok w=>qL w
 |.no=> .txt
 |.un=> .un
def Nl(a:An)(x:Re Wv)(st:Hs):Prop:=match a with
 |.un=>True
 |a=>∃st',x= .ok a.w st'/\Gr st st'
theorem Rc{cat:S->Option Bool}{gs:GS}{ρ2:bR}(h:cat c=some true)(h2:gs (ρ.set i (some (.iP c))) st= .nx ρ2 st2):AJ cat i gs (.err c ρ st)= .nx (ρ2.set i none) st2:=by unfold AJ;simp only[h,h2]
theorem A_{k:S}{a b:Option Wv}{s2:Hs}(tc:oO.lookup (c,("SheetError":S))=some true)(e:cX [.iP c] s1= .ok (.str k) s2):AJ (λy=>oO.lookup (y,("SheetError":S))) 3 jk (.err c [a,b,some (.str "told"),none] s1)= .nx [a,b,some (.str k),none] s2:=by refine(Rc (ρ2:=[a,b,some (.str k),some (.iP c)]) tc ?_).trans rfl;unfold jk;simp[e]
theorem Ew(w:Wv)(st:Hs):Nl (qL w) (a7 [.int 0,w] st) st:=by
 unfold qL;by_cases c:Q9 25 w=true
 ·rw[if_pos c];obtain⟨s1,e1,g1⟩:=made c st;by_cases m:qK 14 [w] 0 0=true
  ·rw[if_pos m]at e1 ⊢;refine⟨s1,?_,g1⟩;unfold a7 aK eM dy;simp[e1];rfl
  ·rw[if_neg m]at e1 ⊢;obtain⟨s2,e2,g2⟩:=Jh s1;refine⟨s2,?_,g1.trans g2⟩;have tc:oO.lookup (("BadFormula":S),("SheetError":S))=some true:=by decide+kernel
   unfold a7 aK eM dy;simp[e1,A_ tc e2];rfl
 ·rw[if_neg c];exact trivial
theorem xl(z:S)(st:Hs):match jP z with
  |.told=>∃w st',bU [.str z] st= .ok w st'/\Gr st st'
  |.txt=>∃st',bU [.str z] st= .err "BadText" st'/\Gr st st'
  |.Rb=>∃st',bU [.str z] st= .err "BadFormula" st'/\Gr st st'
  |.un=>True:=by
 have r:=uv z st;unfold jP;cases hu:Q_ z with
 |un=>exact trivial
 |no=>rw[hu]at r;obtain⟨s1,e1,g1⟩:=r;refine⟨s1,?_,g1⟩;unfold bU aK eL;simp[e1]
 |ok w=>
  rw[hu]at r;obtain⟨s1,e1,g1⟩:=r;dsimp only;unfold qL;by_cases c:Q9 25 w=true
  ·rw[if_pos c];obtain⟨s2,e2,g2⟩:=made c s1;by_cases m:qK 14 [w] 0 0=true
   ·rw[if_pos m]at e2 ⊢;refine⟨w,s2,?_,g1.trans g2⟩;unfold bU aK eL;simp[e1,e2]
   ·rw[if_neg m]at e2 ⊢;refine⟨s2,?_,g1.trans g2⟩;unfold bU aK eL;simp[e1,e2]
  ·rw[if_neg c];exact trivial
theorem vf(z:S)(st:Hs):Nl (jP z) (a7 [.int 1,.str z] st) st:=by
 have r:=xl z st;cases h:jP z with
 |un=>exact trivial
 |told=>rw[h]at r;obtain⟨w,s1,e1,g1⟩:=r;refine⟨s1,?_,g1⟩;unfold a7 aK eM dy;simp[e1];rfl
 |txt=>
  rw[h]at r;obtain⟨s1,e1,g1⟩:=r;obtain⟨s2,e2,g2⟩:=Ra s1;refine⟨s2,?_,g1.trans g2⟩;have tc:oO.lookup (("BadText":S),("SheetError":S))=some true:=by decide+kernel
  unfold a7 aK eM dy;simp[e1,A_ tc e2];rfl
 |Rb=>
  rw[h]at r;obtain⟨s1,e1,g1⟩:=r;obtain⟨s2,e2,g2⟩:=Jh s1;refine⟨s2,?_,g1.trans g2⟩;have tc:oO.lookup (("BadFormula":S),("SheetError":S))=some true:=by decide+kernel
  unfold a7 aK eM dy;simp[e1,A_ tc e2];rfl
def fz:Wv:=.tup [.str "lost"]
def rC(w:Wv):Wv:=.tup [.str "not",w]
def VT(a b:Wv):Wv:=.tup [.str "rest",a,b]
def JJ:Nat->Nat->Rr Wv
 | 0,_=> .un
 |n+1,m=>if m=0 then .un else if m=1 then .ok fz else if m=2 then .ok (rC fz)else match JJ n ((m - 1) / 2)with
  |.ok a=>(match JJ n (m - 1 - (m - 1) / 2)with
   |.ok b=> .ok (VT a b)
   |_=> .un)
  |_=> .un
theorem xm:∀(n m:Nat)(st:Hs),uu (JJ n m) id (dC n [.int (m:Nat)] st) st
 | 0,_,_=>trivial
 |n+1,m,st=>by
  rw[pS];unfold JJ;by_cases c0:m=0
  ·rw[if_pos c0];exact trivial
  rw[if_neg c0];have l1:av (st++[.lst [fz,rC fz]]) st.length=some [fz,rC fz]:=cz;have g1:Gr st (st++[.lst [fz,rC fz]]):=Gr.push;by_cases c1:m=1
  ·rw[if_pos c1];subst c1;have ix:bH (.ref st.length) (.int 0) (st++[.lst [fz,rC fz]])= .ok fz (st++[.lst [fz,rC fz]]):=mU l1 rfl;refine⟨_,?_,g1⟩;unfold fz rC at ix ⊢;unfold aK fR;simp[ix]
  rw[if_neg c1];by_cases c2:m=2
  ·rw[if_pos c2];subst c2;have ix:bH (.ref st.length) (.int 1) (st++[.lst [fz,rC fz]])= .ok (rC fz) (st++[.lst [fz,rC fz]]):=mU l1 rfl;refine⟨_,?_,g1⟩;unfold fz rC at ix ⊢;unfold aK fR;simp[ix]
  rw[if_neg c2];have h3:¬(m:Int) < 3:=by omega
  have f2:lu (.int ((m:Int) - 1)) (.int 2) st= .ok (.int (((m - 1) / 2:Nat):Int)) st:=by
   have e:((m:Int) - 1)=((m - 1:Nat):Int):=by omega
   rw[e,wH (by decide)];rw[Int.fdiv_eq_ediv_of_nonneg _ (by decide)];rfl
  have e2:(m:Int) - 1 - (((m - 1) / 2:Nat):Int)=((m - 1 - (m - 1) / 2:Nat):Int):=by omega
  have r1:=xm n ((m - 1) / 2) st;cases h1:JJ n ((m - 1) / 2)with
  |un=>exact trivial
  |no=>exact trivial
  |ok a=>
   rw[h1]at r1;obtain⟨s1,q1,k1⟩:=r1;have r2:=xm n (m - 1 - (m - 1) / 2) s1;dsimp only;cases h2:JJ n (m - 1 - (m - 1) / 2)with
   |un=>exact trivial
   |no=>exact trivial
   |ok b=>rw[h2]at r2;obtain⟨s2,q2,k2⟩:=r2;rw[<-e2]at q2;generalize (((m - 1) / 2:Nat):Int)=hf at f2 q1 q2;refine⟨s2,?_,k1.trans k2⟩;unfold aK fR;simp[h3,f2,q1,q2];rfl
def Cp:Nat->Wv->Rr S
 | 0,_=> .un
 |n+1,w=>match w with
  |.tup (.str x::ws)=>if x="rest" then(match ws with
   |[a,b]=>(match Cp n a with
    |.ok s=>(match Cp n b with
     |.ok t=>if 3000 < s.length+t.length then .un else .ok ("rest("++s++", "++t++")")
     |_=> .un)
    |_=> .un)
   |_=> .un)else if x="not" then(match ws with
   |[a]=>(match Cp n a with
    |.ok s=>if 3000 < s.length then .un else .ok ("not("++s++")")
    |_=> .un)
   |_=> .un)else .ok "lost"
  |_=> .un
theorem cY(x y:S):(x++y).length=x.length+y.length:=by show(x.cps++y.cps).size=_;rw[MQ];rfl
theorem pj:∀(n:Nat)(w:Wv)(st:Hs),uu (Cp n w) Wv.str (dD n [w] st) st
 | 0,_,_=>trivial
 |n+1,w,st=>by
  rw[pT];unfold Cp;split
  ·rename_i x ws;have e1:oEq (.str x) (.str "rest") st= .ok (.bl (decide (x="rest"))) st:=by rw[wG,gy]
   have e2:oEq (.str x) (.str "not") st= .ok (.bl (decide (x="not"))) st:=by rw[wG,gy]
   by_cases c:x="rest"
   ·rw[if_pos c];rw[decide_eq_true c]at e1;split
    ·rename_i a b;have r1:=pj n a st;cases h1:Cp n a with
     |un=>exact trivial
     |no=>exact trivial
     |ok s=>
      rw[h1]at r1;obtain⟨s1,q1,k1⟩:=r1;have r2:=pj n b s1;dsimp only;cases h2:Cp n b with
      |un=>exact trivial
      |no=>exact trivial
      |ok t=>
       rw[h2]at r2;obtain⟨s2,q2,k2⟩:=r2;dsimp only;by_cases cl:3000 < s.length+t.length
       ·rw[if_pos cl];exact trivial
       rw[if_neg cl];have z5:("rest(":S).length=5:=by decide+kernel
       have z2:(", ":S).length=2:=by decide+kernel
       have z1:(")":S).length=1:=by decide+kernel
       have a1:bA (.str "rest(") (.str s) s1= .ok (.str ("rest("++s)) s1:=f_ (by rw[z5];unfold lim;omega);have a2:bA (.str ("rest("++s)) (.str ", ") s1= .ok (.str ("rest("++s++", ")) s1:=f_ (by rw[cY,z5,z2];unfold lim;omega);have a3:bA (.str ("rest("++s++", ")) (.str t) s2= .ok (.str ("rest("++s++", "++t)) s2:=f_ (by rw[cY,cY,z5,z2];unfold lim;omega);have a4:bA (.str ("rest("++s++", "++t)) (.str ")") s2= .ok (.str ("rest("++s++", "++t++")")) s2:=f_ (by rw[cY,cY,cY,z5,z2,z1];unfold lim;omega);have i2:∀s0:Hs,bH (.tup [.str x,a,b]) (.int 2) s0= .ok b s0:=λ_=>jx rfl;refine⟨s2,?_,k1.trans k2⟩;unfold aK fS;simp[qG,Io,e1,q1,a1,a2,i2,q2,a3,a4]
    ·exact trivial
   rw[if_neg c];rw[decide_eq_false c]at e1;by_cases c2:x="not"
   ·rw[if_pos c2];rw[decide_eq_true c2]at e2;split
    ·rename_i a;have r1:=pj n a st;cases h1:Cp n a with
     |un=>exact trivial
     |no=>exact trivial
     |ok s=>
      rw[h1]at r1;obtain⟨s1,q1,k1⟩:=r1;dsimp only;by_cases cl:3000 < s.length
      ·rw[if_pos cl];exact trivial
      rw[if_neg cl];have z4:("not(":S).length=4:=by decide+kernel
      have z1:(")":S).length=1:=by decide+kernel
      have a1:bA (.str "not(") (.str s) s1= .ok (.str ("not("++s)) s1:=f_ (by rw[z4];unfold lim;omega);have a2:bA (.str ("not("++s)) (.str ")") s1= .ok (.str ("not("++s++")")) s1:=f_ (by rw[cY,z4,z1];unfold lim;omega);refine⟨s1,?_,k1⟩;unfold aK fS;simp[qG,Io,e1,e2,q1,a1,a2]
    ·exact trivial
   rw[if_neg c2];rw[decide_eq_false c2]at e2;refine⟨st,?_,Gr.refl⟩;unfold aK fS;simp[qG,e1,e2]
  ·exact trivial
def HWN:List (Nat×Nat):=[(58,5),(60,5),(13,23),(12,26),(75,4)]
def mY:Nat->Wv
 | 0=>fz
 |n+1=>rC (mY n)
def mn(way more:Nat):Rr (Wv×S×Bool):=match way with
 | 0=> .ok (.tup [.str "num",.int (EI - 2+(more:Nat))],PySem.Str.ofString (toString (EI - 2+(more:Nat):Int)),decide (EI - 2+(more:Nat)<=EI))
 | 1=> .ok (.tup [.str "text",.str (dF (38+more) "b")],"\""++dF (38+more) "b"++"\"",decide (more < 3))
 | 2=>(match HWN[more]? with
  |some (hi,wi)=> .ok (.tup [.str "count",.tup [.int 0,.int 0,.int ((hi:Int) - 1),.int ((wi:Int) - 1)],.tup [.int 0,.int 0,.int 0,.int 0]],"count("++("a1:"++tx [96+wi]++PySem.Str.ofString (toString (hi:Int)))++")",decide ((hi:Int) * (wi:Int)<=300))
  |none=> .un)
 | 3=>(match JJ 8 (58+more)with
  |.ok w=>(match Cp 20 w with
   |.ok t=> .ok (w,t,decide (more < 3))
   |_=> .un)
  |_=> .un)
 | 4=>(match Cp 20 (mY (9+more))with
  |.ok t=> .ok (mY (9+more),t,decide (more < 3))
  |_=> .un)
 |_=> .un
def VU(x:Wv×S×Bool):Wv:=.tup [x.1,.str x.2.1,.bl x.2.2]
def VV(v:Rr (Wv×S×Bool))(l:Nat)(n:Int)(x:Re Wv)(st:Hs):Prop:=match v with
 |.ok p=>∃st',x= .ok (VU p) st'/\bE l st st'/\st'[l]? =some (.lst [.int n])
 |_=>True
variable{n:Int}
theorem Rf{m:Nat}(h:st[l]? =some (.lst [.int n]))(hm:1<=m)(hk:m<=1000):∃d:Nat,d < m/\aG [.ref l,.int (m:Nat)] st= .ok (.int (d:Nat)) (st.set l (.lst [.int (n.fdiv m)])):=by
 refine⟨(n.fmod m).toNat,?_,?_⟩
 ·have:=Il n (b:=(m:Int)) (by omega);have:=A2 n (b:=(m:Int)) (by omega);omega
 ·have e:(((n.fmod m).toNat:Nat):Int)=n.fmod m:=by have:=A2 n (b:=(m:Int)) (by omega);omega
  rw[e];exact digit h ⟨by omega,vW (AK (k:=20) (b:=1000) (by omega) (by omega) (by decide) (by decide)) (by decide)⟩
theorem vg{ρ4:List (Option Wv)}(st:Hs):∀(us:List Wv)(k:Nat)(o:Option Wv)(a b c d e f g:Option Wv),∃o',ju 8 f' us [a,b,c,d,e,f,g,some (mY k),o] st= .nx [a,b,c,d,e,f,g,some (mY (k+us.length)),o'] st
 |[],k,o,a,b,c,d,e,f,g=>⟨o,rfl⟩
 |u::us,k,o,a,b,c,d,e,f,g=>by
  obtain⟨o',q⟩:=vg (ρ4:=ρ4) st us (k+1) (some u) a b c d e f g;refine⟨o',?_⟩;have b1:f' [a,b,c,d,e,f,g,some (mY k),some u] st= .nx [a,b,c,d,e,f,g,some (mY (k+1)),some u] st:=by unfold f';simp;rfl
  unfold ju;rw[show([a,b,c,d,e,f,g,some (mY k),o]:bR).set 8 (some u)=[a,b,c,d,e,f,g,some (mY k),some u] from rfl,b1];dsimp only;rw[q,iV,show k+1+us.length=k+(us.length+1) by omega]
variable{more:Nat}
theorem abe(h:more < 5)(st:Hs):di (.str "b") (.int (38+(more:Int))) st= .ok (.str (dF (38+more) "b")) st:=by
 have l1:("b":S).length=1:=by decide+kernel
 have e:(38+(more:Int)).toNat=38+more:=by omega
 show(if(38+(more:Int))=0\/(38+(more:Int))=1 then _ else(if qv "b" (38+(more:Int))then Re.ok (Wv.str (dF (38+(more:Int)).toNat "b")) st else .bad))=_;rw[if_neg (by omega),if_pos ⟨by omega,by omega,by rw[l1];decide,by rw[l1,e];unfold lim;omega⟩,e]
theorem Ji(h:st[l]? =some (.lst [.int n])):∃(way more:Nat)(n':Int),way < 5/\more < 5/\VV (mn way more) l n' (b_ [.ref l] st) st:=by
 obtain⟨way,w5,e1⟩:=Rf (m:=5) h (by decide) (by decide);have h1:(st.set l (.lst [.int (n.fdiv (5:Nat))]))[l]? =some (.lst [.int (n.fdiv (5:Nat))]):=iJ h;obtain⟨more,m5,e2⟩:=Rf (m:=5) h1 (by decide) (by decide)
 replace e1:aG [.ref l,.int 5] st= .ok (.int (way:Nat)) (st.set l (.lst [.int (n.fdiv (5:Nat))])):=e1
 replace e2:aG [.ref l,.int 5] (st.set l (.lst [.int (n.fdiv (5:Nat))]))= .ok (.int (more:Nat)) ((st.set l (.lst [.int (n.fdiv (5:Nat))])).set l (.lst [.int ((n.fdiv (5:Nat)).fdiv (5:Nat))])):=e2
 have h2:=iJ (o':=.lst [.int ((n.fdiv (5:Nat)).fdiv (5:Nat))]) h1;have k2:bE l st ((st.set l (.lst [.int (n.fdiv (5:Nat))])).set l (.lst [.int ((n.fdiv (5:Nat)).fdiv (5:Nat))])):=bE.set.trans bE.set;generalize (st.set l (.lst [.int (n.fdiv (5:Nat))])).set l (.lst [.int ((n.fdiv (5:Nat)).fdiv (5:Nat))])=s2 at e2 h2 k2;generalize st.set l (.lst [.int (n.fdiv (5:Nat))])=s1 at e1 e2;generalize (n.fdiv (5:Nat)).fdiv (5:Nat)=n2 at h2;refine⟨way,more,n2,w5,m5,?_⟩;have pw:∀s,vQ (.int 10) (.int 60) s= .ok (.int EI) s:=λ_=>p60
 match way,w5 with
 | 0,_=>
  have st1:DD [.int (EI - 2+(more:Nat))] s2= .ok (.str (PySem.Str.ofString (toString (EI - 2+(more:Nat):Int)))) s2:=wK (by
   have:∀m,m < 5->(EI - 2+(m:Nat):Int).natAbs.log2 < 1920:=by decide+kernel
   exact this more m5)
  refine⟨s2,?_,k2,h2⟩;generalize EI=P at pw st1 ⊢;unfold b_ aK eE;simp[e1,e2,pw,st1];rfl
 | 1,_=>
  have mb:=abe m5 s2;have lb:(dF (38+more) "b").length<=42:=by
   have l1:("b":S).length=1:=by decide+kernel
   rw[eC,l1];omega
  have lq:("\"":S).length=1:=by decide+kernel
  have o3:∀s,oLt (.int (more:Nat)) (.int 3) s= .ok (.bl (decide (more < 3))) s:=λs=>by show Re.ok (Wv.bl (decide (((more:Nat):Int) < 3))) s=_;rw[show decide (((more:Nat):Int) < 3)=decide (more < 3) from by rw[hU,decide_eq_true_eq,decide_eq_true_eq];omega]
  unfold mn;generalize dF (38+more) "b"=B at mb lb ⊢;have a1:bA (.str "\"") (.str B) s2= .ok (.str ("\""++B)) s2:=f_ (by rw[lq];unfold lim;omega);have a2:bA (.str ("\""++B)) (.str "\"") s2= .ok (.str ("\""++B++"\"")) s2:=f_ (by rw[cY,lq];unfold lim;omega);refine⟨s2,?_,k2,h2⟩;unfold b_ aK eE;simp[-H_,e1,e2,mb,a1,a2,o3];rfl
 | 2,_=>
  obtain⟨hi,wi,hq,hb⟩:∃hi wi,HWN[more]? =some (hi,wi)/\1<=wi/\wi<=26/\1<=hi/\hi<=99:=by
   match more,m5 with
   | 0,_=>exact⟨58,5,rfl,by decide⟩
   | 1,_=>exact⟨60,5,rfl,by decide⟩
   | 2,_=>exact⟨13,23,rfl,by decide⟩
   | 3,_=>exact⟨12,26,rfl,by decide⟩
   | 4,_=>exact⟨75,4,rfl,by decide⟩
  unfold mn;rw[hq];dsimp only;have l3:av (s2++[.lst [.tup [.int 58,.int 5],.tup [.int 60,.int 5],.tup [.int 13,.int 23],.tup [.int 12,.int 26],.tup [.int 75,.int 4]]]) s2.length=some [.tup [.int 58,.int 5],.tup [.int 60,.int 5],.tup [.int 13,.int 23],.tup [.int 12,.int 26],.tup [.int 75,.int 4]]:=cz;have g3:Gr s2 (s2++[.lst [.tup [.int 58,.int 5],.tup [.int 60,.int 5],.tup [.int 13,.int 23],.tup [.int 12,.int 26],.tup [.int 75,.int 4]]]):=Gr.push;generalize ZE:s2++[Ob.lst [Wv.tup [.int 58,.int 5],.tup [.int 60,.int 5],.tup [.int 13,.int 23],.tup [.int 12,.int 26],.tup [.int 75,.int 4]]]=s3 at l3 g3;have ix:bH (.ref s2.length) (.int (more:Nat)) s3= .ok (.tup [.int (hi:Nat),.int (wi:Nat)]) s3:=mU l3 (L2.eO (by show(HWN.map λp=>Wv.tup [.int (p.1:Nat),.int (p.2:Nat)])[more]? =_;rw[fZ,hq];rfl));have sT:qw [4,5] (aj bH (hZ (ae (bS (ae (gC (.int 58)) (ae (gC (.int 5)) ag))) (ae (bS (ae (gC (.int 60)) (ae (gC (.int 5)) ag))) (ae (bS (ae (gC (.int 13)) (ae (gC (.int 23)) ag))) (ae (bS (ae (gC (.int 12)) (ae (gC (.int 26)) ag))) (ae (bS (ae (gC (.int 75)) (ae (gC (.int 4)) ag))) ag)))))) (af 2)) [some (.ref l),some (.int 2),some (.int (more:Nat)),none,none,none,none,none,none] s2= .nx [some (.ref l),some (.int 2),some (.int (more:Nat)),none,some (.int (hi:Nat)),some (.int (wi:Nat)),none,none,none] s3:=by unfold qw;simp[ZE,ix];rfl
  have la:bH (.str "abcdefghijklmnopqrstuvwxyz") (.int ((wi:Int) - 1)) s3= .ok (.str (tx [96+wi])) s3:=by
   have e:((wi:Int) - 1)=((wi - 1:Nat):Int):=by omega
   have ab:("abcdefghijklmnopqrstuvwxyz":S)=tx ((nh 26).map (97+·)):=by decide+kernel
   rw[e,ab];refine qI ?_ (by simp);rw[fZ,List.getElem?_range (by omega)];show some (97+(wi - 1))=some (96+wi)
   congr 1
   omega
  have sr:DD [.int (hi:Nat)] s3= .ok (.str (PySem.Str.ofString (toString ((hi:Nat):Int)))) s3:=wK (vW (AK (k:=20) (b:=1000) (by omega) (by omega) (by decide) (by decide)) (by decide));have sl:(PySem.Str.ofString (toString ((hi:Nat):Int))).length<=3:=by
   have:∀h,h < 100->(PySem.Str.ofString (toString ((h:Nat):Int))).length<=3:=by decide+kernel
   exact this hi (by omega)
  have z3:("a1:":S).length=3:=by decide+kernel
  have z6:("count(":S).length=6:=by decide+kernel
  have z1:(")":S).length=1:=by decide+kernel
  have zt:(tx [96+wi]).length=1:=rfl;generalize PySem.Str.ofString (toString ((hi:Nat):Int))=H at sr sl ⊢;generalize tx [96+wi]=T at la zt ⊢;have a1:bA (.str "a1:") (.str T) s3= .ok (.str ("a1:"++T)) s3:=f_ (by rw[z3,zt];decide);have a2:bA (.str ("a1:"++T)) (.str H) s3= .ok (.str ("a1:"++T++H)) s3:=f_ (by rw[cY,z3,zt];unfold lim;omega);have a3:bA (.str "count(") (.str ("a1:"++T++H)) s3= .ok (.str ("count("++("a1:"++T++H))) s3:=f_ (by rw[cY,cY,z3,zt,z6];unfold lim;omega);have a4:bA (.str ("count("++("a1:"++T++H))) (.str ")") s3= .ok (.str ("count("++("a1:"++T++H)++")")) s3:=f_ (by rw[cY,cY,cY,z3,zt,z6,z1];unfold lim;omega);have mh:di (.int (hi:Nat)) (.int (wi:Nat)) s3= .ok (.int ((hi:Int) * (wi:Int))) s3:=B2 (by omega) (by omega);refine⟨s3,?_,k2.trans g3.keep,g3.get h2⟩;unfold b_ aK eE;simp[e1,e2,sT,la,sr,a1,a2,a3,a4,mh];rfl
 | 3,_=>
  have ev:=xm 8 (58+more) s2;unfold mn;cases hv:JJ 8 (58+more)with
  |un=>exact trivial
  |no=>exact trivial
  |ok w=>
   rw[hv]at ev;obtain⟨s3,q3,g3⟩:=ev;have VW:=pj 20 w s3;dsimp only;cases ht:Cp 20 w with
   |un=>exact trivial
   |no=>exact trivial
   |ok t=>
    rw[ht]at VW;obtain⟨s4,q4,g4⟩:=VW;have q3':bN [.int (58+(more:Int))] s2= .ok w s3:=by rw[show(58+(more:Int))=((58+more:Nat):Int) by omega];exact q3
    have q4':bu [w] s3= .ok (.str t) s4:=q4;have o3:∀s,oLt (.int (more:Nat)) (.int 3) s= .ok (.bl (decide (more < 3))) s:=λs=>by show Re.ok (Wv.bl (decide (((more:Nat):Int) < 3))) s=_;rw[show decide (((more:Nat):Int) < 3)=decide (more < 3) from by rw[hU,decide_eq_true_eq,decide_eq_true_eq];omega]
    refine⟨s4,?_,k2.trans (g3.trans g4).keep,(g3.trans g4).get h2⟩;unfold b_ aK eE;simp[-H_,e1,e2,q3',q4',o3];rfl
 | 4,_=>
  have VW:=pj 20 (mY (9+more)) s2;unfold mn;cases ht:Cp 20 (mY (9+more))with
  |un=>exact trivial
  |no=>exact trivial
  |ok t=>
   rw[ht]at VW;obtain⟨s4,q4,g4⟩:=VW;have q4':bu [mY (9+more)] s2= .ok (.str t) s4:=q4;have o3:∀s,oLt (.int (more:Nat)) (.int 3) s= .ok (.bl (decide (more < 3))) s:=λs=>by show Re.ok (Wv.bl (decide (((more:Nat):Int) < 3))) s=_;rw[show decide (((more:Nat):Int) < 3)=decide (more < 3) from by rw[hU,decide_eq_true_eq,decide_eq_true_eq];omega]
   have cr:nz (9+(more:Int)):=Mb (by omega) (by omega);obtain⟨o',lp⟩:=vg (ρ4:=[]) s2 (gE 0 (9+(more:Int)).toNat) 0 none (some (.ref l)) (some (.int 4)) (some (.int (more:Nat))) none none none none;rw[iZ,show 0+(9+(more:Int)).toNat=9+more by omega]at lp;have n0:mY 0= .tup [.str "lost"]:=rfl;rw[n0]at lp;refine⟨s4,?_,k2.trans g4.keep,g4.get h2⟩;unfold b_ aK eE;simp[-H_,e1,e2,cr,lp,q4',o3];rfl
def qV(c:Nat):Bool:=mR 48 c&&mR c 57
def Rg(c:Nat):Bool:=mR 97 c&&mR c 122
def VX(c:Nat):Bool:=Rg c||(qV c||(hR c 36||hR c 58))
theorem Nm(c:Nat):rX c=qV c:=by rw[hU,Mg];unfold qV;rw[b7,pk,pk]
theorem Rh:∀d:Fin 26,fY EJ ⟨#[97+d.val]⟩ 0 EJ.length 1=[d.val]:=by decide+kernel
variable{c:Nat}
theorem Mq(h:IL c=true):97<=c/\c<=122:=by
 unfold IL at h;rw[Mh]at h;have e:EJ.cps.toList=(nh 26).map (97+·):=by decide+kernel
 obtain⟨i,h⟩:=h;have q:=(B' _ c i).mp h;rw[e]at q;have m:=sj q;simp at m;omega
theorem VY(c:Nat):IL c=Rg c:=by rw[hU];unfold Rg;rw[b7,pk,pk];refine⟨Mq,λh=>?_⟩;obtain⟨d,rfl⟩:∃d,c=97+d:=⟨c - 97,by omega⟩;unfold IL;rw[Rh ⟨d,by omega⟩];rfl
theorem Jj(a b:Nat):decide (tx [a]=tx [b])=hR a b:=by rw[<-gy,Cf,hU,decide_eq_true_eq,xn]
theorem abg(c:Nat):xf c=VX c:=by
 have e1:("$":S)=tx [36]:=by decide+kernel
 have e2:(":":S)=tx [58]:=by decide+kernel
 have e3:decide (tx [c]∈(["$",":"]:List S))=(hR c 36||hR c 58):=by rw[e1,e2,<-Jj,<-Jj,hU];simp
 unfold xf VX;rw[VY,Nm,e3]
theorem Nn:rX=qV:=funext Nm
theorem abh:xf=VX:=funext abg
def tT(L:List Nat)(i:Nat):Rr Nat:=match L[i]? with
 |none=> .un
 |some c=>if c=34 then(if fU L i < 0 then .no else .ok ((fU L i).toNat+1))else if qV c=true then .ok (i+mi qV L i)else .ok (max (i+mi VX L i) (i+1))
theorem Ri:y_=tT:=by
 funext L i;unfold y_ tT;rw[abh,Nn]
 all_goals cases L[i]?<;>rfl
def qM(z:S):Rr Wd:=match z.cps.toList with
 |[]=> .un
 |c::_=>if 1000<=z.length then .un else if c=34 then En z else if qV c=true then Eo c z else if z="lost" then .ok .za else if z∈CW then .ok (.cl z)else if z∈SW then .ok (.sg z)else if IX z=true then qJ z else Mj z
theorem Rj:va=qM:=by
 funext z;unfold va qM;rw[Nn]
 all_goals cases z.cps.toList<;>rfl
def jq:Nat->List Nat->Nat->Rr (List Wd)
 | 0,_,_=> .un
 |n+1,L,i=>if L.length<=i then .ok []else match tT L i with
  |.no=> .no
  |.un=> .un
  |.ok j=>if L[i]? =some 32 then jq n L j else match qM (tx ((L.drop i).take (j - i)))with
   |.no=> .no
   |.un=> .un
   |.ok w=>(match jq n L j with
    |.ok ws=> .ok (w::ws)
    |.no=> .no
    |.un=> .un)
theorem Cq:∀(n:Nat)(L:List Nat)(i:Nat),jm n L i=jq n L i
 | 0,_,_=>rfl
 |n+1,L,i=>by
  have ih:jm n=jq n:=funext λL=>funext λi=>Cq n L i;unfold jm jq;rw[Ri,Rj,ih]
  all_goals
   by_cases c:L.length<=i
   ·rw[if_pos c,if_pos c]
   rw[if_neg c,if_neg c];cases tT L i with
   |no=>rfl
   |un=>rfl
   |ok j=>
    dsimp only;by_cases k:L[i]? =some 32
    ·rw[if_pos k,if_pos k]
    rw[if_neg k,if_neg k];cases qM (tx ((L.drop i).take (j - i)))with
    |no=>rfl
    |un=>rfl
    |ok w=>dsimp only;cases jq n L j<;>rfl
def unN(z:S):Rr Wv:=match(if 1000 < z.length then(.un:Rr (List Wd))else jq 1100 z.cps.toList 0)with
 |.ok ws=>if 2000 < ws.length then .un else if IZ ws 0=true then(match(A9 140 ws).2.2.2 0 with
  |.ok p=>if D7 (hd (ws.drop p.2))=true then .ok p.1 else .no
  |.no=> .no
  |.un=> .un)else .no
 |.no=> .no
 |.un=> .un
theorem abj(z:S):Q_ z=unN z:=by
 unfold Q_ unN tQ;rw[Cq]
 all_goals
  generalize (if 1000 < z.length then(Rr.un:Rr (List Wd))else jq 1100 z.cps.toList 0)=v;cases v with
  |no=>rfl
  |un=>rfl
  |ok ws=>
   dsimp only;by_cases a:2000 < ws.length
   ·rw[if_pos a,if_pos a]
   rw[if_neg a,if_neg a];by_cases b:IZ ws 0=true
   ·rw[if_pos b,if_pos b];cases (A9 140 ws).2.2.2 0<;>rfl
   ·rw[if_neg b,if_neg b]
def Ex(L:List Nat)(i c:Nat)(t:List Nat):Rr Nat:=if c=34 then(if fU L i < 0 then .no else .ok ((fU L i).toNat+1 - i))else if qV c=true then .ok (((c::t).takeWhile qV).length)else .ok (max (((c::t).takeWhile VX).length) 1)
def nZ:Nat->List Nat->Nat->List Nat->Rr (List Wd)
 | 0,_,_,_=> .un
 |n+1,L,i,R=>match R with
  |[]=> .ok []
  |c::t=>match Ex L i c t with
   |.no=> .no
   |.un=> .un
   |.ok k=>if c=32 then nZ n L (i+k) ((c::t).drop k)else match qM (tx ((c::t).take k))with
    |.no=> .no
    |.un=> .un
    |.ok w=>(match nZ n L (i+k) ((c::t).drop k)with
     |.ok ws=> .ok (w::ws)
     |.no=> .no
     |.un=> .un)
theorem VZ(h:L.drop i=c::t)(hc:L[i]? =some c):(Ex L i c t= .no/\tT L i= .no)\/∃k,Ex L i c t= .ok k/\tT L i= .ok (i+k):=by
 have hlt:=(List.getElem?_eq_some_iff.mp hc).1;unfold Ex tT mi;rw[hc,h];dsimp only;by_cases a:c=34
 ·rw[if_pos a,if_pos a];by_cases b:fU L i < 0
  ·rw[if_pos b,if_pos b];exact .inl ⟨rfl,rfl⟩
  ·rw[if_neg b,if_neg b];have:=IT hlt b;exact .inr ⟨_,rfl,by congr 1;omega⟩
 ·rw[if_neg a,if_neg a];by_cases b:qV c=true
  ·rw[if_pos b,if_pos b];exact .inr ⟨_,rfl,rfl⟩
  ·rw[if_neg b,if_neg b];exact .inr ⟨_,rfl,by congr 1;omega⟩
theorem Cr:∀(n:Nat)(L:List Nat)(i:Nat)(R:List Nat),L.drop i=R->jq n L i=nZ n L i R
 | 0,_,_,_,_=>rfl
 |n+1,L,i,[],h=>by
  have:L.length<=i:=by have:=congrArg nu h;rw[pE]at this;simp at this;omega
  unfold jq;rw[if_pos this];rfl
 |n+1,L,i,c::t,h=>by
  have hc:L[i]? =some c:=by rw[<-List.head?_drop,h];rfl
  have hlt:=(List.getElem?_eq_some_iff.mp hc).1;unfold jq nZ;rw[if_neg (by omega)];dsimp only;rcases VZ h hc with ⟨e1,e2⟩ |⟨k,e1,e2⟩
  ·rw[e1,e2]
  ·rw[e1,e2,hc];dsimp only;have hd:L.drop (i+k)=(c::t).drop k:=by rw[<-List.drop_drop,h]
   have ih:=Cr n L (i+k) _ hd;rw[h,show i+k - i=k by omega,ih];by_cases q:c=32
   ·rw[if_pos q,if_pos (by rw[q])]
   ·rw[if_neg q,if_neg (by intro z;exact q (Option.some.inj z))]
    all_goals
     cases qM (tx ((c::t).take k))with
     |no=>rfl
     |un=>rfl
     |ok w=>dsimp only;cases nZ n L (i+k) ((c::t).drop k)<;>rfl
theorem kv{b c:Prop}[db:Decidable b][dc:Decidable c]{x y u v:α}(h:b↔c)(h1:x=u)(h2:y=v):(if b then x else y)=(if c then u else v):=by
 subst h1 h2;by_cases q:c
 ·rw[if_pos q,if_pos (h.mpr q)]
 ·rw[if_neg q,if_neg (λz=>q (h.mp z))]
def Cs:List Nat->List Nat->Bool
 |[],[]=>true
 |a::x,b::y=>hR a b&&Cs x y
 |[],_::_=>false
 |_::_,[]=>false
theorem Cu:∀{x y:List Nat},Cs x y=true↔x=y
 |[],[]=>by simp[Cs]
 |a::x,b::y=>by unfold Cs;rw[b7,xn,Cu,List.cons.injEq]
 |[],_::_=>by simp[Cs]
 |_::_,[]=>by simp[Cs]
theorem Jk{M:List Nat}:tx L=tx M↔Cs L M=true:=by rw[Cu];exact⟨λh=>congrArg (λz:S=>z.cps.toList) h,λh=>by rw[h]⟩
def Yt:List (List Nat):=[[110,111,116],[114,101,115,116],[105,102],[101,108,115,101],[115,117,109],[99,111,117,110,116],[108,101,97,115,116],[103,114,101,97,116,101,115,116],[102,105,110,100]]
def Yu:List (List Nat):=[[43],[45],[42],[47],[38],[60],[61],[40],[41],[44]]
theorem abk:CW=Yt.map tx:=by decide+kernel
theorem abl:SW=Yu.map tx:=by decide+kernel
theorem Np(C:List (List Nat)):tx L∈C.map tx↔C.any (Cs L)=true:=by rw[List.mem_map,List.any_eq_true];exact⟨λ⟨a,h,e⟩=>⟨a,h,Jk.mp e.symm⟩,λ⟨a,h,e⟩=>⟨a,h,(Jk.mpr e).symm⟩⟩
def Cv(L:List Nat):Rr Wd:=match L with
 |[]=> .un
 |c::t=>if mR 1000 (c::t).length=true then .un else if hR c 34=true then En (tx (c::t))else if qV c=true then Eo c (tx (c::t))else if Cs (c::t) [108,111,115,116]=true then .ok .za else if Yt.any (Cs (c::t))=true then .ok (.cl (tx (c::t)))else if Yu.any (Cs (c::t))=true then .ok (.sg (tx (c::t)))else if IX (tx (c::t))=true then qJ (tx (c::t))else Mj (tx (c::t))
theorem Rk(L:List Nat):qM (tx L)=Cv L:=by
 unfold qM Cv;rw[mQ];cases L with
 |nil=>rfl
 |cons c t=>
  dsimp only;have e0:("lost":S)=tx [108,111,115,116]:=by decide+kernel
  have c1:1000<=(tx (c::t)).length↔mR 1000 (c::t).length=true:=by rw[j7,pk]
  have c2:c=34↔hR c 34=true:=by rw[xn]
  have c3:tx (c::t)="lost"↔Cs (c::t) [108,111,115,116]=true:=by rw[e0];exact Jk
  have c4:tx (c::t)∈CW↔Yt.any (Cs (c::t))=true:=by rw[abk];exact Np Yt
  have c5:tx (c::t)∈SW↔Yu.any (Cs (c::t))=true:=by rw[abl];exact Np Yu
  rw[kv c1 rfl rfl,kv c2 rfl rfl,kv c3 rfl rfl,kv c4 rfl rfl,kv c5 rfl rfl]
def n_:Nat->List Nat->Nat->List Nat->Rr (List Wd)
 | 0,_,_,_=> .un
 |n+1,L,i,R=>match R with
  |[]=> .ok []
  |c::t=>match Ex L i c t with
   |.no=> .no
   |.un=> .un
   |.ok k=>if hR c 32=true then n_ n L (i+k) ((c::t).drop k)else match Cv ((c::t).take k)with
    |.no=> .no
    |.un=> .un
    |.ok w=>(match n_ n L (i+k) ((c::t).drop k)with
     |.ok ws=> .ok (w::ws)
     |.no=> .no
     |.un=> .un)
theorem Cw:∀(n:Nat)(L:List Nat)(i:Nat)(R:List Nat),nZ n L i R=n_ n L i R
 | 0,_,_,_=>rfl
 |n+1,L,i,[]=>rfl
 |n+1,L,i,c::t=>by
  unfold nZ n_;dsimp only;cases Ex L i c t with
  |no=>rfl
  |un=>rfl
  |ok k=>
   dsimp only;rw[Cw n L (i+k),Rk,kv (show c=32↔hR c 32=true by rw[xn]) rfl rfl]
   all_goals
    by_cases q:hR c 32=true
    ·rw[if_pos q,if_pos q]
    ·rw[if_neg q,if_neg q];cases Cv ((c::t).take k)with
     |no=>rfl
     |un=>rfl
     |ok w=>dsimp only;cases n_ n L (i+k) ((c::t).drop k)<;>rfl
def Yv(L:List Nat):Rr Wv:=match(if 1000 < L.length then(.un:Rr (List Wd))else n_ 1100 L 0 L)with
 |.ok ws=>if 2000 < ws.length then .un else if IZ ws 0=true then(match(A9 140 ws).2.2.2 0 with
  |.ok p=>if D7 (hd (ws.drop p.2))=true then .ok p.1 else .no
  |.no=> .no
  |.un=> .un)else .no
 |.no=> .no
 |.un=> .un
theorem abm(z:S):Q_ z=Yv z.cps.toList:=by
 rw[abj];unfold unN Yv;rw[Cr 1100 z.cps.toList 0 z.cps.toList rfl,Cw];have e:z.length=z.cps.toList.length:=by rw[lD];rfl
 rw[e]
 all_goals
  generalize (if 1000 < z.cps.toList.length then(Rr.un:Rr (List Wd))else n_ 1100 z.cps.toList 0 z.cps.toList)=v;cases v with
  |no=>rfl
  |un=>rfl
  |ok ws=>
   dsimp only;by_cases a:2000 < ws.length
   ·rw[if_pos a,if_pos a]
   rw[if_neg a,if_neg a];by_cases b:IZ ws 0=true
   ·rw[if_pos b,if_pos b];cases (A9 140 ws).2.2.2 0<;>rfl
   ·rw[if_neg b,if_neg b]
def vh(L:List Nat):An:=match Yv L with
 |.ok w=>qL w
 |.no=> .txt
 |.un=> .un
theorem Ba(z:S):jP z=vh z.cps.toList:=by
 unfold jP vh;rw[abm]
 all_goals cases Yv z.cps.toList<;>rfl
theorem Jl(n:Nat)(x:S):(dF n x).cps.toList=(aR n x.cps.toList).flatten:=by
 have go:∀(n:Nat)(a:Array Nat),((aR n x.cps).foldl (· ++·) a).toList=a.toList++(aR n x.cps.toList).flatten:=by
  intro n
  induction n with
  |zero=>intro a;simp
  |succ n ih=>intro a;rw[iY,zU,ih,iY,pG,Array.toList_append,List.append_assoc]
 unfold dF;rw[go];rfl
def Ey(g:Bool):An:=if g=true then .told else .Rb
def Jm(g:Bool):An:=if g=true then .told else .txt
def vi:List S:=[" 1",")"," +"," lost",","," \""," a100","("]
def Nq:List S:=["a1","sum(a1:b2)","find(a1, a1:b2)","rest(2, a1)"]
def zh(c k:Nat):Nat->S
 | 0=>dF c "not("++dF k "("
 |_=>dF k "("++dF c "not("
def vj(d i:Nat):Bool:=decide (38+d+(if i=0 then 0 else 1)<=40)
structure Bb(p:Wv×S×Bool):Prop where
 made:qL p.1=Ey p.2.2
 read:jP p.2.1=Ey p.2.2
 len:p.2.1.length<=900
 tail:∀t∈vi,jP (p.2.1++t)= .txt
theorem Rl{n:Nat}(h:n<=50)(hx:x.length<=10)(h0:x.length≠0)(st:Hs):di (.str x) (.int (n:Nat)) st= .ok (.str (dF n x)) st:=by
 show(if((n:Nat):Int)=0\/((n:Nat):Int)=1 then Re.ok (Wv.str (if((n:Nat):Int)=0 then PySem.Str.empty else x)) st else(if qv x (n:Nat)then Re.ok (Wv.str (dF ((n:Nat):Int).toNat x)) st else .bad))=_;by_cases c:n=0
 ·subst c;rfl
 by_cases c1:n=1
 ·subst c1;have e:dF 1 x=x:=by unfold dF;simp
  rw[e];rfl
 have hm:x.length * n<=10 * 50:=Nat.mul_le_mul hx h;rw[if_neg (by omega),if_pos ⟨by omega,by omega,h0,by rw[sm];unfold lim;omega⟩,sm]
theorem Jn{a b:S}(q:Bool):∃G:Int,(∀u,kg [.bl q] u= .ok (.int G) u)/\bH (.ref st.length) (.int G) (st++[.lst [.str a,.str b]])= .ok (.str (if q=true then b else a)) (st++[.lst [.str a,.str b]]):=by
 have l:av (st++[.lst [.str a,.str b]]) st.length=some [.str a,.str b]:=cz;refine⟨if q then 1 else 0,λ_=>rfl,?_⟩;cases q
 ·exact mU l rfl
 ·exact mU l rfl
theorem dig(m:Nat)(hm:1<=m)(hk:m<=1000)(h:st[l]? =some (.lst [.int n])):∃(d:Nat)(n':Int)(st':Hs),d < m/\aG [.ref l,.int (m:Nat)] st= .ok (.int (d:Nat)) st'/\bE l st st'/\st'[l]? =some (.lst [.int n']):=by obtain⟨d,hd,e⟩:=Rf h hm hk;exact⟨d,_,_,hd,e,bE.set,iJ h⟩
variable{w:Wv}{g:Bool}
theorem Rm(h:qL w=Ey g)(st:Hs):∃st',a7 [.int 0,w] st= .ok (.str (if g=true then "told" else "formula")) st'/\Gr st st':=by have q:=Ew w st;rw[h]at q;cases g<;>exact q
theorem Rn(h:jP z=Ey g)(st:Hs):∃st',a7 [.int 1,.str z] st= .ok (.str (if g=true then "told" else "formula")) st'/\Gr st st':=by have q:=vf z st;rw[h]at q;cases g<;>exact q
theorem Bc(h:jP z=Jm g)(st:Hs):∃st',a7 [.int 1,.str z] st= .ok (.str (if g=true then "told" else "text")) st'/\Gr st st':=by have q:=vf z st;rw[h]at q;cases g<;>exact q
theorem tU(h:bE l st st')(hk:k≠l)(e:st[k]? =some o):st'[k]? =some o:=by have hlt:=(List.getElem?_eq_some_iff.mp e).1;rw[h.2 k hlt hk];exact e
theorem ne_self(x:S)(st:Hs):j' (.str x) (.str x) st= .ok (.bl false) st:=QS rfl rfl Vz
def EK:Nat->Wv->Rr (List Nat)
 | 0,_=> .un
 |n+1,w=>match w with
  |.tup (.str x::ws)=>if x="rest" then(match ws with
   |[a,b]=>(match EK n a with
    |.ok s=>(match EK n b with
     |.ok t=>if 3000 < s.length+t.length then .un else .ok ([114,101,115,116,40]++s++[44,32]++t++[41])
     |_=> .un)
    |_=> .un)
   |_=> .un)else if x="not" then(match ws with
   |[a]=>(match EK n a with
    |.ok s=>if 3000 < s.length then .un else .ok ([110,111,116,40]++s++[41])
    |_=> .un)
   |_=> .un)else .ok [108,111,115,116]
  |_=> .un
def upR:Rr (List Nat)->Rr S
 |.ok L=> .ok (tx L)
 |_=> .un
theorem jr(a b:List Nat):tx a++tx b=tx (a++b):=by show(⟨a.toArray++b.toArray⟩:S)=⟨(a++b).toArray⟩;rw[List.append_toArray]
theorem Jo:∀(n:Nat)(w:Wv),Cp n w=upR (EK n w)
 | 0,_=>rfl
 |n+1,w=>by
  have z5:("rest(":S)=tx [114,101,115,116,40]:=by decide+kernel
  have z2:(", ":S)=tx [44,32]:=by decide+kernel
  have z1:(")":S)=tx [41]:=by decide+kernel
  have z4:("not(":S)=tx [110,111,116,40]:=by decide+kernel
  have z0:("lost":S)=tx [108,111,115,116]:=by decide+kernel
  unfold Cp EK;split
  ·rename_i x ws
   try dsimp only
   by_cases c:x="rest"
   ·rw[if_pos c,if_pos c]
    match ws with
    |[a,b]=>
     dsimp only;rw[Jo n a,Jo n b];cases EK n a with
     |ok s=>
      cases EK n b with
      |ok t=>
       dsimp only[upR];rw[j7,j7];by_cases cl:3000 < s.length+t.length
       ·rw[if_pos cl,if_pos cl]
       ·rw[if_neg cl,if_neg cl,z5,z2,z1,jr,jr,jr,jr]
      |_=>rfl
     |_=>rfl
    |[]=>rfl
    |[_]=>rfl
    |_::_::_::_=>rfl
   rw[if_neg c,if_neg c];by_cases c2:x="not"
   ·rw[if_pos c2,if_pos c2]
    match ws with
    |[a]=>
     dsimp only;rw[Jo n a];cases EK n a with
     |ok s=>
      dsimp only[upR];rw[j7];by_cases cl:3000 < s.length
      ·rw[if_pos cl,if_pos cl]
      ·rw[if_neg cl,if_neg cl,z4,z1,jr,jr]
     |_=>rfl
    |[]=>rfl
    |_::_::_=>rfl
   rw[if_neg c2,if_neg c2,z0];rfl
  ·rfl
def isA:An->An->Bool
 |.told,.told=>true
 |.Rb,.Rb=>true
 |.txt,.txt=>true
 |_,_=>false
theorem xo{a b:An}(h:isA a b=true):a=b:=by cases a<;>cases b<;>first |rfl |cases h
def TLn:List (List Nat):=[[32,49],[41],[32,43],[32,108,111,115,116],[44],[32,34],[32,97,49,48,48],[40]]
theorem Mr:vi=TLn.map tx:=by decide+kernel
def Tt(w:Wv)(L:List Nat)(g:Bool):Bool:=isA (qL w) (Ey g)&&(isA (vh L) (Ey g)&&(mR L.length 900&&TLn.all (λt=>isA (vh (L++t)) .txt)))
theorem Bd(h:Tt w L g=true):Bb (w,tx L,g):=by
 unfold Tt at h;rw[b7,b7,b7,pk,nG]at h;obtain⟨h1,h2,h3,h4⟩:=h;refine⟨xo h1,?_,?_,?_⟩
 ·rw[Ba];exact xo h2
 ·rw[j7];exact h3
 ·intro t ht;rw[Mr]at ht;obtain⟨T,hT,rfl⟩:=List.mem_map.mp ht;rw[Ba];show vh ((tx L++tx T).cps.toList)=_;rw[jr,mQ];exact xo (h4 T hT)
def Be(way more:Nat):Bool:=match way with
 | 3=>(match JJ 8 (58+more)with
  |.ok w=>(match EK 20 w with
   |.ok L=>Tt w L (decide (more < 3))
   |_=>false)
  |_=>false)
 | 4=>(match EK 20 (mY (9+more))with
  |.ok L=>Tt (mY (9+more)) L (decide (more < 3))
  |_=>false)
 |_=>(match mn way more with
  |.ok p=>Tt p.1 p.2.1.cps.toList p.2.2
  |_=>false)
theorem pv{way:Nat}(h:Be way more=true):∃p,mn way more= .ok p/\Bb p:=by
 unfold Be at h;split at h
 ·cases e:JJ 8 (58+more)with
  |ok w=>
   rw[e]at h;dsimp only at h;cases e2:EK 20 w with
   |ok L=>rw[e2]at h;refine⟨(w,tx L,decide (more < 3)),?_,Bd h⟩;unfold mn;rw[e];dsimp only;rw[Jo,e2];rfl
   |_=>rw[e2]at h;cases h
  |_=>rw[e]at h;cases h
 ·cases e2:EK 20 (mY (9+more))with
  |ok L=>rw[e2]at h;refine⟨(_,tx L,decide (more < 3)),?_,Bd h⟩;unfold mn;rw[Jo,e2];rfl
  |_=>rw[e2]at h;cases h
 ·cases e:mn way more with
  |ok p=>rw[e]at h;exact⟨p,rfl,Bd (L:=p.2.1.cps.toList) h⟩
  |_=>rw[e]at h;cases h
theorem V_:∀more < 5,Be 0 more=true:=by decide+kernel
theorem V':∀more < 5,Be 1 more=true:=by decide+kernel
theorem Wa:∀more < 5,Be 2 more=true:=by decide+kernel
theorem Wb:∀more < 5,Be 3 more=true:=by decide+kernel
theorem Wc:∀more < 5,Be 4 more=true:=by decide+kernel
theorem Ms:∀way < 5,∀more < 5,∃p,mn way more= .ok p/\Bb p:=by
 intro way hw more hm
 match way,hw with
 | 0,_=>exact pv (V_ more hm)
 | 1,_=>exact pv (V' more hm)
 | 2,_=>exact pv (Wa more hm)
 | 3,_=>exact pv (Wb more hm)
 | 4,_=>exact pv (Wc more hm)
def uw(n:Nat)(a:List Nat):List Nat:=(aR n a).flatten
theorem tV(n:Nat)(a:List Nat):dF n (tx a)=tx (uw n a):=by rw[<-A5 (dF n (tx a)),Jl];rfl
def brL(c k:Nat):Nat->List Nat
 | 0=>uw c [110,111,116,40]++uw k [40]
 |_=>uw k [40]++uw c [110,111,116,40]
theorem We(c k s:Nat):zh c k s=tx (brL c k s):=by
 have z1:("(":S)=tx [40]:=by decide+kernel
 have z4:("not(":S)=tx [110,111,116,40]:=by decide+kernel
 cases s with
 |zero=>show dF c "not("++dF k "("=tx (uw c [110,111,116,40]++uw k [40]);rw[z1,z4,tV,tV,jr]
 |succ s=>show dF k "("++dF c "not("=tx (uw k [40]++uw c [110,111,116,40]);rw[z1,z4,tV,tV,jr]
def INn:List (List Nat):=[[97,49],[115,117,109,40,97,49,58,98,50,41],[102,105,110,100,40,97,49,44,32,97,49,58,98,50,41],[114,101,115,116,40,50,44,32,97,49,41]]
theorem Wf:Nq=INn.map tx:=by decide+kernel
def Bf(d c s:Nat):Bool:=decide (oI (tx (brL c (38+d - c) s)) "("=38+(d:Int))&&(INn.zipIdx).all (λp=>isA (vh (brL c (38+d - c) s++p.1++uw (38+d) [41])) (Jm (vj d p.2)))
variable{y:S}
theorem Mt{d s:Nat}(h:Bf d c s=true)(hy:Nq[i]? =some y):jP (zh c (38+d - c) s++y++dF (38+d) ")")=Jm (vj d i)/\oI (zh c (38+d - c) s) "("=38+(d:Int):=by
 unfold Bf at h;rw[b7,decide_eq_true_eq,nG]at h;rw[Wf,fZ]at hy;cases e:INn[i]? with
 |none=>rw[e]at hy;cases hy
 |some Y=>
  rw[e]at hy;cases hy;have q:=h.2 (Y,i) (List.mem_zipIdx_iff_getElem?.mpr e);have z2:(")":S)=tx [41]:=by decide+kernel
  rw[We,z2,tV];refine⟨?_,h.1⟩;rw[jr,jr,Ba,mQ];exact xo q
theorem Ro:∀c < 11,∀s < 2,Bf 0 c s=true:=by decide+kernel
theorem Rp:∀c < 11,∀s < 2,Bf 1 c s=true:=by decide+kernel
theorem Rq:∀c < 11,∀s < 2,Bf 2 c s=true:=by decide+kernel
theorem Rt:∀c < 11,∀s < 2,Bf 3 c s=true:=by decide+kernel
theorem Ru:∀c < 11,∀s < 2,Bf 4 c s=true:=by decide+kernel
theorem Wg{d s:Nat}(hd:d < 5)(hc:c < 11)(hs:s < 2)(hy:Nq[i]? =some y):jP (zh c (38+d - c) s++y++dF (38+d) ")")=Jm (vj d i)/\oI (zh c (38+d - c) s) "("=38+(d:Int):=by
 refine Mt ?_ hy
 match d,hd with
 | 0,_=>exact Ro c hc s hs
 | 1,_=>exact Rp c hc s hs
 | 2,_=>exact Rq c hc s hs
 | 3,_=>exact Rt c hc s hs
 | 4,_=>exact Ru c hc s hs
def Bg(r:Nat):S:=PySem.Str.ofString (toString ((97+r:Nat):Int))
theorem Rv(hr:r < 5):jP ("c"++Bg r)=Jm (decide (97+r < 100)):=by
 have:∀r < 5,(match jP ("c"++Bg r)with |.told=>decide (97+r < 100) |.txt=> !decide (97+r < 100) |_=>false)=true:=by decide+kernel
 have q:=this r hr;split at q
 ·rename_i e;rw[e,q];rfl
 ·rename_i e;rw[e];rw[Bool.not_eq_true']at q;rw[q];rfl
 ·cases q
theorem Mu(hr:r < 5):(Bg r).length<=3:=by
 have:∀r < 5,(Bg r).length<=3:=by decide+kernel
 exact this r hr
theorem Mv(hr:r < 5)(u:Hs):oC [.int (97+(r:Int))] u= .ok (.str (Bg r)) u:=by rw[show(97+(r:Int))=((97+r:Nat):Int) by omega];exact wK (vW (AK (k:=20) (b:=1000) (by omega) (by omega) (by decide) (by decide)) (by decide))
theorem Rw(hi:i < 4)(hy:Nq[i]? =some y):decide (y="a1")=decide (i=0):=by
 match i,hi with
 | 0,_=>cases hy;decide+kernel
 | 1,_=>cases hy;decide+kernel
 | 2,_=>cases hy;decide+kernel
 | 3,_=>cases hy;decide+kernel
theorem Ez:∀t∈vi,t.length<=10:=by decide+kernel
theorem Mw:∀t∈Nq,t.length<=20:=by decide+kernel
theorem Mx{s:Nat}(hc:c<=50)(hk:k<=50):(zh c k s).length<=300:=by
 have l1:("not(":S).length=4:=by decide+kernel
 have l2:("(":S).length=1:=by decide+kernel
 unfold zh;split
 ·rw[cY,eC,eC,l1,l2];omega
 ·rw[cY,eC,eC,l1,l2];omega
theorem turn{s:Wv}{c:Int}{o2 o3 o4 o5 o6 o7 o8 o9 Yw Yx:Option Wv}(st:Hs):∃p2 p3 p4 p5 p6 p7 p8 p9 Tz TC st',pd [some s,some (.int c),o2,o3,o4,o5,o6,o7,o8,o9,Yw,Yx] st= .nx [some s,some (.int c),p2,p3,p4,p5,p6,p7,p8,p9,Tz,TC] st'/\Gr st st':=by
 obtain⟨n,e1⟩:=own (st:=st) (c:=c);have h0:(st++[Ob.lst [Wv.int n]])[st.length]? =some (.lst [.int n]):=eh;have g0:Gr st (st++[Ob.lst [Wv.int n]]):=Gr.push;generalize hl:st.length=l at e1 h0;have hle:st.length<=l:=by omega
 generalize st++[Ob.lst [Wv.int n]]=s0 at e1 h0 g0;obtain⟨way,more,n1,hw,hm,cs⟩:=Ji h0;obtain⟨⟨w,z,g⟩,ep,ok⟩:=Ms way hw more hm;rw[ep]at cs;obtain⟨s1,e2,k1,h1⟩:=cs;have S_:b_ [.ref l] s0= .ok (.tup [w,.str z,.bl g]) s1:=e2;obtain⟨G1,b1,P1⟩:=Jn (a:="formula") (b:="told") (st:=s1) g;have k2:bE l s1 (s1++[.lst [.str "formula",.str "told"]]):=bE.push;have h2:=ft (o':=.lst [.str "formula",.str "told"]) h1;generalize abq:s1++[Ob.lst [Wv.str "formula",Wv.str "told"]]=s2 at P1 k2 h2;obtain⟨s3,e3,g3⟩:=Rm ok.made s2;obtain⟨s4,e4,g4⟩:=Rn ok.read s3;have h4:=g4.get (g3.get h2);have kA:bE l s0 s4:=k1.trans (k2.trans (g3.trans g4).keep);dsimp only at e3 e4;generalize (if g=true then("told":S)else "formula")=du at P1 e3 e4;have n3:=ne_self du s3;have n4:=ne_self du s4;have sT:qw [3,4,5] (az 1 b_ (ae (af 2) ag)) [some s,some (.int c),some (.ref l),o3,o4,o5,o6,o7,o8,o9,Yw,Yx] s0= .nx [some s,some (.int c),some (.ref l),some w,some (.str z),some (.bl g),o6,o7,o8,o9,Yw,Yx] s1:=by unfold qw;simp[S_];rfl
 -- a tail
 have lA:∀{l':Nat}{u:Hs}{o:Ob},u[l']? =some o->l'≠u.length:=λh=>cQ (List.getElem?_eq_some_iff.mp h).1;have q4:(s4++[.lst [.str " 1",.str ")",.str " +",.str " lost",.str ",",.str " \"",.str " a100",.str "("]])[l]? =some (.lst [.int n1]):=ft h4;obtain⟨d,n5,s5,hd,e5,k5,h5⟩:=dig 8 (by decide) (by decide) q4;have l5:av s5 s4.length=some (vi.map Wv.str):=bT (tU k5 (lA h4).symm eh);obtain⟨t,ht⟩:∃t,vi[d]? =some t:=⟨vi[d],fg hd⟩;have mt:=sj ht;have i5:bH (.ref s4.length) (.int (d:Nat)) s5= .ok (.str t) s5:=mU l5 (L2.eO (by rw[fZ,ht];rfl));have kB:bE l s0 s5:=kA.trans (bE.push.trans k5);generalize hs4:s4++[Ob.lst [Wv.str " 1",.str ")",.str " +",.str " lost",.str ",",.str " \"",.str " a100",.str "("]]=s4' at e5;have a5:bA (.str z) (.str t) s5= .ok (.str (z++t)) s5:=f_ (by have:=ok.len;have:=Ez t mt;dsimp only at *;unfold lim;omega);obtain⟨s6,e6,g6⟩:=Bc (g:=false) (ok.tail t mt) s5;have e6':a7 [.int 1,.str (z++t)] s5= .ok (.str "text") s6:=e6;have n6:=ne_self "text" s6;have h6:=g6.get h5
 -- brackets
 obtain⟨dp,n7,s7,hdp,e7,k7,h7⟩:=dig 5 (by decide) (by decide) h6;obtain⟨cl,n8,s8,hcl,e8,k8,h8⟩:=dig 11 (by decide) (by decide) h7;have q8:(s8++[.lst [.str "a1",.str "sum(a1:b2)",.str "find(a1, a1:b2)",.str "rest(2, a1)"]])[l]? =some (.lst [.int n8]):=ft h8;obtain⟨ii,n9,s9,hii,e9,k9,h9⟩:=dig 4 (by decide) (by decide) q8;have l9:av s9 s8.length=some (Nq.map Wv.str):=bT (tU k9 (lA h8).symm eh);have kC:bE l s0 s9:=kB.trans (g6.keep.trans (k7.trans (k8.trans (bE.push.trans k9))));generalize hs8:s8++[Ob.lst [Wv.str "a1",.str "sum(a1:b2)",.str "find(a1, a1:b2)",.str "rest(2, a1)"]]=s8' at e9;obtain⟨y,hy⟩:∃y,Nq[ii]? =some y:=⟨Nq[ii],fg hii⟩;have my:=Mw y (sj hy);have i9:bH (.ref s8.length) (.int (ii:Nat)) s9= .ok (.str y) s9:=mU l9 (L2.eO (by rw[fZ,hy];rfl));have sb:∀u:Hs,lK (.int (38+(dp:Int))) (.int (cl:Nat)) u= .ok (.int ((38+dp - cl:Nat):Int)) u:=λu=>by show Re.ok (Wv.int (38+(dp:Int) - (cl:Nat))) u=_;rw[show(38+(dp:Int) - (cl:Nat))=((38+dp - cl:Nat):Int) by omega]
 have z4:("not(":S).length=4:=by decide+kernel
 have z1:("(":S).length=1:=by decide+kernel
 have z2:(")":S).length=1:=by decide+kernel
 have m1:=λu=>Rl (x:="not(") (n:=cl) (by omega) (by rw[z4];decide) (by rw[z4];decide) u;have m2:=λu=>Rl (x:="(") (n:=38+dp - cl) (by omega) (by rw[z1];decide) (by rw[z1];decide) u;have a1:∀u,bA (.str (dF cl "not(")) (.str (dF (38+dp - cl) "(")) u= .ok (.str (zh cl (38+dp - cl) 0)) u:=λu=>f_ (by rw[eC,eC,z4,z1];unfold lim;omega);have a2:∀u,bA (.str (dF (38+dp - cl) "(")) (.str (dF cl "not(")) u= .ok (.str (zh cl (38+dp - cl) 1)) u:=λu=>f_ (by rw[eC,eC,z4,z1];unfold lim;omega);have q9:(s9++[.lst [.str (zh cl (38+dp - cl) 0),.str (zh cl (38+dp - cl) 1)]])[l]? =some (.lst [.int n9]):=ft h9;obtain⟨sd,n10,EH,hsd,Tp,k10,U4⟩:=dig 2 (by decide) (by decide) q9;have l10:av EH s9.length=some [.str (zh cl (38+dp - cl) 0),.str (zh cl (38+dp - cl) 1)]:=bT (tU k10 (lA h9).symm eh);have i10:bH (.ref s9.length) (.int (sd:Nat)) EH= .ok (.str (zh cl (38+dp - cl) sd)) EH:=mU l10 (L2.eO (by match sd,hsd with | 0,_=>rfl | 1,_=>rfl))
 have kD:bE l s0 EH:=kC.trans (bE.push.trans k10);obtain⟨bk,bc⟩:=Wg hdp hcl hsd hy;have bl:=Mx (c:=cl) (k:=38+dp - cl) (s:=sd) (by omega) (by omega);generalize zh cl (38+dp - cl) 0=B0 at a1 Tp;generalize zh cl (38+dp - cl) 1=B1 at a2 Tp;generalize zh cl (38+dp - cl) sd=B at i10 bk bc bl;generalize 38+dp - cl=kk at sb m2 a1 a2;generalize hs9:s9++[Ob.lst [Wv.str B0,Wv.str B1]]=s9' at Tp;have ne1:∀u:Hs,j' (.str y) (.str "a1") u= .ok (.bl (!decide (ii=0))) u:=λu=>by rw[Ia,gy,show decide (y="a1")=decide (ii=0) from Rw hii hy]
 have MU:∀u:Hs,kg [.bl (!decide (ii=0))] u= .ok (.int ((if ii=0 then 0 else 1:Nat):Int)) u:=λu=>by
  by_cases q:ii=0
  ·rw[decide_eq_true q,if_pos q];rfl
  ·rw[decide_eq_false q,if_neg q];rfl
 have mc:∀u:Hs,lP B [.str "("] u= .ok (.int (38+(dp:Int))) u:=λu=>by show Re.ok (Wv.int (oI B "(")) u=_;rw[bc]
 have alt:∀(ρ:bR)(u:Hs)(g2:GE),ρ[4]? =some (some (.str B))->jv (dX lP (af 4) (ae (gC (.str "(")) ag)) g2 ρ u= .ok (.int (38+(dp:Int))) u:=λρ u g2 h=>wL (by simp[h,AL,mc]);have m3:∀u,di (.str ")") (.int (38+(dp:Int))) u= .ok (.str (dF (38+dp) ")")) u:=λu=>by rw[show(38+(dp:Int))=((38+dp:Nat):Int) by omega];exact Rl (by omega) (by rw[z2];decide) (by rw[z2];decide) u
 have lr:(dF (38+dp) ")").length=38+dp:=by rw[eC,z2];omega
 generalize dF (38+dp) ")"=C at m3 bk lr;have a3:bA (.str B) (.str y) EH= .ok (.str (B++y)) EH:=f_ (by unfold lim;omega);have a4:bA (.str (B++y)) (.str C) EH= .ok (.str (B++y++C)) EH:=f_ (by rw[cY,lr];unfold lim;omega);obtain⟨XF,U5,g11⟩:=Bc bk EH;have le1:∀u:Hs,oLe (.int (38+(dp:Int)+((if ii=0 then 0 else 1:Nat):Int))) (.int 40) u= .ok (.bl (vj dp ii)) u:=λu=>by show Re.ok (Wv.bl (decide ((38+(dp:Int)+((if ii=0 then 0 else 1:Nat):Int))<=40))) u=_;unfold vj;rw[show decide ((38+(dp:Int)+((if ii=0 then 0 else 1:Nat):Int))<=40)=decide (38+dp+(if ii=0 then 0 else 1)<=40) from by rw[hU,decide_eq_true_eq,decide_eq_true_eq];omega]
 generalize ((if ii=0 then 0 else 1:Nat):Int)=J1 at MU le1;generalize vj dp ii=db at le1 U5;obtain⟨G2,b2,P2⟩:=Jn (a:="text") (b:="told") (st:=XF) db;have h11:=ft (o':=.lst [.str "text",.str "told"]) (g11.get U4);have kE:bE l s0 (XF++[.lst [.str "text",.str "told"]]):=kD.trans (g11.keep.trans bE.push);generalize Wh:XF++[Ob.lst [Wv.str "text",Wv.str "told"]]=s12 at P2 h11 kE;generalize (if db=true then("told":S)else "text")=d2 at P2 U5;have n12:=ne_self d2 s12
 -- a row
 obtain⟨ze,n13,Yy,hrw,EF,k13,h13⟩:=dig 5 (by decide) (by decide) h11;have Rx:∀u:Hs,oC [.int (97+(ze:Int))] u= .ok (.str (Bg ze)) u:=λu=>Mv hrw u;have rl:=Mu hrw;have ro:=Rv hrw;generalize Bg ze=V at Rx rl ro;have zc:("c":S).length=1:=by decide+kernel
 have a6:bA (.str "c") (.str V) Yy= .ok (.str ("c"++V)) Yy:=f_ (by rw[zc];unfold lim;omega);obtain⟨s14,Yz,g14⟩:=Bc ro Yy;have lt1:∀u:Hs,oLt (.int (97+(ze:Int))) (.int 100) u= .ok (.bl (decide (97+ze < 100))) u:=λu=>by show Re.ok (Wv.bl (decide (97+(ze:Int) < 100))) u=_;rw[show decide (97+(ze:Int) < 100)=decide (97+ze < 100) from by rw[hU,decide_eq_true_eq,decide_eq_true_eq];omega]
 generalize decide (97+ze < 100)=rb at lt1 Yz;obtain⟨G3,b3,P3⟩:=Jn (a:="text") (b:="told") (st:=s14) rb;have kF:bE l s0 (s14++[.lst [.str "text",.str "told"]]):=kE.trans (k13.trans (g14.keep.trans bE.push));generalize Nr:s14++[Ob.lst [Wv.str "text",Wv.str "told"]]=s15 at P3 kF;generalize (if rb=true then("told":S)else "text")=d3 at P3 Yz;have n15:=ne_self d3 s15;have e5':aG [.ref l,.int 8] s4'= .ok (.int (d:Nat)) s5:=e5;have e7':aG [.ref l,.int 5] s6= .ok (.int (dp:Nat)) s7:=e7;have e8':aG [.ref l,.int 11] s7= .ok (.int (cl:Nat)) s8:=e8;have e9':aG [.ref l,.int 4] s8'= .ok (.int (ii:Nat)) s9:=e9;have abu:aG [.ref l,.int 2] s9'= .ok (.int (sd:Nat)) EH:=Tp;have Wi:aG [.ref l,.int 5] s12= .ok (.int (ze:Nat)) Yy:=EF;refine⟨some (.ref l),some w,some (.str B),some (.bl g),some (.str du),some (.str t),some (.int (38+(dp:Int)+J1)),some (.int (cl:Nat)),some (.str y),some (.int (97+(ze:Int))),s15,?_,Gr.lR hle g0 kF⟩;unfold pd;simp[-H_,-aaH,e1,sT,b1,abq,P1,e3,e4,n3,n4,hs4,e5',i5,a5,e6',n6,e7',e8',hs8,e9',i9,sb,m1,m2,a1,a2,hs9,abu,i10,ne1,MU,alt,m3,a3,a4,U5,b2,Wh,P2,n12,Wi,Rx,a6,Yz,b3,Nr,P3,n15];rw[le1];simp[-H_,b2,P2,n12,Wi,Rx,a6,Yz];rw[lt1];simp[b3,Nr,P3,n15]
theorem law_true:∀ns:List Int,ns.length<=63->∃st,F_law [.ref 0] [.t6 ns]= .ok (.bl true) st:=by
 intro ns hn;have l0:av [.t6 ns,.lst [.int 0,.int 1,.int 2,.int 3,.int 4,.int 5,.int 6,.int 7]] 0=some (ns.map Wv.int):=rfl;have l1:av [.t6 ns,.lst [.int 0,.int 1,.int 2,.int 3,.int 4,.int 5,.int 6,.int 7]] 1=some [.int 0,.int 1,.int 2,.int 3,.int 4,.int 5,.int 6,.int 7]:=rfl;have a:=add_l l1 l0 (by simp;unfold lim;omega);have e0:[Wv.int 0,.int 1,.int 2,.int 3,.int 4,.int 5,.int 6,.int 7]++ns.map Wv.int=([0,1,2,3,4,5,6,7]++ns).map Wv.int:=by simp
 rw[e0]at a;generalize [0,1,2,3,4,5,6,7]++ns=cs at a;have l2:av [.t6 ns,.lst [.int 0,.int 1,.int 2,.int 3,.int 4,.int 5,.int 6,.int 7],.lst (cs.map Wv.int)] 2=some (cs.map Wv.int):=rfl;obtain⟨ρ',st',e,⟨p2,p3,p4,p5,p6,p7,p8,p9,Tz,TC,p12,rfl⟩,_⟩:=yJ (i:=1) (gb:=pd) (l:=2) (all:=cs.map Wv.int) (λρ st=>∃p1 p2 p3 p4 p5 p6 p7 p8 p9 Tz TC,ρ=[some (.ref 0),p1,p2,p3,p4,p5,p6,p7,p8,p9,Tz,TC]) (cs.map Wv.int) [some (.ref 0),none,none,none,none,none,none,none,none,none,none,none] [.t6 ns,.lst [.int 0,.int 1,.int 2,.int 3,.int 4,.int 5,.int 6,.int 7],.lst (cs.map Wv.int)] ⟨_,_,_,_,_,_,_,_,_,_,_,rfl⟩ l2 (by rintro w hw _ st ⟨p1,p2,p3,p4,p5,p6,p7,p8,p9,Tz,TC,rfl⟩ hl;obtain⟨c,_,rfl⟩:=List.mem_map.mp hw;obtain⟨q2,q3,q4,q5,q6,q7,q8,q9,q10,q11,st',e,g⟩:=turn (s:=.ref 0) (c:=c) (o2:=p2) (o3:=p3) (o4:=p4) (o5:=p5) (o6:=p6) (o7:=p7) (o8:=p8) (o9:=p9) (Yw:=Tz) (Yx:=TC) st;exact⟨_,st',e,g.lst hl,⟨_,_,_,_,_,_,_,_,_,_,_,rfl⟩⟩);refine⟨st',?_⟩;unfold F_law aK Ii;simp[a,wJ l2,e]
end K14
namespace PySem.W.Fast
def tw11394066032692650157:=()
def tw7236771797292386277:=()
def tw7189990891540684112:=()
def tw5901110123473382426:=()
def tw2790591738277560938:=()
def tw17762238196878303:=()
def tw16924265494389934156:=()
def tw2631695649564182753:=()
def tw10801277026561649770:=()
def tw9137850086491292695:=()
def tw1217191997593155534:=()
def tw18063121586975384799:=()
def tw12424039123523761056:=()
def tw276578186154612705:=()
def tw15469584744422837297:=()
def tw9902216951475572935:=()
def tw17831669335587096566:=()
def tw2335892483097486218:=()
def tw5734296573373471622:=()
def tw4121001267971889018:=()
def tw1358938288958539320:=()
def tw12989978349671318231:=()
def tw14817277771900901501:=()
def tw6314461188275175374:=()
def tw6199437001201884716:=()
def tw10802527768751826164:=()
def tw17736249783415997030:=()
def tw6362530969713777361:=()
def tw5432894580213207088:=()
def tw6798860697278883021:=()
def tw16716998359956958283:=()
def tw4573894388249872367:=()
def tw3516385071587225397:=()
def tw12510156547673478023:=()
def tw14163511954744553806:=()
def tw11788710110987839798:=()
def tw9077936646708197820:=()
def tw1873550061260916916:=()
def tw16941445561367754957:=()
def tw815711026274335854:=()
def tw5849712158622027953:=()
def tw6550155730696208329:=()
def tw181354276530414322:=()
def tw17875343448325195247:=()
def tw16051703222913330223:=()
def tw5977738222334136592:=()
def tw10522502190388921952:=()
def tw13897193861540459762:=()
def tw1080934759718914142:=()
def tw11416463026832618586:=()
def tw12065180020862225769:=()
def tw14736387321515779732:=()
def tw13406115934353531643:=()
def tw8344731653977612857:=()
def tw13309298978992291329:=()
def tw797672616650614512:=()
def tw17728024018246420435:=()
def tw2351221262402265157:=()
def tw722427249412755206:=()
def tw7569718272314614061:=()
def tw16558607982447135659:=()
def tw6188280351924549407:=()
def tw13408587322378675381:=()
def tw4212369748744967021:=()
def tw3946898484166703217:=()
def tw5727231413869070742:=()
def tw108098809234206546:=()
def tw16485153688497294368:=()
def tw3401620249836062195:=()
def tw10941824234364189463:=()
def tw13487288038594996725:=()
def tw11482772471450841495:=()
def tw15152456859692209662:=()
def tw9675595501474637425:=()
def tw10467044651871365601:=()
def tw6163187063267362102:=()
def tw6278004511407428239:=()
def tw15534148851361006603:=()
def tw12347322192088893950:=()
def tw12445412615913130851:=()
def tw15746797289611713701:=()
def tw15744061102768635630:=()
def tw17678521445920776716:=()
def tw13047570460515118750:=()
def tw13315070844334704154:=()
def tw12782232890305991487:=()
def tw9932483522945597606:=()
def tw4036068881217088120:=()
def tw7840469910516856169:=()
def tw15969095473444552138:=()
def tw3082281587483617712:=()
def tw17864852523663638487:=()
def tw10596943980685257768:=()
def tw18313692690580976277:=()
def tw13877811055653713923:=()
def tw16316566527474605878:=()
def tw10748660967906668994:=()
def tw7294156591565609911:=()
def tw7812276773560202354:=()
def tw14060169223434727032:=()
def tw6117195955354783932:=()
def tw1220883897088070111:=()
def tw3447821910180545767:=()
def tw12476665684139946185:=()
def tw13730913658077403582:=()
def tw4325963924501634552:=()
def tw14230873639774110132:=()
def tw18236326210980053295:=()
def tw7334214751869729589:=()
def tw10684255018397347940:=()
def tw78429327759457063:=()
def tw14991392589785411777:=()
def tw6370115849290898683:=()
def tw13227555251926815637:=()
def tw1089208454715892213:=()
def tw16992627262590247203:=()
def tw18033624206864514121:=()
def tw16748089332532473267:=()
def tw18230425538878572940:=()
def tw17282667138626290184:=()
def tw12870134157245920430:=()
def tw2677886777764173226:=()
def tw15807617170874519430:=()
def tw10248184827504207911:=()
def tw9031776176290000844:=()
def tw9143499048725577793:=()
def tw11947584526439884914:=()
def tw6293705873051850:=()
def tw18245369892996509322:=()
def tw12863039759476302506:=()
def tw9442338413112299938:=()
def tw595260258865770980:=()
def tw12385765257389578373:=()
def tw1685949436035004113:=()
def tw3768116239642152412:=()
def tw6437299596425268197:=()
def tw9481914091942839824:=()
def tw14753033690908631481:=()
def tw2929243674073025739:=()
def tw9910613334903885639:=()
def tw8722520940982434491:=()
def tw3997679592616776929:=()
def tw5565071687362121493:=()
def tw3271720858772224266:=()
def tw16702412634940820044:=()
def tw15610877352056364831:=()
def tw10878739181216968347:=()
def tw156310810210059520:=()
def tw3144281735171479662:=()
def tw8508703719520377534:=()
def tw7846486563590077399:=()
def tw3395483145444816015:=()
def tw6483407535636208285:=()
def tw17931875088951324748:=()
def tw16259159016582893129:=()
def tw9149988935909183310:=()
def tw2978905907448836183:=()
def tw13449142184151016164:=()
def tw11451866604366812348:=()
def tw13945555769797897221:=()
def tw1537919662745205892:=()
def tw5023276842315285616:=()
def tw8927581631760014705:=()
def tw2508538939128882638:=()
def tw394051883383905546:=()
def tw3933423662963694463:=()
def tw15322695296012474141:=()
def tw11435915427517894392:=()
def tw17867912058757600098:=()
def tw14902376701763408179:=()
def tw6670025101871161695:=()
def tw10956842822684296591:=()
def tw12491587425410968660:=()
def tw13803073165071413696:=()
def tw12216110878768335766:=()
def tw4785211083979145447:=()
def tw16638665873372857910:=()
def tw6783528309697967961:=()
end PySem.W.Fast
namespace K14
open PySem PySem.W PyProof.Rows
set_option maxHeartbeats 0 in
open_top head for PySem.Challenge.rw_onelook_k14_as_great_as_may_be
open PySem J
open PySem.W (nsIn kitOne findIn excIn mroIn mg_of mg_none_of)
open L2 (defScope defBody defArgs FnScope CX0 FnOk XK Hp)
set_option autoImplicit true in
theorem all_mk {l:PySem.W.OpenLaw} {w:World} {K:PySem.W.Frag} {h:Heap} {mg:Str → Option Value} {fa:Addr} (X:K.In h) (G:h.Ns mainGlobals mg) (hfa:mg "law" = some (.ref fa))
        {Wj Wl Wm Wn Wo tk1 tk2 tk3 tk4 tk5 tk6 tk7 tk8 Wq Ws Wt Wu Ww Wx Wy Wz WA Ry Rz RB RC RD RE RF RG RH RI abv RJ RK:Tok}{ca0:ag5}{abw:Option ag5}{cn0:Nat}{cs0:Array (Option ahb)}{ca9:ag5}{abx:Option ag5}{cn9:Nat}{cs9:Array (Option ahb)}{WB:ag5}{WC:Option ag5}{aby:Nat}{abz:Array (Option ahb)}{WD:ag5}{WE:Option ag5}{abA:Nat}{abB:Array (Option ahb)}{da0:ag5}{de0:Nat}{Nt Nu Nv Nw Nx Ny Nz NA NB NC Jp Jq Jr Js Jt Ju Jv Jw Jx Jy Jz:Int}{WG WH WI WJ WK WL WM WN WO WQ RL RM RN RO RP RQ RS RT RU RV RX WR WS WT WU WV WW WX WY WZ W0 RY RZ R0 R4 R6 R7 R9 R_ Sa Sb Sd:Tok}{da1:ag5}{de1:Nat}{ND NF NG NH NI NJ NL:Int}{W2 W3 W4 W5 W6 W7 W8 W9 W_ W' Xa Xb Xd Xe:Tok}{X0 X1 X2 X3 X4 X5 X6 X7 X8 X9 Se Sf Sh Si Sj JB:ag5}
    (d1:J.bh K "_law_own" kP)
    (d2:J.bh K "_law_digit" iK)
    (d3:J.bh K "_law_even" jE)
    (d4:J.bh K "_law_text" jF)
    (d5:J.bh K "_law_case" jG)
    (d6:J.bh K "part_many" jH)
    (d7:J.bh K "parts_of" kT)
    (d8:J.bh K "level_below" gW)
    (d9:J.bh K "has_area" kU)
    (d10:J.bh K "is_whole" kW)
    (d11:J.bh K "is_text_sign" gf)
    (d12:J.bh K "has_text_signs" eT)
    (d13:J.bh K "is_text" mJ)
    (d14:J.bh K "is_number_row" fG)
    (d15:J.bh K "is_place" kX)
    (d16:J.bh K "are_pins" kY)
    (d17:J.bh K "has_corners" gX)
    (d18:J.bh K "area_many" jI)
    (d19:J.bh K "is_area" mK)
    (d20:J.bh K "is_tail" mL)
    (d21:J.bh K "tail_of" mM)
    (d22:J.bh K "is_piece" kZ)
    (d23:J.bh K "made_formula" gj)
    (d24:J.bh K "is_name_sign" gk)
    (d25:J.bh K "closing_mark" gn)
    (d26:J.bh K "word_end" k_)
    (d27:J.bh K "is_row_number" fH)
    (d28:J.bh K "is_name" mO)
    (d29:J.bh K "read_place" iL)
    (d30:J.bh K "read_pinned" gY)
    (d31:J.bh K "read_quoted" g_)
    (d32:J.bh K "read_number" hI)
    (d33:J.bh K "joined_corners" eV)
    (d34:J.bh K "read_pinned_area" dI)
    (d35:J.bh K "read_word" jJ)
    (d36:J.bh K "words_of" lh)
    (d37:J.bh K "check_brackets" eW)
    (d38:J.HY K "WordRow" "WordRow.__init__" df)
    (d39:J.bh K "join_down" jK)
    (d40:J.yE K "WordRow" "ahead" "WordRow.ahead" eZ)
    (d41:J.yE K "WordRow" "taken" "WordRow.taken" e_)
    (d42:J.yE K "WordRow" "pass_sign" "WordRow.pass_sign" cW)
    (d43:J.bh K "read_area_word" fb)
    (YA:J.bh K "read_call" jL)
    (YB:J.bh K "read_whole" iN)
    (YC:J.bh K "read_operand" gq)
    (YD:J.bh K "read_part" jN)
    (d48:J.bh K "read_unlooked" fI)
    (d49:J.bh K "read_formula" gw)
    (YE:J.bh K "_law_kind" ig)
    (d51:J.bh K "_law_word" jO)
    (d52:J.bh K "law" B6)
    (YF:J.Own K "WordRow" "words")
    (Xf:J.Own K "WordRow" "spot")
    (z0:nsIn K ahk "abs"=some none)
    (z1:nsIn K ahk "range"=some none)
    (z2:nsIn K ahk "str"=some none)
    (z3:nsIn K ahk "isinstance"=some none)
    (z4:nsIn K ahk "int"=some none)
    (z5:nsIn K ahk "bool"=some none)
    (z6:nsIn K ahk "all"=some none)
    (z7:nsIn K ahk "ord"=some none)
    (z8:nsIn K ahk "len"=some none)
    (z9:nsIn K ahk "tuple"=some none)
    (z10:nsIn K ahk "max"=some none)
    (z11:nsIn K ahk "ValueError"=some none)
    (v0:nsIn K ahk "AREA_WORDS"=some (some (.ref ca0))) (w0:K.lookup ca0=some ⟨.type "tuple",abw,.seq #[.str "sum" Wj,.str "count" Wl,.str "least" Wm,.str "greatest" Wn,.str "find" Wo] cn0,cs0⟩)
    (v1:nsIn K ahk "MOST_SIGNS"=some (some (.int 40 tk1)))
    (v2:nsIn K ahk "ROWS"=some (some (.int 99 tk2)))
    (v3:nsIn K ahk "COLUMNS"=some (some (.int 26 tk3)))
    (v4:nsIn K ahk "MOST_PLACES"=some (some (.int 300 tk4)))
    (v5:nsIn K ahk "MOST_PIECES"=some (some (.int 60 tk5)))
    (v6:nsIn K ahk "MOST_DEEP"=some (some (.int 12 tk6)))
    (v7:nsIn K ahk "LETTERS"=some (some (.str "abcdefghijklmnopqrstuvwxyz" tk7)))
    (v8:nsIn K ahk "FIGURES"=some (some (.str "0123456789" tk8)))
    (v9:nsIn K ahk "CALL_WORDS"=some (some (.ref ca9))) (w9:K.lookup ca9=some ⟨.type "tuple",abx,.seq #[.str "not" Wq,.str "rest" Ws,.str "if" Wt,.str "else" Wu,.str "sum" Ww,.str "count" Wx,.str "least" Wy,.str "greatest" Wz,.str "find" WA] cn9,cs9⟩)
    (v10:nsIn K ahk "SIGNS"=some (some (.ref WB))) (w10:K.lookup WB=some ⟨.type "tuple",WC,.seq #[.str "+" Ry,.str "-" Rz,.str "*" RB,.str "/" RC,.str "&" RD,.str "<" RE,.str "=" RF,.str "(" RG,.str ")" RH,.str "," RI] aby,abz⟩)
    (v11:nsIn K ahk "MOST_BRACKETS"=some (some (.int 40 abv)))
    (v12:nsIn K ahk "END"=some (some (.ref WD))) (YG:K.lookup WD=some ⟨.type "tuple",WE,.seq #[.str "end" RJ,.str "" RK] abA,abB⟩)
    (YH:nsIn K ahk "PART_COUNTS"=some (some (.ref da0))) (YI:K.lookup da0=some ⟨.type "dict",none,.dict #[⟨Nt,.str "num" WG,.int 0 WR⟩,⟨Nu,.str "text" WH,.int 0 WS⟩,⟨Nv,.str "lost" WI,.int 0 WT⟩,⟨Nw,.str "at" WJ,.int 0 WU⟩,⟨Nx,.str "minus" WK,.int 1 WV⟩,⟨Ny,.str "not" WL,.int 1 WW⟩,⟨Nz,.str "+" WM,.int 2 WX⟩,⟨NA,.str "-" WN,.int 2 WY⟩,⟨NB,.str "*" WO,.int 2 WZ⟩,⟨NC,.str "/" WQ,.int 2 W0⟩,⟨Jp,.str "&" RL,.int 2 RY⟩,⟨Jq,.str "<" RM,.int 2 RZ⟩,⟨Jr,.str "=" RN,.int 2 R0⟩,⟨Js,.str "rest" RO,.int 2 R4⟩,⟨Jt,.str "if" RP,.int 3 R6⟩,⟨Ju,.str "else" RQ,.int 2 R7⟩,⟨Jv,.str "sum" RS,.int 0 R9⟩,⟨Jw,.str "count" RT,.int 0 R_⟩,⟨Jx,.str "least" RU,.int 0 Sa⟩,⟨Jy,.str "greatest" RV,.int 0 Sb⟩,⟨Jz,.str "find" RX,.int 1 Sd⟩] de0,#[]⟩) (YJ:(da0 == sysModules)=false) (Cy:Nt=hashStr w "num") (Cz:Nu=hashStr w "text") (CA:Nv=hashStr w "lost") (CB:Nw=hashStr w "at") (CC:Nx=hashStr w "minus") (CD:Ny=hashStr w "not") (CF:Nz=hashStr w "+") (CG:NA=hashStr w "-") (CH:NB=hashStr w "*") (CI:NC=hashStr w "/") (xp:Jp=hashStr w "&") (xq:Jq=hashStr w "<") (xt:Jr=hashStr w "=") (xu:Js=hashStr w "rest") (xv:Jt=hashStr w "if") (xw:Ju=hashStr w "else") (xx:Jv=hashStr w "sum") (xy:Jw=hashStr w "count") (xA:Jx=hashStr w "least") (xB:Jy=hashStr w "greatest") (xC:Jz=hashStr w "find")
    (YK:nsIn K ahk "BINDING"=some (some (.ref da1))) (YL:K.lookup da1=some ⟨.type "dict",none,.dict #[⟨ND,.str "<" W2,.int 1 W9⟩,⟨NF,.str "=" W3,.int 1 W_⟩,⟨NG,.str "&" W4,.int 2 W'⟩,⟨NH,.str "+" W5,.int 3 Xa⟩,⟨NI,.str "-" W6,.int 3 Xb⟩,⟨NJ,.str "*" W7,.int 4 Xd⟩,⟨NL,.str "/" W8,.int 4 Xe⟩] de1,#[]⟩) (YM:(da1 == sysModules)=false) (CJ:ND=hashStr w "<") (CK:NF=hashStr w "=") (CL:NG=hashStr w "&") (CM:NH=hashStr w "+") (CN:NI=hashStr w "-") (CO:NJ=hashStr w "*") (CP:NL=hashStr w "/")
    (pA:nsIn K ahk "BadFormula"=some (some (.ref X0))) (Xg:excIn K X0 BC BD=true) (xg0:findIn K (.ref X0) "__getattribute__"=some (some (.builtin "BaseException.__getattribute__"))) (xx0:findIn K (.ref X0) "__getattr__"=some none) (xc0:findIn K (.ref X0) "__class__"=some (some (.builtin "object.__class__")))
    (iS:nsIn K ahk "BadText"=some (some (.ref X1))) (Bh:excIn K X1 BC BD=true) (xg1:findIn K (.ref X1) "__getattribute__"=some (some (.builtin "BaseException.__getattribute__"))) (xx1:findIn K (.ref X1) "__getattr__"=some none) (xc1:findIn K (.ref X1) "__class__"=some (some (.builtin "object.__class__")))
    (NM:nsIn K ahk "BadArea"=some (some (.ref X2)))
    (NN:nsIn K ahk "BadContent"=some (some (.ref X3)))
    (NO:nsIn K ahk "BadCount"=some (some (.ref X4)))
    (NP:nsIn K ahk "BadPlace"=some (some (.ref X5)))
    (NQ:nsIn K ahk "BadTable"=some (some (.ref X6)))
    (NR:nsIn K ahk "Clash"=some (some (.ref X7)))
    (NT:nsIn K ahk "Full"=some (some (.ref X8)))
    (NU:nsIn K ahk "NoCell"=some (some (.ref X9)))
    (zi:nsIn K ahk "NoColumn"=some (some (.ref Se)))
    (zj:nsIn K ahk "NoDeed"=some (some (.ref Sf)))
    (zk:nsIn K ahk "NoRoom"=some (some (.ref Sh)))
    (zl:nsIn K ahk "NoTable"=some (some (.ref Si)))
    (zm:nsIn K ahk "NotWaiting"=some (some (.ref Sj)))
    (zo:nsIn K ahk "SheetError"=some (some (.ref JB))) (JC:excIn K JB BC BD=true)
    (pk0:kitOne K (.ref X0) (.ref X0)=some true)
    (pk1:kitOne K (.ref X0) (.ref X1)=some false)
    (pk2:kitOne K (.ref X0) (.ref X2)=some false)
    (pk3:kitOne K (.ref X0) (.ref X3)=some false)
    (pk4:kitOne K (.ref X0) (.ref X4)=some false)
    (pk5:kitOne K (.ref X0) (.ref X5)=some false)
    (pk6:kitOne K (.ref X0) (.ref X6)=some false)
    (pk7:kitOne K (.ref X0) (.ref X7)=some false)
    (pk8:kitOne K (.ref X0) (.ref X8)=some false)
    (pk9:kitOne K (.ref X0) (.ref X9)=some false)
    (Sk:kitOne K (.ref X0) (.ref Se)=some false)
    (Sl:kitOne K (.ref X0) (.ref Sf)=some false)
    (Sm:kitOne K (.ref X0) (.ref Sh)=some false)
    (Sn:kitOne K (.ref X0) (.ref Si)=some false)
    (So:kitOne K (.ref X0) (.ref Sj)=some false)
    (Sq:kitOne K (.ref X0) (.ref JB)=some true)
    (Sr:kitOne K (.ref X1) (.ref X0)=some false)
    (Ss:kitOne K (.ref X1) (.ref X1)=some true)
    (Su:kitOne K (.ref X1) (.ref X2)=some false)
    (Sv:kitOne K (.ref X1) (.ref X3)=some false)
    (Sw:kitOne K (.ref X1) (.ref X4)=some false)
    (Sx:kitOne K (.ref X1) (.ref X5)=some false)
    (Sy:kitOne K (.ref X1) (.ref X6)=some false)
    (Sz:kitOne K (.ref X1) (.ref X7)=some false)
    (SD:kitOne K (.ref X1) (.ref X8)=some false)
    (SF:kitOne K (.ref X1) (.ref X9)=some false)
    (SG:kitOne K (.ref X1) (.ref Se)=some false)
    (SH:kitOne K (.ref X1) (.ref Sf)=some false)
    (SI:kitOne K (.ref X1) (.ref Sh)=some false)
    (SJ:kitOne K (.ref X1) (.ref Si)=some false)
    (SK:kitOne K (.ref X1) (.ref Sj)=some false)
    (SM:kitOne K (.ref X1) (.ref JB)=some true)
    (pm0:mroIn K X0 (.ref JB)=some true)
    (pm1:mroIn K X1 (.ref JB)=some true)
    (pt0:kitOne K (.ref X0) (.type "ValueError")=some true)
    (pt1:kitOne K (.ref X1) (.type "ValueError")=some true)
     :
    ∃fd:ag7,(∀(s:aha)(u:ahb),BindsTo s fd ⟨[u],[]⟩ [("script",u)])/\∀base:Heap,K.In base->base.Ns ahk mg->FnOk l.prog w K mg base (CXJ l.prog w) 147 fa fd ["script"] (spW K 1 F_law):=by
  refine J.L8 X G hfa d52 (λ_ _ _ _ _ _ s u=> .of_eq rfl) (λf fd Fu base kb nb=>?_);have Z0:=mg_none_of kb nb z0;have Z1:=mg_none_of kb nb z1;have Z2:=mg_none_of kb nb z2;have Z3:=mg_none_of kb nb z3;have Z4:=mg_none_of kb nb z4;have Z5:=mg_none_of kb nb z5;have Z6:=mg_none_of kb nb z6;have Z7:=mg_none_of kb nb z7;have Z8:=mg_none_of kb nb z8;have Z9:=mg_none_of kb nb z9;have Z10:=mg_none_of kb nb z10;have Z11:=mg_none_of kb nb z11;have V0:=mg_of kb nb v0;have V1:=mg_of kb nb v1;have V2:=mg_of kb nb v2;have V3:=mg_of kb nb v3;have V4:=mg_of kb nb v4;have V5:=mg_of kb nb v5;have V6:=mg_of kb nb v6;have V7:=mg_of kb nb v7;have V8:=mg_of kb nb v8;have V9:=mg_of kb nb v9;have V10:=mg_of kb nb v10;have V11:=mg_of kb nb v11;have V12:=mg_of kb nb v12;have E0:J.nB K X0:=⟨Xg,xg0,xx0,xc0⟩;have E1:J.nB K X1:=⟨Bh,xg1,xx1,xc1⟩;have TB:TabOk K fW cT oO:=J.QN ⟨⟨X0,X0,pA,pA,E0,pk0⟩,⟨X0,X1,pA,iS,E0,pk1⟩,⟨X0,X2,pA,NM,E0,pk2⟩,⟨X0,X3,pA,NN,E0,pk3⟩,⟨X0,X4,pA,NO,E0,pk4⟩,⟨X0,X5,pA,NP,E0,pk5⟩,⟨X0,X6,pA,NQ,E0,pk6⟩,⟨X0,X7,pA,NR,E0,pk7⟩,⟨X0,X8,pA,NT,E0,pk8⟩,⟨X0,X9,pA,NU,E0,pk9⟩,⟨X0,Se,pA,zi,E0,Sk⟩,⟨X0,Sf,pA,zj,E0,Sl⟩,⟨X0,Sh,pA,zk,E0,Sm⟩,⟨X0,Si,pA,zl,E0,Sn⟩,⟨X0,Sj,pA,zm,E0,So⟩,⟨X0,JB,pA,zo,E0,Sq⟩,⟨X1,X0,iS,pA,E1,Sr⟩,⟨X1,X1,iS,iS,E1,Ss⟩,⟨X1,X2,iS,NM,E1,Su⟩,⟨X1,X3,iS,NN,E1,Sv⟩,⟨X1,X4,iS,NO,E1,Sw⟩,⟨X1,X5,iS,NP,E1,Sx⟩,⟨X1,X6,iS,NQ,E1,Sy⟩,⟨X1,X7,iS,NR,E1,Sz⟩,⟨X1,X8,iS,NT,E1,SD⟩,⟨X1,X9,iS,NU,E1,SF⟩,⟨X1,Se,iS,zi,E1,SG⟩,⟨X1,Sf,iS,zj,E1,SH⟩,⟨X1,Sh,iS,zk,E1,SI⟩,⟨X1,Si,iS,zl,E1,SJ⟩,⟨X1,Sj,iS,zm,E1,SK⟩,⟨X1,JB,iS,zo,E1,SM⟩,trivial⟩ ⟨⟨X0,pA,E0,pt0⟩,⟨X1,iS,E1,pt1⟩,trivial⟩ ⟨⟨X0,JB,pA,zo,Xg,JC,pm0⟩,⟨X1,JB,iS,zo,Bh,JC,pm1⟩,trivial⟩;have H1:J.eP l.prog w K mg base 1 "_law_own" 1 i8:=J.aH (ps:=["cell"]) kb nb d1 (J.ay (c:=nJ) (k:=0) trivial ⟨Z0,Z1,trivial⟩ trivial TB trivial trivial trivial) yL rfl AM (λ_ _ _ _ _ _ us hl=>J.jD us hl λ_=>rfl);have H2:J.eP l.prog w K mg base 1 "_law_digit" 2 aG:=J.aH (ps:=["own","many"]) kb nb d2 (J.ay (c:=kR) (k:=0) trivial trivial trivial TB trivial trivial trivial) uf rfl wN (λ_ _ _ _ _ _ us hl=>J.ln2 us hl λ_ _=>rfl);have G3:∀n:Nat,J.eP l.prog w K mg base (0+n) "_law_even" 1 (dC n):=λn=>by
    induction n with
    |zero=>exact J.mF (ps:=["many"]) kb nb d3 (λ_ _ _ _ _ _ us hl=>J.jD us hl λ_=>rfl)
    |succ n ih=>exact J.hdf kb nb d3 (J.tk (c:=(qC (dC n))) (k:=(0+n)) TB ⟨ih,trivial⟩) (wO (dC n)) (yM (dC n))
  have H3:J.eP l.prog w K mg base 8 "_law_even" 1 bN:=(G3 8);have G4:∀n:Nat,J.eP l.prog w K mg base (0+n) "_law_text" 1 (dD n):=λn=>by
    induction n with
    |zero=>exact J.mF (ps:=["formula"]) kb nb d4 (λ_ _ _ _ _ _ us hl=>J.jD us hl λ_=>rfl)
    |succ n ih=>exact J.hdf kb nb d4 (J.tk (c:=(qD (dD n))) (k:=(0+n)) TB ⟨ih,trivial⟩) (wQ (dD n)) (yN (dD n))
  have H4:J.eP l.prog w K mg base 20 "_law_text" 1 bu:=(G4 20);have H5:J.eP l.prog w K mg base 21 "_law_case" 1 b_:=J.aH (ps:=["own"]) kb nb d5 (J.ay (c:=lS) (k:=20) trivial ⟨Z1,Z2,trivial⟩ ⟨H2.mono (by decide),H3.mono (by decide),H4.mono (by decide),trivial⟩ TB trivial trivial trivial) wR rfl yO (λ_ _ _ _ _ _ us hl=>J.jD us hl λ_=>rfl);have H6:J.eP l.prog w K mg base 1 "part_many" 1 cq:=J.aH (ps:=["word"]) kb nb d6 (J.ay (c:=lU) (k:=0) trivial trivial trivial TB trivial trivial ⟨⟨_,_,_,mg_of kb nb YH,YI,YJ,⟨⟨Cy,⟨_,rfl⟩,⟨_,rfl⟩⟩,⟨Cz,⟨_,rfl⟩,⟨_,rfl⟩⟩,⟨CA,⟨_,rfl⟩,⟨_,rfl⟩⟩,⟨CB,⟨_,rfl⟩,⟨_,rfl⟩⟩,⟨CC,⟨_,rfl⟩,⟨_,rfl⟩⟩,⟨CD,⟨_,rfl⟩,⟨_,rfl⟩⟩,⟨CF,⟨_,rfl⟩,⟨_,rfl⟩⟩,⟨CG,⟨_,rfl⟩,⟨_,rfl⟩⟩,⟨CH,⟨_,rfl⟩,⟨_,rfl⟩⟩,⟨CI,⟨_,rfl⟩,⟨_,rfl⟩⟩,⟨xp,⟨_,rfl⟩,⟨_,rfl⟩⟩,⟨xq,⟨_,rfl⟩,⟨_,rfl⟩⟩,⟨xt,⟨_,rfl⟩,⟨_,rfl⟩⟩,⟨xu,⟨_,rfl⟩,⟨_,rfl⟩⟩,⟨xv,⟨_,rfl⟩,⟨_,rfl⟩⟩,⟨xw,⟨_,rfl⟩,⟨_,rfl⟩⟩,⟨xx,⟨_,rfl⟩,⟨_,rfl⟩⟩,⟨xy,⟨_,rfl⟩,⟨_,rfl⟩⟩,⟨xA,⟨_,rfl⟩,⟨_,rfl⟩⟩,⟨xB,⟨_,rfl⟩,⟨_,rfl⟩⟩,⟨xC,⟨_,rfl⟩,⟨_,rfl⟩⟩,trivial⟩,by decide+kernel⟩,trivial⟩) wU rfl yP (λ_ _ _ _ _ _ us hl=>J.jD us hl λ_=>rfl);have H7:J.eP l.prog w K mg base 2 "parts_of" 1 dG:=J.aH (ps:=["formula"]) kb nb d7 (J.ay (c:=nL) (k:=1) trivial trivial ⟨H6.mono (by decide),trivial⟩ TB trivial trivial trivial) yQ rfl AN (λ_ _ _ _ _ _ us hl=>J.jD us hl λ_=>rfl);have H8:J.eP l.prog w K mg base 3 "level_below" 1 fu:=J.aH (ps:=["level"]) kb nb d8 (J.ay (c:=jZ) (k:=2) trivial trivial ⟨H7.mono (by decide),trivial⟩ TB trivial trivial trivial) tu rfl ug (λ_ _ _ _ _ _ us hl=>J.jD us hl λ_=>rfl);have H9:J.eP l.prog w K mg base 1 "has_area" 1 fL:=J.aH (ps:=["word"]) kb nb d9 (J.ay (c:=nN) (k:=0) ⟨⟨_,[.str "sum",.str "count",.str "least",.str "greatest",.str "find"],_,_,_,V0,w0,rfl,rfl,(show(5:Nat)<=ahl by decide),(.cons ⟨_,rfl⟩ (.cons ⟨_,rfl⟩ (.cons ⟨_,rfl⟩ (.cons ⟨_,rfl⟩ (.cons ⟨_,rfl⟩ .nil))))),⟨⟨rfl,by decide+kernel⟩,⟨⟨rfl,by decide+kernel⟩,⟨⟨rfl,by decide+kernel⟩,⟨⟨rfl,by decide+kernel⟩,⟨⟨rfl,by decide+kernel⟩,trivial⟩⟩⟩⟩⟩⟩,trivial⟩ trivial trivial TB trivial trivial trivial) yR rfl AO (λ_ _ _ _ _ _ us hl=>J.jD us hl λ_=>rfl);have PL:J.eP l.prog w K mg base 1 "is_whole" 1 fM:=J.aH (ps:=["thing"]) kb nb d10 (J.ay (c:=nP) (k:=0) trivial ⟨Z3,Z4,Z5,trivial⟩ trivial TB trivial trivial trivial) yS rfl AQ (λ_ _ _ _ _ _ us hl=>J.jD us hl λ_=>rfl);have H11:J.eP l.prog w K mg base 1 "is_text_sign" 1 cJ:=J.aH (ps:=["number"]) kb nb d11 (J.ay (c:=i_) (k:=0) trivial trivial trivial TB trivial trivial trivial) qX rfl tw (λ_ _ _ _ _ _ us hl=>J.jD us hl λ_=>rfl);have H12:J.eP l.prog w K mg base 2 "has_text_signs" 1 a_:=J.aH (ps:=["text"]) kb nb d12 (J.ay (c:=gF) (k:=1) trivial ⟨Z6,Z7,trivial⟩ ⟨H11.mono (by decide),trivial⟩ TB trivial trivial trivial) oR rfl pU (λ_ _ _ _ _ _ us hl=>J.jD us hl λ_=>rfl);have H13:J.eP l.prog w K mg base 3 "is_text" 1 dO:=J.aH (ps:=["thing"]) kb nb d13 (J.ay (c:=pV) (k:=2) ⟨⟨_,V1⟩,trivial⟩ ⟨Z3,Z2,Z8,trivial⟩ ⟨H12.mono (by decide),trivial⟩ TB trivial trivial trivial) AR rfl Eb (λ_ _ _ _ _ _ us hl=>J.jD us hl λ_=>rfl);have H14:J.eP l.prog w K mg base 2 "is_number_row" 2 aQ:=J.aH (ps:=["thing","many"]) kb nb d14 (J.ay (c:=iy) (k:=1) trivial ⟨Z3,Z9,Z6,Z8,trivial⟩ ⟨PL.mono (by decide),trivial⟩ TB trivial trivial trivial) pW rfl qY (λ_ _ _ _ _ _ us hl=>J.ln2 us hl λ_ _=>rfl);have H15:J.eP l.prog w K mg base 1 "is_place" 1 cZ:=J.aH (ps:=["place"]) kb nb d15 (J.ay (c:=nR) (k:=0) ⟨⟨_,V2⟩,⟨_,V3⟩,trivial⟩ trivial trivial TB trivial trivial trivial) yT rfl AS (λ_ _ _ _ _ _ us hl=>J.jD us hl λ_=>rfl);have H16:J.eP l.prog w K mg base 3 "are_pins" 2 cD:=J.aH (ps:=["thing","many"]) kb nb d16 (J.ay (c:=nT) (k:=2) trivial ⟨Z6,trivial⟩ ⟨H14.mono (by decide),trivial⟩ TB trivial trivial trivial) yU rfl AU (λ_ _ _ _ _ _ us hl=>J.ln2 us hl λ_ _=>rfl);have H17:J.eP l.prog w K mg base 2 "has_corners" 1 c7:=J.aH (ps:=["area"]) kb nb d17 (J.ay (c:=j3) (k:=1) trivial trivial ⟨H15.mono (by decide),trivial⟩ TB trivial trivial trivial) tD rfl uh (λ_ _ _ _ _ _ us hl=>J.jD us hl λ_=>rfl);have H18:J.eP l.prog w K mg base 1 "area_many" 1 ib:=J.aH (ps:=["area"]) kb nb d18 (J.ay (c:=lX) (k:=0) trivial trivial trivial TB trivial trivial trivial) wV rfl yV (λ_ _ _ _ _ _ us hl=>J.jD us hl λ_=>rfl);have H19:J.eP l.prog w K mg base 3 "is_area" 1 gI:=J.aH (ps:=["area"]) kb nb d19 (J.ay (c:=pY) (k:=2) ⟨⟨_,V4⟩,trivial⟩ trivial ⟨H17.mono (by decide),H18.mono (by decide),trivial⟩ TB trivial trivial trivial) AV rfl Ec (λ_ _ _ _ _ _ us hl=>J.jD us hl λ_=>rfl);have H20:J.eP l.prog w K mg base 4 "is_tail" 2 bO:=J.aH (ps:=["word","tail"]) kb nb d20 (J.ay (c:=pZ) (k:=3) trivial ⟨Z8,trivial⟩ ⟨H9.mono (by decide),PL.mono (by decide),H13.mono (by decide),H14.mono (by decide),H15.mono (by decide),H16.mono (by decide),H19.mono (by decide),trivial⟩ TB trivial trivial trivial) AW rfl Ed (λ_ _ _ _ _ _ us hl=>J.ln2 us hl λ_ _=>rfl);have H21:J.eP l.prog w K mg base 2 "tail_of" 1 iR:=J.aH (ps:=["formula"]) kb nb d21 (J.ay (c:=qa) (k:=1) trivial trivial ⟨H6.mono (by decide),trivial⟩ TB trivial trivial trivial) AX rfl Ee (λ_ _ _ _ _ _ us hl=>J.jD us hl λ_=>rfl);have H22:J.eP l.prog w K mg base 5 "is_piece" 1 cE:=J.aH (ps:=["thing"]) kb nb d22 (J.ay (c:=nU) (k:=4) trivial ⟨Z3,Z9,Z8,Z2,trivial⟩ ⟨H20.mono (by decide),H6.mono (by decide),H21.mono (by decide),H7.mono (by decide),trivial⟩ TB trivial trivial ⟨⟨_,_,_,mg_of kb nb YH,YI,YJ,⟨⟨Cy,⟨_,rfl⟩,⟨_,rfl⟩⟩,⟨Cz,⟨_,rfl⟩,⟨_,rfl⟩⟩,⟨CA,⟨_,rfl⟩,⟨_,rfl⟩⟩,⟨CB,⟨_,rfl⟩,⟨_,rfl⟩⟩,⟨CC,⟨_,rfl⟩,⟨_,rfl⟩⟩,⟨CD,⟨_,rfl⟩,⟨_,rfl⟩⟩,⟨CF,⟨_,rfl⟩,⟨_,rfl⟩⟩,⟨CG,⟨_,rfl⟩,⟨_,rfl⟩⟩,⟨CH,⟨_,rfl⟩,⟨_,rfl⟩⟩,⟨CI,⟨_,rfl⟩,⟨_,rfl⟩⟩,⟨xp,⟨_,rfl⟩,⟨_,rfl⟩⟩,⟨xq,⟨_,rfl⟩,⟨_,rfl⟩⟩,⟨xt,⟨_,rfl⟩,⟨_,rfl⟩⟩,⟨xu,⟨_,rfl⟩,⟨_,rfl⟩⟩,⟨xv,⟨_,rfl⟩,⟨_,rfl⟩⟩,⟨xw,⟨_,rfl⟩,⟨_,rfl⟩⟩,⟨xx,⟨_,rfl⟩,⟨_,rfl⟩⟩,⟨xy,⟨_,rfl⟩,⟨_,rfl⟩⟩,⟨xA,⟨_,rfl⟩,⟨_,rfl⟩⟩,⟨xB,⟨_,rfl⟩,⟨_,rfl⟩⟩,⟨xC,⟨_,rfl⟩,⟨_,rfl⟩⟩,trivial⟩,by decide+kernel⟩,trivial⟩) yW rfl AY (λ_ _ _ _ _ _ us hl=>J.jD us hl λ_=>rfl);have H23:J.eP l.prog w K mg base 6 "made_formula" 1 cK:=J.aH (ps:=["formula"]) kb nb d23 (J.ay (c:=jc) (k:=5) ⟨⟨_,V5⟩,⟨_,V6⟩,trivial⟩ ⟨Z8,Z6,trivial⟩ ⟨H8.mono (by decide),H22.mono (by decide),trivial⟩ TB ⟨⟨X0,mg_of kb nb pA,⟨pA,Xg⟩⟩,trivial⟩ trivial trivial) qZ rfl tE (λ_ _ _ _ _ _ us hl=>J.jD us hl λ_=>rfl);have H24:J.eP l.prog w K mg base 1 "is_name_sign" 1 dm:=J.aH (ps:=["sign"]) kb nb d24 (J.ay (c:=je) (k:=0) ⟨⟨⟨_,V7⟩,by decide+kernel⟩,⟨⟨_,V8⟩,by decide+kernel⟩,trivial⟩ trivial trivial TB trivial trivial trivial) q_ rfl tF (λ_ _ _ _ _ _ us hl=>J.jD us hl λ_=>rfl);have H25:J.eP l.prog w K mg base 1 "closing_mark" 2 eG:=J.aH (ps:=["text","start"]) kb nb d25 (J.ay (c:=jg) (k:=0) trivial trivial trivial TB ⟨⟨X1,mg_of kb nb iS,⟨iS,Bh⟩⟩,trivial⟩ trivial trivial) rf rfl tG (λ_ _ _ _ _ _ us hl=>J.ln2 us hl λ_ _=>rfl);have H26:J.eP l.prog w K mg base 2 "word_end" 2 dH:=J.aH (ps:=["text","start"]) kb nb d26 (J.ay (c:=nV) (k:=1) ⟨⟨⟨_,V8⟩,by decide+kernel⟩,trivial⟩ ⟨Z10,Z8,trivial⟩ ⟨H24.mono (by decide),H25.mono (by decide),trivial⟩ TB trivial trivial trivial) yX rfl AZ (λ_ _ _ _ _ _ us hl=>J.ln2 us hl λ_ _=>rfl);have H27:J.eP l.prog w K mg base 1 "is_row_number" 1 dM:=J.aH (ps:=["figures"]) kb nb d27 (J.ay (c:=iA) (k:=0) ⟨⟨⟨_,V8⟩,by decide+kernel⟩,trivial⟩ ⟨Z6,trivial⟩ trivial TB trivial trivial trivial) qb rfl rh (λ_ _ _ _ _ _ us hl=>J.jD us hl λ_=>rfl);have H28:J.eP l.prog w K mg base 2 "is_name" 1 kr:=J.aH (ps:=["text"]) kb nb d28 (J.ay (c:=qd) (k:=1) ⟨⟨⟨_,V7⟩,by decide+kernel⟩,trivial⟩ ⟨Z8,trivial⟩ ⟨H27.mono (by decide),trivial⟩ TB trivial trivial trivial) A0 rfl Ef (λ_ _ _ _ _ _ us hl=>J.jD us hl λ_=>rfl);have H29:J.eP l.prog w K mg base 3 "read_place" 1 cV:=J.aH (ps:=["text"]) kb nb d29 (J.ay (c:=lg) (k:=2) ⟨⟨⟨_,V7⟩,by decide+kernel⟩,trivial⟩ ⟨Z4,trivial⟩ ⟨H28.mono (by decide),trivial⟩ TB ⟨⟨X1,mg_of kb nb iS,⟨iS,Bh⟩⟩,trivial⟩ trivial trivial) ui rfl wW (λ_ _ _ _ _ _ us hl=>J.jD us hl λ_=>rfl);have H30:J.eP l.prog w K mg base 4 "read_pinned" 1 b6:=J.aH (ps:=["name"]) kb nb d30 (J.ay (c:=j4) (k:=3) trivial trivial ⟨H29.mono (by decide),trivial⟩ TB trivial trivial trivial) tH rfl uj (λ_ _ _ _ _ _ us hl=>J.jD us hl λ_=>rfl);have H31:J.eP l.prog w K mg base 3 "read_quoted" 1 dP:=J.aH (ps:=["word"]) kb nb d31 (J.ay (c:=j5) (k:=2) trivial trivial ⟨H12.mono (by decide),trivial⟩ TB ⟨⟨X1,mg_of kb nb iS,⟨iS,Bh⟩⟩,trivial⟩ trivial trivial) tI rfl uk (λ_ _ _ _ _ _ us hl=>J.jD us hl λ_=>rfl);have H32:J.eP l.prog w K mg base 1 "read_number" 1 dQ:=J.aH (ps:=["figures"]) kb nb d32 (J.ay (c:=j6) (k:=0) trivial ⟨Z4,trivial⟩ trivial TB ⟨⟨X1,mg_of kb nb iS,⟨iS,Bh⟩⟩,trivial⟩ trivial trivial) tJ rfl um (λ_ _ _ _ _ _ us hl=>J.jD us hl λ_=>rfl);have H33:J.eP l.prog w K mg base 3 "joined_corners" 2 dq:=J.aH (ps:=["first","last"]) kb nb d33 (J.ay (c:=gL) (k:=2) trivial trivial ⟨H17.mono (by decide),trivial⟩ TB ⟨⟨X1,mg_of kb nb iS,⟨iS,Bh⟩⟩,trivial⟩ trivial trivial) oS rfl qe (λ_ _ _ _ _ _ us hl=>J.ln2 us hl λ_ _=>rfl);have H34:J.eP l.prog w K mg base 5 "read_pinned_area" 1 aX:=J.aH (ps:=["word"]) kb nb d34 (J.ay (c:=fO) (k:=4) trivial ⟨Z8,trivial⟩ ⟨H30.mono (by decide),H33.mono (by decide),trivial⟩ TB ⟨⟨X1,mg_of kb nb iS,⟨iS,Bh⟩⟩,trivial⟩ trivial trivial) mV rfl nW (λ_ _ _ _ _ _ us hl=>J.jD us hl λ_=>rfl);have H35:J.eP l.prog w K mg base 6 "read_word" 1 bw:=J.aH (ps:=["word"]) kb nb d35 (J.ay (c:=lY) (k:=5) ⟨⟨⟨_,V8⟩,by decide+kernel⟩,⟨_,[.str "not",.str "rest",.str "if",.str "else",.str "sum",.str "count",.str "least",.str "greatest",.str "find"],_,_,_,V9,w9,rfl,rfl,(show(9:Nat)<=ahl by decide),(.cons ⟨_,rfl⟩ (.cons ⟨_,rfl⟩ (.cons ⟨_,rfl⟩ (.cons ⟨_,rfl⟩ (.cons ⟨_,rfl⟩ (.cons ⟨_,rfl⟩ (.cons ⟨_,rfl⟩ (.cons ⟨_,rfl⟩ (.cons ⟨_,rfl⟩ .nil))))))))),⟨⟨rfl,by decide+kernel⟩,⟨⟨rfl,by decide+kernel⟩,⟨⟨rfl,by decide+kernel⟩,⟨⟨rfl,by decide+kernel⟩,⟨⟨rfl,by decide+kernel⟩,⟨⟨rfl,by decide+kernel⟩,⟨⟨rfl,by decide+kernel⟩,⟨⟨rfl,by decide+kernel⟩,⟨⟨rfl,by decide+kernel⟩,trivial⟩⟩⟩⟩⟩⟩⟩⟩⟩⟩,⟨_,[.str "+",.str "-",.str "*",.str "/",.str "&",.str "<",.str "=",.str "(",.str ")",.str ","],_,_,_,V10,w10,rfl,rfl,(show(10:Nat)<=ahl by decide),(.cons ⟨_,rfl⟩ (.cons ⟨_,rfl⟩ (.cons ⟨_,rfl⟩ (.cons ⟨_,rfl⟩ (.cons ⟨_,rfl⟩ (.cons ⟨_,rfl⟩ (.cons ⟨_,rfl⟩ (.cons ⟨_,rfl⟩ (.cons ⟨_,rfl⟩ (.cons ⟨_,rfl⟩ .nil)))))))))),⟨⟨rfl,by decide+kernel⟩,⟨⟨rfl,by decide+kernel⟩,⟨⟨rfl,by decide+kernel⟩,⟨⟨rfl,by decide+kernel⟩,⟨⟨rfl,by decide+kernel⟩,⟨⟨rfl,by decide+kernel⟩,⟨⟨rfl,by decide+kernel⟩,⟨⟨rfl,by decide+kernel⟩,⟨⟨rfl,by decide+kernel⟩,⟨⟨rfl,by decide+kernel⟩,trivial⟩⟩⟩⟩⟩⟩⟩⟩⟩⟩⟩,trivial⟩ trivial ⟨H30.mono (by decide),H31.mono (by decide),H32.mono (by decide),H34.mono (by decide),trivial⟩ TB trivial trivial trivial) wX rfl yY (λ_ _ _ _ _ _ us hl=>J.jD us hl λ_=>rfl);have H36:J.eP l.prog w K mg base 7 "words_of" 1 gM:=J.aH (ps:=["text"]) kb nb d36 (J.ay (c:=nX) (k:=6) trivial ⟨Z8,trivial⟩ ⟨H26.mono (by decide),H35.mono (by decide),trivial⟩ TB trivial trivial trivial) yZ rfl A1 (λ_ _ _ _ _ _ us hl=>J.jD us hl λ_=>rfl);have H37:J.eP l.prog w K mg base 1 "check_brackets" 1 cI:=J.aH (ps:=["words"]) kb nb d37 (J.ay (c:=gN) (k:=0) ⟨⟨_,V11⟩,trivial⟩ trivial trivial TB ⟨⟨X1,mg_of kb nb iS,⟨iS,Bh⟩⟩,trivial⟩ trivial trivial) oT rfl qf (λ_ _ _ _ _ _ us hl=>J.jD us hl λ_=>rfl);have H38:J.yy l.prog w K mg base 2 "WordRow" 2 bJ:=J.L9 (ps:=["self","words"]) kb nb d38 (J.ay (c:=fk) (k:=0) trivial trivial trivial TB trivial trivial trivial (hx:=J.lQ.no rfl rfl rfl rfl rfl rfl (J.jX trivial trivial ⟨YF,Xf,trivial⟩))) lZ rfl mW (λ_ _ _ _ _ _ us hl=>J.ln2 us hl λ_ _=>rfl);have H39:J.eP l.prog w K mg base 1 "join_down" 3 fT:=J.aH (ps:=["parts","ops","binding"]) kb nb d39 (J.ay (c:=l8) (k:=0) trivial trivial trivial TB trivial trivial ⟨⟨_,_,_,mg_of kb nb YK,YL,YM,⟨⟨CJ,⟨_,rfl⟩,⟨_,rfl⟩⟩,⟨CK,⟨_,rfl⟩,⟨_,rfl⟩⟩,⟨CL,⟨_,rfl⟩,⟨_,rfl⟩⟩,⟨CM,⟨_,rfl⟩,⟨_,rfl⟩⟩,⟨CN,⟨_,rfl⟩,⟨_,rfl⟩⟩,⟨CO,⟨_,rfl⟩,⟨_,rfl⟩⟩,⟨CP,⟨_,rfl⟩,⟨_,rfl⟩⟩,trivial⟩,by decide+kernel⟩,trivial⟩) wY rfl y0 (λ_ _ _ _ _ _ us hl=>J.ln3 us hl λ_ _ _=>rfl);have YN:J.qT l.prog w K mg base 1 "WordRow" "ahead" 1 aD:=J.wC (ps:=["self"]) d40 (J.ay (c:=gP) (k:=0) ⟨⟨_,[.str "end",.str ""],_,_,_,V12,YG,rfl,rfl,(show(2:Nat)<=ahl by decide),(.cons ⟨_,rfl⟩ (.cons ⟨_,rfl⟩ .nil)),⟨⟨rfl,by decide+kernel⟩,⟨⟨rfl,by decide+kernel⟩,trivial⟩⟩⟩,trivial⟩ ⟨Z8,trivial⟩ trivial TB trivial trivial trivial (hx:=J.lQ.no rfl rfl rfl rfl rfl rfl (J.jX trivial trivial ⟨YF,Xf,trivial⟩))) oU rfl qg (λ_ _ _ _ _ _ us hl=>J.jD us hl λ_=>rfl);have Xh:J.qT l.prog w K mg base 2 "WordRow" "taken" 1 aJ:=J.wC (ps:=["self"]) d41 (J.ay (c:=gR) (k:=1) trivial trivial trivial TB trivial trivial trivial (hx:=J.lQ.no rfl rfl rfl rfl rfl rfl (J.jX ⟨YN.mono (by decide),trivial⟩ trivial ⟨Xf,trivial⟩))) oV rfl qh (λ_ _ _ _ _ _ us hl=>J.jD us hl λ_=>rfl);have H42:J.qT l.prog w K mg base 3 "WordRow" "pass_sign" 2 aP:=J.wC (ps:=["self","sign"]) d42 (J.ay (c:=eJ) (k:=2) trivial trivial trivial TB ⟨⟨X1,mg_of kb nb iS,⟨iS,Bh⟩⟩,trivial⟩ trivial trivial (hx:=J.lQ.no rfl rfl rfl rfl rfl rfl (J.jX ⟨Xh.mono (by decide),trivial⟩ trivial trivial))) lz rfl l_ (λ_ _ _ _ _ _ us hl=>J.ln2 us hl λ_ _=>rfl);have H43:J.eP l.prog w K mg base 3 "read_area_word" 1 dv:=J.aH (ps:=["row"]) kb nb d43 (J.ay (c:=gT) (k:=2) trivial trivial trivial TB ⟨⟨X1,mg_of kb nb iS,⟨iS,Bh⟩⟩,trivial⟩ trivial trivial (hx:=J.lQ.no rfl rfl rfl rfl rfl rfl (J.jX ⟨Xh.mono (by decide),trivial⟩ trivial trivial))) oW rfl qi (λ_ _ _ _ _ _ us hl=>J.jD us hl λ_=>rfl);have YO:∀n:Nat,J.eP l.prog w K mg base (3+n) "read_call" 2 (aS n)/\J.eP l.prog w K mg base (3+n) "read_whole" 1 (aN n)/\J.eP l.prog w K mg base (3+n) "read_operand" 1 (aF n)/\J.eP l.prog w K mg base (3+n) "read_part" 1 (aT n):=λn=>by
    induction n with
    |zero=>exact⟨J.mF (ps:=["row","word"]) kb nb YA (λ_ _ _ _ _ _ us hl=>J.ln2 us hl λ_ _=>rfl),J.mF (ps:=["row"]) kb nb YB (λ_ _ _ _ _ _ us hl=>J.jD us hl λ_=>rfl),J.mF (ps:=["row"]) kb nb YC (λ_ _ _ _ _ _ us hl=>J.jD us hl λ_=>rfl),J.mF (ps:=["row"]) kb nb YD (λ_ _ _ _ _ _ us hl=>J.jD us hl λ_=>rfl)⟩
    |succ n ih=>exact⟨J.aH (ps:=["row","word"]) kb nb YA (J.ay (c:=(qE (aS n) (aN n) (aF n) (aT n))) (k:=(3+n)) trivial ⟨Z1,Z9,trivial⟩ ⟨H9.mono (by omega),H6.mono (by omega),ih.2.2.2,H43.mono (by omega),trivial⟩ TB trivial trivial trivial (hx:=J.lQ.no rfl rfl rfl rfl rfl rfl (J.jX ⟨H42.mono (by omega),trivial⟩ trivial trivial))) (wZ (aS n) (aN n) (aF n) (aT n)) rfl (y3 (aS n) (aN n) (aF n) (aT n)) (λ_ _ _ _ _ _ us hl=>J.ln2 us hl λ_ _=>rfl),J.aH (ps:=["row"]) kb nb YB (J.ay (c:=(oX (aS n) (aN n) (aF n) (aT n))) (k:=(3+n)) trivial trivial ⟨ih.2.2.2,ih.1,trivial⟩ TB ⟨⟨X1,mg_of kb nb iS,⟨iS,Bh⟩⟩,trivial⟩ trivial trivial (hx:=J.lQ.no rfl rfl rfl rfl rfl rfl (J.jX ⟨Xh.mono (by omega),H42.mono (by omega),trivial⟩ trivial trivial))) (uo (aS n) (aN n) (aF n) (aT n)) rfl (w6 (aS n) (aN n) (aF n) (aT n)) (λ_ _ _ _ _ _ us hl=>J.jD us hl λ_=>rfl),J.aH (ps:=["row"]) kb nb YC (J.ay (c:=(md (aS n) (aN n) (aF n) (aT n))) (k:=(3+n)) trivial ⟨Z1,trivial⟩ ⟨ih.2.1,trivial⟩ TB trivial trivial trivial (hx:=J.lQ.no rfl rfl rfl rfl rfl rfl (J.jX ⟨YN.mono (by omega),Xh.mono (by omega),trivial⟩ trivial trivial))) (rj (aS n) (aN n) (aF n) (aT n)) rfl (tK (aS n) (aN n) (aF n) (aT n)) (λ_ _ _ _ _ _ us hl=>J.jD us hl λ_=>rfl),J.aH (ps:=["row"]) kb nb YD (J.ay (c:=(qF (aS n) (aN n) (aF n) (aT n))) (k:=(3+n)) trivial trivial ⟨H39.mono (by omega),ih.2.2.1,trivial⟩ TB trivial trivial ⟨⟨_,_,_,mg_of kb nb YK,YL,YM,⟨⟨CJ,⟨_,rfl⟩,⟨_,rfl⟩⟩,⟨CK,⟨_,rfl⟩,⟨_,rfl⟩⟩,⟨CL,⟨_,rfl⟩,⟨_,rfl⟩⟩,⟨CM,⟨_,rfl⟩,⟨_,rfl⟩⟩,⟨CN,⟨_,rfl⟩,⟨_,rfl⟩⟩,⟨CO,⟨_,rfl⟩,⟨_,rfl⟩⟩,⟨CP,⟨_,rfl⟩,⟨_,rfl⟩⟩,trivial⟩,by decide+kernel⟩,trivial⟩ (hx:=J.lQ.no rfl rfl rfl rfl rfl rfl (J.jX ⟨Xh.mono (by omega),YN.mono (by omega),trivial⟩ trivial trivial))) (w8 (aS n) (aN n) (aF n) (aT n)) rfl (y6 (aS n) (aN n) (aF n) (aT n)) (λ_ _ _ _ _ _ us hl=>J.jD us hl λ_=>rfl)⟩
  have H44:J.eP l.prog w K mg base 143 "read_call" 2 ax:=(YO 140).1;have H45:J.eP l.prog w K mg base 143 "read_whole" 1 au:=(YO 140).2.1;have H46:J.eP l.prog w K mg base 143 "read_operand" 1 ao:=(YO 140).2.2.1;have H47:J.eP l.prog w K mg base 143 "read_part" 1 aq:=(YO 140).2.2.2;have H48:J.eP l.prog w K mg base 144 "read_unlooked" 1 bL:=J.aH (ps:=["text"]) kb nb d48 (J.ay (c:=iB) (k:=143) ⟨⟨_,[.str "end",.str ""],_,_,_,V12,YG,rfl,rfl,(show(2:Nat)<=ahl by decide),(.cons ⟨_,rfl⟩ (.cons ⟨_,rfl⟩ .nil)),⟨⟨rfl,by decide+kernel⟩,⟨⟨rfl,by decide+kernel⟩,trivial⟩⟩⟩,trivial⟩ trivial ⟨H36.mono (by decide),H37.mono (by decide),H47.mono (by decide),trivial⟩ TB ⟨⟨X1,mg_of kb nb iS,⟨iS,Bh⟩⟩,trivial⟩ trivial trivial (hx:=J.lQ.no rfl rfl rfl rfl rfl rfl (J.jX ⟨YN.mono (by decide),trivial⟩ ⟨H38.mono (by decide),trivial⟩ trivial))) ql rfl rk (λ_ _ _ _ _ _ us hl=>J.jD us hl λ_=>rfl);have H49:J.eP l.prog w K mg base 145 "read_formula" 1 bU:=J.aH (ps:=["text"]) kb nb d49 (J.ay (c:=jj) (k:=144) trivial trivial ⟨H23.mono (by decide),H48.mono (by decide),trivial⟩ TB trivial trivial trivial) rn rfl tL (λ_ _ _ _ _ _ us hl=>J.jD us hl λ_=>rfl);have H50:J.eP l.prog w K mg base 1 "_law_kind" 1 cX:=J.aH (ps:=["e"]) kb nb YE (J.ay (c:=ip) (k:=0) trivial ⟨Z3,Z11,trivial⟩ trivial TB trivial ⟨⟨X2,mg_of kb nb NM,NM⟩,⟨X3,mg_of kb nb NN,NN⟩,⟨X4,mg_of kb nb NO,NO⟩,⟨X5,mg_of kb nb NP,NP⟩,⟨X6,mg_of kb nb NQ,NQ⟩,⟨X7,mg_of kb nb NR,NR⟩,⟨X8,mg_of kb nb NT,NT⟩,⟨X9,mg_of kb nb NU,NU⟩,⟨Se,mg_of kb nb zi,zi⟩,⟨X1,mg_of kb nb iS,iS⟩,⟨X0,mg_of kb nb pA,pA⟩,⟨Sf,mg_of kb nb zj,zj⟩,⟨Sh,mg_of kb nb zk,zk⟩,⟨Si,mg_of kb nb zl,zl⟩,⟨Sj,mg_of kb nb zm,zm⟩,trivial⟩ trivial) o_ rfl y7 (λ_ _ _ _ _ _ us hl=>J.jD us hl λ_=>rfl);have U50:J.wg l.prog w K mg base 1 "_law_kind" 1 cX:=J.HX (ps:=["e"]) kb nb YE (J.ay (c:=ip) (k:=0) trivial ⟨Z3,Z11,trivial⟩ trivial TB trivial ⟨⟨X2,mg_of kb nb NM,NM⟩,⟨X3,mg_of kb nb NN,NN⟩,⟨X4,mg_of kb nb NO,NO⟩,⟨X5,mg_of kb nb NP,NP⟩,⟨X6,mg_of kb nb NQ,NQ⟩,⟨X7,mg_of kb nb NR,NR⟩,⟨X8,mg_of kb nb NT,NT⟩,⟨X9,mg_of kb nb NU,NU⟩,⟨Se,mg_of kb nb zi,zi⟩,⟨X1,mg_of kb nb iS,iS⟩,⟨X0,mg_of kb nb pA,pA⟩,⟨Sf,mg_of kb nb zj,zj⟩,⟨Sh,mg_of kb nb zk,zk⟩,⟨Si,mg_of kb nb zl,zl⟩,⟨Sj,mg_of kb nb zm,zm⟩,trivial⟩ trivial) o_ rfl w_ (λ_ _ _ _ _ _ us hl=>J.jD us hl λ_=>rfl);have H51:J.eP l.prog w K mg base 146 "_law_word" 2 a7:=J.aH (ps:=["way","what"]) kb nb d51 (J.ay (c:=me) (k:=145) trivial trivial ⟨H23.mono (by decide),H49.mono (by decide),H50.mono (by decide),trivial⟩ TB ⟨⟨JB,mg_of kb nb zo,⟨zo,JC⟩⟩,trivial⟩ trivial trivial ⟨(λ_ _ h=>by cases h;exact U50.mono (by decide)),trivial⟩) xa rfl y8 (λ_ _ _ _ _ _ us hl=>J.ln2 us hl λ_ _=>rfl);exact J.QJ Fu (J.ay (c:=Ij) (k:=146) trivial ⟨Z4,Z2,trivial⟩ ⟨H1.mono (by decide),H5.mono (by decide),H2.mono (by decide),H51.mono (by decide),trivial⟩ TB trivial trivial trivial) QT rfl VB
end K14
open PySem PySem.W PyProof.Rows
set_option maxRecDepth 100000 in
set_option maxHeartbeats 0 in
theorem PySem.Challenge.cw_onelook_k14_as_great_as_may_be_holds : PySem.Challenge.rw_onelook_k14_as_great_as_may_be.Holds := by
  refine K14.head ?_
  k_fill
  refine L2.walk_of (l:=PySem.Challenge.rw_onelook_k14_as_great_as_may_be) (n:=63) (k:=147) (x:="script") (CX:=fun w => J.CXJ PySem.Challenge.rw_onelook_k14_as_great_as_may_be.prog w) (sp:=fun w => J.spW _ 1 K14.F_law) rfl (by decide) rfl ⟨rfl,by decide,by decide⟩ (fun w h Y => PySem.W.kIn_of Y) ?F (fun w H a ns hl hO hS => J.law_sp K14.law_true H a ns hl (J.OnlyT.of hO) hS (J.tb_none ?Ta ?Tb ?Tc ?Td ?Te ?Tf ?Tg ?Th ?Ti)) (fun _ _ _ _ _ z => z.elim fun _ y => y.elim fun _ x => x.2)
  case F=>
    intro w mg fa h KX G hmg;refine' K14.all_mk KX G hmg ?d1 ?d2 ?d3 ?d4 ?d5 ?d6 ?d7 ?d8 ?d9 ?d10 ?d11 ?d12 ?d13 ?d14 ?d15 ?d16 ?d17 ?d18 ?d19 ?d20 ?d21 ?d22 ?d23 ?d24 ?d25 ?d26 ?d27 ?d28 ?d29 ?d30 ?d31 ?d32 ?d33 ?d34 ?d35 ?d36 ?d37 ?d38 ?d39 ?d40 ?d41 ?d42 ?d43 ?YA ?YB ?YC ?YD ?d48 ?d49 ?YE ?d51 ?d52 ?YF ?Xf ?z0 ?z1 ?z2 ?z3 ?z4 ?z5 ?z6 ?z7 ?z8 ?z9 ?z10 ?z11 ?v0 ?w0 ?v1 ?v2 ?v3 ?v4 ?v5 ?v6 ?v7 ?v8 ?v9 ?w9 ?v10 ?w10 ?v11 ?v12 ?YG ?YH ?YI ?YJ ?Cy ?Cz ?CA ?CB ?CC ?CD ?CF ?CG ?CH ?CI ?xp ?xq ?xt ?xu ?xv ?xw ?xx ?xy ?xA ?xB ?xC ?YK ?YL ?YM ?CJ ?CK ?CL ?CM ?CN ?CO ?CP ?pA ?Xg ?xg0 ?xx0 ?xc0 ?iS ?Bh ?xg1 ?xx1 ?xc1 ?NM ?NN ?NO ?NP ?NQ ?NR ?NT ?NU ?zi ?zj ?zk ?zl ?zm ?zo ?JC ?pk0 ?pk1 ?pk2 ?pk3 ?pk4 ?pk5 ?pk6 ?pk7 ?pk8 ?pk9 ?Sk ?Sl ?Sm ?Sn ?So ?Sq ?Sr ?Ss ?Su ?Sv ?Sw ?Sx ?Sy ?Sz ?SD ?SF ?SG ?SH ?SI ?SJ ?SK ?SM ?pm0 ?pm1 ?pt0 ?pt1
    case d1 |d2 |d3 |d4 |d5 |d6 |d7 |d8 |d9 |d10 |d11 |d12 |d13 |d14 |d15 |d16 |d17 |d18 |d19 |d20 |d21 |d22 |d23 |d24 |d25 |d26 |d27 |d28 |d29 |d30 |d31 |d32 |d33 |d34 |d35 |d36 |d37=>refine' J.Ae ?a ?l ?c ?k;(case a=>k_is);(case l=>k_is);(case c=>k_is);(case k=>k_is)
    case d38=>refine' J.QL ?a ?b ?e ?i ?l ?c ?k ?n;(case a=>k_is);(case b=>k_is);(case e=>k_is);(case i=>k_is);(case l=>k_is);(case c=>k_is);(case k=>k_is);(case n=>k_is)
    case d39=>refine' J.Ae ?a ?l ?c ?k;(case a=>k_is);(case l=>k_is);(case c=>k_is);(case k=>k_is)
    case d40 |d41 |d42=>refine' J.QK ?a ⟨?p,?h,?o,?s⟩ ?i ?l ?c ?k ?n;(case a=>k_is);(case p=>k_is);(case h=>k_is);(case o=>k_is);(case s=>k_is);(case i=>k_is);(case l=>k_is);(case c=>k_is);(case k=>k_is);(case n=>k_is)
    case d43 |YA |YB |YC |YD |d48 |d49 |YE |d51 |d52=>refine' J.Ae ?a ?l ?c ?k;(case a=>k_is);(case l=>k_is);(case c=>k_is);(case k=>k_is)
    case YF |Xf=>refine' J.QM ?a ⟨?p,?h,?o,?s⟩ ?n;(case a=>k_is);(case p=>k_is);(case h=>k_is);(case o=>k_is);(case s=>k_is);(case n=>k_is)
    case z0 |z1 |z2 |z3 |z4 |z5 |z6 |z7 |z8 |z9 |z10 |z11 |v0 |w0 |v1 |v2 |v3 |v4 |v5 |v6 |v7 |v8 |v9 |w9 |v10 |w10 |v11 |v12 |YG |YH |YI=>k_is
    case YJ |Cy |Cz |CA |CB |CC |CD |CF |CG |CH |CI |xp |xq |xt |xu |xv |xw |xx |xy |xA |xB |xC=>rfl
    case YK |YL=>k_is
    case YM |CJ |CK |CL |CM |CN |CO |CP=>rfl
    case pA=>k_is
    case Xg=>k_exc
    case xg0 |xx0 |xc0 |iS=>k_is
    case Bh=>k_exc
    case xg1 |xx1 |xc1 |NM |NN |NO |NP |NQ |NR |NT |NU |zi |zj |zk |zl |zm |zo=>k_is
    case JC=>k_exc
    case pk0 |pk1 |pk2 |pk3 |pk4 |pk5 |pk6 |pk7 |pk8 |pk9 |Sk |Sl |Sm |Sn |So |Sq |Sr |Ss |Su |Sv |Sw |Sx |Sy |Sz |SD |SF |SG |SH |SI |SJ |SK |SM=>kit_is
    case pm0 |pm1=>k_is
    case pt0 |pt1=>kit_is
  (case Ta=>k_is)
  (case Tb=>k_is)
  (case Tc=>k_is)
  (case Td=>k_is)
  (case Te=>k_is)
  (case Tf=>k_is)
  (case Tg=>k_is)
  (case Th=>k_is)
  (case Ti=>k_is)
