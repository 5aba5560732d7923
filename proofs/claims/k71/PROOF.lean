import PyProof.Rows.All
import Wide.All
import OpenK.AllK
import Wide.FinOn
import Lean
import PyProof.EqAt
import PyProof.EqKinds
import PyProof.TupleCall
import PySem.Challenge.RW_onelook_k71_tables_told
open PySem.Around renaming under_plainId→Og
open Array renaming all_eq_true_iff_forall_mem→NA,getD_eq_getD_getElem?→NY,getElem?_eq_getElem→Ho,length_toList→Ac
open Bool renaming and_eq_true→cz,eq_iff_iff→HS,false_and→wk,false_eq_true→gN,false_ne_true→bV,not_false→mj,not_true→kl,or_eq_false_iff→LQ,or_eq_true→A7,true_and→Cm
open PySem.Builtin.Dict renaming addKeywords→KY,dictSlotArgs→K4,merge→KS,mergeDict→KW,readDirectly→KU,samePairs→K3,selfAndRest→KR,showsAll→vx,updateFrom→vG
open PySem.Builtin.Dict_items renaming ownsTuple→Kv
open PySem.Builtin.List renaming listTooLong→nW
open PySem.Builtin.Range renaming rangeSize→qJ,small→KN
open PySem.Builtin.Slice renaming sliceAdjust→Ao,sliceApplied→IU,slicePlaces→u0
open PySem.Builtin.SmallTypes renaming nextOf→kh,ownedTupleHandOut→KJ,ownedTupleIsFree→vB
open PySem.Builtin.Str renaming occurrences→uU
open PySem.Builtin.Tuple renaming tupleExact→u5,tupleHashOf→KZ,tupleIsExact→Kn,tupleItemsOf→IV
open PySem.Builtin renaming divisionGoesByPylong→KO
open PySem.Calls renaming Name_function_global→Ip,callWith_builtin→qU,evalArgs_plain→nT,spliced_cons→iL,spliced_nil→nO
open Classical renaming propDecidable→Bj
open PySem.EntryCells renaming newEntry→Jr
open PySem.F renaming args_tuple_iterator_next_1→KI,entry_tuple_iterator_next→KH,slot_tuple_iterator_next→vA,slot_zip_next→vD,typeOf_object_class→Bn
open PyProof.Rows.F renaming entry_set_update_loop→K',plain_set_update_loop→Cy
open False renaming elim→aa
open ForInStep renaming yield→om
open PySem.Heap renaming IsTuple→B3,MadeExcOf→rf,SameBut→f9,get?_push_of_some→aQ,get?_push_size→aX,get?_update_other→nR,get?_update_self→j4,lt_size→aC,size_push→mi
open PySem.Heap.IsTuple renaming push→B4
open PySem.Heap.SameBut renaming update→ke
open PySem.Heap.UpToSlots renaming refl→JY
open Int renaming mul_le_mul→DD,toNat_natCast→vy,toNat_of_nonneg→v5
open List renaming all_cons→cg,all_eq_true→Dd,all_map→BF,any_cons→dW,append_assoc→gX,append_nil→lR,contains_cons→vn,drop_eq_getElem_cons→lV,drop_length→og,drop_of_length_le→BJ,drop_sublist→BI,drop_zero→f',eq_nil_of_length_eq_zero→A1,eraseIdx_cons_succ→Cc,filterMap_cons→qH,filter_cons→eQ,find?_cons→lS,flatten_cons→nU,foldl_cons→Au,forIn_cons→rD,forIn_nil→vC,getD_eq_getElem?_getD→rJ,getElem?_append_left→eP,getElem?_append_right→jZ,getElem?_cons_succ→DG,getElem?_cons_zero→vY,getElem?_eq_getElem→cW,getElem?_map→dA,getElem?_range→Bi,getElem?_replicate→Em,getElem?_set_ne→bG,getElem?_set_self→gS,getElem?_toArray→w9,length→gU,length_append→dB,length_cons→ng,length_drop→m7,length_filter_le→EC,length_map→aH,length_set→gW,length_take→fF,lookup_cons→fI,map_append→jR,map_congr_left→nG,map_cons→av,map_drop→sk,map_map→aL,map_nil→fH,map_take→jP,mem_append_left→kJ,mem_append_right→fc,mem_cons→bp,mem_cons_of_mem→aU,mem_cons_self→bF,mem_of_getElem?→m6,nodup_cons→lr,nodup_nil→jC,not_mem_nil→bz,of_mem_zip→wq,pairwise_append→rK,perm_append_comm→Fj,range→a9,range_succ→xQ,range_succ_eq_map→w8,replicate→a_,replicate_succ→fG,set_cons_succ→lJ,set_cons_zero→lK,size_toArray→aN,take_append_drop→w_,take_of_length_le→k_,take_sublist→wu
open PySem.NameKind renaming cell→ny,free→df
open Nat renaming le_add_left→xa,le_mul_of_pos_left→Gv,le_of_eq→jB,le_of_lt→qG,le_refl→ao,le_trans→bo,lt_irrefl→c_,lt_of_lt_of_le→bj,min_eq_left→xb,min_le_right→wx,mul_le_mul→sD,ne_of_gt→mZ,ne_of_lt→aP,sub_eq_zero_of_le→Fl,sub_self→ni,sub_zero→rQ,succ_le_succ→wQ,succ_mul→m_,zero_add→f6,zero_le→bx
open Ne renaming symm→az
open PySem.Obj renaming cls_mapFields→wH,data_mapDictKeys→xo,data_mapFields→jD,isFreed_of_fields→q9,mapFields→gY,mapSeq→jA
open Option renaming isNone_none→FK,map_some→kH
open Or renaming inr→jE
open PUnit renaming unit→nD
open PySem.PassesOwn renaming leaving→Gf
open Prod renaming ext→qL
open PySem.PyData renaming canLayAll0→wO,depthAll→kX,eqv→aF,eqvAll→eu,int→lL,list→rn,strOk→aW,tuple→nj
open PyProof.Rows renaming callWith_builtin1→En,callWith_type1→jz,slot_tuple_getitem→qM,Keyed→Ys,SortSt→Yt
open PySem.SeqAt.EqAt renaming int_str→D4,str_int→D5
open PySem.SeqAt renaming eqBoolOverData→F0
open PySem.Shared renaming TypeIs→lu,heap→xl
open Std.Legacy.Range renaming forIn_eq_forIn_range'→FP
open PySem.Str renaming ofString→fe
open Sum renaming inl→eh,inr→jy
open True renaming intro→nh
open PySem.Txt renaming slice→jJ
open PySem.Value renaming bool→gR,builtin→jH,int→mW,isStrOf→qD,none→bE,ref→aB,str→eZ,type→mX
open PySem renaming Addr→X3,Around→X4,FuncData→X5,NameKind→X6,Program→X7,Shared→X8,Value→X9,World→X_,behindInMarks→X',binaryOp→Ya,bootBuiltins→Yb,codeAny→Yc,compPost→Yd,compareOp→Ye,foldedSetIterable→Yf,isSubtype_type→Yg,mainGlobals→Yh,sizeLine→Yi,starEach→Yj,wpAny→Yk,wpAny_bind→Yl,wpAny_dictEntries→Ym,wpAny_holding→Yn,wpAny_mono→Yo,wpAny_newObj_type→Yp,wpAny_pure→Yq,wpAny_truthy_bool→Yr
noncomputable section
set_option Elab.async false
set_option linter.all false
set_option maxRecDepth 100000
namespace L2
open PySem PySem.Spec PyProof.Rows
abbrev Key:=Sum Int Str
def pJ:Key->X9->Bool
 | .inl k,v=>Value.isInt k v
 | .inr x,v=>qD x v
def Qb(w:X_):Key->Int
 | .inl k=>hashInt k
 | .inr x=>hashStr w x
theorem bP:∀{k:Key}{v:X9},pJ k v=true->(∃i t,k=eh i/\v=mW i t)\/(∃x t,k=jy x/\v=eZ x t)
 | .inl i,v,h=>by
  obtain⟨t,e⟩:=Value.isInt_shape (k:=i) (v:=v) h
  exact .inl ⟨i,t,rfl,e⟩
 | .inr x,v,h=>by
  obtain⟨t,e⟩:=Value.isStrOf_shape (x:=x) (v:=v) h
  exact .inr ⟨x,t,rfl,e⟩
theorem xY(i:Int)(t:Tok):pJ (.inl i) (.int i t)=true:=by simp[pJ,Value.isInt]
theorem xZ(x:Str)(t:Tok):pJ (.inr x) (.str x t)=true:=by simp[pJ,qD]
theorem HY(a b:Int):decide ((eh a:Key)=eh b)=(a == b):=by
 by_cases e:a=b
 ·subst e;simp
 ·have h:¬(eh a:Key)=eh b:=λq=>e (Sum.inl.inj q)
  rw[decide_eq_false h]
  exact(beq_eq_false_iff_ne.mpr e).symm
theorem HZ(a b:Str):decide ((jy a:Key)=jy b)=decide (a=b):=by
 by_cases e:a=b
 ·subst e;simp
 ·have h:¬(jy a:Key)=jy b:=λq=>e (Sum.inr.inj q)
  rw[decide_eq_false h,decide_eq_false e]
theorem H_(a:Int)(b:Str):decide ((eh a:Key)=jy b)=false:=decide_eq_false (λq=>nomatch q)
theorem Ia(a:Str)(b:Int):decide ((jy a:Key)=eh b)=false:=decide_eq_false (λq=>nomatch q)
def aV(prog:X7)(w:X_):PySem.KeyKind prog w Key where
 is:=pJ
 hash:=Qb w
 inj:=λv a b ha hb=>by
  rcases bP ha with ⟨i,t,rfl,rfl⟩ | ⟨x,t,rfl,rfl⟩
  ·rcases bP hb with ⟨j,u,rfl,e⟩ | ⟨y,u,rfl,e⟩
   ·injection e with e1 _;rw[e1]
   ·exact nomatch e
  ·rcases bP hb with ⟨j,u,rfl,e⟩ | ⟨y,u,rfl,e⟩
   ·exact nomatch e
   ·injection e with e1 _;rw[e1]
 byValue:=λk v h=>by
  rcases bP h with ⟨i,t,rfl,rfl⟩ | ⟨x,t,rfl,rfl⟩<;>rfl
 pyHash:=λhv h=>by
  rcases bP hv with ⟨i,t,rfl,rfl⟩ | ⟨x,t,rfl,rfl⟩
  ·exact wpAny_pyHash_int h
  ·exact wpAny_pyHash_str h
 eqBool:=λhu hv h=>by
  rcases bP hu with ⟨i,t,rfl,rfl⟩ | ⟨x,t,rfl,rfl⟩
  ·rcases bP hv with ⟨j,u,rfl,rfl⟩ | ⟨y,u,rfl,rfl⟩
   ·rw[HY] at h;exact wpAny_eqBool_int h
   ·rw[H_] at h;exact D4 i t y u _ _ _ _ h
  ·rcases bP hv with ⟨j,u,rfl,rfl⟩ | ⟨y,u,rfl,rfl⟩
   ·rw[Ia] at h;exact D5 x t j u _ _ _ _ h
   ·rw[HZ] at h;exact wpAny_eqBool_str h
 «strs»:=λk x t v h=>by
  rcases bP h with ⟨i,u,rfl,e⟩ | ⟨y,u,rfl,e⟩
  ·exact nomatch e
  ·injection e with e1 _
   subst e1
   cases v<;>rfl
theorem sJ(prog:X7)(w:X_)(i:Int)(t:Tok):(aV prog w).is (.inl i) (.int i t)=true:=xY i t
theorem sL(prog:X7)(w:X_)(x:Str)(t:Tok):(aV prog w).is (.inr x) (.str x t)=true:=xZ x t
inductive V where
 | aR | bl (b:Bool) | int (i:Int) | str (x:Str) | L9 (b:Array UInt8) | O4 (b:UInt64) | ref (a:X3) | ty (n:String)
 deriving DecidableEq
def RelV:V->X9->Prop
 | .aR,u=>u=bE
 | .bl b,u=>u=gR b
 | .int i,u=>∃t,u=mW i t
 | .str x,u=>∃t,u=eZ x t
 | .L9 b,u=>∃t,u=Value.bytes b t
 | .O4 b,u=>∃t,u=Value.float b t
 | .ref a,u=>u=aB a
 | .ty n,u=>u=mX n
abbrev Vals:List V->List X9->Prop:=Paired RelV
theorem Vals.length{xs:List V}{us:List X9}(r:Vals xs us):xs.length=us.length:=Paired.length r
theorem Vals.get:∀{xs:List V}{us:List X9}{i:Nat}{x:V},Vals xs us->xs[i]? =some x->∃u,us[i]? =some u/\RelV x u
 | _,_,_,_,.nil,e=>by simp at e
 | _,_,0,_,.cons r _,e=>by simp at e;subst e;exact⟨_,rfl,r⟩
 | _,_,i+1,x,.cons _ t,e=>by
  obtain⟨u,h1,h2⟩:=Vals.get (i:=i) (x:=x) t (by simpa using e)
  exact⟨u,by simpa using h1,h2⟩
theorem Vals.set{x:V}{u:X9}(r:RelV x u):∀{xs:List V}{us:List X9}(i:Nat),Vals xs us->Vals (xs.set i x) (us.set i u)
 | _,_,_,.nil=> .nil
 | _,_,0,.cons _ t=> .cons r t
 | _,_,i+1,.cons q t=> .cons q (Vals.set r i t)
theorem Vals.append:∀{xs ys:List V}{us ws:List X9},Vals xs us->Vals ys ws->Vals (xs++ys) (us++ws)
 | _,_,_,_,.nil,s=>s
 | _,_,_,_,.cons r t,s=> .cons r (Vals.append t s)
theorem Vals.take:∀{xs:List V}{us:List X9}(n:Nat),Vals xs us->Vals (xs.take n) (us.take n)
 | _,_,0,_=> .nil
 | _,_,_+1,.nil=> .nil
 | _,_,n+1,.cons r t=> .cons r (Vals.take n t)
theorem Vals.drop:∀{xs:List V}{us:List X9}(n:Nat),Vals xs us->Vals (xs.drop n) (us.drop n)
 | _,_,0,r=>r
 | _,_,_+1,.nil=> .nil
 | _,_,n+1,.cons _ t=>Vals.drop n t
def pe:Option V->Option X9->Prop
 | some v,some u=>RelV v u
 | none,none=>True
 | _,_=>False
def KV{κ:Type}:List (κ×V)->List (κ×X9)->Prop:=Paired λ(p:κ×V)(q:κ×X9)=>p.1=q.1/\RelV p.2 q.2
def kV:Key->V
 | .inl i=> .int i
 | .inr x=> .str x
inductive HO where
  | lst (xs:List V)
  | tup (xs:List V)
  | dK (kvs:List (Key×V)) | dT (kvs:List (List Key×V))
  | set (S:Int->Bool) (n:Nat)
  | ins (C dx:X3) (fs:List (Str×V))
  | own (x:X3)
  | xd (fs:List (Str×V))
  | met (f x:X3)
  | O5 (lo hi:Int)
  | fD (o:Obj) (u:HO)
  | f7 (ps:Array X9)
  | ext (φ:Heap->Prop)
abbrev Hp:=X3->Option HO
def upd(H:Hp)(a:X3)(o:HO):Hp:=λb=>if b=a then some o else H b
theorem aM{H:Hp}{a:X3}{o:HO}:upd H a o a=some o:=by unfold upd;rw[if_pos rfl]
theorem aw{H:Hp}{a b:X3}{o:HO}(h:b≠a):upd H a o b=H b:=by unfold upd;rw[if_neg h]
theorem GL{H:Hp}{a b:X3}{o u:HO}(h:H a=some o)(h':H b=some u)(d:o≠u):a≠b:=by
 intro e;subst e;rw[h] at h';exact d (Option.some.inj h')
theorem bh{H:Hp}{a b:X3}{o:HO}(h:H a=some o)(h':H b=none):a≠b:=by
 intro e;subst e;rw[h] at h';cases h'
def uQ(h:Heap)(a:X3):Prop:=∀o,h.get? a=some o->o.dict=none
theorem uQ.new(h:Heap)(us:Array X9):uQ (h.push { cls:=.type "tuple",data:=.seq us }) h.objs.size:=λo q=>by
 rw[aX _ rfl] at q
 cases q
 rfl
section
variable (P:X7) (w:X_)
def cp(H:Hp)(h:Heap)(a:X3):HO->Prop
 | .lst xs=>xs.length<=Yi/\∃(its:List X9)(n:Nat),Vals xs its/\h.get? a=some { cls:=.type "list",data:=.seq its.toArray n }
 | .tup xs=>xs.length<=Yi/\∃its:List X9,Vals xs its/\IsTup h a its.toArray/\uQ h a
 | .dK kvs=>kvs.length<=Yi/\(a == sysModules)=false/\∃vs,KV kvs vs/\h.DictOf (aV P w) a vs
 | .dT kvs=>kvs.length<=Yi/\(a == sysModules)=false/\∃xs:List (List Key×X3×X9),
   Paired (λ(p:List Key×V)(q:List Key×X3×X9)=>p.1=q.1/\H q.2.1=some (.tup (p.1.map kV))/\RelV p.2 q.2.2) kvs xs/\
   ∃o es ep,h.get? a=some o/\o.ExactDict/\o.data= .dict es ep/\es.toList=xs.map (entryOfKey (tupleKind (aV P w)))/\(xs.map (·.1)).Nodup
 | .set S n=>h.SetOf (intKind P w) a S n
 | .ins C dx fs=>H dx=some (.own a)/\fs.length<=1000/\dx≠a/\h.get? a=some (PySem.W.instObj C dx)/\
   ∃mA,h.Ns1 dx mA/\(∀f,pe (fs.lookup f) (mA f))/\PySem.Within mA (fs.map (·.1))
 | .own _=>∃o,h.get? a=some o
 | .xd fs=>∃mA,h.Ns1 a mA/\∀f,pe (fs.lookup f) (mA f)
 | .O5 lo hi=>∃t u v,h.get? a=some { cls:=.type "range",data:=.fields #[.int lo t,.int hi u,.int 1 v] }
 | .fD o u=>h.get? a=some o/\cp H h a u
 | .f7 ps=>h.get? a=some { cls:=.none,data:=.fields ps }
 | .met f x=>h.get? a=some (PySem.W.methodObj (.ref f) (.ref x))
 | .ext φ=>φ h/\(∃o,h.get? a=some o)/\∀h1 h2:Heap,φ h1->(∀o,h1.get? a=some o->h2.get? a=some o)->φ h2
def iE(H:Hp)(h:Heap):Prop:=∀a o,H a=some o->cp P w H h a o
end
section
variable {P:X7} {w:X_} {H H':Hp} {h h':Heap} {a:X3} {o:HO}
theorem cp.lt(x:cp P w H h a o):a < h.objs.size:=by
 cases o with
 | lst xs=>obtain⟨_,_,_,_,e⟩:=x;exact aC e
 | tup xs=>obtain⟨_,_,_,p,_⟩:=x;exact p.lt
 | dK kvs=>obtain⟨_,_,_,_,o,_,_,e,_⟩:=x;exact aC e
 | dT kvs=>obtain⟨_,_,_,_,o,_,_,e,_⟩:=x;exact aC e
 | set S n=>obtain⟨o,_,_,_,e,_⟩:=x;exact aC e
 | ins C dx fs=>obtain⟨_,_,_,e,_⟩:=x;exact aC e
 | own y=>obtain⟨_,e⟩:=x;exact aC e
 | xd fs=>obtain⟨_,⟨_,_,_,e,_⟩,_⟩:=x;exact aC e
 | O5 lo hi=>obtain⟨_,_,_,e⟩:=x;exact aC e
 | fD ob u=>obtain⟨e,_⟩:=x;exact aC e
 | f7 ps=>exact aC (show h.get? a=some _ from x)
 | met f y=>exact aC (show h.get? a=some _ from x)
 | ext φ=>obtain⟨_,⟨_,e⟩,_⟩:=x;exact aC e
theorem Paired.Ie{α β:Type}{F G:α->β->Prop}:∀{l₁:List α}{l₂:List β},Paired F l₁ l₂->(∀a b,F a b->G a b)->Paired G l₁ l₂
 | _,_,.nil,_=> .nil
 | _,_,.cons r t,f=> .cons (f _ _ r) (Paired.Ie t f)
theorem cp.stay(x:cp P w H h a o)(k:∀b u,(b=a\/H b=some (.own a))->h.get? b=some u->h'.get? b=some u)
  (ho:∀b,H b=some (.own a)->H' b=some (.own a))(ht:∀b xs,H b=some (.tup xs)->H' b=some (.tup xs)):cp P w H' h' a o:=by
 induction o with
 | lst xs=>obtain⟨z,its,n,r,e⟩:=x;exact⟨z,its,n,r,k _ _ (.inl rfl) e⟩
 | tup xs=>obtain⟨z,us,r,⟨ob,e,c⟩,nd⟩:=x;exact⟨z,us,r,⟨ob,k _ _ (.inl rfl) e,c⟩,λo q=>by rw[k _ _ (.inl rfl) e] at q;cases q;exact nd _ e⟩
 | dK kvs=>obtain⟨z,y,vs,r,ob,es,ep,e,c⟩:=x;exact⟨z,y,vs,r,ob,es,ep,k _ _ (.inl rfl) e,c⟩
 | dT kvs=>
  obtain⟨z,y,xs,r,ob,es,ep,e,c⟩:=x
  exact⟨z,y,xs,Paired.Ie r λp q z=>⟨z.1,ht _ _ z.2.1,z.2.2⟩,ob,es,ep,k _ _ (.inl rfl) e,c⟩
 | set S n=>obtain⟨ob,es,ep,t,e,c⟩:=x;exact⟨ob,es,ep,t,k _ _ (.inl rfl) e,c⟩
 | ins C dx fs=>
  obtain⟨d,z,ne,e,mA,⟨od,es,ep,e2,c⟩,r⟩:=x
  exact⟨ho _ d,z,ne,k _ _ (.inl rfl) e,mA,⟨od,es,ep,k _ _ (.inr d) e2,c⟩,r⟩
 | own y=>obtain⟨ob,e⟩:=x;exact⟨ob,k _ _ (.inl rfl) e⟩
 | xd fs=>obtain⟨mA,⟨od,es,ep,e,c⟩,r⟩:=x;exact⟨mA,⟨od,es,ep,k _ _ (.inl rfl) e,c⟩,r⟩
 | O5 lo hi=>obtain⟨t,u,v,e⟩:=x;exact⟨t,u,v,k _ _ (.inl rfl) e⟩
 | fD ob u ih=>obtain⟨e,q⟩:=x;exact⟨k _ _ (.inl rfl) e,ih q⟩
 | f7 ps=>
  have e:h.get? a=some { cls:=.none,data:=.fields ps }:=x
  show h'.get? a=some { cls:=.none,data:=.fields ps }
  exact k a _ (.inl rfl) e
 | met f y=>
  have e:h.get? a=some (PySem.W.methodObj (.ref f) (.ref y)):=x
  show h'.get? a=some (PySem.W.methodObj (.ref f) (.ref y))
  exact k a _ (.inl rfl) e
 | ext φ=>obtain⟨p,⟨o,e⟩,st⟩:=x;exact⟨st _ _ p λo q=>k _ _ (.inl rfl) q,⟨o,k _ _ (.inl rfl) e⟩,st⟩
theorem iE.lt(x:iE P w H h)(e:H a=some o):a < h.objs.size:=(x a o e).lt
theorem iE.fresh(x:iE P w H h)(e:h.objs.size<=a):H a=none:=by
 cases q:H a with
 | none=>rfl
 | some u=>exact absurd (bj (x.lt q) e) (c_ _)
theorem iE.kept(x:iE P w H h)(k:∀b u,h.get? b=some u->h'.get? b=some u):iE P w H h':=λa o e=>
 (x a o e).stay (λb u _ q=>k b u q) (λ_ q=>q) λ_ _ q=>q
theorem iE.laid(x:iE P w H h)(k:∀b u,h.get? b=some u->h'.get? b=some u)(hp:h.objs.size<=a)(new:cp P w (upd H a o) h' a o):iE P w (upd H a o) h':=λb u e=>by
 have hn:=x.fresh hp
 by_cases hb:b=a
 ·subst hb;rw[aM] at e;cases e;exact new
 ·rw[aw hb] at e
  exact(x b u e).stay (λc v _ q=>k c v q) (λc q=>by rw[aw (bh q hn)];exact q) λc xs q=>by rw[aw (bh q hn)];exact q
end
def Rd(H:Hp)(a:X3)(u:HO):Prop:=H a=some u\/∃o,H a=some (.fD o u)
theorem Rd.ok{P:X7}{w:X_}{H:Hp}{h:Heap}{a:X3}{u:HO}(r:Rd H a u)(x:iE P w H h):cp P w H h a u:=by
 rcases r with r | ⟨o,r⟩
 ·exact x a u r
 ·obtain⟨_,q⟩:=x a _ r
  exact q
def Mu:Option HO->Prop
 | some (.lst _)=>True
 | some (.dK _)=>True
 | some (.dT _)=>True
 | some (.set _ _)=>True
 | some (.ins _ _ _)=>True
 | some (.ext _)=>True
 | _=>False
section
variable {P:X7} {w:X_} {H:Hp} {h h':Heap} {x e:X3} {o':HO}
theorem iE.write(ok:iE P w H h)(mu:Mu (H x))(he:e=x\/H e=some (.own x))(k:∀b u,b≠e->h.get? b=some u->h'.get? b=some u)(L_:∃u,h'.get? e=some u)
  (new:cp P w (upd H x o') h' x o'):iE P w (upd H x o') h':=λb u q=>by
 have Mv:∀c y,H c=some (.own y)->c≠x:=λc y r z=>by subst z;rw[r] at mu;exact mu
 have Qc:∀c xs,H c=some (.tup xs)->c≠x:=λc xs r z=>by subst z;rw[r] at mu;exact mu
 by_cases hb:b=x
 ·subst hb;rw[aM] at q;cases q;exact new
 ·rw[aw hb] at q
  by_cases Ig:b=e
  ·have q':H b=some (.own x):=by
    rcases he with z | z
    ·exact absurd (Ig.trans z) hb
    ·rw[Ig];exact z
   rw[q] at q';cases q'
   obtain⟨v,hv⟩:=L_
   exact⟨v,by rw[Ig];exact hv⟩
  ·refine(ok b u q).stay (λc v hc r=>k c v ?_ r) (λc r=>by rw[aw (Mv c b r)];exact r) λc xs r=>by rw[aw (Qc c xs r)];exact r
   rcases hc with rfl | hc
   ·exact Ig
   ·rintro rfl
    rcases he with z | z
    ·exact Mv c b hc z
    ·rw[hc] at z;cases z;exact hb rfl
end
structure Un(fs ex:List X3)(H H':Hp)(h h':Heap):Prop where
 keep:∀b o,h.get? b=some o->H b=none->b∉fs->b∉ex->h'.get? b=some o
 slot:∀b o,h.get? b=some o->H b=none->b∈fs->b∉ex->∃sl,h'.get? b=some { o with slots:=sl }
 free:∀b o,h.get? b=some o->H b=none->b∉ex->H' b=none
 there:∀b o,h.get? b=some o->b∉ex->∃o',h'.get? b=some o'
 tups:∀b xs,H b=some (.tup xs)->H' b=some (.tup xs)
 iF:∀b o u,H b=some (.fD o u)->H' b=some (.fD o u)
 jS:∀b ps,H b=some (.f7 ps)->∃more,H' b=some (.f7 (ps++more))
section
variable {fs fs' ex ex':List X3} {H H1 H2:Hp} {h h1 h2 h':Heap} {a x e:X3} {o:HO}
theorem Un.any(u:Un fs ex H H1 h h1){b:X3}{ob:Obj}(q:h.get? b=some ob)(n:H b=none)(hx:b∉ex):∃sl,h1.get? b=some { ob with slots:=sl }:=by
 by_cases hb:b∈fs
 ·exact u.slot b ob q n hb hx
 ·exact⟨ob.slots,u.keep b ob q n hb hx⟩
theorem Un.kept(k:∀b u,h.get? b=some u->h'.get? b=some u):Un fs ex H H h h' :=
 ⟨λb ob q _ _ _=>k b ob q,λb ob q _ _ _=>⟨ob.slots,k b ob q⟩,λ_ _ _ n _=>n,λb ob q _=>⟨ob,k b ob q⟩,λ_ _ q=>q,λ_ _ _ q=>q,λ_ ps q=>⟨#[],by rw[q];simp⟩⟩
theorem Un.refl:Un fs ex H H h h:=Un.kept λ_ _ q=>q
theorem Un.laid(k:∀b u,h.get? b=some u->h'.get? b=some u)(hp:h.objs.size<=a)(hn:H a=none):Un fs ex H (upd H a o) h h' where
 keep:=λb u q _ _ _=>k b u q
 slot:=λb u q _ _ _=>⟨u.slots,k b u q⟩
 free:=λb u q n _=>by rw[aw (aP (bj (aC q) hp))];exact n
 there:=λb u q _=>⟨u,k b u q⟩
 tups:=λb xs q=>by rw[aw (bh q hn)];exact q
 iF:=λb u xs q=>by rw[aw (bh q hn)];exact q
 jS:=λb ps q=>⟨#[],by rw[aw (bh q hn),q];simp⟩
theorem Un.write(mu:Mu (H x))(he:e=x\/H e=some (.own x))(k:∀b u,b≠e->h.get? b=some u->h'.get? b=some u)(L_:∃u,h'.get? e=some u):Un fs ex H (upd H x o) h h':=by
 have hx:∀b,H b=none->b≠x:=λb n z=>by subst z;rw[n] at mu;exact mu
 have hb:∀b,H b=none->b≠e:=λb n z=>by
  subst z
  rcases he with r | r
  ·exact hx b n r
  ·rw[n] at r;cases r
 have hm:∀b u,H b=some u->¬Mu (some u)->b≠x:=λb u q nm z=>by subst z;rw[q] at mu;exact nm mu
 refine⟨λb u q n _ _=>k b u (hb b n) q,λb u q n _ _=>⟨u.slots,k b u (hb b n) q⟩,λb u q n _=>by rw[aw (hx b n)];exact n,λb u q _=>?_,
  λb xs q=>by rw[aw (hm b _ q λz=>z)];exact q,λb u xs q=>by rw[aw (hm b _ q λz=>z)];exact q,λb ps q=>⟨#[],by rw[aw (hm b _ q λz=>z),q];simp⟩⟩
 by_cases Ig:b=e
 ·subst Ig;exact L_
 ·exact⟨u,k b u Ig q⟩
end
def O6(h:Heap)(H:Hp):List X3:=(a9 h.objs.size).filter λa=>(H a).isSome
def qE(h:Heap)(H:Hp):Heap:=PySem.W.hideAll h (O6 h H)
theorem x_(h:Heap)(H:Hp):(qE h H).objs.size=h.objs.size:=PySem.W.hideAll_size _ _
theorem zV{h:Heap}{H:Hp}{b:X3}{o:Obj}(e:h.get? b=some o)(n:H b=none):(qE h H).get? b=some o :=
 PySem.W.hideAll_get _ e λhm=>by
  have q:(H b).isSome=true:=(List.mem_filter.mp hm).2
  rw[n] at q;simp at q
theorem D6{h:Heap}{H:Hp}{b:X3}{o:Obj}(e:(qE h H).get? b=some o):h.get? b=some o/\H b=none:=by
 have e':h.get? b=some o:=PySem.W.of_hideAll (O6 h H) e
 refine⟨e',?_⟩
 cases q:H b with
 | none=>rfl
 | some x=>
  have hm:b∈O6 h H:=List.mem_filter.mpr ⟨List.mem_range.mpr (aC e'),by simp[q]⟩
  have z:(qE h H).get? b=none:=PySem.W.hideAll_none (O6 h H) hm
  rw[z] at e;cases e
def qF(g h:Heap)(L:X3):List (X3×Obj):=(a9 h.objs.size).filterMap λa=>if a=L\/(g.get? a).isSome=true then none else(h.get? a).map λo=>(a,o)
theorem mB{g h:Heap}{L a:X3}{o:Obj}(h1:a≠L)(h2:g.get? a=none)(h3:h.get? a=some o):(a,o)∈qF g h L :=
 List.mem_filterMap.mpr ⟨a,List.mem_range.mpr (aC h3),by simp[h1,h2,h3]⟩
theorem nJ{g h:Heap}{L:X3}{p:X3×Obj}(hp:p∈qF g h L):p.1≠L/\g.get? p.1=none/\h.get? p.1=some p.2:=by
 obtain⟨b,_,e⟩:=List.mem_filterMap.mp hp
 split at e
 ·cases e
 ·rename_i hn
  cases q:h.get? b with
  | none=>rw[q] at e;simp at e
  | some u=>
   rw[q] at e
   simp only[kH,Option.some.injEq] at e
   subst e
   refine⟨λz=>hn (.inl z),?_,q⟩
   show g.get? b=none
   cases r:g.get? b with
   | none=>rfl
   | some v=>exact(hn (.inr (by simp[r]))).elim
theorem zW{g h:Heap}{L:X3}:News g L h (qF g h L):=λp hp=>let ⟨a,b,c⟩:=nJ hp;⟨c,a,b⟩
structure Mod(K:PySem.W.Frag)(mg:Str->Option X9)(base:Heap):Prop where
 Mw:K.In base
 glob:base.Ns Yh mg
 blt:∃mb,base.Ns builtinsNs mb/\∀x:Str,x≠"__name__"->mb x=Yb x
 nolimit:base.NoLimit
structure Cx where
 prog:X7
 w:X_
 K:PySem.W.Frag
 mg:Str->Option X9
 base:Heap
 A:X4
 N:List Str
 s₀:X8
 H₀:Hp
 env:Env
 outer:List Env
 stack:List Env
 ex:List X3
 fn:Str->Bool
 calm:Bool
 pn:List (X3×Obj)
 xe:X9->X8->Prop
def frs(l:List Env):List X3:=l.filterMap (·.frame)
abbrev Cx.fs(X:Cx):List X3:=frs X.outer
def Qd(sc:Scope)(x:Str):Prop:=sc.names.lookup x=some .local\/sc.names.lookup x=some .cell\/sc.names.lookup x=some .free
def Loc(sc:Scope)(x:Str):Prop:=sc.names.lookup x=some .local\/sc.names.lookup x=some .cell
def Look(env:Env)(h:Heap)(m:Str->Option X9)(x:Str)(u:X9):Prop :=
 (env.kindOf x=some .local/\m x=some u)\/((env.kindOf x=some .cell\/env.kindOf x=some .free)/\∃c,env.cells.lookup x=some c/\h.IsCell c (some u))
structure Cx.Ok(X:Cx):Prop where
 mod:Mod X.K X.mg X.base
 kind:X.env.scope.kind= .function
 glob:X.env.globals=Yh
 blt:X.env.builtins=builtinsNs
 above:X.s₀.heap.objs.size<=X.env.locals
 inj:∀x y c,X.env.cells.lookup x=some c->X.env.cells.lookup y=some c->x=y
 has:∀x,(X.env.kindOf x=some .cell\/X.env.kindOf x=some .free)->∃c,X.env.cells.lookup x=some c
 Mx:∀x c,X.fn x=true->X.env.cells.lookup x=some c->X.s₀.heap.objs.size<=c
 hd:X.calm=true->X.A.handled=none
 frames:X.A.frames=some X.stack
 stk:X.stack=X.outer\/(X.stack=X.env::X.outer/\X.env.frame=some X.env.locals)
 SU:∀b∈X.ex,b≠X.env.locals/\∀x c,X.env.cells.lookup x=some c->c≠b
 bs:∀b o,X.base.get? b=some o->X.s₀.heap.get? b=some o/\X.H₀ b=none
 GN:X.base.objs.size<=X.s₀.heap.objs.size
 zX:∀b o,X.base.get? b=some o->b∉X.ex
 D7:∀b∈X.ex,b∉X.fs
 lQ:X.s₀.heap.FunFrames X.base X.outer
 Ih:∀b∈X.fs,X.H₀ b=none
structure Inv(X:Cx)(pins:List (X3×Obj))(σ:List (Option V))(H:Hp)(s:X8):Prop where
 ok:X.Ok
 os:s.os=X.s₀.os
 bare:AllBare s.gens
 base:Un X.fs X.ex X.H₀ H X.s₀.heap s.heap
 loc:∃m,s.heap.Ns X.env.locals m/\∀(i:Nat)(x:Str)(v:V),X.N[i]? =some x->σ[i]? =some (some v)->Qd X.env.scope x->∃u,RelV v u/\Look X.env s.heap m x u
 cell:∀x c,X.env.cells.lookup x=some c->∃v,s.heap.IsCell c v
 free:H X.env.locals=none
 gF:∀x c,X.env.cells.lookup x=some c->H c=none
 pin:∀p∈X.pn++pins,s.heap.get? p.1=some p.2/\H p.1=none/\p.1≠X.env.locals/\p.1∉X.fs/\∀v,p.2.data≠.cell v
 hok:iE X.prog X.w H s.heap
 len:σ.length=X.N.length
section
variable {X:Cx} {pins:List (X3×Obj)} {σ:List (Option V)} {H H':Hp} {s:X8} {h':Heap}
theorem Cx.Ok.Qe(ok:X.Ok){b:X3}{o:Obj}(e:X.base.get? b=some o):b∉X.fs:=λhb=>by
 have:=(ok.lQ.mem hb).1
 rw[e] at this;cases this
theorem Inv.bs(I:Inv X pins σ H s):∀b o,X.base.get? b=some o->s.heap.get? b=some o/\H b=none:=λb o e=>
 ⟨I.base.keep b o (I.ok.bs b o e).1 (I.ok.bs b o e).2 (I.ok.Qe e) (I.ok.zX b o e),I.base.free b o (I.ok.bs b o e).1 (I.ok.bs b o e).2 (I.ok.zX b o e)⟩
theorem Inv.bk(I:Inv X pins σ H s):∀b o,X.base.get? b=some o->s.heap.get? b=some o:=λb o e=>(I.bs b o e).1
theorem Inv.mod(I:Inv X pins σ H s):Mod X.K X.mg X.base:=I.ok.mod
theorem Inv.uR(I:Inv X pins σ H s):X.K.In s.heap:=I.ok.mod.Mw.keeps I.bk
theorem Inv.lt(I:Inv X pins σ H s):X.env.locals < s.heap.objs.size:=let ⟨_,hn,_⟩:=I.loc;hn.lt
theorem Inv.sz(I:Inv X pins σ H s):X.s₀.heap.objs.size<=s.heap.objs.size:=bo I.ok.above (qG I.lt)
theorem Inv.Qf(I:Inv X pins σ H s){a:X3}(h:s.heap.objs.size<=a):a∉X.fs:=λhb=>by
 obtain⟨_,o,ho,_⟩:=I.ok.lQ.mem hb
 exact absurd (bj (aC ho) (bo I.sz h)) (c_ _)
theorem Inv.D8(I:Inv X pins σ H s):∀x c,X.env.cells.lookup x=some c->c≠X.env.locals:=λx c e z=>by
 obtain⟨v,o,ho,hd⟩:=I.cell x c e
 obtain⟨m,⟨o',es,ep,ho',hd',_⟩,_⟩:=I.loc
 rw[z,ho'] at ho;cases ho;rw[hd'] at hd;cases hd
theorem Inv.lQ(I:Inv X pins σ H s):s.heap.FunFrames X.base X.outer:=by
 have all:∀(l:List Env),(∀b∈frs l,b∈X.fs)->X.s₀.heap.FunFrames X.base l->s.heap.FunFrames X.base l:=by
  intro l
  induction l with
  | nil=>intro _ _;trivial
  | cons env r ih=>
   intro hs hl
   obtain⟨hk,⟨L,o,hf,hn,ho,hd⟩,hr⟩:=hl
   have hL:L∈X.fs:=hs L (by unfold frs;rw[qH,hf];exact bF)
   obtain⟨sl,e⟩:=I.base.slot L o ho (I.ok.Ih L hL) hL λz=>I.ok.D7 L z hL
   exact⟨hk,⟨L,_,hf,hn,e,hd⟩,ih (λb hb=>hs b (by unfold frs;rw[qH,hf];exact aU _ hb)) hr⟩
 exact all X.outer (λ_ hb=>hb) I.ok.lQ
theorem Inv.stack(I:Inv X pins σ H s):s.heap.FunFrames X.base X.stack:=by
 rcases I.ok.stk with e | ⟨e,hf⟩
 ·rw[e];exact I.lQ
 ·rw[e]
  obtain⟨m,hn,_⟩:=I.loc
  refine .cons (by rw[I.ok.kind];decide) hf hn ?_ I.lQ
  exact Heap.get?_none_of_le (bo I.ok.GN I.ok.above)
theorem Inv.nK(I:Inv X pins σ H s):∀b∈frs X.stack,b∈X.env.locals::X.fs:=λb hb=>by
 rcases I.ok.stk with e | ⟨e,hf⟩
 ·rw[e] at hb;exact aU _ hb
 ·rw[e] at hb
  unfold frs at hb
  rw[qH,hf] at hb
  exact hb
theorem Inv.kI(I:Inv X pins σ H s):∀b∈frs X.stack,H b=none:=λb hb=>by
 rcases List.mem_cons.mp (I.nK b hb) with e | hb
 ·rw[e];exact I.free
 ·obtain⟨_,o,ho,_⟩:=I.ok.lQ.mem hb
  exact I.base.free b o ho (I.ok.Ih b hb) λz=>I.ok.D7 b z hb
theorem Inv.step{g':Array GenState}{t':Nat}{d':Drawn}{ch:List X3}(I:Inv X pins σ H s)
  (hch:∀b∈ch,(b∈X.ex\/X.s₀.heap.objs.size<=b)/\b≠X.env.locals/\(∀x c,X.env.cells.lookup x=some c->c≠b)/\∀p∈X.pn++pins,p.1≠b)
  (keep:∀b o,b≠X.env.locals->b∉X.fs->b∉ch->s.heap.get? b=some o->H b=none->h'.get? b=some o)
  (slot:∀b o,b≠X.env.locals->b∈X.fs->b∉ch->s.heap.get? b=some o->H b=none->∃sl,h'.get? b=some { o with slots:=sl })(free:∀b o,b∉ch->s.heap.get? b=some o->H b=none->H' b=none)
  (there:∀b o,b∉ch->s.heap.get? b=some o->∃o',h'.get? b=some o')
  (tups:∀b xs,H b=some (.tup xs)->H' b=some (.tup xs))(iF:∀b o u,H b=some (.fD o u)->H' b=some (.fD o u))(jS:∀b ps,H b=some (.f7 ps)->∃more,H' b=some (.f7 (ps++more)))
  (ns:∀m,s.heap.Ns X.env.locals m->h'.Ns X.env.locals m)(hok:iE X.prog X.w H' h')(hg:AllBare g') :
  Inv X pins σ H' { s with heap:=h',gens:=g',drawn:=d',toks:=t' }:=by
 have Mz:∀b o,X.s₀.heap.get? b=some o->b≠X.env.locals:=λb o e=>aP (bj (aC e) I.ok.above)
 have O7:∀b o,X.s₀.heap.get? b=some o->b∉X.ex->b∉ch:=λb o e hx hb=>by
  rcases(hch b hb).1 with z | z
  ·exact hx z
  ·exact absurd (bj (aC e) z) (c_ _)
 have cellK:∀x c,X.env.cells.lookup x=some c->∀v,s.heap.IsCell c v->h'.IsCell c v:=λx c e v ⟨o,ho,hd⟩=>by
  have Ii:c∉ch:=λz=>(hch c z).2.2.1 x c e rfl
  by_cases hc:c∈X.fs
  ·obtain⟨sl,q⟩:=slot c o (I.D8 x c e) hc Ii ho (I.gF x c e)
   exact⟨_,q,hd⟩
  ·exact⟨o,keep c o (I.D8 x c e) hc Ii ho (I.gF x c e),hd⟩
 refine⟨I.ok,I.os,hg,⟨λb o e n hb hx=>?_,λb o e n hb hx=>?_,λb o e n hx=>?_,λb o e hx=>?_,λb xs e=>tups b xs (I.base.tups b xs e),λb o xs e=>iF b o xs (I.base.iF b o xs e),λb ps e=>?_⟩,?_,λx c e=>?_,?_,λx c e=>?_,λp hp=>?_,hok,I.len⟩
 ·exact keep b o (Mz b o e) hb (O7 b o e hx) (I.base.keep b o e n hb hx) (I.base.free b o e n hx)
 ·obtain⟨sl,e1⟩:=I.base.slot b o e n hb hx
  obtain⟨UZ,e2⟩:=slot b _ (Mz b o e) hb (O7 b o e hx) e1 (I.base.free b o e n hx)
  exact⟨UZ,e2⟩
 ·obtain⟨o',e1⟩:=I.base.there b o e hx
  exact free b o' (O7 b o e hx) e1 (I.base.free b o e n hx)
 ·obtain⟨o',e1⟩:=I.base.there b o e hx
  exact there b o' (O7 b o e hx) e1
 ·obtain⟨m1,e1⟩:=I.base.jS b ps e
  obtain⟨m2,e2⟩:=jS b _ e1
  exact⟨m1++m2,by rw[e2,Array.append_assoc]⟩
 ·obtain⟨m,hn,hl⟩:=I.loc
  refine⟨m,ns m hn,λi x v e1 e2 e3=>?_⟩
  obtain⟨u,r,l⟩:=hl i x v e1 e2 e3
  refine⟨u,r,?_⟩
  rcases l with l | ⟨k,c,e,z⟩
  ·exact .inl l
  ·exact .inr ⟨k,c,e,cellK x c e _ z⟩
 ·obtain⟨v,z⟩:=I.cell x c e
  exact⟨v,cellK x c e v z⟩
 ·obtain⟨m,⟨o,_,_,ho,_⟩,_⟩:=I.loc
  exact free _ o (λz=>(hch _ z).2.1 rfl) ho I.free
 ·obtain⟨v,o,ho,hd⟩:=I.cell x c e
  exact free c o (λz=>(hch c z).2.2.1 x c e rfl) ho (I.gF x c e)
 ·obtain⟨e,n,ne,nf,d⟩:=I.pin p hp
  have Ii:p.1∉ch:=λz=>(hch p.1 z).2.2.2 p hp rfl
  exact⟨keep p.1 p.2 ne nf Ii e n,free p.1 p.2 Ii e n,ne,nf,d⟩
theorem Inv.un{t':Nat}(I:Inv X pins σ H s)(u:Un X.fs [] H H' s.heap h')(hok:iE X.prog X.w H' h'):Inv X pins σ H' { s with heap:=h',toks:=t' }:=by
 obtain⟨m,⟨o,es,ep,ho,r⟩,_⟩:=id I.loc
 obtain⟨sl,hL⟩:=u.any ho I.free (by simp)
 exact I.step (g':=s.gens) (d':=s.drawn) (ch:=[]) (λ_ z=>nomatch z) (λb o _ hb _ e n=>u.keep b o e n hb (by simp)) (λb o _ hb _ e n=>u.slot b o e n hb (by simp)) (λb o _ e n=>u.free b o e n (by simp)) (λb o _ e=>u.there b o e (by simp)) u.tups u.iF u.jS (λm' hm=>by
  obtain⟨o',es',GP,ho',r'⟩:=hm
  rw[ho] at ho';cases ho'
  exact⟨_,es',GP,hL,r'⟩) hok I.bare
theorem Inv.call{g':Array GenState}{t':Nat}{d':Drawn}{ch:List X3}(I:Inv X pins σ H s)(u:Un (frs X.stack) ch H H' s.heap h')(hok:iE X.prog X.w H' h')(hg:AllBare g')
  (hch:∀b∈ch,(b∈X.ex\/X.s₀.heap.objs.size<=b)/\b≠X.env.locals/\(∀x c,X.env.cells.lookup x=some c->c≠b)/\∀p∈X.pn++pins,p.1≠b) :
  Inv X pins σ H' { s with heap:=h',gens:=g',drawn:=d',toks:=t' }:=by
 obtain⟨m,⟨o,es,ep,ho,r⟩,_⟩:=id I.loc
 obtain⟨sl,hL⟩:=u.any ho I.free λz=>(hch _ z).2.1 rfl
 exact I.step (ch:=ch) hch (λb o hL hb hc e n=>u.keep b o e n (λz=>(List.mem_cons.mp (I.nK b z)).elim hL hb) hc) (λb o _ _ hc e n=>u.any e n hc) (λb o hc e n=>u.free b o e n hc) (λb o hc e=>u.there b o e hc) u.tups u.iF u.jS (λm' hm=>by
  obtain⟨o',es',GP,ho',r'⟩:=hm
  rw[ho] at ho';cases ho'
  exact⟨_,es',GP,hL,r'⟩) hok hg
theorem Inv.turned{t':Nat}{it:X3}(I:Inv X pins σ H s)(k:∀b o,b≠it->s.heap.get? b=some o->h'.get? b=some o)(hn:H it=none)(hL:it≠X.env.locals)
  (h1:it∈X.ex\/X.s₀.heap.objs.size<=it)(h2:∀x c,X.env.cells.lookup x=some c->c≠it)(h3:∀p∈X.pn++pins,p.1≠it):Inv X pins σ H { s with heap:=h',toks:=t' }:=by
 have SV:∀b u,H b=some u->b≠it:=λb u e z=>by rw[z,hn] at e;cases e
 refine I.step (g':=s.gens) (d':=s.drawn) (ch:=[it]) (λb hb=>?_) (λb o _ _ hc e _=>k b o (λz=>hc (by simp[z])) e) (λb o _ _ hc e _=>⟨o.slots,k b o (λz=>hc (by simp[z])) e⟩) (λ_ _ _ _ n=>n)
  (λb o hc e=>⟨o,k b o (λz=>hc (by simp[z])) e⟩) (λ_ _ e=>e) (λ_ _ _ e=>e) (λb ps e=>⟨#[],by rw[e];simp⟩) (λm hm=>?_) (λb u e=>?_) I.bare
 ·have e:b=it:=by simpa using hb
  subst e
  exact⟨h1,hL,h2,h3⟩
 ·obtain⟨o,es,ep,ho,r⟩:=hm
  exact⟨o,es,ep,k _ o (az hL) ho,r⟩
 ·refine(I.hok b u e).stay (λc v hc q=>k c v ?_ q) (λ_ q=>q) λ_ _ q=>q
  rcases hc with z | z
  ·rw[z];exact SV b u e
  ·exact SV c _ z
theorem Inv.tok(I:Inv X pins σ H s)(t:Nat):Inv X pins σ H { s with toks:=t }:=I.un (h':=s.heap) (t':=t) Un.refl I.hok
theorem Inv.kept{t':Nat}(I:Inv X pins σ H s)(k:∀b u,s.heap.get? b=some u->h'.get? b=some u):Inv X pins σ H { s with heap:=h',toks:=t' }:=I.un (Un.kept k) (I.hok.kept k)
theorem Inv.laid{a:X3}{o:HO}{t':Nat}(I:Inv X pins σ H s)(k:∀b u,s.heap.get? b=some u->h'.get? b=some u)(hp:s.heap.objs.size<=a)(new:cp X.prog X.w (upd H a o) h' a o) :
  Inv X pins σ (upd H a o) { s with heap:=h',toks:=t' }:=I.un (Un.laid k hp (I.hok.fresh hp)) (I.hok.laid k hp new)
theorem Inv.write{x e:X3}{o:HO}{t':Nat}(I:Inv X pins σ H s)(mu:Mu (H x))(he:e=x\/H e=some (.own x))(k:∀b u,b≠e->s.heap.get? b=some u->h'.get? b=some u)(L_:∃u,h'.get? e=some u)
  (new:cp X.prog X.w (upd H x o) h' x o):Inv X pins σ (upd H x o) { s with heap:=h',toks:=t' }:=I.un (Un.write mu he k L_) (I.hok.write mu he k L_ new)
theorem Inv.wj{iJ:List (X3×Obj)}(I:Inv X pins σ H s)(h:∀p∈iJ,s.heap.get? p.1=some p.2/\H p.1=none/\p.1≠X.env.locals/\p.1∉X.fs/\∀v,p.2.data≠.cell v):Inv X iJ σ H s :=
 ⟨I.ok,I.os,I.bare,I.base,I.loc,I.cell,I.free,I.gF,λp hp=>(List.mem_append.mp hp).elim (λz=>I.pin p (kJ _ z)) (h p),I.hok,I.len⟩
theorem nL{N:List Str}(hN:N.Nodup){i j:Nat}{x:Str}(a:N[i]? =some x)(b:N[j]? =some x):i=j:=by
 obtain⟨h1,e1⟩:=List.getElem?_eq_some_iff.mp a
 obtain⟨h2,e2⟩:=List.getElem?_eq_some_iff.mp b
 exact(List.getElem_inj hN).mp (e1.trans e2.symm)
theorem pK{M:Model}{A:X4}{E:X9->X8->Prop}{i:Nat}{x:Str}{v:V}{u:X9}{Q:Unit->X8->Prop}(I:Inv X pins σ H s)(hN:X.N.Nodup)(hi:X.N[i]? =some x)(hx:Loc X.env.scope x)(r:RelV v u)
  (h:∀s',Inv X pins (σ.set i (some v)) H s'->(∃a,f9 a s.heap s'.heap/\(a=X.env.locals\/X.env.cells.lookup x=some a))->Q () s')(hf:X.fn x=true\/X.env.scope.names.lookup x=some .local:=by first | exact .inl rfl | exact .inr rfl | assumption):Yk M A (storeName X.env x u) Q E s:=by
 obtain⟨m,hn,hl⟩:=id I.loc
 have hcls:(X.env.scope.kind == .class||(X.env.scope.kind == .module&&X.env.locals != X.env.globals))=false:=by rw[I.ok.kind];rfl
 have MA:i < σ.length:=by rw[I.len];exact(List.getElem?_eq_some_iff.mp hi).1
 have D8:=I.D8
 have tracked:∀{a:X3}{h':Heap},(∃o,s.heap.get? a=some o/\H a=none)->f9 a s.heap h'->iE X.prog X.w H h':=λ{a h'} ha hs b ob e=>by
  obtain⟨_,_,hfree⟩:=ha
  refine(I.hok b ob e).stay (λc w' hc q=>(hs.2 c ?_).trans q) (λ_ q=>q) λ_ _ q=>q
  rintro rfl
  rcases hc with rfl | hc
  ·rw[hfree] at e;cases e
  ·rw[hfree] at hc;cases hc
 rcases hx with hk | hk
 ·refine wpAny_storeName_local hk hn (λh' hn' hs=>?_) hcls
  obtain⟨oL,_,_,SX,_⟩:=id hn
  refine h _ ⟨I.ok,I.os,I.bare,⟨λb o e n hb hx=>?_,λb o e n hb hx=>?_,I.base.free,λb o e hx=>?_,I.base.tups,I.base.iF,I.base.jS⟩,⟨_,hn',λj y v' e1 e2 e3=>?_⟩,λy c e=>?_,I.free,I.gF,λp hp=>?_,tracked ⟨oL,SX,I.free⟩ hs,by simpa using I.len⟩ ⟨_,hs,.inl rfl⟩
  ·exact(hs.2 b (aP (bj (aC e) I.ok.above))).trans (I.base.keep b o e n hb hx)
  ·obtain⟨sl,e1⟩:=I.base.slot b o e n hb hx
   exact⟨sl,(hs.2 b (aP (bj (aC e) I.ok.above))).trans e1⟩
  ·obtain⟨o',e1⟩:=I.base.there b o e hx
   exact⟨o',(hs.2 b (aP (bj (aC e) I.ok.above))).trans e1⟩
  ·by_cases hj:j=i
   ·subst hj
    rw[hi] at e1;cases e1
    rw[gS MA] at e2
    cases e2
    exact⟨u,r,.inl ⟨hk,by simp⟩⟩
   ·rw[bG (az hj)] at e2
    obtain⟨u',r',q⟩:=hl j y v' e1 e2 e3
    refine⟨u',r',?_⟩
    rcases q with ⟨k,e⟩ | ⟨k,c,e,z⟩
    ·refine .inl ⟨k,?_⟩
     have:y≠x:=λe=>hj (nL hN e1 (e ▸ hi))
     simp[this,e]
    ·exact .inr ⟨k,c,e,z.sameBut hs (D8 y c e)⟩
  ·obtain⟨w',z⟩:=I.cell y c e
   exact⟨w',z.sameBut hs (D8 y c e)⟩
  ·obtain⟨e,n,ne,nf,d⟩:=I.pin p hp
   exact⟨(hs.2 p.1 ne).trans e,n,ne,nf,d⟩
 ·have hfn:X.fn x=true:=by
   rcases hf with z | z
   ·exact z
   ·rw[z] at hk;cases hk
  obtain⟨c,hc⟩:=I.ok.has x (.inl hk)
  obtain⟨w',z⟩:=I.cell x c hc
  refine wpAny_storeName_cell I.ok.kind hk hc z (λh' hc' hs=>?_)
  obtain⟨oc,hoc,Qg⟩:=id z
  refine h { s with heap:=h' } ⟨I.ok,I.os,I.bare,⟨λb o e n hb hx=>?_,λb o e n hb hx=>?_,I.base.free,λb o e hx=>?_,I.base.tups,I.base.iF,I.base.jS⟩,⟨m,hn.sameBut hs (az (D8 x c hc)),λj y v' e1 e2 e3=>?_⟩,λy c' e=>?_,I.free,I.gF,λp hp=>?_,tracked ⟨oc,hoc,I.gF x c hc⟩ hs,by simpa using I.len⟩ ⟨c,hs,.inr hc⟩
  ·exact(hs.2 b (aP (bj (aC e) (I.ok.Mx x c hfn hc)))).trans (I.base.keep b o e n hb hx)
  ·obtain⟨sl,e1⟩:=I.base.slot b o e n hb hx
   exact⟨sl,(hs.2 b (aP (bj (aC e) (I.ok.Mx x c hfn hc)))).trans e1⟩
  ·obtain⟨o',e1⟩:=I.base.there b o e hx
   exact⟨o',(hs.2 b (aP (bj (aC e) (I.ok.Mx x c hfn hc)))).trans e1⟩
  ·by_cases hj:j=i
   ·subst hj
    rw[hi] at e1;cases e1
    rw[gS MA] at e2
    cases e2
    exact⟨u,r,.inr ⟨.inl hk,c,hc,hc'⟩⟩
   ·rw[bG (az hj)] at e2
    obtain⟨u',r',q⟩:=hl j y v' e1 e2 e3
    refine⟨u',r',?_⟩
    rcases q with q | ⟨k,c',e,z'⟩
    ·exact .inl q
    ·refine .inr ⟨k,c',e,z'.sameBut hs ?_⟩
     rintro rfl
     exact hj (nL hN e1 (I.ok.inj _ _ _ e hc ▸ hi))
  ·by_cases hcc:c'=c
   ·subst hcc;exact⟨_,hc'⟩
   ·obtain⟨w2,z2⟩:=I.cell y c' e
    exact⟨w2,z2.sameBut hs hcc⟩
  ·obtain⟨e,n,ne,nf,d⟩:=I.pin p hp
   refine⟨(hs.2 p.1 ?_).trans e,n,ne,nf,d⟩
   intro q
   rw[q,hoc] at e
   have q':oc=p.2:=Option.some.inj e
   exact d w' (by rw[<-q'];exact Qg)
theorem kK{M:Model}{A:X4}{E:X9->X8->Prop}{i:Nat}{x:Str}{v:V}{u:X9}{Q:Unit->X8->Prop}(I:Inv X pins σ H s)(hN:X.N.Nodup)(hi:X.N[i]? =some x)(hx:Loc X.env.scope x)(r:RelV v u)
  (h:∀s',Inv X pins (σ.set i (some v)) H s'->Q () s')(hf:X.fn x=true\/X.env.scope.names.lookup x=some .local:=by first | exact .inl rfl | exact .inr rfl | assumption):Yk M A (storeName X.env x u) Q E s :=
 pK I hN hi hx r (λs' I' _=>h s' I') hf
theorem Inv.pL{s':X8}{ch:List X3}(I:Inv X pins σ H s)(ho:s'.os=s.os)(u:Un (frs X.stack) ch H H' s.heap s'.heap)(hok:iE X.prog X.w H' s'.heap)(hg:AllBare s'.gens)
  (hch:∀b∈ch,(b∈X.ex\/X.s₀.heap.objs.size<=b)/\b≠X.env.locals/\(∀x c,X.env.cells.lookup x=some c->c≠b)/\∀p∈X.pn++pins,p.1≠b):Inv X pins σ H' s':=by
 obtain⟨h',g',d',t',o'⟩:=s'
 have e:o'=s.os:=ho
 subst e
 exact I.call (g':=g') (t':=t') (d':=d') u hok hg hch
end
abbrev XK:=X9->Option X3->Hp->Prop
abbrev St:=List (Option V)
abbrev VK:=V->Hp->Prop
abbrev TE:=St->Hp->VK->Prop
abbrev TT:=St->Hp->(Bool->Hp->Prop)->Prop
abbrev TA:=St->Hp->(List V->Hp->Prop)->Prop
structure Ends where
 nx:St->Hp->Prop
 rt:VK
 bk:St->Hp->Prop:=λ_ _=>False
 ct:St->Hp->Prop:=λ_ _=>False
abbrev TS:=Ends->St->Hp->Prop
def EP(X:Cx)(pins:List (X3×Obj))(σ:St)(Q:VK)(u:X9)(s':X8):Prop:=∃v H',Inv X pins σ H' s'/\RelV v u/\Q v H'
def TP(X:Cx)(pins:List (X3×Obj))(σ:St)(Q:Bool->Hp->Prop)(b:Bool)(s':X8):Prop:=∃H',Inv X pins σ H' s'/\Q b H'
def AP(X:Cx)(pins:List (X3×Obj))(σ:St)(Q:List V->Hp->Prop)(us:List X9)(s':X8):Prop:=∃vs H',Inv X pins σ H' s'/\Vals vs us/\Q vs H'
def SP(X:Cx)(pins:List (X3×Obj))(D:Ends)(f:Flow)(s':X8):Prop :=
 match f with
 | .next=>∃σ' H',Inv X pins σ' H' s'/\D.nx σ' H'
 | .brk=>∃σ' H',Inv X pins σ' H' s'/\D.bk σ' H'
 | .cont=>∃σ' H',Inv X pins σ' H' s'/\D.ct σ' H'
 | .ret u=>∃v σ' H',Inv X pins σ' H' s'/\RelV v u/\D.rt v H'
def PE(X:Cx)(e:Expr)(t:TE):Prop :=
 ∀(pins:List (X3×Obj))(s:X8)(σ:St)(H:Hp)(Q:VK),Inv X pins σ H s->t σ H Q->Yk (model X.prog X.w) X.A (eval e X.env) (EP X pins σ Q) X.xe s
def PT(X:Cx)(e:Expr)(t:TT):Prop :=
 ∀(pins:List (X3×Obj))(s:X8)(σ:St)(H:Hp)(Q:Bool->Hp->Prop),Inv X pins σ H s->t σ H Q->Yk (model X.prog X.w) X.A (isTrue e X.env (eval e X.env)) (TP X pins σ Q) X.xe s
def PW(X:Cx)(e:Expr)(t:TT):Prop :=
 ∀(whole:Sem X9)(pins:List (X3×Obj))(s:X8)(σ:St)(H:Hp)(Q:Bool->Hp->Prop),Inv X pins σ H s->t σ H Q->Yk (model X.prog X.w) X.A (isTrue e X.env whole) (TP X pins σ Q) X.xe s
def PA(X:Cx)(es:List Expr)(t:TA):Prop :=
 ∀(pos:Pos)(pins:List (X3×Obj))(s:X8)(σ:St)(H:Hp)(Q:List V->Hp->Prop),Inv X pins σ H s->t σ H Q->Yk (model X.prog X.w) X.A (spliced (backTo pos (Yj es X.env))) (AP X pins σ Q) X.xe s
def PS(X:Cx)(st:Stmt)(t:TS):Prop :=
 ∀(pins:List (X3×Obj))(s:X8)(σ:St)(H:Hp)(D:Ends),Inv X pins σ H s->t D σ H->Yk (model X.prog X.w) X.A (exec st X.env) (SP X pins D) X.xe s
def zY(X:Cx)(st:List Stmt)(t:TS):Prop :=
 ∀(pins:List (X3×Obj))(s:X8)(σ:St)(H:Hp)(D:Ends),Inv X pins σ H s->t D σ H->Yk (model X.prog X.w) X.A (execs st X.env) (SP X pins D) X.xe s
theorem aY{α:Type}{t:Sem α}{Q Q':α->X8->Prop}{M:Model}{A:X4}{E:X9->X8->Prop}{s:X8}(h:Yk M A t Q E s)(hQ:∀a s,Q a s->Q' a s):Yk M A t Q' E s:=Yo h hQ λ_ _ x=>x
section
variable {X:Cx}
def Qh(i:Nat):TE:=λσ H Q=>∃v,σ[i]? =some (some v)/\Q v H
def tC(v:V):TE:=λ_ H Q=>Q v H
theorem Ij{i:Nat}{x:Str}{pos:Pos}(hN:X.N[i]? =some x)(hv:Qd X.env.scope x)(hd:(x == ("__debug__":Str))=false:=by decide)(hcd:(x == ("__classdict__":Str))=false:=by decide):PE X (.Name x pos) (Qh i):=by
 intro pins s σ H Q I h
 obtain⟨v,e,h⟩:=h
 obtain⟨m,hn,hl⟩:=I.loc
 obtain⟨u,r,l⟩:=hl i x v hN e hv
 have fin:EP X pins σ Q u s:=⟨v,H,I,r,h⟩
 rcases l with ⟨hk,hm⟩ | ⟨hk,c,hc,hcell⟩
 ·exact wpAny_Name (wpAny_loadName_local I.ok.kind hk hn hm fin) hd
 ·rcases hk with hk | hk
  ·exact wpAny_Name (wpAny_loadName_cell I.ok.kind hk hc hcell fin) hd
  ·exact wpAny_Name (wpAny_loadName_free I.ok.kind hk hc hcell fin hcd) hd
theorem Ik{i j pos}:PE X (.Constant (.int i) j pos) (tC (.int i)):=λ_ _ _ H _ I h=>wpAny_Constant_int ⟨.int i,H,I.tok _,⟨_,rfl⟩,h⟩
theorem MB{b j pos}:PE X (.Constant (.bool b) j pos) (tC (.bl b)):=λ_ _ _ H _ I h=>Constant_bool ⟨.bl b,H,I,rfl,h⟩
theorem Il{j pos}:PE X (.Constant .none j pos) (tC .aR):=λ_ _ _ H _ I h=>Constant_none ⟨.aR,H,I,rfl,h⟩
theorem Io{x j pos}:PE X (.Constant (.str x) j pos) (tC (.str x)):=λ_ _ _ H _ I h=>Calls.Constant_str ⟨.str x,H,I.tok _,⟨_,rfl⟩,h⟩
def Gl(X:Cx)(x:Str):Prop:=X.env.kindOf x=some .globalImplicit
theorem mY{E:X9->X8->Prop}{pins:List (X3×Obj)}{s:X8}{σ:St}{H:Hp}{x:Str}{u:X9}{pos:Pos}{Q:X9->X8->Prop}(I:Inv X pins σ H s)(hg:Gl X x)(hm:X.mg x=some u)(h:Q u s)
  (hd:(x == ("__debug__":Str))=false:=by decide):Yk (model X.prog X.w) X.A (eval (.Name x pos) X.env) Q E s :=
 Ip I.ok.kind hg (Calls.loadGlobal_global (by rw[I.ok.glob];exact I.mod.glob.keeps I.bk) hm h) hd
theorem f_{E:X9->X8->Prop}{pins:List (X3×Obj)}{s:X8}{σ:St}{H:Hp}{x:Str}{u:X9}{pos:Pos}{Q:X9->X8->Prop}(I:Inv X pins σ H s)(hg:Gl X x)(hm:X.mg x=none)(hv:Yb x=some u)(h:Q u s)
  (hn:x≠"__name__":=by decide)(hd:(x == ("__debug__":Str))=false:=by decide):Yk (model X.prog X.w) X.A (eval (.Name x pos) X.env) Q E s:=by
 obtain⟨mb,h1,h2⟩:=I.mod.blt
 exact Ip I.ok.kind hg (Calls.loadGlobal_builtin (by rw[I.ok.glob];exact I.mod.glob.keeps I.bk) hm (by rw[I.ok.blt];exact h1.keeps I.bk) ((h2 x hn).trans hv) h) hd
theorem e_{x:Str}{v:V}{u:X9}{pos:Pos}(hg:Gl X x)(hm:X.mg x=some u)(r:RelV v u)(hd:(x == ("__debug__":Str))=false:=by decide):PE X (.Name x pos) (tC v) :=
 λ_ _ _ H _ I h=>mY I hg hm ⟨v,H,I,r,h⟩ hd
theorem D9{x:Str}{v:V}{u:X9}{pos:Pos}(hg:Gl X x)(hm:X.mg x=none)(hv:Yb x=some u)(r:RelV v u)(hn:x≠"__name__":=by decide)(hd:(x == ("__debug__":Str))=false:=by decide):PE X (.Name x pos) (tC v) :=
 λ_ _ _ H _ I h=>f_ I hg hm hv ⟨v,H,I,r,h⟩ hn hd
variable {a b:Expr} {ta tb:TE} {pos:Pos}
def PC(X:Cx)(op:CmpOp)(a b:Expr)(t:TE):Prop :=
 ∀(pins:List (X3×Obj))(s:X8)(σ:St)(H:Hp)(Q:VK),Inv X pins σ H s->t σ H Q->
  Yk (model X.prog X.w) X.A (eval a X.env) (λv s₁=>Yk (model X.prog X.w) X.A (eval b X.env) (λu s₂=>Yk (model X.prog X.w) X.A (Ye op v u) (EP X pins σ Q) X.xe s₂) X.xe s₁) X.xe s
def tB(t:TE):TT:=λσ H Q=>t σ H λx H1=>∃c,x= .bl c/\Q c H1
theorem zZ{op:CmpOp}{t:TE}(h:PC X op a b t)(h1:X' op b=false:=by first | exact z_ _ (by decide) (by decide) | rfl):PE X (.Compare a [op] [b] pos) t:=λpins s σ H Q I hw=>wpAny_Compare1 (h pins s σ H Q I hw) h1
theorem Aa{op:CmpOp}{t:TE}(h:PC X op a b t)(h1:X' op b=false:=by first | exact z_ _ (by decide) (by decide) | rfl):PT X (.Compare a [op] [b] pos) (tB t):=by
 intro pins s σ H Q I hw
 refine wpAny_isTrue_Compare1 (aY (h pins s σ H _ I hw) λv s1 h1=>aY h1 λu s2 h2=>aY h2 λc s3 ⟨x,H1,I1,r1,q1⟩=>?_) h1
 obtain⟨d,rfl,q⟩:=q1
 cases r1
 exact Yr ⟨H1,I1,q⟩
variable {tA O8:TT} {rest:List Expr}
def Qi(t u:TT):TT:=λσ H Q=>t σ H λc H1=>if c=true then u σ H1 Q else Q false H1
def U0(t u:TT):TT:=λσ H Q=>t σ H λc H1=>if c=true then Q true H1 else u σ H1 Q
def Qj(t:TT):TT:=λσ H Q=>t σ H λc H1=>Q (!c) H1
theorem D_(ha:PT X a tA):PW X (.BoolOp .And [a] pos) tA:=by
 intro wh pins s σ H Q I h
 refine isTrue_and (aY (ha pins s σ H Q I h) λc s1 e=>?_)
 cases c with
 | true=>exact isTrue_and_nil e
 | false=>exact e
theorem Iq(ha:PT X a tA):PW X (.BoolOp .Or [a] pos) tA:=by
 intro wh pins s σ H Q I h
 refine isTrue_or (aY (ha pins s σ H Q I h) λc s1 e=>?_)
 cases c with
 | false=>exact isTrue_or_nil e
 | true=>exact e
theorem Ir(ha:PT X a tA)(hb:PW X (.BoolOp .And (b::rest) pos) O8):PW X (.BoolOp .And (a::b::rest) pos) (Qi tA O8):=by
 intro wh pins s σ H Q I h
 refine isTrue_and (aY (ha pins s σ H _ I h) λc s1 ⟨H1,I1,q1⟩=>?_)
 cases c with
 | true=>exact hb wh pins s1 σ H1 Q I1 q1
 | false=>exact⟨H1,I1,q1⟩
theorem MC(ha:PT X a tA)(hb:PW X (.BoolOp .Or (b::rest) pos) O8):PW X (.BoolOp .Or (a::b::rest) pos) (U0 tA O8):=by
 intro wh pins s σ H Q I h
 refine isTrue_or (aY (ha pins s σ H _ I h) λc s1 ⟨H1,I1,q1⟩=>?_)
 cases c with
 | true=>exact⟨H1,I1,q1⟩
 | false=>exact hb wh pins s1 σ H1 Q I1 q1
theorem Iu(ha:PT X a tA):PT X (.UnaryOp .Not a pos) (Qj tA):=by
 intro pins s σ H Q I h
 exact isTrue_not (ha pins s σ H (λc H1=>Q (!c) H1) I h)
def MD(ta tb:TE):TE:=λσ H Q=>ta σ H λx H1=>∃c,x= .bl c/\if c=true then tb σ H1 Q else Q (.bl false) H1
def Qk(ta tb:TE):TE:=λσ H Q=>ta σ H λx H1=>∃c,x= .bl c/\if c=true then Q (.bl true) H1 else tb σ H1 Q
def ME(ta:TE):TE:=λσ H Q=>ta σ H λx H1=>∃c,x= .bl c/\Q (.bl (!c)) H1
theorem Iv{op}{t:TE}(h:PE X a t):PE X (.BoolOp op [a] pos) t:=λpins s σ H Q I hw=>BoolOp_one (h pins s σ H Q I hw)
theorem Iw(ha:PE X a ta)(hb:PE X (.BoolOp .And (b::rest) pos) tb):PE X (.BoolOp .And (a::b::rest) pos) (MD ta tb):=by
 intro pins s σ H Q I h
 refine BoolOp_and (aY (ha pins s σ H _ I h) λv s1 ⟨x,H1,I1,r1,q1⟩=>?_)
 obtain⟨c,rfl,q1⟩:=q1
 cases r1
 refine Yr ?_
 cases c with
 | true=>exact hb pins s1 σ H1 Q I1 q1
 | false=>exact⟨.bl false,H1,I1,rfl,q1⟩
theorem MF(ha:PE X a ta)(hb:PE X (.BoolOp .Or (b::rest) pos) tb):PE X (.BoolOp .Or (a::b::rest) pos) (Qk ta tb):=by
 intro pins s σ H Q I h
 refine BoolOp_or (aY (ha pins s σ H _ I h) λv s1 ⟨x,H1,I1,r1,q1⟩=>?_)
 obtain⟨c,rfl,q1⟩:=q1
 cases r1
 refine Yr ?_
 cases c with
 | false=>exact hb pins s1 σ H1 Q I1 q1
 | true=>exact⟨.bl true,H1,I1,rfl,q1⟩
theorem Iy(ha:PE X a ta):PE X (.UnaryOp .Not a pos) (ME ta):=by
 intro pins s σ H Q I h
 refine UnaryOp_ (aY (ha pins s σ H _ I h) λv s1 ⟨x,H1,I1,r1,q1⟩=>?_)
 obtain⟨c,rfl,q1⟩:=q1
 cases r1
 exact not_of (Yr ⟨.bl (!c),H1,I1,rfl,q1⟩)
def U1(t:TT)(ta tb:TE):TE:=λσ H Q=>t σ H λc H1=>if c=true then ta σ H1 Q else tb σ H1 Q
theorem Ab{c:Expr}(hc:PT X c tA)(ha:PE X a ta)(hb:PE X b tb):PE X (.IfExp c a b pos) (U1 tA ta tb):=by
 intro pins s σ H Q I h
 refine wpAny_IfExp (aY (hc pins s σ H _ I h) λd s1 ⟨H1,I1,q1⟩=>?_)
 cases d with
 | true=>exact ha pins s1 σ H1 Q I1 q1
 | false=>exact hb pins s1 σ H1 Q I1 q1
end
def iu(K:PySem.W.Frag)(H:Hp)(a:X3)(xs:List V):Prop :=
 Rd H a (.lst xs)\/
  ∃(o:Obj)(its:Array X9)(n:Nat),K.lookup a=some o/\o.cls= .type "list"/\o.dict=none/\o.data= .seq its n/\its.size<=Yi/\Vals xs its.toList
def cU(K:PySem.W.Frag)(H:Hp)(a:X3)(xs:List V):Prop :=
 Rd H a (.tup xs)\/
  ∃(o:Obj)(its:Array X9)(n:Nat),K.lookup a=some o/\o.cls= .type "tuple"/\o.data= .seq its n/\its.size<=Yi/\Vals xs its.toList
def Ql:X9->Option V
 | .none=>some .aR
 | .bool b=>some (.bl b)
 | .int i _=>some (.int i)
 | .str x _=>some (.str x)
 | .bytes b _=>some (.L9 b)
 | .float b _=>some (.O4 b)
 | .ref a=>some (.ref a)
 | .type n=>some (.ty n)
 | _=>none
theorem RelV.abs{x:V}{u:X9}(r:RelV x u):Ql u=some x:=by
 cases x with
 | aR=>cases r;rfl
 | bl _=>cases r;rfl
 | int _=>obtain⟨t,rfl⟩:=r;rfl
 | str _=>obtain⟨t,rfl⟩:=r;rfl
 | L9 _=>obtain⟨t,rfl⟩:=r;rfl
 | O4 _=>obtain⟨t,rfl⟩:=r;rfl
 | ref _=>cases r;rfl
 | ty _=>cases r;rfl
theorem RelV.inj{x y:V}{u:X9}(r:RelV x u)(q:RelV y u):x=y:=Option.some.inj (r.abs.symm.trans q.abs)
theorem Vals.inj:∀{xs ys:List V}{us:List X9},Vals xs us->Vals ys us->xs=ys
 | _,_,_,.nil,.nil=>rfl
 | _,_,_,.cons r t,.cons r' t'=>by rw[r.inj r',Vals.inj t t']
section
variable {X:Cx} {pins:List (X3×Obj)} {σ:St} {H:Hp} {s:X8} {a:X3} {xs ys:List V}
theorem iu.of{K:PySem.W.Frag}(h:H a=some (.lst xs)):iu K H a xs:=.inl (.inl h)
theorem cU.of{K:PySem.W.Frag}(h:H a=some (.tup xs)):cU K H a xs:=.inl (.inl h)
theorem Inv.list(I:Inv X pins σ H s)(h:iu X.K H a xs):∃its:List X9,Vals xs its/\PlainL s.heap a its.toArray/\xs.length<=Yi:=by
 rcases h with h | ⟨o,its,n,hk,hc,hd,hs,hz,r⟩
 ·obtain⟨z,its,n,r,e⟩:=h.ok I.hok
  exact⟨its,r,⟨_,n,e,rfl,rfl,rfl⟩,z⟩
 ·refine⟨its.toList,r,⟨o,n,I.uR a o hk,hc,hd,by simpa using hs⟩,?_⟩
  have e:=r.length
  simp only[Ac] at e
  omega
theorem Inv.tuple(I:Inv X pins σ H s)(h:cU X.K H a xs):∃its:List X9,Vals xs its/\IsTup s.heap a its.toArray/\xs.length<=Yi:=by
 rcases h with h | ⟨o,its,n,hk,hc,hs,hz,r⟩
 ·obtain⟨z,its,r,p,_⟩:=h.ok I.hok
  exact⟨its,r,p,z⟩
 ·refine⟨its.toList,r,⟨o,I.uR a o hk,hc,n,by simpa using hs⟩,?_⟩
  have e:=r.length
  simp only[Ac] at e
  omega
theorem Inv.nM(I:Inv X pins σ H s)(h:iu X.K H a xs)(h':iu X.K H a ys):xs=ys:=by
 obtain⟨its,r,⟨o,n,e,_,_,d⟩,_⟩:=I.list h
 obtain⟨its',r',⟨o',n',e',_,_,d'⟩,_⟩:=I.list h'
 rw[e] at e';cases e'
 rw[d] at d'
 injection d' with d1 _
 have:its=its':=by simpa using congrArg Array.toList d1
 subst this
 exact r.inj r'
theorem Inv.ya(I:Inv X pins σ H s)(h:cU X.K H a xs)(h':cU X.K H a ys):xs=ys:=by
 obtain⟨its,r,⟨o,e,_,n,d⟩,_⟩:=I.tuple h
 obtain⟨its',r',⟨o',e',_,n',d'⟩,_⟩:=I.tuple h'
 rw[e] at e';cases e'
 rw[d] at d'
 injection d' with d1 _
 have:its=its':=by simpa using congrArg Array.toList d1
 subst this
 exact r.inj r'
end
abbrev Cx.Qm(X:Cx)(E:X9->X8->Prop):Cx:={ X with xe:=E }
abbrev Cx.kL(X:Cx):Cx:=X.Qm λ_ _=>False
section
variable {X:Cx} {pins:List (X3×Obj)} {σ:St} {H:Hp} {s:X8} {E:X9->X8->Prop}
end
section
variable {X:Cx} {st:Stmt} {rest:List Stmt} {t u:TS} {e:Expr} {te:TE} {pos:Pos}
def GQ:TS:=λD σ H=>D.nx σ H
def Qn(t u:TS):TS:=λD σ H=>t { D with nx:=u D } σ H
theorem Ea:zY X [] GQ:=λ_ _ σ H _ I h=>wpAny_execs_nil ⟨σ,H,I,h⟩
theorem Ad(h1:PS X st t)(h2:zY X rest u):zY X (st::rest) (Qn t u):=by
 intro pins s σ H D I h
 refine wpAny_execs_cons (aY (h1 pins s σ H { D with nx:=u D } I h) λf s1 q=>?_)
 cases f with
 | next=>
  obtain⟨σ',H',I',q⟩:=q
  exact h2 pins s1 σ' H' D I' q
 | ret v=>exact q
 | brk=>exact q
 | cont=>exact q
theorem Eb(h1:PS X st t):zY X [st] t:=by
 intro pins s σ H D I h
 refine wpAny_execs_cons (aY (h1 pins s σ H D I h) λf s1 q=>?_)
 cases f with
 | next=>exact wpAny_execs_nil q
 | ret v=>exact q
 | brk=>exact q
 | cont=>exact q
theorem Ec:PS X (.Pass pos) GQ:=λ_ _ σ H _ I h=>wpAny_Pass ⟨σ,H,I,h⟩
theorem Inv.quiet{pins:List (X3×Obj)}{σ:St}{H:Hp}{s:X8}(I:Inv X pins σ H s):interactive X.env=false:=by simp[interactive,I.ok.kind]
def MG(te:TE):TS:=λD σ H=>te σ H λ_ H1=>D.nx σ H1
theorem Ed(he:PE X e te)(hs:swapsWith e none pos.line X.env=pure false:=by rfl):PS X (.Expr e pos) (MG te):=by
 intro pins s σ H D I h
 exact wpAny_Expr_any (aY (he pins s σ H _ I h) λv s1 ⟨x,H1,I1,r1,q1⟩=>⟨σ,H1,I1,q1⟩) I.quiet hs
def Qo(te:TE):TS:=λD σ H=>te σ H D.rt
theorem Iz(he:PE X e te):PS X (.Return (some e) pos) (Qo te):=by
 intro pins s σ H D I h
 exact wpAny_Return_some (aY (he pins s σ H _ I h) λv s1 ⟨x,H1,I1,r1,q1⟩=>⟨x,σ,H1,I1,r1,q1⟩)
def MH:TS:=λD _ H=>D.rt .aR H
theorem Ee:PS X (.Return none pos) MH:=λ_ _ σ H _ I h=>wpAny_Return_none ⟨.aR,σ,H,I,rfl,h⟩
def Qp(c:TT)(t u:TS):TS:=λD σ H=>c σ H λb H1=>if b=true then t D σ H1 else u D σ H1
theorem MI{c:Expr}{a b:List Stmt}{tc:TT}(hc:PT X c tc)(ha:zY X a t)(hb:zY X b u):PS X (.If c a b pos) (Qp tc t u):=by
 intro pins s σ H D I h
 refine wpAny_If (aY (hc pins s σ H _ I h) λd s1 ⟨H1,I1,q1⟩=>?_)
 cases d with
 | true=>exact ha pins s1 σ H1 D I1 q1
 | false=>exact hb pins s1 σ H1 D I1 q1
def Ae:TS:=λ_ _ _=>False
theorem Af:PS X st Ae:=λ_ _ _ _ _ _ h=>h.elim
theorem yb{sts:List Stmt}:zY X sts Ae:=λ_ _ _ _ _ _ h=>h.elim
end
abbrev TG:=V->St->Hp->(St->Hp->Prop)->Prop
abbrev GR:=List V->St->Hp->(St->Hp->Prop)->Prop
def PG(X:Cx)(target:Expr)(t:TG):Prop :=
 ∀(pins:List (X3×Obj))(s:X8)(σ:St)(H:Hp)(v:V)(u:X9)(Q:St->Hp->Prop),Inv X pins σ H s->RelV v u->t v σ H Q->
  Yk (model X.prog X.w) X.A (assign target X.env u) (λ_ s'=>∃σ' H',Inv X pins σ' H' s'/\Q σ' H') X.xe s
def MJ(X:Cx)(ts:List Expr)(t:GR):Prop :=
 ∀(pins:List (X3×Obj))(s:X8)(σ:St)(H:Hp)(vs:List V)(us:List X9)(Q:St->Hp->Prop),Inv X pins σ H s->Vals vs us->t vs σ H Q->
  Yk (model X.prog X.w) X.A (assignInOrder ((assignEach ts X.env).map (·.2)) us) (λ_ s'=>∃σ' H',Inv X pins σ' H' s'/\Q σ' H') X.xe s
abbrev IA:=V->V->V->Hp->(Hp->Prop)->Prop
def MK(X:Cx)(t:IA):Prop :=
 ∀(pins:List (X3×Obj))(s:X8)(σ:St)(H:Hp)(o i v:V)(ov iv u:X9)(Q:Hp->Prop),Inv X pins σ H s->RelV o ov->RelV i iv->RelV v u->t o i v H Q->
  Yk (model X.prog X.w) X.A (setItem ov iv u) (λ_ s'=>∃H',Inv X pins σ H' s'/\Q H') X.xe s
section
variable {X:Cx} {pos:Pos}
def sM(i:Nat):TG:=λv σ H Q=>Q (σ.set i (some v)) H
theorem kM{i:Nat}{x:Str}(hN:X.N.Nodup)(hi:X.N[i]? =some x)(hx:Loc X.env.scope x)(hf:X.fn x=true\/X.env.scope.names.lookup x=some .local:=by first | exact .inl rfl | exact .inr rfl | assumption):PG X (.Name x pos) (sM i):=by
 intro pins s σ H v u Q I r h
 exact wpAny_assign_Name (kK I hN hi hx r (λs' I'=>⟨_,H,I',h⟩) hf)
def aq:GR:=λvs σ H Q=>vs=[]/\Q σ H
def ae(t:TG)(u:GR):GR:=λvs σ H Q=>∃v r,vs=v::r/\t v σ H λσ' H'=>u r σ' H' Q
theorem Ef:MJ X [] aq:=by
 intro pins s σ H vs us Q I r h
 obtain⟨e,h⟩:=h
 subst e
 cases r
 exact assignInOrder_nil ⟨σ,H,I,h⟩
theorem Ag{e:Expr}{es:List Expr}{t:TG}{u:GR}(h1:PG X e t)(h2:MJ X es u)
  (hs:(assignEach (e::es) X.env).map (·.2)=assign e X.env::(assignEach es X.env).map (·.2):=by rfl):MJ X (e::es) (ae t u):=by
 intro pins s σ H vs us Q I r h
 obtain⟨v,vr,e1,h⟩:=h
 subst e1
 cases r with
 | cons r rr=>
  rw[hs]
  refine assignInOrder_cons (aY (h1 pins s σ H _ _ _ I r h) λ_ s1 ⟨σ1,H1,I1,q1⟩=>?_)
  exact h2 pins s1 σ1 H1 _ _ Q I1 rr q1
def cH(K:PySem.W.Frag)(n:Nat)(t:GR):TG:=λv σ H Q=>∃a xs,v= .ref a/\cU K H a xs/\xs.length=n/\t xs σ H Q
theorem qI{es:List Expr}{k:Nat}{t:GR}{n:Nat}(hc:X.calm=true)(h:MJ X es t)
  (hn:(assignEach es X.env).length=n:=by rfl)(hst:(assignEach es X.env).findIdx? (·.1)=none:=by rfl):PG X (.Tuple es k pos) (cH X.K n t):=by
 intro pins s σ H v u Q I r hw
 obtain⟨a,xs,e1,hq,hl,hw⟩:=hw
 subst e1
 cases r
 obtain⟨its,rv,ht,hz⟩:=I.tuple hq
 refine assign_Tuple_tuple (I.ok.hd hc) ht (by simp[hn,<-hl,rv.length]) hst λh' hx=>?_
 have I1:Inv X pins σ H { s with heap:=h' }:=I.kept (t':=s.toks) λb o e=>hx b o (aP (aC e)) e
 exact h pins _ σ H xs _ Q I1 (by simpa using rv) hw
def Qq(to ti:TE)(t:IA):TG:=λv σ H Q=>to σ H λo H1=>ti σ H1 λi H2=>t o i v H2 λH3=>Q σ H3
theorem IB{o i:Expr}{to ti:TE}{t:IA}(ho:PE X o to)(hi:PE X i ti)(hs:MK X t)
  (ha:∀v,assign (.Subscript o i pos) X.env v=(do
   let ov <-holding [v] (eval o X.env)
   let iv <-holding [v,ov] (eval i X.env)
   standAt pos
   holding [v,ov,iv] (setItem ov iv v)
   release [v,ov,iv] []):=by intro _;rfl):PG X (.Subscript o i pos) (Qq to ti t):=by
 intro pins s σ H v u Q I r h
 rw[ha]
 refine Yl (Yn (aY (ho pins s σ H _ I h) λov s1 ⟨x,H1,I1,r1,q1⟩=>?_))
 refine Yl (Yn (aY (hi pins s1 σ H1 _ I1 q1) λiv s2 ⟨y,H2,I2,r2,q2⟩=>?_))
 refine Yl (wpAny_standAt (Yl (Yn (aY (hs pins s2 σ H2 x y v ov iv u _ I2 r1 r2 r q2) λ_ s3 ⟨H3,I3,q3⟩=>?_))))
 exact wpAny_release ⟨σ,H3,I3,q3⟩
def ML(te:TE)(g:TG):TS:=λD σ H=>te σ H λx H1=>g x σ H1 D.nx
theorem Ah{tg e:Expr}{te:TE}{g:TG}(he:PE X e te)(hg:PG X tg g)(hs:swapsWithSole [tg] e pos.line X.env=pure false:=by rfl)(hw:swappedStores [tg] e X.env=pure none:=by rfl)
  (h1:(assignEach [tg] X.env).map (·.2)=[assign tg X.env]:=by rfl):PS X (.Assign [tg] e pos) (ML te g):=by
 intro pins s σ H D I h
 refine wpAny_Assign_stores (aY (he pins s σ H _ I h) λv s1 ⟨x,H1,I1,r1,q1⟩=>?_) hs hw
 rw[h1]
 exact aY (hg pins s1 σ H1 x v _ I1 r1 q1) λ_ s2 q=>q
theorem IC{i:Nat}{x:Str}{e:Expr}{te:TE}{pos':Pos}(hN:X.N.Nodup)(hi:X.N[i]? =some x)(hx:Loc X.env.scope x)(he:PE X e te)(hs:swapsWith e (some (.Name x pos')) pos.line X.env=pure false:=by rfl)(hf:X.fn x=true\/X.env.scope.names.lookup x=some .local:=by first | exact .inl rfl | exact .inr rfl | assumption) :
  PS X (.Assign [.Name x pos'] e pos) (ML te (sM i)):=by
 intro pins s σ H D I h
 refine wpAny_Assign_Name (aY (he pins s σ H _ I h) λv s1 ⟨y,H1,I1,r1,q1⟩=>?_) hs
 exact kK I1 hN hi hx r1 (λs2 I2=>⟨_,H1,I2,q1⟩) hf
end
section
variable {X:Cx} {pos:Pos}
end
structure It where
 go:Nat->Hp->Prop
 sN:Nat->Hp->V->Hp->Prop
 stop:Nat->Hp->Prop
def fb(X:Cx)(pins:List (X3×Obj))(H:Hp)(b:X3):Prop :=
 H b=none/\b≠X.env.locals/\b∉X.fs/\(b∈X.ex\/X.s₀.heap.objs.size<=b)/\(∀x c,X.env.cells.lookup x=some c->c≠b)/\∀p∈X.pn++pins,p.1≠b
theorem Inv.sO{X:Cx}{pins:List (X3×Obj)}{σ:St}{H H':Hp}{s:X8}{b:X3}(I:Inv X pins σ H s)(hb:s.heap.objs.size<=b)(hn:H' b=none):fb X pins H' b:=by
 refine⟨hn,mZ (bj I.lt hb),I.Qf hb,.inr (bo I.sz hb),λx c e z=>?_,λp hp z=>?_⟩
 ·obtain⟨v,q⟩:=I.cell x c e
  exact absurd (bj q.lt (by rw[z];exact hb)) (c_ _)
 ·exact absurd (bj (aC (I.pin p hp).1) (by rw[z];exact hb)) (c_ _)
structure Turn(P:X7)(w:X_)(K:PySem.W.Frag)(tg:Expr)(J:It)(fp:List X3)(it:X3)(tn:Nat->Heap->Prop):Prop where
 mem:it∈fp
 obj:∀i h,tn i h->∀b∈fp,∃o,h.get? b=some o/\∀v,o.data≠.cell v
 keep:∀i h h',tn i h->(∀b∈fp,∀o,h.get? b=some o->h'.get? b=some o)->tn i h'
 item:∀(X:Cx),X.prog=P->X.w=w->X.K=K->X.calm=true->∀(i:Nat)(pins:List (X3×Obj))(s:X8)(σ:St)(H:Hp)(E:X9->X8->Prop),Inv X pins σ H s->(∀b∈fp,fb X pins H b)->tn i s.heap->J.go i H->
  Yk (model P w) X.A (pyNext (.ref it)) (λr s1=>∃u,r=some u/\
   Yk (model P w) X.A (letOwnedTupleGo tg (.ref it) u) (λ_ s2=>∃x H',Inv X pins σ H' s2/\RelV x u/\J.sN i H x H'/\tn (i+1) s2.heap/\∀b∈fp,H' b=none) E s1) E s
 done:∀(X:Cx),X.prog=P->X.w=w->X.K=K->X.calm=true->∀(i:Nat)(pins:List (X3×Obj))(s:X8)(σ:St)(H:Hp)(E:X9->X8->Prop),Inv X pins σ H s->(∀b∈fp,fb X pins H b)->tn i s.heap->J.stop i H->
  Yk (model P w) X.A (pyNext (.ref it)) (λr s1=>r=none/\Inv X pins σ H s1) E s
 self:∀(A:X4)(i:Nat)(s:X8)(Q:X9->X8->Prop)(E:X9->X8->Prop),tn i s.heap->Q (.ref it) s->Yk (model P w) A (pyIter (.ref it)) Q E s
abbrev TI:=St->Hp->(It->Hp->Prop)->Prop
def SY(X:Cx)(pins:List (X3×Obj))(σ:St)(tg:Expr)(R:It->Hp->Prop)(itv:X9)(s2:X8):Prop :=
 ∃(it:X3)(fp:List X3)(tn:Nat->Heap->Prop)(J:It)(H':Hp),itv= .ref it/\Inv X pins σ H' s2/\Turn X.prog X.w X.K tg J fp it tn/\tn 0 s2.heap/\(∀b∈fp,fb X pins H' b)/\R J H'
def PI(X:Cx)(tg iter:Expr)(wi:TI):Prop :=
 ∀(pins:List (X3×Obj))(s:X8)(σ:St)(H:Hp)(R:It->Hp->Prop),Inv X pins σ H s->wi σ H R->
  Yk (model X.prog X.w) X.A (eval iter X.env) (λv s1=>Yk (model X.prog X.w) X.A (pyIter v) (SY X pins σ tg R) X.xe s1) X.xe s
theorem pM{M:Model}{A:X4}{E:X9->X8->Prop}{s:X8}{tg:Expr}{it:X3}{u:X9}{o:Obj}{n:String}{vs:Array X9}{Q:Unit->X8->Prop}(ho:s.heap.get? it=some o)(hc:o.cls= .type n)(hd:o.data= .fields vs)
    (hn:["enumerate","zip","dict_itemiterator","dict_reverseitemiterator","odict_iterator","itertools.zip_longest","itertools.pairwise"].contains n=false)(hQ:Q () s):Yk M A (letOwnedTupleGo tg (.ref it) u) Q E s:=by
  unfold letOwnedTupleGo
  cases tg<;>first
    | exact Yq hQ
    | (cases u<;>first
        | exact Yq hQ
        | (refine Yl (wpAny_load ho ?_)
           rw[hc,hd]
           show Yk M A (if(["enumerate","zip","dict_itemiterator","dict_reverseitemiterator","odict_iterator","itertools.zip_longest","itertools.pairwise"].contains n&&vs[0]? == some (rawInt _))=true then _ else _) Q E s
           rw[if_neg (by intro h;rw[hn,wk] at h;cases h)]
           exact Yq hQ))
def Qr(K:PySem.W.Frag)(a:X3):It :=
 ⟨λi H=>∃xs x,iu K H a xs/\xs[i]? =some x,λi H x H'=>H'=H/\∀xs,iu K H a xs->xs[i]? =some x,λi H=>∃xs,iu K H a xs/\xs.length<=i⟩
def S0(K:PySem.W.Frag)(a:X3):It :=
 ⟨λi H=>∃xs x,cU K H a xs/\xs[i]? =some x,λi H x H'=>H'=H/\∀xs,cU K H a xs->xs[i]? =some x,λi H=>∃xs,cU K H a xs/\xs.length<=i⟩
def GU(lo:Int)(n:Nat):It:=⟨λi _=>i < n,λi H x H'=>H'=H/\x= .int (lo+i),λi _=>n<=i⟩
theorem pN{P:X7}{w:X_}{K:PySem.W.Frag}{tg:Expr}(a it:X3):Turn P w K tg (Qr K a) [it] it (λi h=>h.IsListIter it a i) where
 mem:=by simp
 obj:=λi h st b hb=>by
  have e:b=it:=by simpa using hb
  subst e
  obtain⟨o,e,c,d⟩:=st
  exact⟨o,e,λv z=>by rw[d] at z;cases z⟩
 keep:=λi h h' st k=>st.at λo e=>k it (by simp) o e
 item:=by
  intro X hP hw hK hc i pins s σ H E I hf st hg
  subst hP hw hK
  obtain⟨xs,x,hq,hx⟩:=hg
  obtain⟨its,rv,p,hz⟩:=I.list hq
  obtain⟨u,hu,ru⟩:=rv.get hx
  obtain⟨f0,f1,f2,f3,f4,f5⟩:=hf it (by simp)
  refine wpAny_pyNext_list_item st p.isList (x:=u) (by simpa using hu) λh' st' sb=>?_
  have I1:Inv X pins σ H { s with heap:=h' }:=I.turned (t':=s.toks) (λb o hb e=>(sb.2 b hb).trans e) f0 f1 f3 f4 f5
  obtain⟨o,e,c,d⟩:=id st'
  exact⟨u,rfl,pM (s:={ s with heap:=h' }) e c d (by decide) ⟨x,H,I1,ru,⟨rfl,λys hy=>by rw[I.nM hy hq];exact hx⟩,st',λb hb=>(hf b hb).1⟩⟩
 done:=by
  intro X hP hw hK hc i pins s σ H E I hf st hg
  subst hP hw hK
  obtain⟨xs,hq,hx⟩:=hg
  obtain⟨its,rv,p,hz⟩:=I.list hq
  obtain⟨f0,f1,f2,f3,f4,f5⟩:=hf it (by simp)
  have hl:=rv.length
  exact wpAny_pyNext_list_end (I.ok.hd hc) st p.isList (by simp;omega) λh' eb=>⟨rfl,I.turned (t':=s.toks) (λb o hb e=>eb b o hb e) f0 f1 f3 f4 f5⟩
 self:=λ_ _ _ _ _ st h=>wpAny_pyIter_listiter st h
theorem uS{P:X7}{w:X_}{K:PySem.W.Frag}{tg:Expr}(a it:X3):Turn P w K tg (S0 K a) [it] it (λi h=>h.IsTupleIter it a i) where
 mem:=by simp
 obj:=λi h st b hb=>by
  have e:b=it:=by simpa using hb
  subst e
  obtain⟨o,e,c,d⟩:=st
  exact⟨o,e,λv z=>by rw[d] at z;cases z⟩
 keep:=λi h h' st k=>st.at λo e=>k it (by simp) o e
 item:=by
  intro X hP hw hK hc i pins s σ H E I hf st hg
  subst hP hw hK
  obtain⟨xs,x,hq,hx⟩:=hg
  obtain⟨its,rv,p,hz⟩:=I.tuple hq
  obtain⟨u,hu,ru⟩:=rv.get hx
  obtain⟨f0,f1,f2,f3,f4,f5⟩:=hf it (by simp)
  refine wpAny_pyNext_tuple_item st (show s.heap.IsTuple a its.toArray from p) (x:=u) (by simpa using hu) λh' st' sb=>?_
  have I1:Inv X pins σ H { s with heap:=h' }:=I.turned (t':=s.toks) (λb o hb e=>(sb.2 b hb).trans e) f0 f1 f3 f4 f5
  obtain⟨o,e,c,d⟩:=id st'
  exact⟨u,rfl,pM (s:={ s with heap:=h' }) e c d (by decide) ⟨x,H,I1,ru,⟨rfl,λys hy=>by rw[I.ya hy hq];exact hx⟩,st',λb hb=>(hf b hb).1⟩⟩
 done:=by
  intro X hP hw hK hc i pins s σ H E I hf st hg
  subst hP hw hK
  obtain⟨xs,hq,hx⟩:=hg
  obtain⟨its,rv,p,hz⟩:=I.tuple hq
  obtain⟨f0,f1,f2,f3,f4,f5⟩:=hf it (by simp)
  have hl:=rv.length
  exact wpAny_pyNext_tuple_end (I.ok.hd hc) st (show s.heap.IsTuple a its.toArray from p) (by simp;omega) λh' eb=>⟨rfl,I.turned (t':=s.toks) (λb o hb e=>eb b o hb e) f0 f1 f3 f4 f5⟩
 self:=λ_ _ _ _ _ st h=>wpAny_pyIter_tupleiter st h
theorem uT{P:X7}{w:X_}{K:PySem.W.Frag}{tg:Expr}(it:X3)(lo:Int)(n:Nat):Turn P w K tg (GU lo n) [it] it (λi h=>IsRangeIter h it (lo+(i:Nat) * 1) ((n:Int) - (i:Nat)) 1) where
 mem:=by simp
 obj:=λi h st b hb=>by
  have e:b=it:=by simpa using hb
  subst e
  exact⟨_,st,λv z=>by
   have z':Data.fields _=Data.cell v:=z
   cases z'⟩
 keep:=λi h h' st k=>k it (by simp) _ st
 item:=by
  intro X hP hw hK hc i pins s σ H E I hf st hg
  subst hP hw hK
  obtain⟨f0,f1,f2,f3,f4,f5⟩:=hf it (by simp)
  have W:=Walks.range (prog:=X.prog) (w:=X.w) (I.ok.hd hc) it lo 1 n
  refine W.item i s _ _ hg st λv h' tk hv st' kk=>?_
  obtain⟨t,rfl⟩:=hv
  have I1:Inv X pins σ H { s with heap:=h',toks:=tk }:=I.turned (λb o hb e=>kk b o (by simpa using hb) e) f0 f1 f3 f4 f5
  refine⟨_,rfl,pM (s:={ s with heap:=h',toks:=tk }) (n:="range_iterator") st' rfl rfl (by decide) ⟨.int (lo+i),H,I1,⟨t,?_⟩,⟨rfl,rfl⟩,st',λb hb=>(hf b hb).1⟩⟩
  rw[Int.mul_one]
 done:=by
  intro X hP hw hK hc i pins s σ H E I hf st hg
  subst hP hw hK
  obtain⟨f0,f1,f2,f3,f4,f5⟩:=hf it (by simp)
  exact wpAny_pyNext_range_end (I.ok.hd hc) st (by have:n<=i:=hg;omega) λh' eb=>⟨rfl,I.turned (t':=s.toks) (λb o hb e=>eb b o hb e) f0 f1 f3 f4 f5⟩
 self:=λ_ _ _ _ _ st h=>wpAny_pyIter_rangeiter st h
section
variable {X:Cx} {tg:Expr}
def MM(K:PySem.W.Frag)(tl:TE):TI:=λσ H R=>tl σ H λx H1=>∃a,x= .ref a/\(∃xs,iu K H1 a xs)/\R (Qr K a) H1
theorem Eg{l:Expr}{tl:TE}(hl:PE X l tl):PI X tg l (MM X.K tl):=by
 intro pins s σ H R I h
 refine aY (hl pins s σ H _ I h) λv s1 ⟨x,H1,I1,r1,q1⟩=>?_
 obtain⟨a,e,⟨xs,hq⟩,q⟩:=q1
 subst e
 cases r1
 obtain⟨its,rv,p,hz⟩:=I1.list hq
 refine wpAny_pyIter_list p.isList ?_
 refine⟨s1.heap.objs.size,[s1.heap.objs.size],_,_,H1,rfl,I1.kept (t':=s1.toks) λb o e=>aQ _ e,pN a _,⟨_,aX _ rfl,rfl,rfl⟩,λb hb=>?_,q⟩
 have e:b=s1.heap.objs.size:=by simpa using hb
 subst e
 exact I1.sO (ao _) (I1.hok.fresh (ao _))
theorem sP{pins:List (X3×Obj)}{σ:St}{H:Hp}{s:X8}{R:It->Hp->Prop}{E:X9->X8->Prop}{lo hi:Int}{t u v:Tok}{tk:Nat}(I:Inv X pins σ H s)(h1:-(2 ^ 62)<=lo)(h2:lo < 2 ^ 62)(h3:-(2 ^ 62)<=hi)(h4:hi < 2 ^ 62)
  (q:R (GU lo (hi - lo).toNat) H):Yk (model X.prog X.w) X.A (pyIter (.ref s.heap.objs.size)) (SY X pins σ tg R) E { s with heap:=s.heap.push { cls:=.type "range",data:=.fields #[.int lo t,.int hi u,.int 1 v] },toks:=tk }:=by
 refine wpAny_pyIter_range (IsRange.new ..) (small_one h1 h2 h3 h4) ?_
 have I1:Inv X pins σ H { s with heap:=s.heap.push { cls:=.type "range",data:=.fields #[.int lo t,.int hi u,.int 1 v] },toks:=tk }:=I.kept λb o e=>aQ _ e
 refine⟨(s.heap.push { cls:=.type "range",data:=.fields #[.int lo t,.int hi u,.int 1 v] }).objs.size,[(s.heap.push { cls:=.type "range",data:=.fields #[.int lo t,.int hi u,.int 1 v] }).objs.size],_,_,H,rfl,
  I1.kept (t':=tk) λb o e=>aQ _ e,uT _ lo (hi - lo).toNat,?_,λb hb=>?_,q⟩
 ·have e1:lo+((0:Nat):Int) * 1=lo:=by simp
  have e2:(((hi - lo).toNat:Nat):Int) - ((0:Nat):Int)=qJ lo hi 1:=by rw[rangeSize_one];split<;>omega
  show IsRangeIter _ _ (lo+((0:Nat):Int) * 1) ((((hi - lo).toNat:Nat):Int) - ((0:Nat):Int)) 1
  rw[e1,e2]
  exact aX _ rfl
 ·have e:b=(s.heap.push { cls:=.type "range",data:=.fields #[.int lo t,.int hi u,.int 1 v] }).objs.size:=by simpa using hb
  subst e
  exact I1.sO (ao _) (I1.hok.fresh (ao _))
def MN(ta:TA):TI:=λσ H R=>ta σ H λvs H1=>∃j:Int,vs=[.int j]/\-(2 ^ 62)<=j/\j < 2 ^ 62/\R (GU 0 j.toNat) H1
def MO(ta:TA):TI:=λσ H R=>ta σ H λvs H1=>∃i j:Int,vs=[.int i,.int j]/\(-(2 ^ 62)<=i/\i < 2 ^ 62/\-(2 ^ 62)<=j/\j < 2 ^ 62)/\R (GU i (j - i).toNat) H1
theorem pO{a:Expr}{ta:TA}{p pos:Pos}(hg:Gl X "range")(hm:X.mg "range"=none)(ha:PA X [a] ta)(hs:Yj [a] X.env=[(false,eval a X.env)]:=by rfl):PI X tg (.Call (.Name "range" p) [a] [] pos) (MN ta):=by
 intro pins s σ H R I h
 refine Call_ (f_ I hg hm boot_range (jz (aY (ha pos pins s σ H _ I h) λus s1 ⟨vs,H1,I1,r1,q1⟩=>?_) hs rfl))
 obtain⟨j,e,q1,q2,q⟩:=q1
 subst e
 cases r1 with
 | cons r rr=>
  cases rr
  obtain⟨t,rfl⟩:=r
  exact call_range_1 (sP I1 (by omega) (by omega) q1 q2 (by simpa using q))
theorem pP{a b:Expr}{ta:TA}{p pos:Pos}(hg:Gl X "range")(hm:X.mg "range"=none)(ha:PA X [a,b] ta)(hs:Yj [a,b] X.env=[(false,eval a X.env),(false,eval b X.env)]:=by rfl)(hs2:Yj [b] X.env=[(false,eval b X.env)]:=by rfl) :
  PI X tg (.Call (.Name "range" p) [a,b] [] pos) (MO ta):=by
 intro pins s σ H R I h
 refine Call_ (f_ I hg hm boot_range (jz (aY (ha pos pins s σ H _ I h) λus s1 ⟨vs,H1,I1,r1,q1⟩=>?_) (by rw[hs,hs2]) (by rw[hs2];rfl)))
 obtain⟨i,j,e,⟨q1,q2,q3,q4⟩,q⟩:=q1
 subst e
 cases r1 with
 | cons r rr=>
  cases rr with
  | cons r' rr=>
   cases rr
   obtain⟨t,rfl⟩:=r
   obtain⟨t',rfl⟩:=r'
   exact call_range_2 (sP I1 q1 q2 q3 q4 q)
def Qs(wi:TI)(g:TG)(tb:TS):TS:=λD σ H=>wi σ H λJ H1=>∃W:Nat->Nat->St->Hp->Prop,(∃m,W 0 m σ H1)/\∀i m σ H,W i m σ H->
 (J.stop i H/\D.nx σ H)\/(J.go i H/\∃N:St->Hp->Prop,(∀σ' H',N σ' H'->∃m',m' < m/\W (i+1) m' σ' H')/\∀x H',J.sN i H x H'->g x σ H' λσ2 H2=>tb { D with nx:=N,ct:=N,bk:=D.nx } σ2 H2)
def fm(fp:List X3)(h:Heap):List (X3×Obj):=fp.filterMap λb=>(h.get? b).map λo=>(b,o)
theorem gT{fp:List X3}{h:Heap}{b:X3}{o:Obj}(hb:b∈fp)(e:h.get? b=some o):(b,o)∈fm fp h:=List.mem_filterMap.mpr ⟨b,hb,by rw[e];rfl⟩
theorem yc{fp:List X3}{h:Heap}{p:X3×Obj}(hp:p∈fm fp h):p.1∈fp/\h.get? p.1=some p.2:=by
 obtain⟨b,hb,e⟩:=List.mem_filterMap.mp hp
 cases q:h.get? b with
 | none=>rw[q] at e;cases e
 | some o=>
  rw[q] at e
  have e':(b,o)=p:=Option.some.inj e
  subst e'
  exact⟨hb,q⟩
theorem Inv.pinned{pins:List (X3×Obj)}{σ:St}{H:Hp}{s:X8}{fp:List X3}(I:Inv X pins σ H s)(hf:∀b∈fp,fb X pins H b)(ho:∀b∈fp,∃o,s.heap.get? b=some o/\∀v,o.data≠.cell v):Inv X (pins++fm fp s.heap) σ H s :=
 I.wj λp hp=>(List.mem_append.mp hp).elim (λz=>I.pin p (fc _ z)) λz=>by
  obtain⟨hb,e⟩:=yc z
  obtain⟨f0,f1,f2,_⟩:=hf p.1 hb
  obtain⟨o,e',d⟩:=ho p.1 hb
  rw[e] at e';cases e'
  exact⟨e,f0,f1,f2,d⟩
theorem Inv.kN{pins pl:List (X3×Obj)}{σ:St}{H:Hp}{s:X8}(I:Inv X (pins++pl) σ H s):Inv X pins σ H s:=I.wj λp hp=>I.pin p (fc _ (kJ _ hp))
theorem jX{iter:Expr}{body:List Stmt}{wi:TI}{g:TG}{tb:TS}{pos:Pos}(hp:PassesOwn (model X.prog X.w) X.A X.env X.xe)(hc:X.calm=true)(hi:PI X tg iter wi)(hg:PG X tg g)(hb:zY X body tb)
  (hs:∀x,Yf iter X.env x=pure x:=by intro _;rfl):PS X (.For tg iter body [] pos) (Qs wi g tb):=by
 intro pins s σ H D I h
 refine wpAny_For (aY (hi pins s σ H _ I h) λv s1 h1=>aY h1 λitv s2 h2=>?_) hs
 obtain⟨it,fp,tn,J,H2,e,I2,T,st2,f2,W,⟨m0,w0⟩,turn⟩:=h2
 subst e
 -- what stays true of the ID objects through the loop
 have IE:∀{H':Hp},(∀b∈fp,H' b=none)->∀b∈fp,fb X pins H' b:=λhn b hb=>⟨hn b hb,(f2 b hb).2⟩
 refine codeAny_forLoop_any (λn s'=>∃i σ' H',Inv X pins σ' H' s'/\tn i s'.heap/\(∀b∈fp,H' b=none)/\W i n σ' H') ?_ m0 ⟨0,σ,H2,I2,st2,λb hb=>(f2 b hb).1,w0⟩
 rintro n s3 ⟨i,σ3,H3,I3,st3,S7,w3⟩
 rcases turn i n σ3 H3 w3 with ⟨stop,qn⟩ | ⟨go,N,hN,step⟩
 ·refine wpAny_passesOwn hp (aY (T.done X rfl rfl rfl hc i pins s3 σ3 H3 X.xe I3 (IE S7) st3 stop) λr s4 ⟨hr,I4⟩=>?_)
  subst hr
  exact wpAny_execs_nil ⟨σ3,H3,I4,qn⟩
 ·refine wpAny_passesOwn hp (aY (T.item X rfl rfl rfl hc i pins s3 σ3 H3 X.xe I3 (IE S7) st3 go) λr s4 ⟨u,hr,h4⟩=>?_)
  subst hr
  refine wpAny_passesOwn hp (aY h4 λ_ s5 ⟨x,H5,I5,r5,y5,Ai,O9⟩=>?_)
  have U2:=I5.pinned (IE O9) (T.obj _ _ Ai)
  refine wpAny_passesOwn hp (aY (hg _ s5 σ3 H5 x u _ U2 r5 (step x H5 y5)) λ_ s6 ⟨σ6,H6,I6,q6⟩=>?_)
  refine wpAny_passesOwn hp (aY (hb _ s6 σ6 H6 _ I6 q6) λf s7 q7=>?_)
  have again:∀{σ7:St}{H7:Hp},Inv X (pins++fm fp s5.heap) σ7 H7 s7->N σ7 H7->∃m,m < n/\∃i σ' H',Inv X pins σ' H' s7/\tn i s7.heap/\(∀b∈fp,H' b=none)/\W i m σ' H':=λ{σ7 H7} I7 n7=>by
   obtain⟨m',hm,w7⟩:=hN σ7 H7 n7
   refine⟨m',hm,i+1,σ7,H7,I7.kN,T.keep _ _ _ Ai λb hb o e=>(I7.pin (b,o) (fc _ (fc _ (gT hb e)))).1,λb hb=>?_,w7⟩
   obtain⟨o,e,d⟩:=T.obj _ _ Ai b hb
   exact(I7.pin (b,o) (fc _ (fc _ (gT hb e)))).2.1
  cases f with
  | next=>obtain⟨σ7,H7,I7,n7⟩:=q7;exact again I7 n7
  | cont=>obtain⟨σ7,H7,I7,n7⟩:=q7;exact again I7 n7
  | brk=>obtain⟨σ7,H7,I7,q7⟩:=q7;exact⟨σ7,H7,I7.kN,q7⟩
  | ret v=>obtain⟨x7,σ7,H7,I7,r7,q7⟩:=q7;exact⟨x7,σ7,H7,I7.kN,r7,q7⟩
end
abbrev R2:=V->V->Hp->VK->Prop
def dU(X:Cx)(f:X9->X9->Sem X9)(r:R2):Prop :=
 ∀(pins:List (X3×Obj))(s:X8)(σ:St)(H:Hp)(x y:V)(v u:X9)(Q:VK),Inv X pins σ H s->RelV x v->RelV y u->r x y H Q->
  Yk (model X.prog X.w) X.A (f v u) (EP X pins σ Q) X.xe s
def Qt(X:Cx)(f:X9->Sem X9)(r:V->Hp->VK->Prop):Prop :=
 ∀(pins:List (X3×Obj))(s:X8)(σ:St)(H:Hp)(x:V)(v:X9)(Q:VK),Inv X pins σ H s->RelV x v->r x H Q->
  Yk (model X.prog X.w) X.A (f v) (EP X pins σ Q) X.xe s
def cR(X:Cx)(f:X9)(r:List V->Hp->VK->Prop):Prop :=
 ∀(pins:List (X3×Obj))(s:X8)(σ:St)(H:Hp)(xs:List V)(us:List X9)(Q:VK),Inv X pins σ H s->Vals xs us->r xs H Q->
  Yk (model X.prog X.w) X.A (call f us) (EP X pins σ Q) X.xe s
def Qu(X:Cx)(r:V->Hp->(Bool->Hp->Prop)->Prop):Prop :=
 ∀(pins:List (X3×Obj))(s:X8)(σ:St)(H:Hp)(x:V)(v:X9)(Q:Bool->Hp->Prop),Inv X pins σ H s->RelV x v->r x H Q->
  Yk (model X.prog X.w) X.A (truthy v) (TP X pins σ Q) X.xe s
def MP(r:R2)(ta tb:TE):TE:=λσ H Q=>ta σ H λx H1=>tb σ H1 λy H2=>r x y H2 Q
def U3(r:V->Hp->VK->Prop)(ta:TE):TE:=λσ H Q=>ta σ H λx H1=>r x H1 Q
def rI(C:Int->Int->Prop)(g:Int->Int->V):R2:=λx y H Q=>∃i j,x= .int i/\y= .int j/\C i j/\Q (g i j) H
def GV(g:Int->Int->V):R2:=λx y H Q=>∃i j,x= .int i/\y= .int j/\Q (g i j) H
def rU(g:Int->V):V->Hp->VK->Prop:=λx H Q=>∃i,x= .int i/\Q (g i) H
section
variable {X:Cx} {a b c:Expr} {ta tb tc:TE} {pos:Pos}
theorem IF(ha:PE X a ta)(hb:PE X b tb){pins:List (X3×Obj)}{s:X8}{σ:St}{H:Hp}{R:V->V->Hp->Prop}(I:Inv X pins σ H s)
  (h:ta σ H λx H1=>tb σ H1 λy H2=>R x y H2){Q:X9->X8->Prop}{f:X9->X9->Sem X9}
  (hf:∀v u s2 x y H2,Inv X pins σ H2 s2->RelV x v->RelV y u->R x y H2->Yk (model X.prog X.w) X.A (f v u) Q X.xe s2) :
  Yk (model X.prog X.w) X.A (eval a X.env) (λv s₁=>Yk (model X.prog X.w) X.A (eval b X.env) (λu s₂=>Yk (model X.prog X.w) X.A (f v u) Q X.xe s₂) X.xe s₁) X.xe s:=by
 refine aY (ha pins s σ H _ I h) λv s1 ⟨x,H1,I1,r1,q1⟩=>?_
 refine aY (hb pins s1 σ H1 _ I1 q1) λu s2 ⟨y,H2,I2,r2,q2⟩=>?_
 exact hf v u s2 x y H2 I2 r1 r2 q2
theorem MQ{op:Operator}{r:R2}(ho:dU X (Ya op) r)(ha:PE X a ta)(hb:PE X b tb):PE X (.BinOp a op b pos) (MP r ta tb):=by
 intro pins s σ H Q I h
 exact wpAny_BinOp (IF ha hb I h λv u s2 x y H2 I2 rx ry q=>ho pins s2 σ H2 x y v u Q I2 rx ry q)
theorem MR{op:UnaryOp}{r:V->Hp->VK->Prop}(ho:Qt X (unaryOp op) r)(ha:PE X a ta):PE X (.UnaryOp op a pos) (U3 r ta):=by
 intro pins s σ H Q I h
 exact UnaryOp_ (aY (ha pins s σ H _ I h) λv s1 ⟨x,H1,I1,r1,q1⟩=>ho pins s1 σ H1 x v Q I1 r1 q1)
theorem O_{f:X9->X9->Sem X9}{C:Int->Int->Prop}{g:Int->Int->Int}
  (rule:∀(i j:Int)(t u:Tok)(s:X8)(Q:X9->X8->Prop)(E:X9->X8->Prop),C i j->Q (.int (g i j) s.toks) { s with toks:=s.toks+1 }->Yk (model X.prog X.w) X.A (f (.int i t) (.int j u)) Q E s) :
  dU X f (rI C λi j=> .int (g i j)):=by
 intro pins s σ H x y v u Q I rx ry h
 obtain⟨i,j,rfl,rfl,hc,q⟩:=h
 obtain⟨t,rfl⟩:=rx
 obtain⟨t',rfl⟩:=ry
 exact rule i j t t' s _ _ hc ⟨.int (g i j),H,I.tok _,⟨_,rfl⟩,q⟩
theorem MS{f:X9->X9->Sem X9}{g:Int->Int->Int}
  (rule:∀(i j:Int)(t u:Tok)(s:X8)(Q:X9->X8->Prop)(E:X9->X8->Prop),Q (.int (g i j) s.toks) { s with toks:=s.toks+1 }->Yk (model X.prog X.w) X.A (f (.int i t) (.int j u)) Q E s) :
  dU X f (GV λi j=> .int (g i j)):=by
 intro pins s σ H x y v u Q I rx ry h
 obtain⟨i,j,rfl,rfl,q⟩:=h
 obtain⟨t,rfl⟩:=rx
 obtain⟨t',rfl⟩:=ry
 exact rule i j t t' s _ _ ⟨.int (g i j),H,I.tok _,⟨_,rfl⟩,q⟩
theorem Eh{f:X9->X9->Sem X9}{g:Int->Int->Bool}
  (rule:∀(i j:Int)(t u:Tok)(s:X8)(Q:X9->X8->Prop)(E:X9->X8->Prop),Q (.bool (g i j)) s->Yk (model X.prog X.w) X.A (f (.int i t) (.int j u)) Q E s) :
  dU X f (GV λi j=> .bl (g i j)):=by
 intro pins s σ H x y v u Q I rx ry h
 obtain⟨i,j,rfl,rfl,q⟩:=h
 obtain⟨t,rfl⟩:=rx
 obtain⟨t',rfl⟩:=ry
 exact rule i j t t' s _ _ ⟨.bl (g i j),H,I,rfl,q⟩
def Qv(i j:Int):Prop:=0<=j/\j<=1000000/\i.natAbs < 2 ^ 64
theorem IG:dU X (Ya .Add) (GV λi j=> .int (i+j)):=MS λ_ _ _ _ _ _ _ q=>add_int q
theorem IH:dU X (Ya .Sub) (GV λi j=> .int (i - j)):=MS λ_ _ _ _ _ _ _ q=>sub_int q
theorem II:dU X (Ya .Pow) (rI Qv λi j=> .int (i ^ j.toNat)):=O_ λ_ _ _ _ _ _ _ hc q=>pow_int_small hc.1 hc.2.1 hc.2.2 q
theorem U4{f:X9->Sem X9}{g:Int->Int}
  (rule:∀(i:Int)(t:Tok)(s:X8)(Q:X9->X8->Prop)(E:X9->X8->Prop),Q (.int (g i) s.toks) { s with toks:=s.toks+1 }->Yk (model X.prog X.w) X.A (f (.int i t)) Q E s) :
  Qt X f (rU λi=> .int (g i)):=by
 intro pins s σ H x v Q I rx h
 obtain⟨i,rfl,q⟩:=h
 obtain⟨t,rfl⟩:=rx
 exact rule i t s _ _ ⟨.int (g i),H,I.tok _,⟨_,rfl⟩,q⟩
theorem IJ:Qt X (unaryOp .USub) (rU λi=> .int (-i)):=U4 λ_ _ _ _ _ q=>neg_int q
end
section
variable {X:Cx} {a b c:Expr} {ta tb tc:TE} {pos:Pos}
theorem qK{pins:List (X3×Obj)}{σ:St}{H:Hp}{s:X8}{Q:VK}{k k':Bool}(I:Inv X pins σ H s)(q:Q (.bl k) H)(e:k=k'):EP X pins σ Q (.bool k') s:=by
 subst e
 exact⟨.bl k,H,I,rfl,q⟩
theorem MT:dU X (Ye .Lt) (GV λi j=> .bl (decide (i < j))):=Eh λ_ _ _ _ _ _ _ q=>lt_int q
theorem MU:dU X (Ye .LtE) (GV λi j=> .bl (decide (i<=j))):=Eh λ_ _ _ _ _ _ _ q=>le_int q
theorem MV:dU X (Ye .Gt) (GV λi j=> .bl (decide (j < i))):=Eh λ_ _ _ _ _ _ _ q=>gt_int q
theorem MW:dU X (Ye .GtE) (GV λi j=> .bl (decide (j<=i))):=Eh λ_ _ _ _ _ _ _ q=>ge_int q
theorem yd:dU X (Ye .Lt) (λx y H Q=>∃i j,x= .str i/\y= .str j/\Q (.bl (decide (i.cps.toList < j.cps.toList))) H):=by
 intro pins s σ H x y v u Q I rx ry h
 obtain⟨i,j,rfl,rfl,q⟩:=h
 obtain⟨t,rfl⟩:=rx
 obtain⟨t',rfl⟩:=ry
 exact lt_str (qK I q rfl)
theorem ye:dU X (Ye .In) (λx y H Q=>∃i j,x= .str i/\y= .str j/\Q (.bl (!(uU j i 0 j.length 1).isEmpty)) H):=by
 intro pins s σ H x y v u Q I rx ry h
 obtain⟨i,j,rfl,rfl,q⟩:=h
 obtain⟨t,rfl⟩:=rx
 obtain⟨t',rfl⟩:=ry
 exact in_str (qK I q rfl)
theorem IK:dU X (Ye .Is) (λx y H Q=>y= .aR/\Q (.bl (decide (x= .aR))) H):=by
 intro pins s σ H x y v u Q I rx ry h
 obtain⟨rfl,q⟩:=h
 cases ry
 refine is_none_gen (qK I q ?_)
 cases x<;>first
  | (cases rx;rfl)
  | (obtain⟨t,rfl⟩:=rx;rfl)
theorem Ei:dU X (Ye .IsNot) (λx y H Q=>y= .aR/\Q (.bl (!decide (x= .aR))) H):=by
 intro pins s σ H x y v u Q I rx ry h
 obtain⟨rfl,q⟩:=h
 cases ry
 refine isnot_none_gen (qK I q ?_)
 cases x<;>first
  | (cases rx;rfl)
  | (obtain⟨t,rfl⟩:=rx;rfl)
theorem Ej{op:CmpOp}{r:R2}(ho:dU X (Ye op) r)(ha:PE X a ta)(hb:PE X b tb)(hm:X' op b=false):PE X (.Compare a [op] [b] pos) (MP r ta tb):=by
 intro pins s σ H Q I h
 exact wpAny_Compare1 (IF ha hb I h λv u s2 x y H2 I2 rx ry q=>ho pins s2 σ H2 x y v u Q I2 rx ry q) hm
def GW(t:TE):TT:=λσ H Q=>t σ H λx H'=>∃k,x= .bl k/\Q k H'
theorem Ek{op:CmpOp}{r:R2}(ho:dU X (Ye op) r)(ha:PE X a ta)(hb:PE X b tb)(hm:X' op b=false):PT X (.Compare a [op] [b] pos) (GW (MP r ta tb)):=by
 intro pins s σ H Q I h
 refine wpAny_isTrue_Compare1 (aY (ha pins s σ H _ I h) λv s1 ⟨x,H1,I1,r1,q1⟩=>aY (hb pins s1 σ H1 _ I1 q1) λu s2 ⟨y,H2,I2,r2,q2⟩=>
  aY (ho pins s2 σ H2 x y v u _ I2 r1 r2 q2) λc s3 ⟨z,H3,I3,r3,k,e,q3⟩=>?_) hm
 subst e
 cases r3
 exact Yr ⟨H3,I3,q3⟩
def uV(r r':R2)(ta tb tc:TE):TE:=λσ H Q=>ta σ H λx H1=>tb σ H1 λy H2=>r x y H2 λz H3=>∃k,z= .bl k/\
 (if k=true then tc σ H3 λw' H4=>r' y w' H4 Q else Q (.bl false) H3)
theorem Aj{op op':CmpOp}{r r':R2}(ho:dU X (Ye op) r)(ho':dU X (Ye op') r')(ha:PE X a ta)(hb:PE X b tb)(hc:PE X c tc)
  (hm:lastMarks [op,op'] [b,c]=false:=by with_unfolding_all rfl):PE X (.Compare a [op,op'] [b,c] pos) (uV r r' ta tb tc):=by
 intro pins s σ H Q I h
 refine Compare_chain (aY (ha pins s σ H _ I h) λv s1 ⟨x,H1,I1,r1,q1⟩=>chain_link (aY (hb pins s1 σ H1 _ I1 q1) λu s2 ⟨y,H2,I2,r2,q2⟩=>
  aY (ho pins s2 σ H2 x y v u _ I2 r1 r2 q2) λd s3 ⟨z,H3,I3,r3,k,e,q3⟩=>?_)) hm
 subst e
 cases r3
 refine Yr ?_
 cases k with
 | false=>exact ite_ff ⟨.bl false,H3,I3,rfl,q3⟩
 | true=>exact ite_tt (chain_last (aY (hc pins s3 σ H3 _ I3 q3) λw' s4 ⟨z',H4,I4,r4,q4⟩=>ho' pins s4 σ H4 y z' u w' Q I4 r2 r4 q4))
theorem Ak{op op':CmpOp}{r r':R2}(ho:dU X (Ye op) r)(ho':dU X (Ye op') r')(ha:PE X a ta)(hb:PE X b tb)(hc:PE X c tc)
  (hm:lastMarks [op,op'] [b,c]=false:=by with_unfolding_all rfl):PT X (.Compare a [op,op'] [b,c] pos) (GW (uV r r' ta tb tc)):=by
 intro pins s σ H Q I h
 refine isTrue_chain (aY (ha pins s σ H _ I h) λv s1 ⟨x,H1,I1,r1,q1⟩=>test_link (aY (hb pins s1 σ H1 _ I1 q1) λu s2 ⟨y,H2,I2,r2,q2⟩=>
  aY (ho pins s2 σ H2 x y v u _ I2 r1 r2 q2) λd s3 ⟨z,H3,I3,r3,k,e,q3⟩=>?_)) hm
 subst e
 cases r3
 refine Yr ?_
 cases k with
 | false=>
  obtain⟨k',e',q'⟩:=q3
  cases e'
  exact ite_ff ⟨H3,I3,q'⟩
 | true=>
  refine ite_tt (test_last (aY (hc pins s3 σ H3 _ I3 q3) λw' s4 ⟨z',H4,I4,r4,q4⟩=>aY (ho' pins s4 σ H4 y z' u w' _ I4 r2 r4 q4) λd' s5 ⟨z2,H5,I5,r5,k2,e2,q5⟩=>?_))
  subst e2
  cases r5
  exact Yr ⟨H5,I5,q5⟩
def MX(K:PySem.W.Frag)(x:V)(H:Hp)(k:Bool):Prop :=
 match x with
 | .aR=>k=false
 | .bl b=>k=b
 | .int i=>k=(i != 0)
 | .str y=>y.length<=Yi/\k=((y.length:Int) != 0)
 | .L9 y=>y.size<=Yi/\k=((y.size:Int) != 0)
 | .ref p=>(∃xs,iu K H p xs/\k= !xs.isEmpty)\/(∃xs,cU K H p xs/\k= !xs.isEmpty)\/∃kvs,H p=some (.dK kvs)/\k= !kvs.isEmpty
 | _=>False
theorem uW{κ:Type}{kvs:List (κ×V)}{vs:List (κ×X9)}(r:KV kvs vs):(!vs.isEmpty)= !kvs.isEmpty:=by
 cases r<;>rfl
theorem nN{xs:List V}{its:List X9}(r:Vals xs its):(!its.toArray.isEmpty)= !xs.isEmpty:=by
 cases r<;>simp
theorem jY:(Yi:Nat) < 2 ^ 63:=by rw[sizeLine_eq];decide
theorem IL:Qu X (λx H Q=>∃k,MX X.K x H k/\Q k H):=by
 intro pins s σ H x v Q I rx h
 obtain⟨k,e,q⟩:=h
 have hl:=jY
 have hs:Yi=16777216:=sizeLine_eq
 cases x with
 | aR=>
  cases rx
  have e':k=false:=e
  subst e'
  exact truthy_none ⟨H,I,q⟩
 | bl b=>
  cases rx
  have e':k=b:=e
  subst e'
  exact Yr ⟨H,I,q⟩
 | int i=>
  obtain⟨t,rfl⟩:=rx
  have e':k=(i != 0):=e
  subst e'
  exact PySem.P.truthy_int ⟨H,I,q⟩
 | str y=>
  obtain⟨t,rfl⟩:=rx
  obtain⟨hy,e'⟩:y.length<=Yi/\k=((y.length:Int) != 0):=e
  subst e'
  exact PySem.P.truthy_str (by omega) ⟨H,I.tok _,q⟩
 | L9 y=>
  obtain⟨t,rfl⟩:=rx
  obtain⟨hy,e'⟩:y.size<=Yi/\k=((y.size:Int) != 0):=e
  subst e'
  exact PySem.W.truthy_bytes (by omega) ⟨H,I.tok _,q⟩
 | ref p=>
  cases rx
  have e':(∃xs,iu X.K H p xs/\k= !xs.isEmpty)\/(∃xs,cU X.K H p xs/\k= !xs.isEmpty)\/∃kvs,H p=some (.dK kvs)/\k= !kvs.isEmpty:=e
  rcases e' with ⟨xs,hx,e'⟩ | ⟨xs,hx,e'⟩ | ⟨kvs,hx,e'⟩
  ·subst e'
   obtain⟨its,r,pl,hz⟩:=I.list hx
   have hlen:=r.length
   exact wpAny_truthy_list pl.isList (by simp only[aN];omega) ⟨H,I.tok _,by rw[nN r];exact q⟩
  ·subst e'
   obtain⟨its,r,pl,hz⟩:=I.tuple hx
   have hlen:=r.length
   exact truthy_tuple pl (by simp only[aN];omega) ⟨H,I.tok _,by rw[nN r];exact q⟩
  ·subst e'
   obtain⟨hz,hS,vs,r,m⟩:kvs.length<=Yi/\(p == sysModules)=false/\∃vs,KV kvs vs/\s.heap.DictOf (aV X.prog X.w) p vs:=I.hok p _ hx
   have hlen:kvs.length=vs.length:=Paired.length r
   exact wpAny_truthy_dict hS m (by omega) ⟨H,I.tok _,by rw[uW r];exact q⟩
 | _=>exact(show False from e).elim
theorem Al(ha:PE X a ta)(he:∀whole,isTrue a X.env whole=(do let v <-whole;standAt a.pos;holding [v] (truthy v))) :
  PT X a (λσ H Q=>ta σ H λx H'=>∃k,MX X.K x H' k/\Q k H'):=by
 intro pins s σ H Q I h
 exact isTrue_plain (aY (ha pins s σ H _ I h) λv s1 ⟨x,H1,I1,r1,q1⟩=>IL pins s1 σ H1 x v Q I1 r1 q1) (he _)
theorem uX:dU X (Ya .Add) (λx y H Q=>∃i j,x= .str i/\y= .str j/\i.length+j.length<=Yi/\Q (.str (i++j)) H):=by
 intro pins s σ H x y v u Q I rx ry h
 obtain⟨i,j,rfl,rfl,hz,q⟩:=h
 obtain⟨t,rfl⟩:=rx
 obtain⟨t',rfl⟩:=ry
 exact add_str (λt' tk=>⟨.str (i++j),H,I.tok _,⟨_,rfl⟩,q⟩) hz
theorem vals1{x:V}{us:List X9}(r:Vals [x] us):∃u,us=[u]/\RelV x u:=by
 cases r with
 | cons r1 r2=>cases r2;exact⟨_,rfl,r1⟩
theorem vals2{x y:V}{us:List X9}(r:Vals [x,y] us):∃u w',us=[u,w']/\RelV x u/\RelV y w':=by
 cases r with
 | cons r1 r2=>
  cases r2 with
  | cons r3 r4=>cases r4;exact⟨_,_,rfl,r1,r3⟩
end
section
variable {prog:X7} {w:X_} {A:X4} {E:X9->X8->Prop} {s:X8} {K:PySem.W.Frag} {x dx C f:X3} {mA:Str->Option X9} {name:Str} {v:X9}
end
section
variable {P:X7} {w:X_} {H H':Hp} {h h':Heap} {a C dx:X3} {fs fs':List (Str×V)}
end
section
variable {X:Cx} {pins:List (X3×Obj)} {σ:St} {H:Hp} {s:X8} {a C dx:X3} {fs:List (Str×V)} {f:Str} {v:V} {A:X4} {E:X9->X8->Prop}
end
section
variable {X:Cx} {o e value:Expr} {f:Str} {pos pos' tpos:Pos} {ta tv:TE}
end
section
variable {X:Cx} {pins:List (X3×Obj)} {σ:St} {H:Hp} {s:X8} {A:X4} {E:X9->X8->Prop} {Q:X9->X8->Prop} {c:X9} {b:Bool}
end
structure iK(k:Nat)(A:X4):Prop where
 hd:A.handled=none
 dp:A.depth+3 * k+5 < recursionLimit
 un:A.units+16 * k+200 < cLine
theorem iK.mono{j k:Nat}{A:X4}(r:iK k A)(h:j<=k):iK j A:=⟨r.hd,by have:=r.dp;omega,by have:=r.un;omega⟩
theorem iK.deeper{k:Nat}{A:X4}(r:iK (k+1) A)(env:Env):iK k (A.deeper env) :=
 ⟨r.hd,by have:=r.dp;show A.depth+1+3 * k+5 < _;omega,by have:=r.un;show A.units+3+16 * k+200 < _;omega⟩
theorem iK.depth{k:Nat}{A:X4}(r:iK k A):A.depth < recursionLimit:=by have:=r.dp;omega
def Qw:TA:=λ_ H Q=>Q [] H
def MY(ta:TE)(tr:TA):TA:=λσ H Q=>ta σ H λx H1=>tr σ H1 λxs H2=>Q (x::xs) H2
section
variable {X:Cx} {e:Expr} {es:List Expr} {te:TE} {t:TA} {pos:Pos}
theorem IM:PA X [] Qw:=λ_ _ _ _ H Q I h=>nO ⟨[],H,I,.nil,h⟩
theorem El(ha:PE X e te)(hr:PA X es t)(hs:Yj (e::es) X.env=(false,eval e X.env)::Yj es X.env:=by rfl):PA X (e::es) (MY te t):=by
 intro pos pins s σ H Q I h
 rw[hs]
 show Yk _ _ (spliced ((false,eval e X.env)::backTo pos (Yj es X.env))) _ _ s
 refine iL (aY (ha pins s σ H _ I h) λu s1 ⟨x,H1,I1,r1,q1⟩=>?_)
 exact aY (hr pos pins s1 σ H1 _ I1 q1) λus s2 ⟨xs,H2,I2,r2,q2⟩=>⟨x::xs,H2,I2,.cons r1 r2,q2⟩
def Qx(t:TA):TE:=λσ H Q=>t σ H λxs H1=>xs.length<=Yi/\∀p,H1 p=none->Q (.ref p) (upd H1 p (.tup xs))
def Qy(t:TA):TE:=λσ H Q=>t σ H λxs H1=>xs.length<=Yi/\∀p,H1 p=none->Q (.ref p) (upd H1 p (.lst xs))
theorem IP{x1}(h:PA X es t):PE X (.Tuple es x1 pos) (Qx t):=by
 intro pins s σ H Q I hq
 refine wpAny_Tuple_spliced (aY (h pos pins s σ H _ I hq) λus s1 ⟨xs,H1,I1,r,z,q⟩=>⟨by rw[<-r.length];exact z,?_⟩)
 have hf:H1 s1.heap.objs.size=none:=I1.hok.fresh (ao _)
 refine⟨.ref s1.heap.objs.size,upd H1 s1.heap.objs.size (.tup xs),I1.laid (t':=s1.toks) (λb u e=>aQ _ e) (ao _) ?_,rfl,q _ hf⟩
 exact⟨z,us,r,⟨_,aX _ rfl,rfl,_,rfl⟩,uQ.new _ _⟩
theorem IQ(h:PA X es t):PE X (.List es pos) (Qy t):=by
 intro pins s σ H Q I hq
 refine wpAny_List_spliced (aY (h pos pins s σ H _ I hq) λus s1 ⟨xs,H1,I1,r,z,q⟩=>⟨by rw[<-r.length];exact z,?_⟩)
 have hf:H1 s1.heap.objs.size=none:=I1.hok.fresh (ao _)
 refine⟨.ref s1.heap.objs.size,upd H1 s1.heap.objs.size (.lst xs),I1.laid (t':=s1.toks) (λb u e=>aQ _ e) (ao _) ?_,rfl,q _ hf⟩
 exact⟨z,us,0,r,aX _ rfl⟩
end
abbrev Sp:=List V->Hp->VK->XK->Prop
abbrev zP:=List Env->Hp->X8->XK->X9->X8->Prop
structure Am(P:X7)(w:X_)(K:PySem.W.Frag)(mg:Str->Option X9)(base:Heap)(A:X4)(outer:List Env)(s:X8)(H:Hp):Prop where
 frames:A.frames=some outer
 mod:Mod K mg base
 bs:∀b o,base.get? b=some o->s.heap.get? b=some o/\H b=none
 GN:base.objs.size<=s.heap.objs.size
 lQ:s.heap.FunFrames base outer
 Ih:∀b∈frs outer,H b=none
 hok:iE P w H s.heap
 bare:AllBare s.gens
def CE(outer:List Env)(P:X7)(w:X_)(H:Hp)(s:X8)(Q:VK)(u:X9)(s':X8):Prop :=
 ∃v H',s'.os=s.os/\AllBare s'.gens/\Un (frs outer) [] H H' s.heap s'.heap/\iE P w H' s'.heap/\RelV v u/\Q v H'
def CR(CX:zP)(outer:List Env)(P:X7)(w:X_)(H:Hp)(s:X8)(Q:VK)(E:XK)(r:Result)(s':X8):Prop :=
 match r with
 | .ok (.ret u)=>CE outer P w H s Q u s'
 | .ok _=>False
 | .error e=>CX outer H s E e s'
structure FnOk(P:X7)(w:X_)(K:PySem.W.Frag)(mg:Str->Option X9)(base:Heap)(CX:zP)(k:Nat)(f:X3)(fd:X5)(ps:List Str)(sp:Sp):Prop where
 len:∀vs H Q E,sp vs H Q E->vs.length=ps.length
 run:∀(A:X4)(outer:List Env)(s:X8)(H:Hp)(args:Args)(us:List X9)(vs:List V)(Q:VK)(E:XK),iK k A->Am P w K mg base A outer s H->BindsTo s fd args (ps.zip us)->Vals vs us->sp vs H Q E->
  Yc (model P w) A (.call (.ref f) args) (CR CX outer P w H s Q E) s
theorem FnOk.mono{P:X7}{w:X_}{K:PySem.W.Frag}{mg:Str->Option X9}{base:Heap}{CX:zP}{j k:Nat}{f:X3}{fd:X5}{ps:List Str}{sp:Sp}(F:FnOk P w K mg base CX j f fd ps sp)(h:j<=k) :
  FnOk P w K mg base CX k f fd ps sp:=⟨F.len,λA outer s H args us vs Q E hr=>F.run A outer s H args us vs Q E (hr.mono h)⟩
section
variable {X:Cx} {pins:List (X3×Obj)} {σ:St} {H:Hp} {s s':X8}
theorem Inv.Qz(I:Inv X pins σ H s):Am X.prog X.w X.K X.mg X.base X.A X.stack s H :=
 ⟨I.ok.frames,I.ok.mod,I.bs,bo I.ok.GN I.sz,I.stack,I.kI,I.hok,I.bare⟩
theorem Inv.after{Q:VK}{u:X9}(I:Inv X pins σ H s)(h:CE X.stack X.prog X.w H s Q u s'):EP X pins σ Q u s':=by
 obtain⟨v,H',os,bare,un,hok,r,q⟩:=h
 obtain⟨hh,g,d,t,os'⟩:=s'
 obtain rfl:os'=s.os:=os
 exact⟨v,H',I.call (h':=hh) (g':=g) (d':=d) (t':=t) (ch:=[]) un hok bare (λb z=>absurd z (by simp)),r,q⟩
end
def Binds(K:PySem.W.Frag)(fd:X5)(ps:List Str)(ds:List X9):Prop :=
 ∀(s:X8)(us:List X9),K.In s.heap->(us++ds).length=ps.length->BindsTo s fd ⟨us,[]⟩ (ps.zip (us++ds))
theorem Binds.all{K:PySem.W.Frag}{fd:X5}{ps:List Str}(h:∀us:List X9,us.length=ps.length->bindArgs fd ⟨us,[]⟩=pure (ps.zip us)):Binds K fd ps []:=λs us _ hl=>by
 rw[lR] at hl ⊢
 exact .of_eq (h us hl)
section
variable {X:Cx} {CX:zP} {k:Nat} {f C:X3} {fd:X5} {ps:List Str} {sp:Sp} {Xb:List V} {ds:List X9} {E:XK} {x m:Str} {p pos apos:Pos} {e o:Expr} {es:List Expr} {ta:TE} {t:TA}
end
section
variable {X:Cx} {CX:zP} {k:Nat} {f C:X3} {fd:X5} {ps ks:List Str} {sp:Sp} {E:XK} {x m:Str} {p pos apos kpos:Pos} {e o:Expr} {es:List Expr} {kws:List Keyword} {te ta:TE} {t tk:TA} {nm:Option Str}
variable {g:List X9->List X9->List X9} {gV:List V->List V->List V}
end
structure FnScope(N P:List Str)(sc:Scope):Prop where
 kind:sc.kind= .function
 co:sc.isCoroutine=false
 gen:sc.isGenerator=false
 nd:N.Nodup
 pre:N.take P.length=P
 par:∀x∈P,sc.names.lookup x=some .local\/sc.names.lookup x=some .cell
 IS:∀y∈sc.names,y.2≠.free
theorem pQ{kindOf:Str->Option X6}{x:Str}:∀{binds:List (Str×X9)}{m:Str->Option X9},(∀v,(x,v)∉binds)->bindL kindOf binds m x=m x
 | [],_,_=>rfl
 | (n,v)::r,m,h=>by
  unfold bindL
  rw[pQ λw hw=>h w (aU _ hw)]
  split
  ·have:x≠n:=by rintro rfl;exact h v bF
   simp[this]
  ·rfl
theorem pR{kindOf:Str->Option X6}{x:Str}:∀{binds:List (Str×X9)}{m:Str->Option X9},(∀v,(x,v)∉binds)->bindC kindOf binds m x=m x
 | [],_,_=>rfl
 | (n,v)::r,m,h=>by
  unfold bindC
  rw[pR λw hw=>h w (aU _ hw)]
  split
  ·rfl
  ·have:x≠n:=by rintro rfl;exact h v bF
   simp[this]
theorem pS{kindOf:Str->Option X6}{x:Str}{v:X9}:∀{P:List Str}{vs:List X9}{i:Nat}{m:Str->Option X9},P.Nodup->P[i]? =some x->vs[i]? =some v->kindOf x=some .local->
  bindL kindOf (P.zip vs) m x=some v
 | [],_,_,_,_,h,_,_=>by simp at h
 | _::_,[],_,_,_,_,h,_=>by simp at h
 | p::P,w::vs,0,m,nd,h1,h2,hk=>by
  simp at h1 h2;subst h1;subst h2
  show bindL kindOf ((p,w)::P.zip vs) m p=_
  unfold bindL
  rw[pQ λv hv=>(List.nodup_cons.mp nd).1 (wq hv).1,if_pos hk]
  simp
 | p::P,w::vs,i+1,m,nd,h1,h2,hk=>by
  show bindL kindOf ((p,w)::P.zip vs) m x=_
  unfold bindL
  exact pS (i:=i) (List.nodup_cons.mp nd).2 (by simpa using h1) (by simpa using h2) hk
theorem pT{kindOf:Str->Option X6}{x:Str}{v:X9}:∀{P:List Str}{vs:List X9}{i:Nat}{m:Str->Option X9},P.Nodup->P[i]? =some x->vs[i]? =some v->kindOf x≠some .local->
  bindC kindOf (P.zip vs) m x=some v
 | [],_,_,_,_,h,_,_=>by simp at h
 | _::_,[],_,_,_,_,h,_=>by simp at h
 | p::P,w::vs,0,m,nd,h1,h2,hk=>by
  simp at h1 h2;subst h1;subst h2
  show bindC kindOf ((p,w)::P.zip vs) m p=_
  unfold bindC
  rw[pR λv hv=>(List.nodup_cons.mp nd).1 (wq hv).1,if_neg hk]
  simp
 | p::P,w::vs,i+1,m,nd,h1,h2,hk=>by
  show bindC kindOf ((p,w)::P.zip vs) m x=_
  unfold bindC
  exact pT (i:=i) (List.nodup_cons.mp nd).2 (by simpa using h1) (by simpa using h2) hk
def start(N:List Str)(vs:List V):St:=vs.map some++a_ (N.length - vs.length) none
def pf(CX:zP)(P:X7)(w:X_)(K:PySem.W.Frag)(mg:Str->Option X9)(base:Heap)(N:List Str)(qual:Str)(scope:Scope)(f:X3)(cd:X9)(A:X4)(outer:List Env)(s:X8)(H:Hp)(E:XK):Cx where
 prog:=P
 w:=w
 K:=K
 mg:=mg
 base:=base
 A:=A.deeper (envOfC qual scope s.heap.objs.size f cd)
 N:=N
 s₀:=s
 H₀:=H
 env:=envOfC qual scope s.heap.objs.size f cd
 outer:=outer
 stack:=envOfC qual scope s.heap.objs.size f cd::outer
 ex:=[]
 calm:=true
 fn:=λ_=>true
 pn:=[]
 xe:=λe s'=>Yk (model P w) (A.deeper (envOfC qual scope s.heap.objs.size f cd)) (leaving (envOfC qual scope s.heap.objs.size f cd) e) (λ_ s''=>CX outer H s E e s'') (λe' s''=>CX outer H s E e' s'') s'
theorem sQ{sc:Scope}{n:Nat}{x:Str}(h:sc.names.lookup x=some .cell):∃c,(cellsFrom n sc.names []).lookup x=some c:=by
 have q:=PySem.W.cellsFrom_some sc.names n [] (.inl h)
 exact Option.isSome_iff_exists.mp q
theorem yf{CX:zP}{P:X7}{w:X_}{K:PySem.W.Frag}{mg:Str->Option X9}{base:Heap}{N ps:List Str}{qual:Str}{scope:Scope}{f:X3}{cd:X9}{A:X4}{outer:List Env}{s s1:X8}{H:Hp}{E:XK}{us:List X9}{vs:List V}
  (S:FnScope N ps scope)(hd:A.handled=none)(e0:Am P w K mg base A outer s H)(hl:vs.length=ps.length)(r:Vals vs us)
  (x:InCallC s s.heap.objs.size (bindL (envOfC qual scope s.heap.objs.size f cd).kindOf (ps.zip us) λ_=>none) (cellsFrom (s.heap.objs.size+1) scope.names []) (bindC (envOfC qual scope s.heap.objs.size f cd).kindOf (ps.zip us) λ_=>none) s1) :
  Inv (pf CX P w K mg base N qual scope f cd A outer s H E) [] (start N vs) H s1:=by
 have hpl:ps.length<=N.length:=by have:=congrArg gU S.pre;rw[fF] at this;omega
 obtain⟨h1,tk,rfl,hk⟩:=x.done
 have MZ:∀b:X3,b∉(pf CX P w K mg base N qual scope f cd A outer s H E).ex:=λb z=>absurd (show b∈([]:List X3) from z) (by simp)
 refine⟨⟨e0.mod,S.kind,rfl,rfl,ao _,λy z c h1 h2=>?_,λy hy=>?_,λy c _ h=>?_,λ_=>hd,Around.frames_deeper e0.frames,.inr ⟨rfl,rfl⟩,λb z=>absurd z (MZ b),e0.bs,e0.GN,λb _ _=>MZ b,λb z=>absurd z (MZ b),e0.lQ,e0.Ih⟩,
  rfl,e0.bare,Un.kept hk,⟨_,x.toInCall.ns,λi y v h1 h2 h3=>?_⟩,λy c h=>⟨_,x.cell y c h⟩,e0.hok.fresh (ao _),λy c h=>?_,λp hp=>absurd (show p∈([]:List (X3×Obj)) from hp) (by simp),e0.hok.kept hk,?_⟩
 ·exact name_of_addr x.apart (PySem.mem_of_lookup h1) (PySem.mem_of_lookup h2)
 ·have hy:scope.names.lookup y=some .cell\/scope.names.lookup y=some .free:=hy
  rcases hy with hy | hy
  ·exact sQ hy
  ·exact absurd rfl (S.IS _ (PySem.mem_of_lookup hy))
 ·exact qG (x.above y c (PySem.mem_of_lookup h))
 ·have hi:i < vs.length:=by
   unfold start at h2
   by_cases hi:i < vs.length
   ·exact hi
   ·rw[jZ (by simpa using hi)] at h2
    rw[Em] at h2
    split at h2<;>cases h2
  have ha:vs[i]? =some v:=by
   unfold start at h2
   rw[eP (by simpa using hi),dA] at h2
   cases e:vs[i]? with
   | none=>rw[e] at h2;cases h2
   | some a=>rw[e] at h2;cases h2;rfl
  obtain⟨u,hu,rv⟩:=r.get ha
  have hp:ps[i]? =some y:=by
   rw[<-S.pre,List.getElem?_take_of_lt (by omega)];exact h1
  have S8:ps.Nodup:=by rw[<-S.pre];exact S.nd.sublist (wu _ _)
  refine⟨u,rv,?_⟩
  rcases S.par y (m6 hp) with k | k
  ·exact .inl ⟨k,pS S8 hp hu k⟩
  ·obtain⟨c,e⟩:=sQ (n:=s.heap.objs.size+1) k
   refine .inr ⟨.inl k,c,e,?_⟩
   have q:=x.cell y c e
   rw[pT S8 hp hu (by show scope.names.lookup y≠_;rw[k];decide)] at q
   exact q
 ·exact e0.hok.fresh (qG (x.above y c (PySem.mem_of_lookup h)))
 ·unfold start
  show _=N.length
  rw[dB,aH,List.length_replicate]
  omega
theorem M0{CX:zP}{P:X7}{w:X_}{K:PySem.W.Frag}{mg:Str->Option X9}{base:Heap}{k:Nat}{f:X3}{name qual:Str}{params:Arguments}{body:List Stmt}{scope:Scope}{dV kV doc pm cdv ct oc:X9}{an od:Option X3}
  {osl:Array (Option X9)}{N ps:List Str}{sp:Sp}(lk:K.lookup f=some ⟨oc,od,.func (PySem.W.fnOf name qual params body scope dV kV doc pm an cdv ct),osl⟩)(hcd:PySem.W.codeIn K cdv qual=true)(S:FnScope N ps scope)
  (len:∀vs H Q E,sp vs H Q E->vs.length=ps.length)
  (hbody:∀(A:X4)(outer:List Env)(s:X8)(H:Hp)(vs:List V)(Q:VK)(E:XK),iK k (A.deeper (envOfC qual scope s.heap.objs.size f cdv))->sp vs H Q E->
   ∃t,zY (pf CX P w K mg base N qual scope f cdv A outer s H E) body t/\t { nx:=λ_ H'=>Q .aR H',rt:=Q } (start N vs) H) :
  FnOk P w K mg base CX (k+1) f (PySem.W.fnOf name qual params body scope dV kV doc pm an cdv ct) ps sp:=by
 refine⟨len,λA outer s H args us vs Q E hr e0 hb r L'=>?_⟩
 have hl:=len _ _ _ _ L'
 have KX:K.In s.heap:=e0.mod.Mw.keeps λb o e=>(e0.bs b o e).1
 have lim:s.heap.NoLimit:=e0.mod.nolimit.keeps λb o e=>(e0.bs b o e).1
 have hkind:∀y∈ps.zip us,scope.names.lookup y.1=some .local\/(scope.names.lookup y.1=some .cell/\((cellsFrom (s.heap.objs.size+1) scope.names []).lookup y.1).isSome=true):=λ⟨n,v⟩ hy=>by
  rcases S.par n (wq hy).1 with q | q
  ·exact .inl q
  ·exact .inr ⟨q,PySem.W.cellsFrom_some _ _ _ (.inl q)⟩
 refine codeAny_call_function hr.depth (KX _ _ lk) rfl S.co S.gen rfl (PySem.W.codeRec_of KX hcd) (hb _ _ _ _ ?_)
 refine wpAny_newFunctionEnv_cells S.kind hkind λenv he s1 x=>?_
 subst he
 refine⟨lim.keeps x.toInCall.keep,codeAny_func ?_⟩
 obtain⟨t,ht,hq⟩:=hbody A outer s H vs Q E (hr.deeper _) L'
 have I:Inv (pf CX P w K mg base N qual scope f cdv A outer s H E) [] (start N vs) H s1:=yf S hr.hd e0 hl r x
 refine Yo (ht [] s1 (start N vs) H _ I hq) (λfl s' hs=>?_) λe s' hs=>hs
 have fin:∀{σ':St}{H':Hp}{v:V}{u:X9},Inv (pf CX P w K mg base N qual scope f cdv A outer s H E) [] σ' H' s'->RelV v u->Q v H'->CE outer P w H s Q u s' :=
  λ{σ' H' v u} J rv q=>⟨v,H',J.os,J.bare,J.base,J.hok,rv,q⟩
 cases fl with
 | ret u=>
  obtain⟨v,σ',H',J,rv,q⟩:=hs
  exact fin J rv q
 | next=>
  obtain⟨σ',H',J,q⟩:=hs
  exact fin (v:=V.aR) (u:=bE) J rfl q
 | brk=>
  obtain⟨_,_,_,q⟩:=hs
  exact aa q
 | cont=>
  obtain⟨_,_,_,q⟩:=hs
  exact aa q
section
variable {X:Cx} {x:Str} {p pos:Pos} {e:Expr} {es:List Expr} {t:TA} {id T:String} {r:List V->Hp->VK->Prop}
def S_(r:List V->Hp->VK->Prop)(t:TA):TE:=λσ H Q=>t σ H λvs H1=>r vs H1 Q
theorem An(hc:cR X (.builtin id) r)(hg:Gl X x)(hm:X.mg x=none)(hv:Yb x=some (.builtin id))(ha:PA X (e::es) t)(hn:x≠"__name__":=by decide)(hdb:(x == ("__debug__":Str))=false:=by decide)
  (he:Yj (e::es) X.env=(false,eval e X.env)::Yj es X.env:=by rfl)(hpl:(backTo pos (Yj es X.env)).any (·.1)=false:=by rfl):PE X (.Call (.Name x p) (e::es) [] pos) (S_ r t):=by
 intro pins s σ H Q I h
 refine wpAny_Call_Name_kw (f_ I hg hm hv ?_ hn hdb)
 exact En (aY (ha pos pins s σ H _ I h) λus s1 ⟨vs,H1,I1,r1,q1⟩=>hc pins s1 σ H1 vs us Q I1 r1 q1) he hpl
theorem yg(hc:cR X (.type T) r)(hg:Gl X x)(hm:X.mg x=none)(hv:Yb x=some (.type T))(ha:PA X (e::es) t)(hn:x≠"__name__":=by decide)(hdb:(x == ("__debug__":Str))=false:=by decide)
  (he:Yj (e::es) X.env=(false,eval e X.env)::Yj es X.env:=by rfl)(hpl:(backTo pos (Yj es X.env)).any (·.1)=false:=by rfl):PE X (.Call (.Name x p) (e::es) [] pos) (S_ r t):=by
 intro pins s σ H Q I h
 refine wpAny_Call_Name_kw (f_ I hg hm hv ?_ hn hdb)
 exact jz (aY (ha pos pins s σ H _ I h) λus s1 ⟨vs,H1,I1,r1,q1⟩=>hc pins s1 σ H1 vs us Q I1 r1 q1) he hpl
end
end L2
namespace HT
open PySem PyProof.Rows
section
open PySem.SeqAt
open PySem.AutoSeq1 (wpAny_loadPart')
open PySem.MeetsSeq PySem.MeetsSeq2 PySem.MeetsSeq3
end
section
variable {prog:X7} {w:X_} {A:X4} {E:X9->X8->Prop} {s:X8}
theorem Eo{t b:X3}{vs ws:List X9}{Q:X9->X8->Prop}(ht:IsTup s.heap t vs.toArray)(hb:IsTup s.heap b ws.toArray)(hv:vs≠[])
  (h1:ws=[]->Q (.ref t) s)(h2:ws≠[]->Q (.ref s.heap.objs.size) { s with heap:=s.heap.push { cls:=.type "tuple",data:=.seq (vs++ws).toArray } })
  (hsz:vs.length+ws.length<=Yi):Yk (model prog w) A (Ya .Add (.ref t) (.ref b)) Q E s:=by
 obtain⟨⟨cls,dd,data,sl⟩,ho,hc,n,hd⟩:=id ht
 obtain⟨⟨QA,dd2,data2,sl2⟩,ho2,hc2,n2,hd2⟩:=id hb
 simp only at hc hd hc2 hd2
 subst hc hd hc2 hd2
 have e:vs.toArray++ws.toArray=(vs++ws).toArray:=by simp
 by_cases hw:ws=[]
 ·exact concat_meets ⟨_,ho,rfl⟩ ⟨_,ho2,rfl⟩ noFill_tuple_add seq_tuple_add PySem.F.slot_tuple_add PySem.F.entry_tuple_add (PySem.F.args_tuple_add_2 _ _)
   (tuple_addW1 t b vs.toArray ws.toArray n n2 dd dd2 sl sl2 (by simpa using hv) (by simp[hw])) ⟨ho,ho2,h1 hw⟩
 ·refine concat_meets ⟨_,ho,rfl⟩ ⟨_,ho2,rfl⟩ noFill_tuple_add seq_tuple_add PySem.F.slot_tuple_add PySem.F.entry_tuple_add (PySem.F.args_tuple_add_2 _ _)
   (tuple_addW2 t b vs.toArray ws.toArray n n2 dd dd2 sl sl2 (by simpa using hv) (by simpa using hw) (by rw[aN,aN];exact hsz)) ⟨ho,ho2,?_⟩
  rw[e]
  exact h2 hw
def bX(n d:Nat):Option Int->Nat
 | none=>d
 | some v=>if v < 0 then(v+(n:Int)).toNat else min v.toNat n
theorem IT(n d:Nat)(hd:d<=n)(o:Option Int):bX n d o<=n:=by
 cases o with
 | none=>exact hd
 | some v=>
  show(if v < 0 then(v+(n:Int)).toNat else min v.toNat n)<=n
  by_cases hv:v < 0
  ·rw[if_pos hv];omega
  ·rw[if_neg hv];exact wx _ _
theorem wy(v:Int)(n d:Nat):(if v < 0 then max (v+(n:Int)) 0 else min v (n:Int))=((bX n d (some v):Nat):Int):=by
 show(if v < 0 then max (v+(n:Int)) 0 else min v (n:Int))=(((if v < 0 then(v+(n:Int)).toNat else min v.toNat n):Nat):Int)
 by_cases hv:v < 0
 ·simp only[if_pos hv];omega
 ·simp only[if_neg hv];omega
theorem uY(lo hi:Option Int)(n:Nat):Ao lo hi 1 (n:Int)=(((bX n 0 lo:Nat):Int),((bX n n hi:Nat):Int)):=by
 have h1:¬((1:Int) < 0):=by omega
 unfold Ao
 simp only[h1,if_false]
 refine qL ?_ ?_
 ·cases lo with
  | none=>rfl
  | some v=>exact wy v n 0
 ·cases hi with
  | none=>rfl
  | some v=>exact wy v n n
theorem uZ(i j:Nat):u0 (i:Int) (j:Int) 1=j - i:=by
 unfold u0
 have h1:(1:Int) > 0:=by omega
 simp only[h1,if_true,Int.ediv_one]
 split<;>omega
theorem nP{v:X9}{o:Option Int}{Q:Option Int->X8->Prop}(p:IsPart v o)(h:Q o s):Yk (model prog w) A (Builtin.Slice.slicePartIndex v) Q E s:=by
 cases p with
 | none=>exact slicePart_none h
 | int i t=>exact slicePart_int h
theorem gG{sl:X3}{vl vu:X9}{lo hi:Option Int}{n:Nat}{Q:Int×Int×Nat->X8->Prop}(hs:s.heap.IsSliceOf sl vl vu .none)(pl:IsPart vl lo)(pu:IsPart vu hi)
  (h:Q (((bX n 0 lo:Nat):Int),1,bX n n hi - bX n 0 lo) s):Yk (model prog w) A (IU (.ref sl) (pure (n:Int))) Q E s:=by
 obtain⟨os,hos,hcs,hds⟩:=id hs
 unfold IU Builtin.Slice.sliceFields
 refine Yl (Yl (wpAny_field hos hds (x:=vl) rfl (Yl (wpAny_field hos hds (x:=vu) rfl (Yl (wpAny_field hos hds (x:=.none) rfl (Yq ?_)))))))
 refine Yl (slicePart_none ?_)
 show Yk _ _ (if((1:Int) == 0)=true then _ else _) _ _ s
 rw[if_neg (by decide)]
 refine Yl (nP pl (Yl (nP pu (Yl (Yq ?_)))))
 show Yk _ _ (match Ao lo hi 1 (n:Int) with | (lo,hi)=>pure (lo,(1:Int),u0 lo hi 1)) _ _ s
 rw[uY lo hi n]
 show Yk _ _ (pure (((bX n 0 lo:Nat):Int),(1:Int),u0 ((bX n 0 lo:Nat):Int) ((bX n n hi:Nat):Int) 1)) _ _ s
 rw[uZ]
 exact Yq h
theorem Ap(xs:Array X9)(i k:Nat):((a9 k).filterMap λ(m:Nat)=>xs[((i:Int)+(m:Int) * 1).toNat]?).toArray=((xs.toList.drop i).take k).toArray:=by
 have e:(λ(m:Nat)=>xs[((i:Int)+(m:Int) * 1).toNat]?)=λm=>xs[i+m]?:=by
  funext m
  have:((i:Int)+(m:Int) * 1).toNat=i+m:=by omega
  rw[this]
 rw[e]
 have:=pick_run xs i k
 rw[List.filterMap_map] at this
 have e2:((λx=>xs[x]?) ∘ λx=>i+x)=λm=>xs[i+m]?:=rfl
 rw[e2] at this
 rw[this]
theorem kO{t sl:X3}{items:Array X9}{vl vu:X9}{lo hi:Option Int}{Q:X9->X8->Prop}(ht:IsTup s.heap t items)(hs:s.heap.IsSliceOf sl vl vu .none)(pl:IsPart vl lo)(pu:IsPart vu hi)
  (hw:¬(bX items.size 0 lo=0/\bX items.size items.size hi=items.size))
  (h:Q (.ref s.heap.objs.size) { s with heap:=s.heap.push { cls:=.type "tuple",data:=.seq ((items.toList.drop (bX items.size 0 lo)).take (bX items.size items.size hi - bX items.size 0 lo)).toArray } })
  (hsz:items.size<=Yi):Yk (model prog w) A (getItem (.ref t) (.ref sl)) Q E s:=by
 have wA:sizeOk (.seq ((items.toList.drop (bX items.size 0 lo)).take (bX items.size items.size hi - bX items.size 0 lo)).toArray):=by
  show((items.toList.drop (bX items.size 0 lo)).take (bX items.size items.size hi - bX items.size 0 lo)).toArray.size<=Yi
  rw[aN,fF,m7,Ac]
  omega
 have hj:bX items.size items.size hi<=items.size:=IT _ _ (ao _) hi
 obtain⟨os,hos,hcs,hds⟩:=id hs
 have U5:s.TypeIs (.ref sl) "slice":=⟨os,hos,hcs⟩
 unfold getItem
 try with_reducible refine Yn ?_
 first | refine Yl (Yq ?_) | skip
 refine Yl (wpAny_sequenceKey ht.typeIs (by decide) ?_)
 refine Yl (wpAny_callSpecial?_slot (name:=fe "__getitem__") ht.typeIs qM
  (wpAny_call_entry qM ht.typeIs entry_tuple_getitem ?_ (args_tuple_getitem _ _)))
 show Yk _ _ (IV (.ref t) >>= _) _ _ s
 refine Yl (tupleItemsOf_ ht ?_)
 refine Yl (wpAny_typeOf U5 ?_)
 rw[if_pos (by decide)]
 refine Yl (gG hs pl pu ?_)
 have hno:¬((((bX items.size 0 lo:Nat):Int) == 0&&(1:Int) == 1&&(bX items.size items.size hi - bX items.size 0 lo) == items.size)=true):=by
  intro q
  rw[cz,cz] at q
  have q1:((bX items.size 0 lo:Nat):Int)=0:=eq_of_beq q.1.1
  have q2:bX items.size items.size hi - bX items.size 0 lo=items.size:=eq_of_beq q.2
  exact hw ⟨by omega,by omega⟩
 show Yk _ _ (if(((bX items.size 0 lo:Nat):Int) == 0&&(1:Int) == 1&&(bX items.size items.size hi - bX items.size 0 lo) == items.size)=true then _ else _) _ _ s
 rw[if_neg hno,Ap]
 first
  | exact Yl (m:=u5 _) (Yp (Yq ⟨_,rfl,Yq h⟩) wA)
  | exact Yl (m:=u5 _) (Yp (Yl (Yq (Yq ⟨_,rfl,Yq h⟩))) wA)
  | exact Yl (Yl (m:=u5 _) (Yp (Yq (Yq ⟨_,rfl,Yq h⟩)) wA))
  | exact Yl (Yl (m:=u5 _) (Yp (Yq ⟨_,rfl,Yq h⟩) wA))
end
end HT
namespace L2
open PySem PySem.Spec PyProof.Rows
abbrev TO:=St->Hp->(Option Int->Hp->Prop)->Prop
def PO(X:Cx)(e:Option Expr)(t:TO):Prop :=
 ∀(pins:List (X3×Obj))(s:X8)(σ:St)(H:Hp)(Q:Option Int->Hp->Prop),Inv X pins σ H s->t σ H Q->
  Yk (model X.prog X.w) X.A (evalPart e X.env) (λu s'=>∃o H',Inv X pins σ H' s'/\IsPart u o/\Q o H') X.xe s
def Ep:TO:=λ_ H Q=>Q none H
def M3(t:TE):TO:=λσ H Q=>t σ H λx H1=>∃i,x= .int i/\Q (some i) H1
section
variable {X:Cx} {e:Expr} {te:TE} {lo hi:Option Expr} {tl th:TO} {pos p2:Pos}
theorem Er:PO X none Ep:=by
 intro pins s σ H Q I h
 rw[evalPart_none]
 exact Yq ⟨none,H,I,.none,h⟩
theorem Es(h:PE X e te):PO X (some e) (M3 te):=by
 intro pins s σ H Q I hw
 rw[evalPart_some]
 refine aY (h pins s σ H _ I hw) λu s1 ⟨x,H1,I1,r1,q1⟩=>?_
 obtain⟨i,rfl,q⟩:=q1
 obtain⟨t,rfl⟩:=r1
 exact⟨some i,H1,I1,.int i t,q⟩
def DV(X:Cx)(r:V->Option Int->Option Int->Hp->VK->Prop):Prop :=
 ∀(pins:List (X3×Obj))(s:X8)(σ:St)(H:Hp)(x:V)(v vl vu:X9)(lo hi:Option Int)(sl:X3)(Q:VK),Inv X pins σ H s->RelV x v->s.heap.IsSliceOf sl vl vu .none->IsPart vl lo->IsPart vu hi->r x lo hi H Q->
  ∃T id,typeLookup (.type T) "__getitem__"=pure (some (.builtin id))/\s.TypeIs v T/\Yk (model X.prog X.w) X.A (getItem v (.ref sl)) (EP X pins σ Q) X.xe s
theorem DV.or{r r':V->Option Int->Option Int->Hp->VK->Prop}(h:DV X r)(h':DV X r'):DV X (λx lo hi H Q=>r x lo hi H Q\/r' x lo hi H Q):=by
 intro pins s σ H x v vl vu lo hi sl Q I rx hs pl pu q
 rcases q with q | q
 ·exact h pins s σ H x v vl vu lo hi sl Q I rx hs pl pu q
 ·exact h' pins s σ H x v vl vu lo hi sl Q I rx hs pl pu q
def U6(r:V->Option Int->Option Int->Hp->VK->Prop)(te:TE)(tl th:TO):TE:=λσ H Q=>te σ H λx H1=>tl σ H1 λl H2=>th σ H2 λu H3=>r x l u H3 Q
theorem nQ{r:V->Option Int->Option Int->Hp->VK->Prop}(hr:DV X r)(he:PE X e te)(hl:PO X lo tl)(hu:PO X hi th):PE X (.Subscript e (.Slice lo hi none p2) pos) (U6 r te tl th):=by
 intro pins s σ H Q I h
 refine Subscript_ (aY (he pins s σ H _ I h) λv s1 ⟨x,H1,I1,r1,q1⟩=>?_)
 refine wpAny_Slice (aY (hl pins s1 σ H1 _ I1 q1) λvl s2 ⟨l,H2,I2,pl,q2⟩=>aY (hu pins s2 σ H2 _ I2 q2) λvu s3 ⟨u,H3,I3,pu,q3⟩=>?_)
 rw[evalPart_none]
 refine Yq ?_
 have I4:Inv X pins σ H3 { s3 with heap:=s3.heap.push { cls:=.type "slice",data:=.fields #[vl,vu,.none] } }:=I3.kept (t':=s3.toks) λb ob q=>aQ _ q
 obtain⟨T,id,hT,ht,hg⟩:=hr pins { s3 with heap:=s3.heap.push { cls:=.type "slice",data:=.fields #[vl,vu,.none] } } σ H3 x v vl vu l u s3.heap.objs.size Q I4 r1 (Heap.IsSliceOf.new ..) pl pu q3
 show Yk (model X.prog X.w) X.A (subscriptTail e (.Slice lo hi none p2) v (.ref s3.heap.objs.size)) (EP X pins σ Q) X.xe { s3 with heap:=s3.heap.push { cls:=.type "slice",data:=.fields #[vl,vu,.none] } }
 exact tail_any (ops:=[.ref s3.heap.objs.size,v]) ht hT hg (by with_unfolding_all rfl)
def pg(xs:List V)(lo hi:Option Int):List V:=(xs.drop (HT.bX xs.length 0 lo)).take (HT.bX xs.length xs.length hi - HT.bX xs.length 0 lo)
theorem mC(xs:List V)(lo hi:Option Int):(pg xs lo hi).length<=xs.length:=by
 unfold pg
 rw[fF,m7]
 omega
def QB(K:PySem.W.Frag):V->Option Int->Option Int->Hp->VK->Prop:=λx lo hi H Q=>∃a xs,x= .ref a/\cU K H a xs/\
 ¬(HT.bX xs.length 0 lo=0/\HT.bX xs.length xs.length hi=xs.length)/\∀p,H p=none->Q (.ref p) (upd H p (.tup (pg xs lo hi)))
theorem Aq:DV X (QB X.K):=by
 intro pins s σ H x v vl vu lo hi sl Q I rx hs pl pu h
 obtain⟨a,xs,rfl,hx,hw,q⟩:=h
 cases rx
 obtain⟨its,r,ht,hz⟩:=I.tuple hx
 have hlen:its.toArray.size=xs.length:=by rw[aN];exact r.length.symm
 refine⟨"tuple",_,PyProof.Rows.slot_tuple_getitem.lookup,ht.typeIs,?_⟩
 refine HT.kO ht hs pl pu (by rw[hlen];exact hw) ?_ (by rw[hlen];exact hz)
 rw[hlen]
 refine⟨.ref s.heap.objs.size,_,I.laid (t':=s.toks) (o:=.tup (pg xs lo hi)) (λb ob q=>aQ _ q) (ao _) ?_,rfl,q _ (I.hok.fresh (ao _))⟩
 exact⟨bo (mC xs lo hi) hz,_,(r.drop (HT.bX xs.length 0 lo)).take (HT.bX xs.length xs.length hi - HT.bX xs.length 0 lo),IsTup.new _ _,uQ.new _ _⟩
def M4(K:PySem.W.Frag):R2:=λx y H Q=>∃a b xs ys,x= .ref a/\y= .ref b/\cU K H a xs/\cU K H b ys/\xs≠[]/\xs.length+ys.length<=Yi/\
 (ys=[]->Q (.ref a) H)/\(ys≠[]->∀p,H p=none->Q (.ref p) (upd H p (.tup (xs++ys))))
theorem Vals.qN{xs:List V}{us:List X9}(r:Vals xs us):us=[]↔xs=[]:=by
 cases r with
 | nil=>simp
 | cons _ _=>simp
theorem Et:dU X (Ya .Add) (M4 X.K):=by
 intro pins s σ H x y v u Q I rx ry h
 obtain⟨a,b,xs,ys,rfl,rfl,ha,hb,hx,hz,q1,q2⟩:=h
 cases rx
 cases ry
 obtain⟨its,r1,p1,_⟩:=I.tuple ha
 obtain⟨its2,r2,p2,_⟩:=I.tuple hb
 refine HT.Eo p1 p2 (λz=>hx (r1.qN.mp z)) (λz=>⟨.ref a,H,I,rfl,q1 (r2.qN.mp z)⟩) (λz=>?_) (by rw[<-r1.length,<-r2.length];exact hz)
 refine⟨.ref s.heap.objs.size,_,I.laid (t':=s.toks) (o:=.tup (xs++ys)) (λb ob q=>aQ _ q) (ao _) ?_,rfl,q2 (λw=>z (r2.qN.mpr w)) _ (I.hok.fresh (ao _))⟩
 exact⟨by rw[dB];exact hz,_,r1.append r2,IsTup.new _ _,uQ.new _ _⟩
end
def sR(n:Nat)(i:Int):Option Nat:=if 0<=i then(if i < n then some i.toNat else none) else if -(n:Int)<=i then some (i+n).toNat else none
def mE{α:Type}(xs:List α)(i:Int):Option α:=(sR xs.length i).bind λj=>xs[j]?
theorem wB{n:Nat}{i:Int}{j:Nat}(h:sR n i=some j):seqIndex? i n=some j/\j < n/\-(n:Int)<=i/\i < n:=by
 unfold sR at h
 by_cases h0:0<=i
 ·rw[if_pos h0] at h
  by_cases h1:i < n
  ·rw[if_pos h1] at h
   have e:i.toNat=j:=Option.some.inj h
   exact⟨by rw[seqIndex_of h0 h1,e],by omega,by omega,h1⟩
  ·rw[if_neg h1] at h;cases h
 ·rw[if_neg h0] at h
  by_cases h1:-(n:Int)<=i
  ·rw[if_pos h1] at h
   have e:(i+n).toNat=j:=Option.some.inj h
   exact⟨by rw[seqIndex_neg (by omega) h1,e],by omega,h1,by omega⟩
  ·rw[if_neg h1] at h;cases h
theorem m8{α:Type}{xs:List α}{i:Int}{v:α}(h:mE xs i=some v):∃j,seqIndex? i xs.length=some j/\xs[j]? =some v/\j < xs.length/\-(xs.length:Int)<=i/\i < xs.length:=by
 unfold mE at h
 cases e:sR xs.length i with
 | none=>rw[e] at h;cases h
 | some j=>
  rw[e] at h
  obtain⟨h1,h2,h3,h4⟩:=wB e
  exact⟨j,h1,h,h2,h3,h4⟩
theorem dC{α:Type}{xs:List α}{j:Nat}{v:α}(h:xs[j]? =some v):mE xs (j:Int)=some v:=by
 have hj:j < xs.length:=(List.getElem?_eq_some_iff.mp h).1
 have e:sR xs.length (j:Int)=some j:=by
  unfold sR
  rw[if_pos (by omega),if_pos (by omega)];simp
 unfold mE;rw[e];exact h
def wC(b:Expr):Prop:=∀o i,subscripted b false o i=operate [o,i] (getItem o i)
def Eu(X:Cx)(r:R2):Prop :=
 ∀(value slice:Expr)(pins:List (X3×Obj))(s:X8)(σ:St)(H:Hp)(x y:V)(v u:X9)(Q:VK),Inv X pins σ H s->RelV x v->RelV y u->r x y H Q->
  subscripted slice false v u=operate [v,u] (getItem v u)->Yk (model X.prog X.w) X.A (subscriptTail value slice v u) (EP X pins σ Q) X.xe s
def QC(X:Cx)(id:String)(r:V->List V->Hp->VK->Prop):Prop :=
 ∀(pins:List (X3×Obj))(s:X8)(σ:St)(H:Hp)(x:V)(xs:List V)(v:X9)(us:List X9)(Q:VK),Inv X pins σ H s->RelV x v->Vals xs us->r x xs H Q->
  Yk (model X.prog X.w) X.A (call (.builtin id) (v::us)) (EP X pins σ Q) X.xe s
section
variable {X:Cx} {a b:Expr} {ta tb:TE} {pos:Pos}
theorem Eu.or{r r':R2}(h:Eu X r)(h':Eu X r'):Eu X (λx y H Q=>r x y H Q\/r' x y H Q):=by
 intro value slice pins s σ H x y v u Q I rx ry q hs
 rcases q with q | q
 ·exact h value slice pins s σ H x y v u Q I rx ry q hs
 ·exact h' value slice pins s σ H x y v u Q I rx ry q hs
theorem M5{r:R2}(hr:Eu X r)(ha:PE X a ta)(hb:PE X b tb)(hs:wC b):PE X (.Subscript a b pos) (MP r ta tb):=by
 intro pins s σ H Q I h
 exact Subscript_ (IF ha hb I h λv u s2 x y H2 I2 rx ry q=>hr a b pins s2 σ H2 x y v u Q I2 rx ry q (hs _ _))
def M6(K:PySem.W.Frag):R2:=λx y H Q=>∃p xs i v,x= .ref p/\y= .int i/\iu K H p xs/\mE xs i=some v/\Q v H
def M7(K:PySem.W.Frag):R2:=λx y H Q=>∃p xs i v,x= .ref p/\y= .int i/\cU K H p xs/\mE xs i=some v/\Q v H
def M8:R2:=λx y H Q=>∃z i c,x= .str z/\y= .int i/\z.length<=Yi/\mE z.cps.toList i=some c/\Q (.str ⟨#[c]⟩) H
theorem Ew:Eu X (M6 X.K):=by
 intro value slice pins s σ H x y v u Q I rx ry h hs
 obtain⟨p,xs,i,z,rfl,rfl,hq,he,q⟩:=h
 cases rx
 obtain⟨t,rfl⟩:=ry
 obtain⟨its,r,pl,hz⟩:=I.list hq
 obtain⟨j,h1,h2,h3,h4,h5⟩:=m8 he
 obtain⟨w,ew,rw'⟩:=r.get h2
 have hl:=r.length
 have hn:=jY
 have fin:EP X pins σ Q w s:=⟨z,H,I,rw',q⟩
 by_cases h0:0<=i
 ·have hj:i.toNat=j:=by
   rw[seqIndex_of h0 h5] at h1
   exact Option.some.inj h1
  exact item_listR pl.isList h0 (by omega) (by rw[hj];simpa using ew) fin hs
 ·have hj:(i+(its.toArray.size:Int)).toNat=j:=by
   rw[seqIndex_neg (by omega) h4] at h1
   rw[aN,<-hl]
   exact Option.some.inj h1
  exact subscriptTail_builtinR (x:=w) pl.isList.typeIs slot_list_getitem.lookup
   (wpAny_getItem_list_neg (Q:=λr s'=>r=w/\EP X pins σ Q r s') pl.isList (by omega) (by rw[aN]<;>omega) (by omega) (by rw[hj];simpa using ew) ⟨rfl,fin⟩) hs
theorem IW:Eu X (M7 X.K):=by
 intro value slice pins s σ H x y v u Q I rx ry h hs
 obtain⟨p,xs,i,z,rfl,rfl,hq,he,q⟩:=h
 cases rx
 obtain⟨t,rfl⟩:=ry
 obtain⟨its,r,pl,hz⟩:=I.tuple hq
 obtain⟨j,h1,h2,h3,h4,h5⟩:=m8 he
 obtain⟨w,ew,rw'⟩:=r.get h2
 have hl:=r.length
 have hn:=jY
 have fin:EP X pins σ Q w s:=⟨z,H,I,rw',q⟩
 exact subscriptTail_builtinR (x:=w) pl.typeIs slot_tuple_getitem.lookup
  (getItem_tuple (j:=j) (Q:=λr s'=>r=w/\EP X pins σ Q r s') pl (by omega) (by omega) (by rw[aN,<-hl];exact h1) (by simpa using ew) ⟨rfl,fin⟩) hs
theorem IX:Eu X M8:=by
 intro value slice pins s σ H x y v u Q I rx ry h hs
 obtain⟨z,i,c,rfl,rfl,hz,he,q⟩:=h
 obtain⟨t,rfl⟩:=rx
 obtain⟨t',rfl⟩:=ry
 obtain⟨j,h1,h2,h3,h4,h5⟩:=m8 he
 have hl:z.cps.toList.length=z.length:=by simp[Str.length]
 rw[hl] at h1 h4 h5
 have hn:=jY
 exact tail_any (typeIs_str s z t) slot_str_getitem.lookup (getItem_str (c:=c) (by
  have e1:decide (i < -(2 ^ 63:Int))=false:=decide_eq_false (by omega)
  have e2:decide (i >= 2 ^ 63)=false:=decide_eq_false (by omega)
  rw[e1,e2,Bool.or_false]) (by rw[h1];simpa using h2) ⟨.str ⟨#[c]⟩,H,I.tok _,⟨_,rfl⟩,q⟩) hs
def Te(K:PySem.W.Frag):R2:=λx y H Q=>M6 K x y H Q\/M7 K x y H Q\/M8 x y H Q
theorem IY:Eu X (Te X.K):=Ew.or (IW.or IX)
theorem u6(its:List X9)(n j:Nat)(u:X9):jA (·.setIfInBounds j u) { cls:=.type "list",data:=.seq its.toArray n }={ cls:=.type "list",data:=.seq (its.set j u).toArray n }:=by
 simp[jA]
theorem Inv.lst{pins:List (X3×Obj)}{σ:St}{H:Hp}{s:X8}{p:X3}{xs:List V}(I:Inv X pins σ H s)(h:H p=some (.lst xs)) :
  ∃(its:List X9)(n:Nat),Vals xs its/\s.heap.get? p=some { cls:=.type "list",data:=.seq its.toArray n }/\xs.length<=Yi:=by
 obtain⟨z,its,n,r,e⟩:=I.hok p _ h
 exact⟨its,n,r,e,z⟩
theorem Inv.IZ{pins:List (X3×Obj)}{σ:St}{H:Hp}{s:X8}{p:X3}{xs ys:List V}{its its':List X9}{n n':Nat}{f:Obj->Obj}(I:Inv X pins σ H s)(h:H p=some (.lst xs))
  (ho:s.heap.get? p=some { cls:=.type "list",data:=.seq its.toArray n })(hf:f { cls:=.type "list",data:=.seq its.toArray n }={ cls:=.type "list",data:=.seq its'.toArray n' })(r:Vals ys its')(hz:ys.length<=Yi)(t:Nat) :
  Inv X pins σ (upd H p (.lst ys)) { s with heap:=s.heap.update p f,toks:=t }:=by
 have e:(s.heap.update p f).get? p=some { cls:=.type "list",data:=.seq its'.toArray n' }:=by
  rw[j4 f ho (by rw[hf]<;>rfl),hf]
 refine I.write (x:=p) (e:=p) (by rw[h];trivial) (.inl rfl) (λb u hb q=>(nR _ _ (az hb)).trans q) ⟨_,e⟩ ?_
 exact⟨hz,its',n',r,e⟩
def M9:V->V->V->Hp->(Hp->Prop)->Prop:=λo i v H Q=>∃p xs k j,o= .ref p/\i= .int k/\H p=some (.lst xs)/\sR xs.length k=some j/\Q (upd H p (.lst (xs.set j v)))
theorem set_list:MK X M9:=by
 intro pins s σ H o i v ov iv u Q I ro ri rv h
 obtain⟨p,xs,k,j,rfl,rfl,hp,hj,q⟩:=h
 cases ro
 obtain⟨t,rfl⟩:=ri
 obtain⟨its,n,r,ho,hz⟩:=I.lst hp
 obtain⟨h1,h2,h3,h4⟩:=wB hj
 have hl:=r.length
 have hn:=jY
 have I':Inv X pins σ (upd H p (.lst (xs.set j v))) { s with heap:=s.heap.update p (jA (·.setIfInBounds j u)) } :=
  I.IZ hp ho (u6 its n j u) (r.set rv j) (by rw[gW];exact hz) s.toks
 by_cases h0:0<=k
 ·have hk:k.toNat=j:=by
   rw[seqIndex_of h0 h4] at h1
   exact Option.some.inj h1
  exact PySem.W.ki_setAt ho h0 (by omega) (by rw[aN,<-hl];exact h4) (by rw[hk];exact⟨_,I',q⟩)
 ·have hk:(k+(its.toArray.size:Int)).toNat=j:=by
   rw[seqIndex_neg (by omega) h3] at h1
   rw[aN,<-hl]
   exact Option.some.inj h1
  exact PySem.W.ki_setBack ho (by omega) (by rw[aN,<-hl];exact h3) (by omega) (by rw[hk];exact⟨_,I',q⟩)
theorem qO(lo hi:Option Int)(n:Nat):(sliceBounds lo hi none n).1=((HT.bX n 0 lo:Nat):Int)/\(sliceBounds lo hi none n).2.1=((HT.bX n n hi:Nat):Int)/\(sliceBounds lo hi none n).2.2=1:=by
 refine⟨?_,?_,rfl⟩
 ·cases lo with
  | none=>simp[sliceBounds,HT.bX]
  | some i=>
   simp only[sliceBounds,HT.bX,Option.getD_none,show(1:Int) > 0 by decide,if_true]
   by_cases h:i < 0
   ·simp only[h,if_true]<;>omega
   ·simp only[h,if_false]<;>omega
 ·cases hi with
  | none=>simp[sliceBounds,HT.bX]
  | some i=>
   simp only[sliceBounds,HT.bX,Option.getD_none,show(1:Int) > 0 by decide,if_true]
   by_cases h:i < 0
   ·simp only[h,if_true]<;>omega
   ·simp only[h,if_false]<;>omega
theorem ph(its:List X9)(lo hi:Option Int):slicePick its.toArray lo hi none=((its.drop (HT.bX its.length 0 lo)).take (HT.bX its.length its.length hi - HT.bX its.length 0 lo)).toArray:=by
 obtain⟨h1,h2,h3⟩:=qO lo hi its.toArray.size
 unfold slicePick
 rw[h1,h2,h3]
 simp only[sliceRange_one,pick_run,aN]<;>rfl
def QD(K:PySem.W.Frag):V->Option Int->Option Int->Hp->VK->Prop:=λx lo hi H Q=>∃a xs,x= .ref a/\iu K H a xs/\∀p,H p=none->Q (.ref p) (upd H p (.lst (pg xs lo hi)))
theorem Ex:DV X (QD X.K):=by
 intro pins s σ H x v vl vu lo hi sl Q I rx hs pl pu h
 obtain⟨a,xs,rfl,hx,q⟩:=h
 cases rx
 obtain⟨its,r,ht,hz⟩:=I.list hx
 have hlen:=r.length
 refine⟨"list",_,slot_list_getitem.lookup,ht.isList.typeIs,?_⟩
 refine wpAny_getItem_list_slice ht.isList hs pl pu .none (by simp) ?_ (by rw[aN]<;>omega)
 rw[ph,<-hlen]
 refine⟨.ref s.heap.objs.size,_,I.laid (t':=s.toks) (o:=.lst (pg xs lo hi)) (λb ob q=>aQ _ q) (ao _) ?_,rfl,q _ (I.hok.fresh (ao _))⟩
 exact⟨bo (mC xs lo hi) hz,_,0,(r.drop (HT.bX xs.length 0 lo)).take (HT.bX xs.length xs.length hi - HT.bX xs.length 0 lo),aX _ rfl⟩
def jT:V->Bool
 | .aR=>true
 | .bl _=>true
 | .int _=>true
 | .str _=>true
 | _=>false
def Ey:V->V->Bool
 | .aR,.aR=>true
 | .bl a,.bl b=>a == b
 | .bl a,.int b=>(if a then 1 else 0) == b
 | .int a,.bl b=>a == (if b then 1 else 0)
 | .int a,.int b=>a == b
 | .str a,.str b=>a == b
 | _,_=>false
theorem I0{A:X4}{s:X8}{y x:V}{u v:X9}(ry:RelV y u)(rx:RelV x v)(fy:jT y=true)(fx:jT x=true):SeqAt.EqAt A s u v (Ey y x):=by
 cases y with
 | aR=>
  cases ry
  cases x with
  | aR=>cases rx;exact SeqAt.EqAt.same _
  | bl b=>cases rx;exact SeqAt.EqAt.none_bool b
  | int b=>obtain⟨t,rfl⟩:=rx;exact SeqAt.EqAt.none_int b t
  | str b=>obtain⟨t,rfl⟩:=rx;exact SeqAt.EqAt.none_str b t
  | _=>exact absurd (show false=true from fx) bV
 | bl a=>
  cases ry
  cases x with
  | aR=>cases rx;exact SeqAt.EqAt.bool_none a
  | bl b=>cases rx;exact SeqAt.EqAt.bool_bool a b
  | int b=>obtain⟨t,rfl⟩:=rx;exact SeqAt.EqAt.bool_int a b t
  | str b=>obtain⟨t,rfl⟩:=rx;exact SeqAt.EqAt.bool_str a b t
  | _=>exact absurd (show false=true from fx) bV
 | int a=>
  obtain⟨t',rfl⟩:=ry
  cases x with
  | aR=>cases rx;exact SeqAt.EqAt.int_none a t'
  | bl b=>cases rx;exact SeqAt.EqAt.int_bool a t' b
  | int b=>obtain⟨t,rfl⟩:=rx;exact SeqAt.EqAt.int_int a t' b t
  | str b=>obtain⟨t,rfl⟩:=rx;exact D4 a t' b t
  | _=>exact absurd (show false=true from fx) bV
 | str a=>
  obtain⟨t',rfl⟩:=ry
  cases x with
  | aR=>cases rx;exact SeqAt.EqAt.str_none a t'
  | bl b=>cases rx;exact SeqAt.EqAt.str_bool a t' b
  | int b=>obtain⟨t,rfl⟩:=rx;exact D5 a t' b t
  | str b=>obtain⟨t,rfl⟩:=rx;exact SeqAt.EqAt.str_str a t' b t
  | _=>exact absurd (show false=true from fx) bV
 | _=>exact absurd (show false=true from fy) bV
def u7(x:V)(u:X9):Bool:=match u with
 | .none=>Ey .aR x
 | .bool b=>Ey (.bl b) x
 | .int i _=>Ey (.int i) x
 | .str z _=>Ey (.str z) x
 | _=>false
theorem Ar{x y:V}{u:X9}(r:RelV y u)(f:jT y=true):u7 x u=Ey y x:=by
 cases y with
 | aR=>cases r;rfl
 | bl b=>cases r;rfl
 | int i=>obtain⟨t,rfl⟩:=r;rfl
 | str z=>obtain⟨t,rfl⟩:=r;rfl
 | _=>exact absurd (show false=true from f) bV
theorem kQ{x:V}:∀{xs:List V}{us:List X9},Vals xs us->xs.all jT=true->us.any (u7 x)=xs.any λy=>Ey y x
 | _,_,.nil,_=>rfl
 | y::xs,u::us,.cons r t,f=>by
  rw[cg,cz] at f
  rw[dW,dW,Ar r f.1,kQ t f.2]
theorem iM{A:X4}{s:X8}{x:V}{v:X9}(rx:RelV x v)(fx:jT x=true):∀{xs:List V}{us:List X9},Vals xs us->xs.all jT=true->∀u∈us,SeqAt.EqAt A s u v (u7 x u)
 | _,_,.nil,_=>λu hu=>by cases hu
 | y::xs,u::us,.cons r t,f=>λu' hu=>by
  rw[cg,cz] at f
  rcases List.mem_cons.mp hu with rfl | hu
  ·rw[Ar r f.1];exact I0 r rx f.1 fx
  ·exact iM rx fx t f.2 u' hu
def O'(x:V)(xs:List V):Bool:=xs.any λy=>Ey y x
def Tf(K:PySem.W.Frag)(neg:Bool):R2:=λx y H Q=>∃p xs,y= .ref p/\(iu K H p xs\/cU K H p xs)/\jT x=true/\xs.all jT=true/\Q (.bl (if neg then !O' x xs else O' x xs)) H
theorem yh:dU X (Ye .In) (Tf X.K false):=by
 intro pins s σ H x y v u Q I rx ry h
 obtain⟨p,xs,rfl,hq,fx,fs,q⟩:=h
 cases ry
 rcases hq with hq | hq
 ·obtain⟨its,r,pl,hz⟩:=I.list hq
  refine SeqAt.in_listAt (u7 x) pl.isList (λw hw=>iM rx fx r fs w (by simpa using hw)) ⟨.bl _,H,I,rfl,?_⟩
  rw[show its.toArray.any (u7 x)=its.any (u7 x) by simp,kQ r fs]
  exact q
 ·obtain⟨its,r,pl,hz⟩:=I.tuple hq
  refine SeqAt.in_tupleAt (u7 x) pl (λw hw=>iM rx fx r fs w (by simpa using hw)) ⟨.bl _,H,I,rfl,?_⟩
  rw[show its.toArray.any (u7 x)=its.any (u7 x) by simp,kQ r fs]
  exact q
theorem qP:dU X (Ye .NotIn) (Tf X.K true):=by
 intro pins s σ H x y v u Q I rx ry h
 obtain⟨p,xs,rfl,hq,fx,fs,q⟩:=h
 cases ry
 rcases hq with hq | hq
 ·obtain⟨its,r,pl,hz⟩:=I.list hq
  refine SeqAt.notIn_listAt (u7 x) pl.isList (λw hw=>iM rx fx r fs w (by simpa using hw)) ⟨.bl _,H,I,rfl,?_⟩
  rw[show its.toArray.any (u7 x)=its.any (u7 x) by simp,kQ r fs]
  exact q
 ·obtain⟨its,r,pl,hz⟩:=I.tuple hq
  refine SeqAt.notIn_tupleAt (u7 x) pl (λw hw=>iM rx fx r fs w (by simpa using hw)) ⟨.bl _,H,I,rfl,?_⟩
  rw[show its.toArray.any (u7 x)=its.any (u7 x) by simp,kQ r fs]
  exact q
theorem qQ:dU X (Ye .NotIn) (λx y H Q=>∃i j,x= .str i/\y= .str j/\Q (.bl (!(!(uU j i 0 j.length 1).isEmpty))) H):=by
 intro pins s σ H x y v u Q I rx ry h
 obtain⟨i,j,rfl,rfl,q⟩:=h
 obtain⟨t,rfl⟩:=rx
 obtain⟨t',rfl⟩:=ry
 exact notIn_str ⟨.bl _,H,I,rfl,q⟩
theorem qR:cR X (.builtin "len") (λxs H Q=>∃p ys,xs=[.ref p]/\(iu X.K H p ys\/cU X.K H p ys)/\Q (.int ys.length) H):=by
 intro pins s σ H xs us Q I r h
 obtain⟨p,ys,rfl,hq,q⟩:=h
 obtain⟨u,rfl,rx⟩:=vals1 r
 cases rx
 have hn:=jY
 rcases hq with hq | hq
 ·obtain⟨its,r',pl,hz⟩:=I.list hq
  have hlen:=r'.length
  exact Calls.call_len_list pl.isList (by simp only[aN]<;>omega) ⟨.int ys.length,H,I.tok _,⟨s.toks+1,by rw[aN,hlen]⟩,q⟩
 ·obtain⟨its,r',pl,hz⟩:=I.tuple hq
  have hlen:=r'.length
  exact len_tuple pl (by simp only[aN]<;>omega) ⟨.int ys.length,H,I.tok _,⟨s.toks+1,by rw[aN,hlen]⟩,q⟩
theorem qS:cR X (.builtin "len") (λxs H Q=>∃z,xs=[.str z]/\z.length<=Yi/\Q (.int z.length) H):=by
 intro pins s σ H xs us Q I r h
 obtain⟨z,rfl,hz,q⟩:=h
 obtain⟨u,rfl,t,rfl⟩:=vals1 r
 have hn:=jY
 exact len_str (by omega) ⟨.int z.length,H,I.tok _,⟨_,rfl⟩,q⟩
theorem cR.or{f:X9}{r r':List V->Hp->VK->Prop}(h:cR X f r)(h':cR X f r'):cR X f (λxs H Q=>r xs H Q\/r' xs H Q):=by
 intro pins s σ H xs us Q I rs q
 rcases q with q | q
 ·exact h pins s σ H xs us Q I rs q
 ·exact h' pins s σ H xs us Q I rs q
theorem qT:cR X (.type "list") (λxs H Q=>∃p ys,xs=[.ref p]/\(iu X.K H p ys\/cU X.K H p ys)/\∀l,H l=none->Q (.ref l) (upd H l (.lst ys))):=by
 intro pins s σ H xs us Q I r h
 obtain⟨p,ys,rfl,hq,q⟩:=h
 obtain⟨u,rfl,rx⟩:=vals1 r
 cases rx
 have fin:∀(its:List X9),Vals ys its->ys.length<=Yi->∀(h':Heap)(c':Nat),(∀b o',s.heap.get? b=some o'->h'.get? b=some o')->
   h'.get? s.heap.objs.size=some { cls:=.type "list",dict:=none,data:=.seq its.toArray c',slots:=#[] }->EP X pins σ Q (.ref s.heap.objs.size) { s with heap:=h' }:=λits r' hz h' c' kp e=>
  ⟨.ref s.heap.objs.size,_,I.laid (t':=s.toks) kp (ao _) (show cp X.prog X.w _ h' _ (.lst ys) from⟨hz,its,c',r',e⟩),rfl,q _ (I.hok.fresh (ao _))⟩
 rcases hq with hq | hq
 ·obtain⟨its,r',pl,hz⟩:=I.list hq
  have hlen:=r'.length
  obtain⟨o,ho,hc,n,hd⟩:=pl.isList
  exact call_list_seq p (.inl rfl) ho hc hd (λh' c' kp e=>fin its r' hz h' c' kp e) (by simp only[aN]<;>omega)
 ·obtain⟨its,r',pl,hz⟩:=I.tuple hq
  have hlen:=r'.length
  obtain⟨o,ho,hc,n,hd⟩:=pl
  exact call_list_seq p (.inr rfl) ho hc hd (λh' c' kp e=>fin its r' hz h' c' kp e) (by simp only[aN]<;>omega)
theorem pj:cR X (.type "tuple") (λxs H Q=>∃p ys,xs=[.ref p]/\((iu X.K H p ys/\∀l,H l=none->Q (.ref l) (upd H l (.tup ys)))\/(cU X.K H p ys/\Q (.ref p) H))):=by
 intro pins s σ H xs us Q I r h
 obtain⟨p,ys,rfl,h⟩:=h
 obtain⟨u,rfl,rx⟩:=vals1 r
 cases rx
 rcases h with ⟨hq,q⟩ | ⟨hq,q⟩
 ·obtain⟨its,r',pl,hz⟩:=I.list hq
  have hlen:=r'.length
  refine call_tuple_list pl.isList (λh' kp=>?_) (by simp only[aN]<;>omega)
  have I1:Inv X pins σ H { s with heap:=h' }:=I.kept (t':=s.toks) kp
  have I2:Inv X pins σ (upd H h'.objs.size (.tup ys)) { s with heap:=h'.push { cls:=.type "tuple",data:=.seq its.toArray } } :=
   I1.laid (t':=s.toks) (λb o e=>aQ _ e) (ao _) (show cp X.prog X.w _ _ _ (.tup ys) from⟨hz,its,r',IsTup.new _ _,uQ.new _ _⟩)
  exact⟨.ref h'.objs.size,_,I2,rfl,q _ (I1.hok.fresh (ao _))⟩
 ·obtain⟨its,r',pl,hz⟩:=I.tuple hq
  exact call_tuple_same pl ⟨.ref p,H,I,rfl,q⟩
def Tg(K:PySem.W.Frag)(T:String)(x:V)(H:Hp):Prop:=match x with
 | .str _=>T="str"
 | .int _=>T="int"
 | .ref p=>(T="list"/\∃xs,iu K H p xs)\/(T="tuple"/\((∃o,K.lookup p=some o/\o.cls= .type "tuple"/\o.dict=none)\/∃xs,H p=some (.tup xs)))\/
   (T="dict"/\((∃kvs,H p=some (.dK kvs))\/∃kvs,H p=some (.dT kvs)))\/(T="set"/\∃S n,H p=some (.set S n))
 | _=>False
theorem I_{pins:List (X3×Obj)}{σ:St}{H:Hp}{s:X8}{T:String}{x:V}{v:X9}(I:Inv X pins σ H s)(r:RelV x v)(ty:Tg X.K T x H) :
  s.TypeIs v T/\∀a,v= .ref a->∃ob,s.heap.get? a=some ob/\ob.dict=none:=by
 cases x with
 | str z=>
  obtain⟨t,rfl⟩:=r
  cases (show T="str" from ty)
  exact⟨typeIs_str s z t,λ_ e=>nomatch e⟩
 | int i=>
  obtain⟨t,rfl⟩:=r
  cases (show T="int" from ty)
  exact⟨typeIs_int s i t,λ_ e=>nomatch e⟩
 | ref p=>
  cases r
  rcases ty with ⟨rfl,xs,hq⟩ | ⟨rfl,⟨o,hk,hc,hd⟩ | ⟨xs,hk⟩⟩ | ⟨rfl,hk⟩ | ⟨rfl,S,n,hk⟩
  ·obtain⟨its,_,pl,_⟩:=I.list hq
   refine⟨pl.isList.typeIs,λa e=>?_⟩
   cases e
   obtain⟨o,n,e,c,hd,_⟩:=pl
   exact⟨o,e,hd⟩
  ·refine⟨⟨o,I.uR p o hk,hc⟩,λa e=>?_⟩
   cases e
   exact⟨o,I.uR _ o hk,hd⟩
  ·obtain⟨_,_,_,⟨o,e1,e2,_⟩,nd⟩:=I.hok p _ hk
   refine⟨⟨o,e1,e2⟩,λa e=>?_⟩
   cases e
   exact⟨o,e1,nd o e1⟩
  ·have z:∃o,s.heap.get? p=some o/\o.ExactDict:=by
    rcases hk with ⟨kvs,hk⟩ | ⟨kvs,hk⟩
    ·obtain⟨_,_,_,_,o,_,_,e,ex,_⟩:=I.hok p _ hk
     exact⟨o,e,ex⟩
    ·obtain⟨_,_,_,_,o,_,_,e,ex,_⟩:=I.hok p _ hk
     exact⟨o,e,ex⟩
   obtain⟨o,e,ex⟩:=z
   refine⟨⟨o,e,ex.1⟩,λa e2=>?_⟩
   cases e2
   exact⟨o,e,ex.2.1⟩
  ·obtain⟨o,_,_,_,e,ex,_⟩:=I.hok p _ hk
   refine⟨⟨o,e,ex.1⟩,λa e2=>?_⟩
   cases e2
   exact⟨o,e,ex.2.1⟩
 | _=>exact aa ty
def U7(K:PySem.W.Frag)(T:String)(r:V->List V->Hp->VK->Prop)(to:TE)(t:TA):TE:=λσ H Q=>to σ H λx H1=>Tg K T x H1/\t σ H1 λxs H2=>r x xs H2 Q
variable {o e:Expr} {es:List Expr} {to:TE} {t:TA} {name:Str} {apos cpos:Pos} {T id:String} {r:V->List V->Hp->VK->Prop}
theorem M_(pa:PlainAttrs T)(slot:Slot T name id)(hty:typeOf (.builtin id)=pure (.type "method_descriptor"))(hm:QC X id r)(ho:PE X o to)(ha:PA X (e::es) t)
  (hbase:attributeBase o name X.env (eval o X.env)=eval o X.env:=by rfl)
  (hfew:((backTo cpos (Yj (e::es) X.env)).all (λx=> !x.1)&&(backToKw cpos (keywordEach [] X.env)).all (λx=>x.1.isSome)
   &&decide ((e::es).length+([]:List Keyword).length+(if([]:List Keyword).isEmpty then 0 else 1) < 30))=true:=by rfl)
  (hline:(apos.endLine == cpos.line)=true:=by rfl)(hs:Yj (e::es) X.env=(false,eval e X.env)::Yj es X.env:=by rfl)(hplain:(backTo cpos (Yj es X.env)).any (·.1)=false:=by rfl) :
  PE X (.Call (.Attribute o name apos) (e::es) [] cpos) (U7 X.K T r to t):=by
 intro pins s σ H Q I h
 refine wpAny_Call_method_late hbase hfew hline rfl (aY (ho pins s σ H _ I h) λv s1 ⟨x,H1,I1,r1,ty,q1⟩=>?_)
 obtain⟨h1,h2⟩:=I_ I1 r1 ty
 refine⟨T,id,pa,slot,hty,h1,h2,?_⟩
 have hA:=ha cpos pins s1 σ H1 _ I1 q1
 rw[hs] at hA ⊢
 refine qU (by show(false||(backTo cpos (Yj es X.env)).any (·.1))=false;rw[hplain]<;>rfl) (nT ?_)
 exact aY hA λus s2 ⟨vs,H2,I2,r2,q2⟩=>hm pins s2 σ H2 x vs v us Q I2 r1 r2 q2
/- xs.append(e),list.index on a As tuple .. are QC facts of 06m -/
end
def QE(X:Cx)(id:String)(r:V->List V->Hp->VK->Prop):Prop :=
 ∀(pins:List (X3×Obj))(s:X8)(σ:St)(H:Hp)(x:V)(xs:List V)(v:X9)(us:List X9)(Q:VK),Inv X pins σ H s->RelV x v->Vals xs us->r x xs H Q->
  Yk (model X.prog X.w) X.A (call (.builtin id) (v::us)) (EP X pins σ Q) X.xe s
theorem Vals.one:∀{x:V}{us:List X9},Vals [x] us->∃u,us=[u]/\RelV x u
 | _,_,.cons r .nil=>⟨_,rfl,r⟩
theorem Vals.rep{xs:List V}{us:List X9}(h:Vals xs us):∀k:Nat,Vals (a_ k xs).flatten (a_ k us).flatten
 | 0=> .nil
 | k+1=>by
  rw[fG,fG,nU,nU]
  exact Vals.append h (Vals.rep h k)
theorem foldl_rep(its:List X9):∀(k:Nat)(acc:List X9),
  List.foldl (λx1 x2=>x1++x2) acc.toArray (a_ k its.toArray)=(acc++(a_ k its).flatten).toArray
 | 0,acc=>by simp
 | k+1,acc=>by
  have e:acc.toArray++its.toArray=(acc++its).toArray:=by simp
  have e2:(acc++its)++(a_ k its).flatten=acc++(a_ (k+1) its).flatten:=by
   rw[fG,nU,gX]
  rw[<-e2,<-foldl_rep its k (acc++its),<-e,fG,Au]
section
variable {X:Cx} {pins:List (X3×Obj)} {σ:St} {H:Hp} {s:X8} {l b:X3} {xs ys zs:List V}
theorem Inv.Ja{its its':List X9}{n:Nat}{f:Array X9->Array X9}{t':Nat}(I:Inv X pins σ H s)(hH:H l=some (.lst xs))
  (e:s.heap.get? l=some { cls:=.type "list",data:=.seq its.toArray n })(hf:f its.toArray=its'.toArray)(hv:Vals ys its')(hz:ys.length<=Yi) :
  Inv X pins σ (upd H l (.lst ys)) { s with heap:=s.heap.update l (jA f),toks:=t' }:=by
 have q:=PySem.IsL.update e f
 rw[hf] at q
 refine I.write (x:=l) (e:=l) (by rw[hH];exact trivial) (.inl rfl) (λb' u hb hu=>(nR s.heap (jA f) (az hb)).trans hu) ⟨_,q⟩ ?_
 exact⟨hz,its',_,hv,q⟩
theorem Inv.Jb{its:List X9}{t':Nat}(I:Inv X pins σ H s)(hv:Vals ys its)(hz:ys.length<=Yi) :
  Inv X pins σ (upd H s.heap.objs.size (.lst ys)) { s with heap:=s.heap.push { cls:=.type "list",data:=.seq its.toArray },toks:=t' } :=
 I.laid (λ_ _ q=>aQ _ q) (ao _) ⟨hz,its,0,hv,aX _ rfl⟩
theorem Inv.fresh(I:Inv X pins σ H s):H s.heap.objs.size=none:=I.hok.fresh (ao _)
theorem Inv.Av(I:Inv X pins σ H s)(hH:H l=some (.lst xs)):xs.length<=Yi/\∃(its:List X9)(n:Nat),Vals xs its/\xs.length=its.length/\s.heap.get? l=some { cls:=.type "list",data:=.seq its.toArray n }:=by
 obtain⟨z,its,n,r,e⟩:=I.hok l _ hH
 exact⟨z,its,n,r,r.length,e⟩
theorem nV{n:Nat}(h:n<=Yi):nW n=false:=by
 unfold nW
 exact decide_eq_false (by omega)
end
section
variable {X:Cx}
def Ez:V->List V->Hp->VK->Prop:=λx vs H Q=>∃l xs y,x= .ref l/\vs=[y]/\H l=some (.lst xs)/\xs.length < Yi/\Q .aR (upd H l (.lst (xs++[y])))
theorem yi:QE X "list.append" Ez:=by
 intro pins s σ H x vs v us Q I rx rv h
 obtain⟨l,xs,y,rfl,rfl,hH,hz,q⟩:=h
 cases rx
 obtain⟨u,rfl,ru⟩:=rv.one
 obtain⟨z,its,n,r,hl,e⟩:=I.Av hH
 refine call_meets F.slot_list_append ⟨_,e,rfl⟩ F.entry_list_append (F.args_list_append_2 _ _) (PySem.list_append l its.toArray n u (by rw[aN];omega)) ⟨e,?_⟩
 refine⟨.aR,_,I.Ja (its':=its++[u]) hH e (by simp) (r.append (.cons ru .nil)) ?_,rfl,q⟩
 rw[dB,List.length_singleton]
 omega
def EA:V->List V->Hp->VK->Prop:=λx vs H Q=>∃l b xs zs,x= .ref l/\vs=[.ref b]/\H l=some (.lst xs)/\H b=some (.lst zs)/\xs.length+zs.length<=Yi/\Q .aR (upd H l (.lst (xs++zs)))
theorem yj:QE X "list.extend" EA:=by
 intro pins s σ H x vs v us Q I rx rv h
 obtain⟨l,b,xs,zs,rfl,rfl,hH,hB,hz,q⟩:=h
 cases rx
 obtain⟨u,rfl,ru⟩:=rv.one
 cases ru
 obtain⟨z,its,n,r,hl,e⟩:=I.Av hH
 obtain⟨z2,its2,n2,r2,hl2,e2⟩:=I.Av hB
 have hsz:its.toArray.size+its2.toArray.size<=Yi:=by rw[aN,aN];omega
 have sS:¬(!its.toArray.isEmpty&&nW (its.toArray.size+its2.toArray.size))=true:=by
  rw[nV hsz,Bool.and_false]
  exact bV
 refine call_meets F.slot_list_extend ⟨_,e,rfl⟩ F.entry_list_extend (F.args_list_extend_2 _ _)
  (AutoSeq1.list_extend_list_list_0 l its.toArray n b its2.toArray n2 sS (by rw[aN];omega) (by omega)) ⟨e,e2,?_⟩
 refine⟨.aR,_,I.Ja (its':=its++its2) hH e (by simp) (r.append r2) ?_,rfl,q⟩
 rw[dB]
 omega
def QF:R2:=λx y H Q=>∃l k xs,x= .ref l/\y= .int k/\H l=some (.lst xs)/\-(2 ^ 63)<=k/\k < 2 ^ 63/\xs.length * k.toNat<=Yi/\
 ∀p,H p=none->Q (.ref p) (upd H p (.lst (a_ k.toNat xs).flatten))
theorem len_rep{α:Type}(xs:List α)(k:Nat):(a_ k xs).flatten.length=k * xs.length:=by
 induction k with
 | zero=>simp
 | succ k ih=>rw[fG,nU,dB,ih,m_,Nat.add_comm]
theorem Jc:dU X (Ya .Mult) QF:=by
 intro pins s σ H x y v u Q I rx ry h
 obtain⟨l,k,xs,rfl,rfl,hH,h1,h2,hz,q⟩:=h
 cases rx
 obtain⟨t,rfl⟩:=ry
 obtain⟨z,its,n,r,hl,e⟩:=I.Av hH
 have hlen:its.toArray.size * k.toNat<=Yi:=by rw[aN,<-hl];exact hz
 have hcap:¬its.toArray.size * k.toNat > (2 ^ 63 - 1) / 8:=by
  have:(Yi:Nat)<=(2 ^ 63 - 1) / 8:=by decide
  omega
 have hfit:¬(!Builtin.List.listFitsIndex k)=true:=by
  rw[fitsIndex_both h1 h2]
  exact bV
 have sS:¬nW (its.toArray.size * k.toNat)=true:=by
  rw[nV hlen]
  exact bV
 have hnew:List.foldl (λx1 x2=>x1++x2) #[] (a_ (if its.toArray.isEmpty=true then 0 else k.toNat) its.toArray)=(a_ k.toNat its).flatten.toArray:=by
  have f0:∀m:Nat,List.foldl (λx1 x2=>x1++x2) #[] (a_ m its.toArray)=(a_ m its).flatten.toArray:=λm=>by
   have:=foldl_rep its m []
   rw[List.nil_append] at this
   exact this
  rw[f0]
  cases its with
  | nil=>simp
  | cons a r'=>rw[if_neg (by simp)]
 refine wpAny_binaryOp_repeat_ref (T:="list") (U:="int") (by decide) ⟨_,e,rfl⟩ (λs'=>typeIs_int s' k t) noFill_list_mul F.fills_int_mul F.slot_int_rmul repeat_list F.slot_int_index.lookup
  (call_meets F.slot_int_rmul (typeIs_int s k t) F.entry_int_rmul (F.args_int_rmul_2 _ _) (int___rmul___int_list k t l its.toArray n)
   ⟨e,rfl,⟨_,e,rfl⟩,call_meets F.slot_list_mul ⟨_,e,rfl⟩ F.entry_list_mul (F.args_list_mul_2 _ _) (AutoListH.list___mul___list_int_3 l its.toArray n k t hfit hcap sS) ⟨e,?_⟩⟩)
 rw[hnew]
 exact⟨.ref _,_,I.Jb (t':=s.toks) (r.rep k.toNat) (by rw[len_rep,Nat.mul_comm];exact hz),rfl,q _ I.fresh⟩
end
section
variable {prog:X7} {w:X_} {A:X4} {E:X9->X8->Prop} {s:X8}
set_option maxRecDepth 100000 in
end
section
variable {X:Cx}
end
end L2
namespace Att
open PySem PySem.W PySem.Calls PyProof.Rows
theorem mM{P:Params}{h:Heap}:∀(ns:List Int)(vs:List X9),WellAll P h vs (ns.map WData.int)->IntsAre vs ns:=by
 intro ns
 induction ns with
 | nil=>
  intro vs w
  rw[fH] at w
  cases w
  exact .nil
 | cons n ns ih=>
  intro vs w
  rw[av] at w
  cases w with
  | cons a b=>
   cases a
   exact .cons _ _ (ih _ b)
theorem yk{l:OpenLaw}{n:Nat}(hn:l.most=some n){P:Params}{h:Heap}{args:List WData}{vals:List X9}
  (hpre:l.row.toRowW.claim.pre args=true)(hwl:WellAll P h vals args) :
  ∃a vs ns,vals=[aB a]/\args=[WData.list (ns.map WData.int)]/\h.get? a=some { cls:=.type "list",data:=.seq vs.toArray }/\IntsAre vs ns/\ns.length<=n:=by
 have hsh:WShape.hasAll [] args [.list .int]=true:=(pre_splitW hpre).1
 have hc:l.pre.holds [] { args:=args }=true:=(pre_splitW hpre).2
 obtain⟨d,r,rfl,h1,h2⟩:=hasAllW_cons hsh
 obtain rfl:=hasAllW_nil h2
 obtain⟨xs,rfl,h3⟩:=hasW_list h1
 obtain⟨ns,rfl⟩:=items_int h3
 have hlen:ns.length<=n:=by
  unfold OpenLaw.pre at hc
  have h4:(WTm.not (.lt (.lit (.int (n:Int))) (.len (.arg 0)))).holds [] { args:=[.list (ns.map .int)] }=true:=by
   have h4:=(holds_andW hc).1
   rw[hn] at h4
   exact h4
  have h5:=condW_of h4 (w_not (w_lt w_lit (w_len_list (w_arg rfl))))
  rw[aH] at h5
  refine Nat.le_of_not_lt λq=>?_
  have q':(n:Int) < ((ns.length:Nat):Int):=by omega
  first
   | (rw[decide_eq_true q'] at h5;exact absurd h5 (by decide))
   | (simp at h5;omega)
 cases hwl with
 | cons w1 w2=>
  cases w2
  cases w1 with
  | list ho hall=>exact⟨_,_,ns,rfl,rfl,ho,mM ns _ hall,hlen⟩
theorem ym(l:OpenLaw)(args:List WData):l.row.toRowW.claim.post args (.bool true) args=true :=
 postW_of (r:=l.row.toRowW) (X:=(true == true))
  (show WShape.has [] (.bool true) .bool=true by first | rfl | decide | simp[WShape.has,WShape.arms,WShape.armsAll])
  (show(WTm.eq .res (.lit (.bool true))).value [] { args:=args,res:=some (.bool true),after:=args }=some (.bool (true == true)) from w_eq_bool (w_res rfl) w_lit) rfl
theorem sT{l:OpenLaw}{n:Nat}{q:X7}{loose:List Str}{XP:(Str->Option X9)->Heap->Prop}{YP:X_->Heap->Prop}{d:DefRec}
  (hn:l.most=some n)(hdf:d.params.defaults=[])
  (call:∀(w:X_)(s₀ s₁:X8)(mg mb:Str->Option X9)(fa:X3)(o:Obj)(pm cd doc:X9)(a:X3)(vs:List X9)(ns:List Int),
   Ground q loose [] XP w s₀ mg mb s₁.heap->YP w s₁.heap->
   s₁.heap.get? fa=some o->o.data= .func (docDef d.name d.params d.body d.scope pm cd doc)->s₁.heap.CodeRec cd d.name->mg d.name=some (.ref fa)->
   s₁.heap.get? a=some { cls:=.type "list",data:=.seq vs.toArray }->IntsAre vs ns->ns.length<=n->s₁.gens=#[]->
   Yc (model l.prog w) callerA (.call (.ref fa) ⟨[.ref a],[]⟩) (λr s'=>r= .ok (.ret (.bool true))/\OldK s₁.heap s'.heap/\s'.os=s₁.os/\AllBare s'.gens) s₁) :
  WalkO q loose XP YP l.row.toRowW d [] (λf vs=>PySem.call f vs):=by
 intro w s₀ s₁ mg mb G Y fa o pm cd doc dV kV ho hd hcd hD hmg hg args vals as hpre hlay hrd hwl hlo
 obtain rfl:dV= .none:=Dflts.none hD hdf
 obtain rfl:kV= .none:=Dflts.noKw hD
 obtain⟨a,vs,ns,rfl,rfl,hobj,hints,hlen⟩:=yk hn hpre hwl
 refine enter_call (codeAny_mono (call w s₀ s₁ mg mb fa o pm cd doc a vs ns G Y ho (fd_plain hd) hcd hmg hobj hints hlen hg) λr s' hq=>?_)
 obtain⟨rfl,h2,h3,h4⟩:=hq
 exact⟨.inl ⟨.bool true,.bool true,[],rfl,λ_=>rfl,.bool true,ym l _,λ_=>⟨List.Pairwise.nil,λ_ hm=>(nomatch hm)⟩⟩,h2,h3,h4⟩
section
variable {prog:X7} {w:X_} {A:X4} {E:X9->X8->Prop} {s:X8} {K:Frag}
def qV(h:Heap):Heap:={ h with objs:=#[] }
theorem j5(h:Heap)(b:X3):(qV h).get? b=none:=by
 cases e:(qV h).get? b with
 | none=>rfl
 | some o=>exact absurd (aC e) (Nat.not_lt_zero _)
theorem Jd{h:Heap}{L:X3}{m:Str->Option X9}(n:h.Ns L m):Fr (qV h) L h m :=
 ⟨n,λb o e=>(by rw[j5] at e;cases e),bx _⟩
end
end Att
namespace L2
open PySem PySem.Spec PyProof.Rows
theorem pU:∀{vs:List X9}{ns:List Int},IntsAre vs ns->Vals (ns.map V.int) vs
 | _,_,.nil=> .nil
 | _,_,.cons n t h=> .cons ⟨t,rfl⟩ (pU h)
def EB(H:Hp):Prop:=∀b,H b=none\/∃o xs,H b=some (.fD o (.lst xs))
theorem Aw{P:X7}{w:X_}{K:PySem.W.Frag}{mg mb:Str->Option X9}{CX:zP}{k:Nat}{fa a:X3}{fd:X5}{x:Str}{sp:Sp}{s₁:X8}{vs:List X9}{ns:List Int}
  (KX:K.In s₁.heap)(hns:s₁.heap.Ns Yh mg)(hb:s₁.heap.Ns builtinsNs mb)(U8:∀x:Str,x≠"__name__"->mb x=Yb x)(hlim:s₁.heap.NoLimit)(hg:s₁.gens=#[])
  (ha:s₁.heap.get? a=some { cls:=.type "list",data:=.seq vs.toArray })(hi:IntsAre vs ns)(hl:ns.length<=Yi)(hr:iK k callerA)
  (F:∀base:Heap,K.In base->base.Ns Yh mg->FnOk P w K mg base CX k fa fd [x] sp)(hbind:∀(s:X8)(u:X9),BindsTo s fd ⟨[u],[]⟩ [(x,u)])
  (L':∀H:Hp,EB H->iu K H a (ns.map V.int)->sp [.ref a] H (λv _=>v= .bl true) λ_ _ _=>False)
  (QG:∀H e s',CX [] H s₁ (λ_ _ _=>False) e s'->False) :
  Yc (model P w) callerA (.call (.ref fa) ⟨[.ref a],[]⟩) (λr s'=>r= .ok (.ret (.bool true))/\OldK s₁.heap s'.heap/\s'.os=s₁.os/\AllBare s'.gens) s₁:=by
 have rv:=pU hi
 have QH:=hi.length
 -- from an abstract heap in which nothing but the script may be tracked
 have core:∀H:Hp,EB H->iu K H a (ns.map V.int)->iE P w H s₁.heap->(∀b,H b≠none->b=a)->(H a≠none->K.lookup a=none)->
   Yc (model P w) callerA (.call (.ref fa) ⟨[.ref a],[]⟩) (λr s'=>r= .ok (.ret (.bool true))/\OldK s₁.heap s'.heap/\s'.os=s₁.os/\AllBare s'.gens) s₁:=by
  intro H hO hS hok hA hK
  have wD:∀{b:X3}{o:Obj},s₁.heap.get? b=some o->H b=none->(qE s₁.heap H).get? b=some o:=λe n=>zV e n
  have MZ:∀{b:X3}{o:Obj}{es:Array DictEntry}{ep:Nat},s₁.heap.get? b=some o->o.data= .dict es ep->H b=none:=λ{b o es ep} e d=>by
   cases q:H b with
   | none=>rfl
   | some u=>
    have e':b=a:=hA b (by rw[q];simp)
    subst e'
    rw[ha] at e;cases e
    have d':Data.seq vs.toArray _=Data.dict es ep:=d
    cases d'
  have Pa:∀{b:X3}{m:Str->Option X9},s₁.heap.Ns b m->(qE s₁.heap H).Ns b m:=λ{b m} ⟨o,es,ep,e,d,r⟩=>⟨o,es,ep,wD e (MZ e d),d,r⟩
  have Th:K.In (qE s₁.heap H):=λb o e=>wD (KX b o e) (by
   cases q:H b with
   | none=>rfl
   | some u=>
    have e':b=a:=hA b (by rw[q];simp)
    subst e'
    rw[hK (by rw[q];simp)] at e;cases e)
  have hM:Mod K mg (qE s₁.heap H):=⟨Th,Pa hns,⟨mb,Pa hb,U8⟩,let ⟨mc,h1,h2⟩:=hlim;⟨mc,Pa h1,h2⟩⟩
  have e0:Am P w K mg (qE s₁.heap H) callerA [] s₁ H:=⟨rfl,hM,λb o e=>D6 e,jB (x_ _ _),trivial,λb hb=>absurd (show b∈([]:List X3) from hb) (by simp),hok,.of_eq hg⟩
  refine codeAny_mono ((F _ Th (Pa hns)).run callerA [] s₁ H ⟨[.ref a],[]⟩ [.ref a] [.ref a] _ _ hr e0 (hbind s₁ (.ref a)) (.cons rfl .nil) (L' H hO hS)) λr s' h=>?_
  cases r with
  | error e=>exact(QG H e s' h).elim
  | ok fl=>
   cases fl with
   | next=>exact aa h
   | brk=>exact aa h
   | cont=>exact aa h
   | ret u=>
    obtain⟨v,H',os,bare,un,QI,r',q⟩:=h
    have q':v= .bl true:=q
    subst q'
    obtain rfl:u=gR true:=r'
    refine⟨rfl,OldK.of_keep λb o e=>?_,os,bare⟩
    cases q:H b with
    | none=>exact un.keep b o e q (by intro z;exact absurd (show b∈([]:List X3) from z) (by simp)) (by simp)
    | some u=>
     rcases hO b with z | ⟨ob,xs,z⟩
     ·rw[q] at z;cases z
     ·have z2:=un.iF b ob _ z
      obtain⟨e1,_⟩:=hok b _ z
      obtain⟨e2,_⟩:=QI b _ z2
      rw[e] at e1;cases e1
      exact e2
 cases hk:K.lookup a with
 | some o=>
  -- the script is one of the As own objects
  have e:=KX a o hk
  rw[ha] at e
  cases e
  refine core (λ_=>none) (λ_=> .inl rfl) (.inr ⟨_,vs.toArray,_,hk,rfl,rfl,rfl,by rw[aN,QH];exact hl,by simpa using rv⟩) (λb u z=>by have z':(none:Option HO)=some u:=z;cases z') (λb z=>absurd rfl z) λz=>absurd rfl z
 | none=>
  refine core (λb=>if b=a then some (.fD { cls:=.type "list",data:=.seq vs.toArray } (.lst (ns.map V.int))) else none) (λb=>?_) (.inl (.inr ⟨{ cls:=.type "list",data:=.seq vs.toArray },if_pos rfl⟩)) (λb u z=>?_) (λb z=>?_) λ_=>hk
  ·by_cases hb:b=a
   ·exact .inr ⟨_,_,if_pos hb⟩
   ·exact .inl (if_neg hb)
  ·by_cases hb:b=a
   ·have z':=(if_pos hb).symm.trans z
    cases z'
    subst hb
    exact⟨ha,by rw[aH];exact hl,vs,_,rv,ha⟩
   ·have z':=(if_neg hb).symm.trans z
    cases z'
  ·by_cases hb:b=a
   ·exact hb
   ·exact absurd (if_neg hb) z
abbrev KOf{K:PySem.W.Frag}{h:Heap}(_:K.In h):PySem.W.Frag:=K
theorem walk_of{l:PySem.W.OpenLaw}{n k:Nat}{q:X7}{loose:List Str}{XP:(Str->Option X9)->Heap->Prop}{YP:X_->Heap->Prop}{d:DefRec}{K:Params->PySem.W.Frag}{CX:X_->zP}{sp:X_->Sp}{x:Str}
  (hn:l.most=some n)(hn2:n<=Yi)(hdf:d.params.defaults=[])(hr:iK k callerA)
  (hY:∀(w:X_)(h:Heap),YP w h->(K w.params).In h)
  (F:∀(w:X_)(mg:Str->Option X9)(fa:X3)(h:Heap),(K w.params).In h->h.Ns Yh mg->mg d.name=some (.ref fa)->
   ∃fd:X5,(∀(s:X8)(u:X9),BindsTo s fd ⟨[u],[]⟩ [(x,u)])/\
    ∀base:Heap,(K w.params).In base->base.Ns Yh mg->FnOk l.prog w (K w.params) mg base (CX w) k fa fd [x] (sp w))
  (L':∀(w:X_)(H:Hp)(a:X3)(ns:List Int),ns.length<=n->EB H->iu (K w.params) H a (ns.map V.int)->sp w [.ref a] H (λv _=>v= .bl true) λ_ _ _=>False)
  (QG:∀(w:X_)(H:Hp)(s:X8)(e:X9)(s':X8),CX w [] H s (λ_ _ _=>False) e s'->False) :
  PySem.W.WalkO q loose XP YP l.row.toRowW d [] (λf vs=>PySem.call f vs):=by
 refine Att.sT hn hdf λw s₀ s₁ mg mb fa o pm cd doc a vs ns G Y ho hd hcd hmg hobj hints hlen hg=>?_
 have KX:=hY w _ Y
 obtain⟨fd,hb,hF⟩:=F w mg fa _ KX G.T.g hmg
 exact Aw KX G.T.g G.T.b G.T.builtins G.T.nolimit hg hobj hints (bo hlen hn2) hr hF hb (λH hO hS=>L' w H a ns hlen hO hS) λH e s'=>QG w H s₁ e s'
end L2
/- Xd U9 Pb (shape;Xe,My.* are Ti):
   My.Xf: a structure of the addresses U_ your Tj names (classes,Ma);My.Txt K t: a structure (Prop) of the equations over K;
   My.Je:{K} {implicit addresses ..} (e1:nsIn K Yh "law"=some (some (.ref f))) (e2:K.lookup f=some ⟨oc,od,.func (fnOf "law" "law" params body scope dV kV doc pm an cdv ct),sl⟩) (e3:codeIn K cdv "law"=true) ..:∃t,My.Txt K t
set_option maxRecDepth 100000 in
set_option maxHeartbeats 0 in
theorem PySem.Challenge.cw_LID_holds:PySem.Challenge.rw_LID.Holds:=by
 w_on;o_law;k_head;(case hw=>w_witness2)
 k_fill
 refine L2.walk_of (l:=PySem.Challenge.rw_LID) (n:=63) (k:=40) (x:="script") (CX:=fun w => ..) (sp:=fun _ => My.sp_law) rfl (by decide) rfl ⟨rfl,by decide,by decide⟩ (fun w h Y => PySem.W.kIn_of Y) ?F ?S ?C
 case F=>
  intro w mg fa h KX G hmg
  have T:∃t,My.Txt (L2.KOf KX) t:=by
   dsimp only[L2.KOf] -- K U' stand as «<heap const> w.params» for k_is
   refine' My.Je ?e1 ?e2 ?e3 ..
   (case e1=>PySem.W.k_is) -- in the order: a name -> its address -> its object -> its parts
   (case e2=>PySem.W.k_is)
   ..
  obtain⟨t,T⟩:=T
  have e0:=hmg.symm.trans (PySem.W.mg_of KX G T.law)
  cases e0 -- fa is the To own address
  exact⟨_,λs u=> .of_eq rfl,λbase kb nb=>My.Jf T kb nb⟩ -- if «.of_eq rfl» comes Xg early: refine' ⟨_,?b,λbase kb nb=>My.Jf T kb nb⟩;exact λs u=> .of_eq rfl
 case S=>exact λw H a ns hl hO hS=> ..
 case C=>exact ..
(the tactic k_is has no namespace: write k_is) -/
namespace L2
open PySem PySem.Spec PyProof.Rows
def defArgs(s:Stmt):Arguments:=match s with
 | .FunctionDef _ a _ _ _ _ _ _ _ _=>a
 | _=>{ posonlyargs:=[],args:=[],vararg:=none,kwonlyargs:=[],kw_defaults:=[],kwarg:=none,defaults:=[] }
def defBody(s:Stmt):List Stmt:=match s with
 | .FunctionDef _ _ b _ _ _ _ _ _ _=>b
 | _=>[]
def defScope(s:Stmt):Scope:=match s with
 | .FunctionDef _ _ _ _ _ _ sc _ _ _=>sc
 | _=>{ kind:=.function,names:=[],isGenerator:=false,isCoroutine:=false }
abbrev CX0:zP:=λ_ _ _ _ _ _=>False
abbrev E0:XK:=λ_ _ _=>False
structure Jg(K:PySem.W.Frag)(x qual:Str)(st:Stmt)(f:X3)(fd:X5):Prop where
 ex:∃(oc:X9)(od:Option X3)(kV doc pm:X9)(an:Option X3)(cdv ct:X9)(osl:Array (Option X9)),
  fd=PySem.W.fnOf x qual (defArgs st) (defBody st) (defScope st) .none kV doc pm an cdv ct/\K.lookup f=some ⟨oc,od,.func fd,osl⟩/\PySem.W.codeIn K cdv qual=true
 kp:PySem.W.keepIn K (.ref f)=true
section
variable {P:X7} {w:X_} {K:PySem.W.Frag} {mg:Str->Option X9} {base:Heap}
theorem Jg.binds{x qual:Str}{st:Stmt}{f:X3}{fd:X5}{ps:List Str}(F:Jg K x qual st f fd)
  (h:∀(kV doc pm:X9)(an:Option X3)(cdv ct:X9)(us:List X9),us.length=ps.length->bindArgs (PySem.W.fnOf x qual (defArgs st) (defBody st) (defScope st) .none kV doc pm an cdv ct) ⟨us,[]⟩=pure (ps.zip us)):Binds K fd ps []:=by
 obtain⟨oc,od,kV,doc,pm,an,cdv,ct,osl,rfl,lk,hcd⟩:=F.ex
 exact .all (h kV doc pm an cdv ct)
theorem Jh{x qual:Str}{st:Stmt}{f:X3}{oc:X9}{od an:Option X3}{osl:Array (Option X9)}{kV doc pm cdv ct:X9}(l:K.lookup f=some ⟨oc,od,.func (PySem.W.fnOf x qual (defArgs st) (defBody st) (defScope st) .none kV doc pm an cdv ct),osl⟩)
  (c:PySem.W.codeIn K cdv qual=true)(k:PySem.W.keepIn K (.ref f)=true):Jg K x qual st f (PySem.W.fnOf x qual (defArgs st) (defBody st) (defScope st) .none kV doc pm an cdv ct):=⟨⟨oc,od,kV,doc,pm,an,cdv,ct,osl,rfl,l,c⟩,k⟩
end
section
variable {X:Cx}
end
section
variable {κ : Type} [DecidableEq κ]
def j6(kvs : List (κ×V))(k : κ) : Option V := (kvs.find? λkv=>decide (kv.1=k)).map (·.2)
def putK(kvs : List (κ×V))(k : κ)(v : V) : List (κ×V) :=
 if(kvs.any λkv=>decide (kv.1=k))=true then kvs.map (λkv=>if kv.1=k then(kv.1, v) else kv) else kvs++[(k, v)]
def iw(kvs : List (κ×V))(k : κ) : List (κ×V) := kvs.filter λkv=>decide (kv.1≠k)
theorem kR{p : κ×V}{r : List (κ×V)}{k : κ}(e : p.1=k) : j6 (p::r) k=some p.2 := by simp[j6, lS, e]
theorem kS{p : κ×V}{r : List (κ×V)}{k : κ}(e : ¬p.1=k) : j6 (p::r) k=j6 r k := by simp[j6, lS, e]
theorem sU(k : κ) : ∀kvs : List (κ×V), (kvs.any λkv=>decide (kv.1=k))=(j6 kvs k).isSome
 | []=>rfl
 | p::r=>by
  rw[dW]
  by_cases e : p.1=k
  ·simp only[kR e, decide_eq_true e, Bool.true_or, Option.isSome_some]
  ·rw[kS e, decide_eq_false e, Bool.false_or];exact sU k r
theorem mF(kvs : List (κ×V))(k : κ)(v : V) : (putK kvs k v).length<=kvs.length+1 := by
 unfold putK
 split
 ·rw[aH];omega
 ·rw[dB, ng, List.length_nil];omega
theorem pe.pV{o : Option V}{u : Option X9}(r : pe o u) : o.isSome=u.isSome := by
 cases o with
 | none=>cases u with
  | none=>rfl
  | some _=>exact(show False from r).elim
 | some _=>cases u with
  | none=>exact(show False from r).elim
  | some _=>rfl
theorem pe.getD{o : Option V}{u : Option X9}{d : V}{d' : X9}(r : pe o u)(rd : RelV d d') : RelV (o.getD d) (u.getD d') := by
 cases o with
 | none=>cases u with
  | none=>exact rd
  | some _=>exact(show False from r).elim
 | some _=>cases u with
  | none=>exact(show False from r).elim
  | some _=>exact r
theorem KV.val{kvs : List (κ×V)}{vs : List (κ×X9)}(r : KV kvs vs)(k : κ) : pe (j6 kvs k) (valueAt vs k) := by
 unfold KV at r
 induction r with
 | nil=>exact nh
 | @cons p q ps qs h t ih=>
  obtain⟨h1, h2⟩ := h
  by_cases e : p.1=k
  ·have e' : q.1=k := h1.symm.trans e
   have b : valueAt (q::qs) k=some q.2 := by simp[valueAt, lS, e']
   rw[kR e, b];exact h2
  ·have e' : ¬q.1=k := λz=>e (h1.trans z)
   have b : valueAt (q::qs) k=valueAt qs k := by simp[valueAt, lS, e']
   rw[kS e, b];exact ih
theorem KV.any{kvs : List (κ×V)}{vs : List (κ×X9)}(r : KV kvs vs)(k : κ) : (kvs.any λkv=>decide (kv.1=k))=vs.any λkv=>decide (kv.1=k) := by
 unfold KV at r
 induction r with
 | nil=>rfl
 | cons h t ih=>rw[dW, dW, ih, h.1]
theorem KV.repl{kvs : List (κ×V)}{vs : List (κ×X9)}(r : KV kvs vs)(k : κ){y : V}{u : X9}(ry : RelV y u) :
  KV (kvs.map λkv=>if kv.1=k then(kv.1, y) else kv) (vs.map λkv=>if kv.1=k then(kv.1, u) else kv) := by
 unfold KV at r ⊢
 induction r with
 | nil=>exact .nil
 | @cons p q ps qs h t ih=>
  rw[av, av]
  refine .cons ?_ ih
  obtain⟨h1, h2⟩ := h
  by_cases e : p.1=k
  ·rw[if_pos e, if_pos (h1.symm.trans e)];exact⟨h1, ry⟩
  ·rw[if_neg e, if_neg (λz=>e (h1.trans z))];exact⟨h1, h2⟩
theorem KV.put{kvs : List (κ×V)}{vs : List (κ×X9)}(r : KV kvs vs)(k : κ){y : V}{u : X9}(ry : RelV y u) : KV (putK kvs k y) (stored vs k u) := by
 unfold putK stored
 rw[r.any k]
 by_cases e : (vs.any λkv=>decide (kv.1=k))=true
 ·rw[if_pos e, if_pos e];exact r.repl k ry
 ·rw[if_neg e, if_neg e];exact Paired.snoc r ⟨rfl, ry⟩
theorem KV.length{kvs : List (κ×V)}{vs : List (κ×X9)}(r : KV kvs vs) : kvs.length=vs.length := Paired.length r
theorem Ax(kvs : List (κ×V))(k : κ) : (iw kvs k).length<=kvs.length := EC _ _
end
theorem wF{P : X7}{w : X_}{k : Key}{u : X9}(r : RelV (kV k) u) : (aV P w).is k u=true := by
 cases k with
 | inl i=>obtain⟨t, e⟩ := (show ∃t, u=mW i t from r);subst e;exact sJ P w i t
 | inr x=>obtain⟨t, e⟩ := (show ∃t, u=eZ x t from r);subst e;exact sL P w x t
theorem pW{P : X7}{w : X_} : ∀{ks : List Key}{us : List X9}, Vals (ks.map kV) us->ItemsAre (aV P w) ks us
 | [], _, r=>by rw[fH] at r;cases r;exact .nil
 | k::ks, _, r=>by
  rw[av] at r
  cases r with
  | cons h t=>exact .cons (wF h) (pW t)
abbrev KT(H : Hp) : List (List Key×V)->List (List Key×X3×X9)->Prop := Paired λp q=>p.1=q.1/\H q.2.1=some (.tup (p.1.map kV))/\RelV p.2 q.2.2
theorem KT.val{H : Hp}{kvs : List (List Key×V)}{xs : List (List Key×X3×X9)}(r : KT H kvs xs)(k : List Key) : pe (j6 kvs k) ((atKey xs k).map (·.2)) := by
 induction r with
 | nil=>exact nh
 | @cons p q ps qs h t ih=>
  obtain⟨h1, _, h2⟩ := h
  by_cases e : p.1=k
  ·have e' : q.1=k := h1.symm.trans e
   have b : atKey (q::qs) k=some q.2 := by simp[atKey, lS, e']
   rw[kR e, b];exact h2
  ·have e' : ¬q.1=k := λz=>e (h1.trans z)
   have b : atKey (q::qs) k=atKey qs k := by simp[atKey, lS, e']
   rw[kS e, b];exact ih
theorem KT.repl{H : Hp}{kvs : List (List Key×V)}{xs : List (List Key×X3×X9)}(r : KT H kvs xs)(k : List Key){y : V}{u : X9}(ry : RelV y u) :
  KT H (kvs.map λkv=>if kv.1=k then(kv.1, y) else kv) (xs.map (putAt k u)) := by
 induction r with
 | nil=>exact .nil
 | @cons p q ps qs h t ih=>
  rw[av, av]
  refine .cons ?_ ih
  obtain⟨h1, h2, h3⟩ := h
  unfold putAt
  by_cases e : p.1=k
  ·rw[if_pos e, if_pos (h1.symm.trans e)];exact⟨h1, h2, ry⟩
  ·rw[if_neg e, if_neg (λz=>e (h1.trans z))];exact⟨h1, h2, h3⟩
theorem KT.put{H : Hp}{kvs : List (List Key×V)}{xs : List (List Key×X3×X9)}(r : KT H kvs xs)(k : List Key){b : X3}{y : V}{u : X9}(hb : H b=some (.tup (k.map kV)))(ry : RelV y u) :
  KT H (putK kvs k y) (storedH xs k b u) := by
 have e : (kvs.any λkv=>decide (kv.1=k))=(atKey xs k).isSome := by
  rw[sU, (r.val k).pV, Option.isSome_map]
 unfold putK storedH
 rw[e]
 by_cases q : (atKey xs k).isSome=true
 ·rw[if_pos q, if_pos q];exact r.repl k ry
 ·rw[if_neg q, if_neg q];exact Paired.snoc r ⟨rfl, hb, ry⟩
theorem KT.keeps{H H' : Hp}{kvs : List (List Key×V)}{xs : List (List Key×X3×X9)}(r : KT H kvs xs)(ht : ∀b ys, H b=some (.tup ys)->H' b=some (.tup ys)) : KT H' kvs xs :=
 Paired.Ie r λ_ _ z=>⟨z.1, ht _ _ z.2.1, z.2.2⟩
section
variable {P : X7} {w : X_} {H : Hp} {h : Heap} {a : X3}
theorem Ay{u : HO}(ok : iE P w H h)(e : Rd H a u) : cp P w H h a u := e.ok ok
theorem wG{kvs : List (Key×V)}(ok : iE P w H h)(e : Rd H a (.dK kvs)) : kvs.length<=Yi/\(a == sysModules)=false/\∃vs, KV kvs vs/\h.DictOf (aV P w) a vs :=
 show cp P w H h a (.dK kvs) from Ay ok e
theorem M'{kvs : List (Key×V)}(ok : iE P w H h)(e : H a=some (.dK kvs)) : kvs.length<=Yi/\(a == sysModules)=false/\∃vs, KV kvs vs/\h.DictOf (aV P w) a vs := wG ok (.inl e)
theorem lT{ks : List Key}(ok : iE P w H h)(e : H a=some (.tup (ks.map kV))) : (tupleKind (aV P w)).is h ks a := by
 obtain⟨_, its, r, ⟨o, h1, h2, n, h3⟩, _⟩ := (show cp P w H h a (.tup (ks.map kV)) from ok a _ e)
 exact⟨o, its.toArray, n, h1, h2, h3, by simpa using pW r⟩
theorem pX{kvs : List (List Key×V)}(ok : iE P w H h)(e : Rd H a (.dT kvs)) : kvs.length<=Yi/\(a == sysModules)=false/\
  ∃xs, KT H kvs xs/\h.DictOfH (tupleKind (aV P w)) a xs := by
 obtain⟨z, y, xs, r, o, es, ep, h1, h2, h3, h4, h5⟩ := (show cp P w H h a (.dT kvs) from Ay ok e)
 refine⟨z, y, xs, r, o, es, ep, h1, h2, h3, h4, λx hx=>?_, h5⟩
 have all : ∀{l : List (List Key×V)}{m : List (List Key×X3×X9)}, KT H l m->∀x∈m, (tupleKind (aV P w)).is h x.1 x.2.1 := by
  intro l m q
  induction q with
  | nil=>intro x hx;exact nomatch hx
  | @cons p q ps qs hq t ih=>
   intro x hx
   rcases List.mem_cons.mp hx with e | hx
   ·subst e
    exact lT ok (by rw[<-hq.1];exact hq.2.1)
   ·exact ih x hx
 exact all r x hx
theorem Az{kvs : List (List Key×V)}(ok : iE P w H h)(e : H a=some (.dT kvs)) : kvs.length<=Yi/\(a == sysModules)=false/\
  ∃xs, KT H kvs xs/\h.DictOfH (tupleKind (aV P w)) a xs := pX ok (.inl e)
end
def u9(H : Hp)(a : X3)(y : V)(r : Option V) : Prop :=
 (∃kvs k, Rd H a (.dK kvs)/\y=kV k/\r=j6 kvs k)\/∃kvs k b, Rd H a (.dT kvs)/\y= .ref b/\H b=some (.tup (k.map kV))/\r=j6 kvs k
def qW(H : Hp)(a : X3)(y v : V)(H' : Hp) : Prop :=
 (∃kvs k, H a=some (.dK kvs)/\y=kV k/\kvs.length < Yi/\H'=upd H a (.dK (putK kvs k v)))\/
 ∃kvs k b, H a=some (.dT kvs)/\y= .ref b/\H b=some (.tup (k.map kV))/\kvs.length < Yi/\H'=upd H a (.dT (putK kvs k v))
theorem u9.k{H : Hp}{a : X3}{kvs : List (Key×V)}{k : Key}(e : H a=some (.dK kvs)) : u9 H a (kV k) (j6 kvs k) := .inl ⟨kvs, k, .inl e, rfl, rfl⟩
theorem qW.k{H : Hp}{a : X3}{kvs : List (Key×V)}{k : Key}{v : V}(e : H a=some (.dK kvs))(hl : kvs.length < Yi) : qW H a (kV k) v (upd H a (.dK (putK kvs k v))) := .inl ⟨kvs, k, e, rfl, hl, rfl⟩
theorem qW.t{H : Hp}{a b : X3}{kvs : List (List Key×V)}{k : List Key}{v : V}(e : H a=some (.dT kvs))(eb : H b=some (.tup (k.map kV)))(hl : kvs.length < Yi) :
  qW H a (.ref b) v (upd H a (.dT (putK kvs k v))) := .inr ⟨kvs, k, b, e, rfl, eb, hl, rfl⟩
section
variable {X : Cx} {pins : List (X3×Obj)} {σ : St} {H : Hp} {s : X8} {a : X3} {y v : V} {u r : X9} {o : Option V} {A : X4} {E : X9->X8->Prop}
theorem Inv.big(I : Inv X pins σ H s) : sysModules < s.heap.objs.size := by
 have h : Yh < s.heap.objs.size := (I.mod.glob.keeps I.bk).lt
 exact Nat.lt_trans (by decide) h
theorem qX{h' : Heap}{t' : Nat}{ob : HO}(I : Inv X pins σ H s)(mu : Mu (H a))(hs : f9 a s.heap h')(he : ∃q, h'.get? a=some q)(new : cp X.prog X.w (upd H a ob) h' a ob) :
  Inv X pins σ (upd H a ob) { s with heap := h', toks := t' } :=
 I.write (x := a) (e := a) mu (.inl rfl) (λb q hb z=>(hs.2 b hb).trans z) he new
theorem Ji{P : X7}{w : X_}{H' : Hp}{h' : Heap}{kvs : List (Key×V)}{vs : List (Key×X9)}(z : kvs.length<=Yi)(hd : (a == sysModules)=false)(rel : KV kvs vs)(dd : h'.DictOf (aV P w) a vs) :
  cp P w H' h' a (.dK kvs) :=⟨z, hd, vs, rel, dd⟩
theorem yo{H' : Hp}{Q : Unit->X8->Prop}(hu : A.units+1 < cLine)(I : Inv X pins σ H s)(g : qW H a y v H')(ry : RelV y u)(rv : RelV v r)(h : ∀s', Inv X pins σ H' s'->Q () s') :
  Yk (model X.prog X.w) A (setItem (.ref a) u r) Q E s := by
 rcases g with ⟨kvs, k, e, ey, l, eH⟩ | ⟨kvs, k, b, e, ey, eb, l, eH⟩
 ·subst ey eH
  obtain⟨z, hd, vs, rel, dd⟩ := M' I.hok e
  have hz : vs.length<=Yi := by rw[<-rel.length];exact z
  have hl : (putK kvs k v).length<=Yi := by have := mF kvs k v;omega
  refine wpAny_setItem_pairs (hsz := hz) (wF ry) dd λh' GX hs=>h _ ?_
  have he : ∃q, h'.get? a=some q := let ⟨q, _, _, hq, _⟩ := GX;⟨q, hq⟩
  exact qX I (by rw[e];exact nh) hs he (Ji hl hd (rel.put k rv) GX)
 ·subst ey eH
  cases (show u=aB b from ry)
  obtain⟨z, hd, xs, rel, dd⟩ := Az I.hok e
  have hz : xs.length<=Yi := by rw[<-Paired.length rel];exact z
  have hl : (putK kvs k v).length<=Yi := by have := mF kvs k v;omega
  refine wpAny_setItem_heap (hsz := hz) (tupleKind_room_in1 hu) (lT I.hok eb) dd λh' GX hs=>h _ ?_
  obtain⟨q, es, ep, hq, h2, h3, h4, _, h5⟩ := GX
  refine qX I (by rw[e];exact nh) hs ⟨q, hq⟩ ⟨hl, hd, _, (rel.put k eb rv).keeps λc ys ec=>?_, q, es, ep, hq, h2, h3, h4, h5⟩
  rw[aw (GL ec e (λz=>nomatch z))]
  exact ec
end
section
variable {X : Cx} {pins : List (X3×Obj)} {σ : St} {H : Hp} {s : X8} {a : X3} {kvs : List (Key×V)} {k : Key} {u : X9} {A : X4} {E : X9->X8->Prop}
end
def Jj(i : Expr) : Prop := ∀ov iv, subscripted i false ov iv=operate [ov, iv] (getItem ov iv)
theorem ED{prog : X7}{w : X_}{A : X4}{E : X9->X8->Prop}{s : X8}{env : Env}{value slice : Expr}{pos : Pos}{T id : String}{Q : X9->X8->Prop}
  (hl : typeLookup (.type T) "__getitem__"=pure (some (.builtin id)))(hs : Jj slice)
  (h : Yk (model prog w) A (eval value env) (λo s₁=>Yk (model prog w) A (eval slice env) (λi s₂=>s₂.TypeIs o T/\Yk (model prog w) A (getItem o i) Q E s₂) E s₁) E s) :
  Yk (model prog w) A (eval (.Subscript value slice pos) env) Q E s := by
 refine Subscript_ (Yo h (λo s₁ h₁=>Yo h₁ (λi s₂ h₂=>?_) λ_ _ x=>x) λ_ _ x=>x)
 obtain⟨hT, h₂⟩ := h₂
 unfold subscriptTail
 refine Yl ?_
 rw[getitemInPython_of_ne hT.not_modules]
 refine Yl (wpAny_specialOf hT hl ?_)
 have fin : Yk (model prog w) A (subscripted slice false o i) (λr s₃=>Yk (model prog w) A (letTemporaryGo value o r >>= λ_=>pure r) Q E s₃) E s₂ := by
  rw[hs o i]
  exact wpAny_operating (Yo h₂ (λr s₃ h₃=>Yl (wpAny_letTemporaryGo (Yq h₃))) λ_ _ x=>x)
 first
  | exact Yq (Yl fin)
  | exact Yl (Yq (Yl fin))
  | exact Yl fin
def Na(td ty tv : TE) : TS := λD σ H=>tv σ H λv H1=>td σ H1 λx H2=>ty σ H2 λy H3=>∃a H4, x= .ref a/\qW H3 a y v H4/\D.nx σ H4
section
variable {X : Cx} {o i e value : Expr} {pos pos' tpos : Pos} {td ty tv : TE}
theorem EE(hu : X.A.units+1 < cLine)(ho : PE X o td)(hi : PE X i ty)(hv : PE X value tv)(hs : swapsWith value (some (.Subscript o i pos')) pos.line X.env=pure false) :
  PS X (.Assign [.Subscript o i pos'] value pos) (Na td ty tv) := by
 intro pins s σ H D I h
 refine wpAny_Assign_Subscript (aY (hv pins s σ H _ I h) λr s1 ⟨v, H1, I1, rv, q1⟩=>aY (ho pins s1 σ H1 _ I1 q1) λu s2 ⟨x, H2, I2, rx, q2⟩=>aY (hi pins s2 σ H2 _ I2 q2) λiv s3 ⟨y, H3, I3, ry, a, H4, ex, g, q3⟩=>?_) hs
 subst ex
 obtain rfl : u=aB a := rx
 exact yo hu I3 g ry rv λs4 I4=>⟨σ, H4, I4, q3⟩
end
theorem AA{P : X7}{w : X_}{H : Hp}(h : Heap)(hb : sysModules < h.objs.size) : cp P w H (h.push { cls := .type "dict", data := .dict #[] }) h.objs.size (.dK []) :=
 ⟨bx _, beq_eq_false_iff_ne.mpr (az (aP hb)), [], .nil, Heap.DictOf.new h⟩
theorem AB{P : X7}{w : X_}{H : Hp}(h : Heap)(hb : sysModules < h.objs.size) : cp P w H (h.push { cls := .type "dict", data := .dict #[] }) h.objs.size (.dT []) :=
 ⟨bx _, beq_eq_false_iff_ne.mpr (az (aP hb)), [], .nil, _, #[], 0, aX _ rfl, ⟨rfl, rfl, rfl⟩, rfl, rfl, jC⟩
def Jk : TE := λ_ H Q=>∀p, H p=none->Q (.ref p) (upd H p (.dK []))
def Jl : TE := λ_ H Q=>∀p, H p=none->Q (.ref p) (upd H p (.dT []))
section
variable {X : Cx} {pos : Pos}
theorem AD : PE X (.Dict [] [] pos) Jk := λpins s σ H Q I h=>
 wpAny_Dict_empty ⟨.ref s.heap.objs.size, _, I.laid (a := s.heap.objs.size) (o := .dK []) (t' := s.toks) (λ_ _ q=>aQ _ q) (ao _) (AA s.heap I.big), rfl, h _ (I.hok.fresh (ao _))⟩
theorem AE : PE X (.Dict [] [] pos) Jl := λpins s σ H Q I h=>
 wpAny_Dict_empty ⟨.ref s.heap.objs.size, _, I.laid (a := s.heap.objs.size) (o := .dT []) (t' := s.toks) (λ_ _ q=>aQ _ q) (ao _) (AB s.heap I.big), rfl, h _ (I.hok.fresh (ao _))⟩
end
def Jm(kvs more : List (Key×V)) : List (Key×V) := more.foldl (λacc kv=>putK acc kv.1 kv.2) kvs
structure M1(X : Cx)(o : Expr)(m : Str)(apos : Pos)(e : Expr)(cpos : Pos) : Prop where
 base : attributeBase o m X.env (eval o X.env)=eval o X.env
 few : ((backTo cpos (Yj [e] X.env)).all (λx=> !x.1)&&(backToKw cpos (keywordEach [] X.env)).all (λx=>x.1.isSome)
  &&decide (([e] : List Expr).length+([] : List Keyword).length+(if([] : List Keyword).isEmpty then 0 else 1) < 30))=true
 line : (apos.endLine == cpos.line)=true
 trees : backTo cpos (Yj [e] X.env)=[(false, eval e X.env)]
structure M2(X : Cx)(o : Expr)(m : Str)(apos : Pos)(e f : Expr)(cpos : Pos) : Prop where
 base : attributeBase o m X.env (eval o X.env)=eval o X.env
 few : ((backTo cpos (Yj [e, f] X.env)).all (λx=> !x.1)&&(backToKw cpos (keywordEach [] X.env)).all (λx=>x.1.isSome)
  &&decide (([e, f] : List Expr).length+([] : List Keyword).length+(if([] : List Keyword).isEmpty then 0 else 1) < 30))=true
 line : (apos.endLine == cpos.line)=true
 trees : backTo cpos (Yj [e, f] X.env)=[(false, eval e X.env), (false, eval f X.env)]
def Nb(H : Hp)(a : X3) : Prop := (∃kvs, Rd H a (.dK kvs))\/∃kvs, Rd H a (.dT kvs)
theorem qY{X : Cx}{pins : List (X3×Obj)}{σ : St}{H : Hp}{s : X8}{a : X3}(I : Inv X pins σ H s)(d : Nb H a) :
  s.TypeIs (.ref a) "dict"/\(∀b, aB a= .ref b->∃ob, s.heap.get? b=some ob/\ob.dict=none)/\(a == sysModules)=false := by
 rcases d with ⟨kvs, e⟩ | ⟨kvs, e⟩
 ·obtain⟨_, hd, vs, _, dd⟩ := wG I.hok e
  refine⟨dd.typeIs, λb q=>?_, hd⟩
  cases q
  obtain⟨ob, _, _, h1, h2, _⟩ := dd
  exact⟨ob, h1, h2.2.1⟩
 ·obtain⟨_, hd, xs, _, dd⟩ := pX I.hok e
  refine⟨dd.typeIs, λb q=>?_, hd⟩
  cases q
  obtain⟨ob, _, _, h1, h2, _⟩ := dd
  exact⟨ob, h1, h2.2.1⟩
section
variable {X : Cx} {pins : List (X3×Obj)} {σ : St} {H : Hp} {s : X8} {a : X3} {y d : V} {u r : X9} {o : Option V} {A : X4} {E : X9->X8->Prop}
theorem Jn{Q : X9->X8->Prop}(hu : A.units+1 < cLine)(I : Inv X pins σ H s)(g : u9 H a y o)(ry : RelV y u)(h : ∀w' s', Inv X pins σ H s'->RelV (o.getD .aR) w'->Q w' s') :
  Yk (model X.prog X.w) A (call (.builtin "dict.get") [.ref a, u]) Q E s := by
 rcases g with ⟨kvs, k, e, ey, l⟩ | ⟨kvs, k, b, e, ey, eb, l⟩
 ·subst ey
  obtain⟨z, hd, vs, rel, dd⟩ := wG I.hok e
  refine call_meetsIn PySem.F.slot_dict_get dd.typeIs PySem.F.entry_dict_get (PySem.F.args_dict_get_2 _ _) (meets_dict_get (aV X.prog X.w) a (wF ry) hd) ⟨_, dd.mapOf, h _ _ (I.tok _) ?_⟩
  rw[l]
  exact(rel.val k).getD rfl
 ·subst ey
  cases (show u=aB b from ry)
  obtain⟨z, hd, xs, rel, dd⟩ := pX I.hok e
  refine call_meetsIn PySem.F.slot_dict_get dd.typeIs PySem.F.entry_dict_get (PySem.F.args_dict_get_2 _ _) (meetsH_dict_get (tupleKind (aV X.prog X.w)) a b hd) ⟨tupleKind_room_in1 hu, k, xs, lT I.hok eb, dd, h _ _ (I.tok _) ?_⟩
  rw[l]
  exact(rel.val k).getD rfl
theorem Jo{Q : X9->X8->Prop}(hu : A.units+1 < cLine)(I : Inv X pins σ H s)(g : u9 H a y o)(ry : RelV y u)(rd : RelV d r)(h : ∀w' s', Inv X pins σ H s'->RelV (o.getD d) w'->Q w' s') :
  Yk (model X.prog X.w) A (call (.builtin "dict.get") [.ref a, u, r]) Q E s := by
 rcases g with ⟨kvs, k, e, ey, l⟩ | ⟨kvs, k, b, e, ey, eb, l⟩
 ·subst ey
  obtain⟨z, hd, vs, rel, dd⟩ := wG I.hok e
  refine call_meetsIn PySem.F.slot_dict_get dd.typeIs PySem.F.entry_dict_get (PySem.F.args_dict_get_3 _ _ _) (meets_dict_get_default (aV X.prog X.w) a (wF ry) hd r) ⟨_, dd.mapOf, h _ _ (I.tok _) ?_⟩
  rw[l]
  exact(rel.val k).getD rd
 ·subst ey
  cases (show u=aB b from ry)
  obtain⟨z, hd, xs, rel, dd⟩ := pX I.hok e
  refine call_meetsIn PySem.F.slot_dict_get dd.typeIs PySem.F.entry_dict_get (PySem.F.args_dict_get_3 _ _ _) (meetsH_dict_get_default (tupleKind (aV X.prog X.w)) a b hd r) ⟨tupleKind_room_in1 hu, k, xs, lT I.hok eb, dd, h _ _ (I.tok _) ?_⟩
  rw[l]
  exact(rel.val k).getD rd
end
def Jp(td ty : TE) : TE := λσ H Q=>td σ H λx H1=>∃a, x= .ref a/\Nb H1 a/\ty σ H1 λy H2=>∃o, u9 H2 a y o/\Q (o.getD .aR) H2
def Jq(td ty tx : TE) : TE := λσ H Q=>td σ H λx H1=>∃a, x= .ref a/\Nb H1 a/\ty σ H1 λy H2=>tx σ H2 λz H3=>∃o, u9 H3 a y o/\Q (o.getD z) H3
section
variable {X : Cx} {o e f : Expr} {apos cpos : Pos} {td ty tx : TE}
theorem AF(hu : X.A.units+1 < cLine)(ho : PE X o td)(he : PE X e ty)(m : M1 X o "get" apos e cpos) : PE X (.Call (.Attribute o "get" apos) [e] [] cpos) (Jp td ty) := by
 intro pins s σ H Q I h
 refine wpAny_Call_method m.base m.few m.line PySem.F.plainAttrs_dict PySem.F.slot_dict_get PySem.F.type_dict_get (aY (ho pins s σ H _ I h) λu s1 ⟨x, H1, I1, rx, a, ex, d, q1⟩=>?_)
 subst ex
 obtain rfl : u=aB a := rx
 obtain⟨t1, t2, _⟩ := qY I1 d
 refine⟨t1, t2, ?_⟩
 rw[m.trees]
 refine qU rfl (nT (iL (aY (he pins s1 σ H1 _ I1 q1) λiv s2 ⟨y, H2, I2, ry, ov, g, q2⟩=>nO ?_)))
 exact Jn hu I2 g ry λw' s3 I3 rw'=>⟨_, H2, I3, rw', q2⟩
theorem AG(hu : X.A.units+1 < cLine)(ho : PE X o td)(he : PE X e ty)(hf : PE X f tx)(m : M2 X o "get" apos e f cpos) : PE X (.Call (.Attribute o "get" apos) [e, f] [] cpos) (Jq td ty tx) := by
 intro pins s σ H Q I h
 refine wpAny_Call_method m.base m.few m.line PySem.F.plainAttrs_dict PySem.F.slot_dict_get PySem.F.type_dict_get (aY (ho pins s σ H _ I h) λu s1 ⟨x, H1, I1, rx, a, ex, d, q1⟩=>?_)
 subst ex
 obtain rfl : u=aB a := rx
 obtain⟨t1, t2, _⟩ := qY I1 d
 refine⟨t1, t2, ?_⟩
 rw[m.trees]
 refine qU rfl (nT (iL (aY (he pins s1 σ H1 _ I1 q1) λiv s2 ⟨y, H2, I2, ry, q2⟩=>
  iL (aY (hf pins s2 σ H2 _ I2 q2) λfv s3 ⟨z, H3, I3, rz, ov, g, q3⟩=>nO ?_))))
 exact Jo hu I3 g ry rz λw' s4 I4 rw'=>⟨_, H3, I4, rw', q3⟩
end
section
variable {X : Cx} {pins : List (X3×Obj)} {σ : St} {H : Hp} {s : X8} {a : X3} {kvs : List (Key×V)} {A : X4} {E : X9->X8->Prop}
end
section
variable {X : Cx} {pins : List (X3×Obj)} {σ : St} {H : Hp} {s : X8} {a : X3} {y : V} {u : X9} {A : X4} {E : X9->X8->Prop}
end
end L2
namespace Att
open PySem PySem.W PySem.Calls PyProof.Rows
end Att
namespace L2
open PySem PySem.Spec PyProof.Rows
section
variable {X : Cx}
end
section
variable {κ : Type} [DecidableEq κ]
theorem pY{p : κ×V}{r : List (κ×V)}{k : κ}(e : p.1=k) : iw (p::r) k=iw r k := by
 unfold iw
 rw[eQ, if_neg (by simp[e])]
theorem pZ{p : κ×V}{r : List (κ×V)}{k : κ}(e : ¬p.1=k) : iw (p::r) k=p::iw r k := by
 unfold iw
 rw[eQ, if_pos (by simp[e])]
end
end L2
set_option maxHeartbeats 4000000
namespace J
open PySem PySem.Spec PyProof.Rows L2
def Pc(h base:Heap)(e:X3)(cls a0 fl:X9):Prop :=
 ∃ox us T ot ws,h.get? e=some ox/\(ox.cls=cls/\us[2]? =some bE)/\ox.data= .fields us/\us[1]? =some (.ref T)/\base.get? T=none/\T≠e/\h.get? T=some ot/\ot.data= .fields ws/\ws[3]? =some fl
abbrev EF(base:Heap)(l:List Env)(e:X3)(cls a0 fl:X9)(h:Heap):Prop:=base.StaysIn h/\base.get? e=none/\h.FunFrames base l/\Pc h base e cls a0 fl
def AH(base:Heap)(l:List Env)(e:X3)(cls a0:X9)(L:X3)(h:Heap):Prop:=EF base l e cls a0 (rawInt L) h
def qZ(base:Heap)(l:List Env)(e:X3)(cls a0:X9)(h:Heap):Prop:=EF base l e cls a0 .none h
theorem qZ.first{base h:Heap}{l:List Env}{e:X3}{cls a0:X9}(x:qZ base l e cls a0 h):∃ox us,h.get? e=some ox/\ox.cls=cls/\ox.data= .fields us/\us[2]? =some bE :=
 let ⟨_,_,_,ox,us,_,_,_,g1,g2,g3,_⟩:=x;⟨ox,us,g1,g2.1,g3,g2.2⟩
section
variable {M:Model} {A:X4} {E:X9->X8->Prop} {s:X8} {base:Heap} {env:Env} {outer l:List Env} {L e:X3} {cls a0 nt:X9} {Q:Unit->X8->Prop}
theorem u_{h h1:Heap}{S:List X3}{ox ob:Obj}{us ws:Array X9}(so:Heap.SlotsOnly S h h1)(hS:S=l.filterMap (·.frame))(fs:h.FunFrames base l)(g1:h.get? e=some ox)(g3:ox.data= .fields us)(st:base.StaysIn h)(ne:base.get? e=none)(sz:1 < us.size)(g2:us[2]? =some bE)
  (d:ob.data= .fields ws)(w3:ws[3]? =some nt)(nf:ob.isFreed=false) :
  EF base l e ox.cls a0 nt ((h1.push ob).update e (gY (·.setIfInBounds 1 (.ref h1.objs.size))))/\h.UpToSlots ((h1.push ob).update e (gY (·.setIfInBounds 1 (.ref h1.objs.size)))):=by
 have nS:e∉S:=λz=>by
  rw[hS] at z
  obtain⟨_,o2,q2,d2⟩:=fs.mem z
  rw[g1] at q2
  cases q2
  exact d2 us g3
 have q1:h1.get? e=some ox:=(so.2.1 e nS).trans g1
 have lt:e≠h1.objs.size:=aP (aC q1)
 have Tp:∀b o,b≠e->h1.get? b=some o->((h1.push ob).update e (gY (·.setIfInBounds 1 (.ref h1.objs.size)))).get? b=some o:=λb o n q=>(nR _ _ (az n)).trans (aQ _ q)
 have up:h.UpToSlots ((h1.push ob).update e (gY (·.setIfInBounds 1 (.ref h1.objs.size)))):=λb o q n=>by
  obtain⟨sl,q2⟩:=so.2.2 b o q
  exact⟨sl,Tp b _ (λz=>by rw[z,g1] at q;cases q;exact n us g3) q2⟩
 have stay:base.StaysIn h1:=λb o q=>(so.2.1 b λz=>by
  rw[hS] at z
  rw[(fs.mem z).1] at q
  cases q).trans (st b o q)
 have fresh:base.get? h1.objs.size=none:=by
  cases z:base.get? h1.objs.size with
  | none=>rfl
  | some o=>exact absurd (aC (stay _ _ z)) (c_ _)
 have d1:=jD g3 (·.setIfInBounds 1 (aB h1.objs.size))
 refine⟨⟨λb o q=>Tp b o (λz=>by rw[z,ne] at q;cases q) (stay b o q),ne,fs.of_keeps λb o q n=>?_,_,_,h1.objs.size,ob,ws,j4 _ (aQ _ q1) (q9 d1),⟨wH _ _,?_⟩,d1,by simp[sz],fresh,az lt,?_,d,w3⟩,up⟩
 ·obtain⟨sl,q2⟩:=up b o q n
  exact⟨_,q2,rfl⟩
 ·rw[Array.getElem?_setIfInBounds_ne (by decide)];exact g2
 ·exact(nR _ _ lt).trans (aX _ nf)
theorem AI{ox:Obj}{us:Array X9}{head:X9}{had:Bool}(hfr:A.frames=some (env::outer))(fs:s.heap.FunFrames base (env::outer))(hf:env.frame=some L)(g1:s.heap.get? e=some ox)(st:base.StaysIn s.heap)(ne:base.get? e=none)(g3:ox.data= .fields us)(sz:1 < us.size)(g2:us[2]? =some bE)
  (k:∀h',AH base (env::outer) e ox.cls a0 L h'->s.heap.UpToSlots h'->Q () { s with heap:=h' }) :
  Yk M A (do let a <-frameOf env;let pl <-entryPlaceOf L had;let b <-Jr head a .none (rawInt L) .none pl;setField (.ref e) 1 b) Q E s:=by
 refine Yl (wpAny_frameOf_fun hfr fs hf λh1 so=>Yl (wpAny_entryPlaceOf λpl pp=>?_))
 have nS:e∉(env::outer).filterMap (·.frame):=λz=>by
  obtain⟨_,o2,q2,d2⟩:=fs.mem z
  rw[g1] at q2
  cases q2
  exact d2 us g3
 have q1:h1.get? e=some ox:=(so.2.1 e nS).trans g1
 simp only[Jr,newFields]
 refine Yl (Yp (wpAny_setField (aQ _ q1) g3 sz ?_) (pp.sizeOk5 _ _ _ _ _))
 obtain⟨m,up⟩:=u_ (a0:=a0) (nt:=rawInt L) so rfl fs g1 g3 st ne sz g2 (ob:={ cls:=.type "traceback",dict:=none,data:=.fields ([head,.ref L,.none,rawInt L,.none]++(if pl.isEmpty then a_ 6 bE else pl)).toArray }) rfl (by first | (simp;done) | (rcases pp with rfl | ⟨_,_,_,_,_,_,_,rfl⟩<;>simp)) rfl
 exact k _ m up
theorem Js(hf:env.frame=some L)(x:Pc s.heap base e cls a0 (rawInt L))(k:Q () s):Yk M A (noteFrame (.ref e) env) Q E s:=by
 obtain⟨ox,us,T,ot,ws,g1,g2,g3,g4,g5,g6,g7,g8,g9⟩:=x
 unfold noteFrame
 simp only[hf]
 refine Yl (wpAny_field g1 g3 g4 ?_)
 rw[if_pos (by simp)]
 refine Yl (wpAny_field g7 g8 g9 ?_)
 rw[if_pos (by simp)]
 exact Yq k
theorem sV(x:EF base l e cls a0 nt s.heap)(k:∀h',qZ base l e cls a0 h'->s.heap.UpToSlots h'->Q () { s with heap:=h' }):Yk M A (setFlight (.ref e) none) Q E s:=by
 obtain⟨x1,x2,x3,ox,us,T,ot,ws,g1,g2,g3,g4,g5,g6,g7,g8,g9⟩:=x
 have sz:3 < ws.size:=(Array.getElem?_eq_some_iff.mp g9).1
 unfold setFlight
 refine Yl (wpAny_field g1 g3 g4 ?_)
 rw[if_pos (by simp)]
 refine wpAny_setField g7 g8 sz ?_
 generalize hu:s.heap.update T _=h'
 have ap:∀b,b≠T->h'.get? b=s.heap.get? b:=λb n=>by rw[<-hu];exact nR _ _ (az n)
 have pl:∀b o,s.heap.get? b=some o->(∀vs,o.data≠.fields vs)->h'.get? b=some o:=λb o q n=>(ap b λz=>by rw[z,g7] at q;cases q;exact n ws g8).trans q
 refine k h' ⟨λb o q=>(ap b λz=>by rw[z,g5] at q;cases q).trans (x1 b o q),x2,x3.of_keeps λb o q n=>⟨o,pl b o q n,rfl⟩,ox,us,T,gY (·.setIfInBounds 3 .none) ot,ws.setIfInBounds 3 .none,(ap e (az g6)).trans g1,g2,g3,g4,g5,g6,?_,jD g8 _,?_⟩ λb o q n=>⟨o.slots,pl b o q n⟩
 ·rw[<-hu];exact j4 _ g7 (q9 (jD g8 _))
 ·simp[sz]
end
structure Lm where
 a:X3
 c:X3
 q:PySem.Str
 xs:List V
inductive Wv where
 | aR
 | bl (b:Bool)
 | int (i:Int)
 | str (x:PySem.Str)
 | tup (ws:List Wv)
 | nX (ws:List Wv)
 | ref (l:Nat)
 | ty (n:String)
 | cls (c:PySem.Str)
 | j7 (c:PySem.Str)
 | fn (p:Lm) (ws:List Wv)
inductive Ob where
 | lst (ws:List Wv)
 | pk (ns:List Int)
 | dct (kvs:List (L2.Key×Wv))
 | dP (kvs:List (List L2.Key×Wv))
 | wI (kvs:List (List L2.Key×Wv))
abbrev Hs:=List Ob
abbrev St:=L2.St
abbrev bw:=List (Option Wv)
abbrev Mp:=List X3
def iN(a C:X3):Heap->Prop:=λh=>∃o,h.get? a=some o/\o.cls= .ref C/\∃vs,o.data= .fields vs
def Pd(a C:X3)(u:Option HO):Prop:=∃o vs,u=some (.fD o (.ext (iN a C)))/\o.data= .fields vs/\vs[2]? =some bE
theorem GY{P:X7}{w:X_}{H:Hp}{h:Heap}{a C:X3}(ok:iE P w H h)(x:Pd a C (H a)):iN a C h:=let ⟨_,_,e,_⟩:=x;(ok a _ e).2.1
def ClsAt(K:PySem.W.Frag)(c:PySem.Str)(C:X3):Prop:=PySem.W.nsIn K Yh c=some (some (.ref C))
def AJ(c:X3)(q:PySem.Str):Heap->Prop:=λh=>h.CodeRec (.ref c) q
def de:List PySem.Str:=["form_of","formula_by","turned","readied_content"]
def gZ(K:PySem.W.Frag)(q:PySem.Str):Option X3:=match PySem.W.tabIn K q with
 | some (_,P)=>if(K.lookup P).isNone=true then some P else none
 | none=>none
def QJ(q:PySem.Str):PySem.Str:=(q++".<locals>.")++"<lambda>"
def q_(K:PySem.W.Frag)(H:Hp):Prop:=∀q P,q∈de->gZ K q=some P->∃ps,H P=some (.f7 ps)/\TriplesOk ps.toList/\∀pos cv,codeAmong pos ps.toList=some cv->∃c,cv= .ref c/\H c=some (.ext (AJ c (QJ q)))
theorem q_.keep{K:PySem.W.Frag}{H H':Hp}(t:q_ K H)(h1:∀a ps,H a=some (.f7 ps)->H' a=some (.f7 ps))(h2:∀a φ,H a=some (.ext φ)->H' a=some (.ext φ)):q_ K H':=λq P hq hP=>by
 obtain⟨ps,e1,e2,e3⟩:=t q P hq hP
 refine⟨ps,h1 _ _ e1,e2,λpos cv e=>?_⟩
 obtain⟨c,f1,f2⟩:=e3 pos cv e
 exact⟨c,f1,h2 _ _ f2⟩
def QK(K:PySem.W.Frag)(a:X3)(xs:List V):Prop:=∃(o:Obj)(its:Array X9)(n:Nat),K.lookup a=some o/\o.cls= .type "tuple"/\o.data= .seq its n/\its.size<=Yi/\Vals xs its.toList
mutual
def ag(K:PySem.W.Frag)(m:Mp)(H:Hp):Wv->V->Prop
 | .aR,v=>v= .aR
 | .bl b,v=>v= .bl b
 | .int i,v=>v= .int i
 | .str x,v=>v= .str x/\aW x=true
 | .tup ws,v=>∃a xs,v= .ref a/\H a=some (.tup xs)/\ah K m H ws xs
 | .nX ws,v=>∃a xs,v= .ref a/\QK K a xs/\ah K m H ws xs
 | .ref l,v=>∃a,v= .ref a/\m[l]? =some a
 | .ty n,v=>v= .ty n
 | .cls c,v=>∃C,v= .ref C/\ClsAt K c C
 | .j7 c,v=>∃a C,v= .ref a/\ClsAt K c C/\Pd a C (H a)
 | .fn p ws,v=>v= .ref p.a/\H p.c=some (.ext (AJ p.c p.q))/\ah K m H ws p.xs
def ah(K:PySem.W.Frag)(m:Mp)(H:Hp):List Wv->List V->Prop
 | [],xs=>xs=[]
 | w::ws,xs=>∃x r,xs=x::r/\ag K m H w x/\ah K m H ws r
end
structure Ext(K:PySem.W.Frag)(m:Mp)(H:Hp)(m':Mp)(H':Hp):Prop where
 pre:∀(l:Nat)(a:X3),m[l]? =some a->m'[l]? =some a
 tup:∀(a:X3)(xs:List V),H a=some (.tup xs)->H' a=some (.tup xs)
 ext:∀(a:X3)(φ:Heap->Prop),H a=some (.ext φ)->H' a=some (.ext φ)
 fD:∀(a:X3)(o:Obj)(u:HO),H a=some (.fD o u)->H' a=some (.fD o u)
section
variable {K:PySem.W.Frag} {m m1 m2:Mp} {H H1 H2:Hp}
theorem Ext.refl:Ext K m H m H:=⟨λ_ _ h=>h,λ_ _ h=>h,λ_ _ h=>h,λ_ _ _ h=>h⟩
theorem Ext.trans(a:Ext K m H m1 H1)(b:Ext K m1 H1 m2 H2):Ext K m H m2 H2 :=
 ⟨λl x h=>b.pre l x (a.pre l x h),λx xs h=>b.tup x xs (a.tup x xs h),λx φ h=>b.ext x φ (a.ext x φ h),λx o u h=>b.fD x o u (a.fD x o u h)⟩
structure AK(K:PySem.W.Frag)(m:Mp)(H:Hp)(m':Mp)(H':Hp):Prop where
 pre:∀(l:Nat)(a:X3),m[l]? =some a->m'[l]? =some a
 tup:∀(a:X3)(xs:List V),H a=some (.tup xs)->H' a=some (.tup xs)
 ext:∀(a:X3)(φ:Heap->Prop),H a=some (.ext φ)->H' a=some (.ext φ)
 fx:∀(a:X3)(o:Obj)(φ:Heap->Prop),H a=some (.fD o (.ext φ))->H' a=some (.fD o (.ext φ))
theorem Ext.z(e:Ext K m H m1 H1):AK K m H m1 H1:=⟨e.pre,e.tup,e.ext,λa o φ h=>e.fD a o _ h⟩
mutual
theorem ag.iy(e:AK K m H m1 H1):∀(w:Wv)(v:V),ag K m H w v->ag K m1 H1 w v
 | .aR,v,h=>by unfold ag at h ⊢;exact h
 | .bl b,v,h=>by unfold ag at h ⊢;exact h
 | .int i,v,h=>by unfold ag at h ⊢;exact h
 | .str x,v,h=>by unfold ag at h ⊢;exact h
 | .ty n,v,h=>by unfold ag at h ⊢;exact h
 | .cls c,v,h=>by unfold ag at h ⊢;exact h
 | .j7 c,v,h=>by
  unfold ag at h ⊢
  obtain⟨a,C,e1,e2,o,vs,e3,e4⟩:=h
  exact⟨a,C,e1,e2,o,vs,e.fx _ _ _ e3,e4⟩
 | .ref l,v,h=>by
  unfold ag at h ⊢
  obtain⟨a,e1,e2⟩:=h
  exact⟨a,e1,e.pre _ _ e2⟩
 | .tup ws,v,h=>by
  unfold ag at h ⊢
  obtain⟨a,xs,e1,e2,e3⟩:=h
  exact⟨a,xs,e1,e.tup _ _ e2,ah.iy e ws xs e3⟩
 | .nX ws,v,h=>by
  unfold ag at h ⊢
  obtain⟨a,xs,e1,e2,e3⟩:=h
  exact⟨a,xs,e1,e2,ah.iy e ws xs e3⟩
 | .fn p ws,v,h=>by
  unfold ag at h ⊢
  obtain⟨e1,e2,e3⟩:=h
  exact⟨e1,e.ext _ _ e2,ah.iy e ws p.xs e3⟩
theorem ah.iy(e:AK K m H m1 H1):∀(ws:List Wv)(xs:List V),ah K m H ws xs->ah K m1 H1 ws xs
 | [],xs,h=>by unfold ah at h ⊢;exact h
 | w::ws,xs,h=>by
  unfold ah at h ⊢
  obtain⟨x,r,e1,e2,e3⟩:=h
  exact⟨x,r,e1,ag.iy e w x e2,ah.iy e ws r e3⟩
end
theorem ag.mono(e:Ext K m H m1 H1)(w:Wv)(v:V)(h:ag K m H w v):ag K m1 H1 w v:=ag.iy e.z w v h
theorem ah.mono(e:Ext K m H m1 H1)(ws:List Wv)(xs:List V)(h:ah K m H ws xs):ah K m1 H1 ws xs:=ah.iy e.z ws xs h
theorem ah.nil:ah K m H [] []:=by unfold ah;rfl
theorem ah.cons{w:Wv}{x:V}{ws:List Wv}{xs:List V}(h:ag K m H w x)(t:ah K m H ws xs):ah K m H (w::ws) (x::xs):=by unfold ah;exact⟨x,xs,rfl,h,t⟩
theorem ah.length:∀{ws:List Wv}{xs:List V},ah K m H ws xs->ws.length=xs.length
 | [],xs,h=>by unfold ah at h;subst h;rfl
 | w::ws,xs,h=>by
  unfold ah at h
  obtain⟨x,r,e1,_,e3⟩:=h
  subst e1
  simp[ah.length e3]
theorem ah.get:∀{ws:List Wv}{xs:List V}{i:Nat}{w:Wv},ah K m H ws xs->ws[i]? =some w->∃x,xs[i]? =some x/\ag K m H w x
 | [],_,i,w,_,e=>by simp at e
 | a::ws,xs,0,w,h,e=>by
  unfold ah at h
  obtain⟨x,r,e1,e2,_⟩:=h
  subst e1
  simp at e
  subst e
  exact⟨x,rfl,e2⟩
 | a::ws,xs,i+1,w,h,e=>by
  unfold ah at h
  obtain⟨x,r,e1,_,e3⟩:=h
  subst e1
  obtain⟨y,f1,f2⟩:=ah.get (i:=i) (w:=w) e3 (by simpa using e)
  exact⟨y,by simpa using f1,f2⟩
theorem ah.append:∀{ws zs:List Wv}{xs ys:List V},ah K m H ws xs->ah K m H zs ys->ah K m H (ws++zs) (xs++ys)
 | [],_,xs,_,h,g=>by unfold ah at h;subst h;exact g
 | w::ws,zs,xs,ys,h,g=>by
  unfold ah at h
  obtain⟨x,r,e1,e2,e3⟩:=h
  subst e1
  exact ah.cons e2 (ah.append e3 g)
theorem ah.set:∀{ws:List Wv}{xs:List V}(i:Nat){w:Wv}{x:V},ah K m H ws xs->ag K m H w x->ah K m H (ws.set i w) (xs.set i x)
 | [],xs,i,w,x,h,_=>by unfold ah at h;subst h;exact ah.nil
 | a::ws,xs,0,w,x,h,g=>by
  unfold ah at h
  obtain⟨y,r,e1,e2,e3⟩:=h
  subst e1
  exact ah.cons g e3
 | a::ws,xs,i+1,w,x,h,g=>by
  unfold ah at h
  obtain⟨y,r,e1,e2,e3⟩:=h
  subst e1
  exact ah.cons e2 (ah.set i e3 g)
theorem ah.drop:∀{ws:List Wv}{xs:List V}(i:Nat),ah K m H ws xs->ah K m H (ws.drop i) (xs.drop i)
 | ws,xs,0,h=>by simpa using h
 | [],xs,i+1,h=>by unfold ah at h;subst h;simpa using ah.nil
 | a::ws,xs,i+1,h=>by
  unfold ah at h
  obtain⟨y,r,e1,e2,e3⟩:=h
  subst e1
  simpa using ah.drop i e3
theorem ah.take:∀{ws:List Wv}{xs:List V}(i:Nat),ah K m H ws xs->ah K m H (ws.take i) (xs.take i)
 | ws,xs,0,h=>by simpa using ah.nil
 | [],xs,i+1,h=>by unfold ah at h;subst h;simpa using ah.nil
 | a::ws,xs,i+1,h=>by
  unfold ah at h
  obtain⟨y,r,e1,e2,e3⟩:=h
  subst e1
  simpa using ah.cons e2 (ah.take i e3)
theorem ah.ints:∀(ns:List Int),ah K m H (ns.map Wv.int) (ns.map V.int)
 | []=>ah.nil
 | n::ns=>ah.cons (by unfold ag;rfl) (ah.ints ns)
end
def sW(K:PySem.W.Frag)(H:Hp)(a:X3)(ns:List Int):Prop :=
 (∃o,H a=some (.fD o (.lst (ns.map V.int))))\/
  ∃(o:Obj)(its:Array X9)(n:Nat),K.lookup a=some o/\o.cls= .type "list"/\o.dict=none/\o.data= .seq its n/\its.size<=Yi/\Vals (ns.map V.int) its.toList
def RelK{κ:Type}(K:PySem.W.Frag)(m:Mp)(H:Hp)(kvs:List (κ×Wv))(xs:List (κ×V)):Prop:=kvs.map (·.1)=xs.map (·.1)/\ah K m H (kvs.map (·.2)) (xs.map (·.2))
def pv(K:PySem.W.Frag)(m:Mp)(H:Hp)(a:X3):Ob->Prop
 | .lst ws=>∃xs,H a=some (.lst xs)/\ah K m H ws xs
 | .pk ns=>sW K H a ns
 | .dct kvs=>∃xs,H a=some (.dK xs)/\RelK K m H kvs xs
 | .dP kvs=>∃xs,H a=some (.dT xs)/\RelK K m H kvs xs
 | .wI kvs=>∃o xs,H a=some (.fD o (.dT xs))/\RelK K m H kvs xs
def Ob.mu:Ob->Bool
 | .pk _=>false
 | _=>true
def Ob.wm:Ob->Bool
 | .pk _=>false
 | .wI _=>false
 | _=>true
theorem Ob.Nc{o:Ob}(h:o.wm=true):o.mu=true:=by cases o<;>first | rfl | cases h
structure bg(K:PySem.W.Frag)(m:Mp)(st:Hs)(H:Hp):Prop where
 len:m.length=st.length
 obj:∀(l:Nat)(a:X3)(o:Ob),m[l]? =some a->st[l]? =some o->pv K m H a o
 inj:∀(l l':Nat)(a:X3)(o o':Ob),m[l]? =some a->m[l']? =some a->st[l]? =some o->st[l']? =some o'->o.mu=true->o'.mu=true->l=l'
 tab:q_ K H
def ai(st:Hs)(l:Nat):Option (List Wv):=match st[l]? with
 | some (.lst ws)=>some ws
 | some (.pk ns)=>some (ns.map Wv.int)
 | _=>none
section
variable {K:PySem.W.Frag} {m:Mp} {H:Hp} {st:Hs}
def Wr(u:Option HO):Prop:=u=none\/(∃ys,u=some (.lst ys))\/(∃ys,u=some (.dK ys))\/∃ys,u=some (.dT ys)
theorem Wr.ne{p a:X3}{u:HO}(hp:Wr (H p))(e:H a=some u)(n1:∀ys,u≠.lst ys)(n2:∀ys,u≠.dK ys)(n3:∀ys,u≠.dT ys):a≠p:=λz=>by
 subst z
 rcases hp with q | ⟨ys,q⟩ | ⟨ys,q⟩ | ⟨ys,q⟩
 ·rw[q] at e;cases e
 ·rw[q] at e;cases e;exact n1 ys rfl
 ·rw[q] at e;cases e;exact n2 ys rfl
 ·rw[q] at e;cases e;exact n3 ys rfl
theorem AL{p a:X3}{o:HO}{xs:List V}(hp:Wr (H p))(h:H a=some (.tup xs)):upd H p o a=some (.tup xs):=by
 rw[aw (hp.ne h (by intro ys z;cases z) (by intro ys z;cases z) (by intro ys z;cases z))];exact h
theorem AM{p a:X3}{o:HO}{ns:List Int}(hp:Wr (H p))(h:sW K H a ns):sW K (upd H p o) a ns:=by
 rcases h with ⟨o',h⟩ | h
 ·exact .inl ⟨o',by rw[aw (hp.ne h (by intro ys z;cases z) (by intro ys z;cases z) (by intro ys z;cases z))];exact h⟩
 ·exact .inr h
theorem Wr.of{u:Option HO}(h:u=none\/∃ys,u=some (.lst ys)):Wr u:=by
 rcases h with q | q
 ·exact .inl q
 ·exact .inr (.inl q)
theorem Ext.g_{p:X3}{o:HO}(hp:Wr (H p)):Ext K m H m (upd H p o):=⟨λ_ _ h=>h,λ_ _ h=>AL hp h,λa φ h=>by
 rw[aw (hp.ne h (by intro ys z;cases z) (by intro ys z;cases z) (by intro ys z;cases z))]
 exact h,λa o u h=>by
 rw[aw (hp.ne h (by intro ys z;cases z) (by intro ys z;cases z) (by intro ys z;cases z))]
 exact h⟩
theorem Ext.upd{p:X3}{o:HO}(hp:H p=none\/∃ys,H p=some (.lst ys)):Ext K m H m (upd H p o):=Ext.g_ (Wr.of hp)
theorem RelK.mono{κ:Type}{m1:Mp}{H1:Hp}{kvs:List (κ×Wv)}{xs:List (κ×V)}(e:Ext K m H m1 H1)(h:RelK K m H kvs xs):RelK K m1 H1 kvs xs:=⟨h.1,ah.mono e _ _ h.2⟩
theorem pv.keep{m1:Mp}{b p:X3}{u:HO}{o:Ob}(ex:Ext K m H m1 (L2.upd H p u))(hp:Wr (H p))(hb:o.mu=true->b≠p)(h:pv K m H b o):pv K m1 (L2.upd H p u) b o:=by
 cases o with
 | lst ws=>
  obtain⟨xs,e1,e2⟩:=h
  exact⟨xs,by rw[aw (hb rfl)];exact e1,ah.mono ex _ _ e2⟩
 | dct kvs=>
  obtain⟨xs,e1,e2⟩:=h
  exact⟨xs,by rw[aw (hb rfl)];exact e1,e2.mono ex⟩
 | dP kvs=>
  obtain⟨xs,e1,e2⟩:=h
  exact⟨xs,by rw[aw (hb rfl)];exact e1,e2.mono ex⟩
 | wI kvs=>
  obtain⟨o,xs,e1,e2⟩:=h
  exact⟨o,xs,by rw[aw (hb rfl)];exact e1,e2.mono ex⟩
 | pk ns=>exact AM hp h
theorem pv.at{b:X3}{o:Ob}(h:pv K m H b o)(hm:o.mu=true):∃u,H b=some u:=by
 cases o with
 | lst ws=>obtain⟨xs,e1,e2⟩:=h;exact⟨_,e1⟩
 | dct kvs=>obtain⟨xs,e1,e2⟩:=h;exact⟨_,e1⟩
 | dP kvs=>obtain⟨xs,e1,e2⟩:=h;exact⟨_,e1⟩
 | wI kvs=>obtain⟨o,xs,e1,e2⟩:=h;exact⟨_,e1⟩
 | pk ns=>simp[Ob.mu] at hm
theorem pv.wr{b:X3}{o:Ob}(h:pv K m H b o)(hm:o.wm=true):Wr (H b):=by
 cases o with
 | lst ws=>obtain⟨xs,e1,e2⟩:=h;exact .inr (.inl ⟨_,e1⟩)
 | dct kvs=>obtain⟨xs,e1,e2⟩:=h;exact .inr (.inr (.inl ⟨_,e1⟩))
 | dP kvs=>obtain⟨xs,e1,e2⟩:=h;exact .inr (.inr (.inr ⟨_,e1⟩))
 | wI kvs=>cases hm
 | pk ns=>cases hm
theorem q_.g_{p:X3}{o:HO}(t:q_ K H)(hp:Wr (H p)):q_ K (L2.upd H p o):=t.keep
 (λa ps h=>by rw[aw (hp.ne h (by intro ys z;cases z) (by intro ys z;cases z) (by intro ys z;cases z))];exact h)
 λa φ h=>by rw[aw (hp.ne h (by intro ys z;cases z) (by intro ys z;cases z) (by intro ys z;cases z))];exact h
theorem Ext.more{p:X3}:Ext K m H (m++[p]) H:=⟨λl a h=>by
 rw[eP]
 ·exact h
 ·exact(List.getElem?_eq_some_iff.mp h).1,λ_ _ h=>h,λ_ _ h=>h,λ_ _ _ h=>h⟩
theorem bg.fresh{p:X3}{o:HO}(S:bg K m st H)(hp:H p=none):bg K m st (upd H p o) :=
 ⟨S.len,λl a ob h1 h2=>by
  have q:=S.obj l a ob h1 h2
  refine q.keep (Ext.g_ (.inl hp)) (.inl hp) λhm=>?_
  obtain⟨u,e⟩:=q.at hm
  exact bh e hp,S.inj,S.tab.g_ (.inl hp)⟩
theorem bg.kT{l:Nat}{a:X3}{ws:List Wv}(S:bg K m st H)(h1:m[l]? =some a)(h2:st[l]? =some (.lst ws)):∃xs,H a=some (.lst xs)/\ah K m H ws xs:=S.obj l a _ h1 h2
theorem bg.read{l:Nat}{a:X3}{ws:List Wv}(S:bg K m st H)(h1:m[l]? =some a)(h2:ai st l=some ws):∃xs,iu K H a xs/\ah K m H ws xs:=by
 unfold ai at h2
 cases e:st[l]? with
 | none=>rw[e] at h2;cases h2
 | some o=>
  rw[e] at h2
  cases o with
  | lst zs=>
   cases h2
   obtain⟨xs,e1,e2⟩:=S.kT h1 e
   exact⟨xs,iu.of e1,e2⟩
  | dct kvs=>cases h2
  | dP kvs=>cases h2
  | wI kvs=>cases h2
  | pk ns=>
   cases h2
   have q:sW K H a ns:=S.obj l a _ h1 e
   refine⟨ns.map V.int,?_,ah.ints ns⟩
   rcases q with ⟨o,q⟩ | q
   ·exact .inl (.inr ⟨o,q⟩)
   ·exact .inr q
theorem bg.ra{p:X3}{ob:Ob}{u:HO}(S:bg K m st H)(hp:H p=none)(r:pv K (m++[p]) (L2.upd H p u) p ob):bg K (m++[p]) (st++[ob]) (L2.upd H p u):=by
 have ex:Ext K m H (m++[p]) (L2.upd H p u):=Ext.more.trans (Ext.g_ (.inl hp))
 have AN:∀(l:Nat)(o:Ob),m[l]? =some p->st[l]? =some o->o.mu=true->False:=λl o h1 h2 hm=>by
  obtain⟨v,e⟩:=(S.obj l p o h1 h2).at hm
  rw[hp] at e;cases e
 have old:∀(l:Nat)(a:X3),(m++[p])[l]? =some a->(l < m.length/\m[l]? =some a)\/(l=m.length/\a=p):=λl a h=>by
  by_cases hl:l < m.length
  ·exact .inl ⟨hl,by rw[eP hl] at h;exact h⟩
  ·have h':=h
   rw[jZ (by omega)] at h'
   have z:=List.getElem?_eq_some_iff.mp h'
   have z1:l - m.length < 1:=by simpa using z.1
   refine .inr ⟨by omega,?_⟩
   have e0:l - m.length=0:=by omega
   rw[e0] at h'
   simpa using h'.symm
 have olds:∀(l:Nat)(o:Ob),l < m.length->(st++[ob])[l]? =some o->st[l]? =some o:=λl o hl h=>by
  rw[eP (by rw[<-S.len];exact hl)] at h
  exact h
 refine⟨by simp[S.len],λl a o h1 h2=>?_,λl l' a zs zs' h1 AO h2 h2' k k'=>?_,S.tab.g_ (.inl hp)⟩
 ·rcases old l a h1 with ⟨hl,h1⟩ | ⟨hl,rfl⟩
  ·have q:=S.obj l a o h1 (olds l o hl h2)
   refine q.keep ex (.inl hp) λhm=>?_
   obtain⟨v,e⟩:=q.at hm
   exact bh e hp
  ·have e:o=ob:=by
    rw[hl,S.len,jZ (ao _),ni] at h2
    simpa using h2.symm
   subst e
   exact r
 ·rcases old l a h1 with ⟨hl,g1⟩ | ⟨hl,ea⟩
  ·rcases old l' a AO with ⟨hl',DW⟩ | ⟨hl',ea'⟩
   ·exact S.inj l l' a zs zs' g1 DW (olds l _ hl h2) (olds l' _ hl' h2') k k'
   ·rw[ea'] at g1
    exact(AN l zs g1 (olds l _ hl h2) k).elim
  ·rcases old l' a AO with ⟨hl',DW⟩ | ⟨hl',_⟩
   ·rw[ea] at DW
    exact(AN l' zs' DW (olds l' _ hl' h2') k').elim
   ·omega
theorem bg.alloc{p:X3}{ws:List Wv}{xs:List V}(S:bg K m st H)(hp:H p=none)(r:ah K m H ws xs):bg K (m++[p]) (st++[.lst ws]) (upd H p (.lst xs)) :=
 S.ra hp ⟨xs,aM,ah.mono (Ext.more.trans (Ext.g_ (.inl hp))) _ _ r⟩
theorem bg.rb{l:Nat}{a:X3}{o0 ob:Ob}{u:HO}(S:bg K m st H)(h1:m[l]? =some a)(h2:st[l]? =some o0)(hw:o0.wm=true)(r:pv K m (L2.upd H a u) a ob):bg K m (st.set l ob) (L2.upd H a u):=by
 have wr:Wr (H a):=(S.obj l a o0 h1 h2).wr hw
 have hm:=Ob.Nc hw
 have ex:Ext K m H m (L2.upd H a u):=Ext.g_ wr
 have hl:l < st.length:=(List.getElem?_eq_some_iff.mp h2).1
 have at':∀(k:Nat)(o:Ob),(st.set l ob)[k]? =some o->(k=l/\o=ob)\/(k≠l/\st[k]? =some o):=λk o h=>by
  by_cases e:l=k
  ·subst e
   rw[gS hl] at h
   exact .inl ⟨rfl,(Option.some.inj h).symm⟩
  ·rw[bG e] at h
   exact .inr ⟨λz=>e z.symm,h⟩
 refine⟨by simp[S.len],λk b o g1 g2=>?_,λk k' b us us' g1 DW g2 QL q q'=>?_,S.tab.g_ wr⟩
 ·rcases at' k o g2 with ⟨rfl,rfl⟩ | ⟨hk,g2⟩
  ·rw[h1] at g1;cases g1
   exact r
  ·have q:=S.obj k b o g1 g2
   refine q.keep ex wr λho z=>?_
   subst z
   exact hk (S.inj k l b o o0 g1 h1 g2 h2 ho hm)
 ·have back:∀(k:Nat)(o:Ob),(st.set l ob)[k]? =some o->o.mu=true->∃o',st[k]? =some o'/\o'.mu=true:=λk o h ho=>by
   rcases at' k _ h with ⟨rfl,_⟩ | ⟨_,h⟩
   ·exact⟨o0,h2,hm⟩
   ·exact⟨o,h,ho⟩
  obtain⟨u1,e1,f1⟩:=back k us g2 q
  obtain⟨u2,e2,f2⟩:=back k' us' QL q'
  exact S.inj k k' b u1 u2 g1 DW e1 e2 f1 f2
theorem bg.write{l:Nat}{a:X3}{ws zs:List Wv}{xs:List V}(S:bg K m st H)(h1:m[l]? =some a)(h2:st[l]? =some (.lst ws))(r:ah K m H zs xs):bg K m (st.set l (.lst zs)) (upd H a (.lst xs)) :=
 S.rb h1 h2 rfl ⟨xs,aM,ah.mono (Ext.g_ ((S.obj l a _ h1 h2).wr rfl)) _ _ r⟩
end
structure ay(K:PySem.W.Frag)(m:Mp)(H:Hp)(ρ:bw)(σ:St):Prop where
 len:ρ.length=σ.length
 get:∀(i:Nat)(w:Wv),ρ[i]? =some (some w)->∃v,σ[i]? =some (some v)/\ag K m H w v
section
variable {K:PySem.W.Frag} {m m1:Mp} {H H1:Hp} {ρ:bw} {σ:St}
theorem ay.mono(R:ay K m H ρ σ)(e:Ext K m H m1 H1):ay K m1 H1 ρ σ:=⟨R.len,λi w h=>let ⟨v,h1,h2⟩:=R.get i w h;⟨v,h1,ag.mono e _ _ h2⟩⟩
theorem ay.set(R:ay K m H ρ σ)(i:Nat){w:Wv}{v:V}(h:ag K m H w v):ay K m H (ρ.set i (some w)) (σ.set i (some v)):=by
 refine⟨by simp[R.len],λj u e=>?_⟩
 by_cases hj:i=j
 ·subst hj
  have hi:i < ρ.length:=by
   have:=(List.getElem?_eq_some_iff.mp e).1
   simpa using this
  rw[gS hi] at e
  have e':w=u:=Option.some.inj (Option.some.inj e)
  subst e'
  exact⟨v,by rw[gS (by rw[<-R.len];exact hi)],h⟩
 ·rw[bG hj] at e
  obtain⟨x,h1,h2⟩:=R.get j u e
  exact⟨x,by rw[bG hj];exact h1,h2⟩
end
inductive Re(α:Type) where
 | ok (a:α) (st:Hs)
 | err (c:PySem.Str) (st:Hs)
 | bad
def Re.bind{α β:Type}(r:Re α)(f:α->Hs->Re β):Re β:=match r with
 | .ok a st=>f a st
 | .err c st=> .err c st
 | .bad=> .bad
inductive Rs where
 | nx (ρ:bw) (st:Hs)
 | rt (w:Wv) (st:Hs)
 | bk (ρ:bw) (st:Hs)
 | ct (ρ:bw) (st:Hs)
 | err (c:PySem.Str) (ρ:bw) (st:Hs)
 | bad
def Re.aY{α:Type}(ρ:bw)(r:Re α)(f:α->Hs->Rs):Rs:=match r with
 | .ok a st=>f a st
 | .err c st=> .err c ρ st
 | .bad=> .bad
def Re.kL{α:Type}(r:Re α):Re α:=match r with
 | .ok a st=> .ok a st
 | _=> .bad
abbrev GE:=bw->Hs->Re Wv
abbrev GT:=bw->Hs->Re Bool
abbrev GA:=bw->Hs->Re (List Wv)
abbrev GS:=bw->Hs->Rs
def sX(P:X7)(w:X_)(outer:List Env)(H:Hp)(s:X8)(H':Hp)(cls:X9)(e:X9)(s':X8):Prop :=
 ∃(a:X3)(a0:X9)(B:Heap),e= .ref a/\s'.os=s.os/\AllBare s'.gens/\Un (frs outer) [] H H' s.heap s'.heap/\iE P w H' B/\qZ B outer a cls a0 s'.heap/\
  (∀b o,s.heap.get? b=some o->b∉frs outer->∃o',B.get? b=some o'/\(H b=none->o'=o))
def iO(X:Cx)(pins:List (X3×Obj))(H:Hp)(s:X8)(H':Hp)(cls:X9)(e:X9)(s':X8):Prop :=
 ∃(a:X3)(a0 nt:X9)(B:Heap)(ch:List X3),e= .ref a/\s'.os=s.os/\AllBare s'.gens/\(∀b∈ch,fb X pins H b)/\Un (frs X.stack) ch H H' s.heap s'.heap/\iE X.prog X.w H' B/\
  (B.StaysIn s'.heap/\B.get? a=none/\s'.heap.FunFrames B X.stack/\Pc s'.heap B a cls a0 nt)/\
  (∀b o,s.heap.get? b=some o->b∉frs X.stack->b∉ch->∃o',B.get? b=some o'/\(H b=none->o'=o))
theorem sX.any{X:Cx}{pins:List (X3×Obj)}{H H':Hp}{s s':X8}{cls e:X9}(f:sX X.prog X.w X.stack H s H' cls e s'):iO X pins H s H' cls e s' :=
 let ⟨a,a0,B,e1,e2,e3,un,hok,fl,sY⟩:=f
 ⟨a,a0,.none,B,[],e1,e2,e3,(λb z=>by cases z),un,hok,fl,λb o q hb _=>sY b o q hb⟩
def va(X:Cx)(σ:St)(H':Hp)(c:PySem.Str)(e:X9)(s':X8):Prop :=
 ∃(C:X3)(pins:List (X3×Obj))(Hc:Hp)(sc:X8),ClsAt X.K c C/\Inv X pins σ Hc sc/\
  (iO X pins Hc sc H' (.ref C) e s'\/(H'=Hc/\∃a args,e= .ref a/\s'.os=sc.os/\s'.gens=sc.gens/\rf sc.heap s'.heap a (.ref C) args))
def Mb(X:Cx)(σ:St)(m:Mp)(H:Hp)(c:PySem.Str)(st:Hs):Prop :=
 ∀(m':Mp)(H':Hp)(e:X9)(s':X8),Ext X.K m H m' H'->bg X.K m' st H'->va X σ H' c e s'->X.xe e s'
theorem Mb.mono{X:Cx}{σ:St}{m m1:Mp}{H H1:Hp}{c:PySem.Str}{st:Hs}(h:Mb X σ m H c st)(e:Ext X.K m H m1 H1):Mb X σ m1 H1 c st :=
 λm' H' x s' e' S r=>h m' H' x s' (e.trans e') S r
def au{α:Type}(X:Cx)(σ:St)(m:Mp)(H:Hp)(r:Re α)(ok:α->Hs->Prop):Prop:=match r with
 | .ok a st=>ok a st
 | .err c st=>Mb X σ m H c st
 | .bad=>False
def nY{α:Type}(r:Re α)(ok:α->Hs->Prop):Prop:=match r with
 | .ok a st=>ok a st
 | _=>False
theorem au.kL{α:Type}{X:Cx}{σ:St}{m:Mp}{H:Hp}{r:Re α}{ok:α->Hs->Prop}(h:au X σ m H r.kL ok):nY r ok:=by
 cases r with
 | ok a st=>exact h
 | err c st=>exact h
 | bad=>exact h
theorem au.bind{α β:Type}{X:Cx}{σ:St}{m:Mp}{H:Hp}{r:Re α}{f:α->Hs->Re β}{ok:β->Hs->Prop}(h:au X σ m H (r.bind f) ok):au X σ m H r (λa st=>au X σ m H (f a st) ok):=by
 cases r with
 | ok a st=>exact h
 | err c st=>exact h
 | bad=>exact h
theorem au.imp{α:Type}{X:Cx}{σ:St}{m m1:Mp}{H H1:Hp}{r:Re α}{ok ok':α->Hs->Prop}(h:au X σ m H r ok)(e:Ext X.K m H m1 H1)(k:∀a st,ok a st->ok' a st):au X σ m1 H1 r ok':=by
 cases r with
 | ok a st=>exact k a st h
 | err c st=>exact Mb.mono (c:=c) (st:=st) h e
 | bad=>exact h
theorem nY.imp{α:Type}{r:Re α}{ok ok':α->Hs->Prop}(h:nY r ok)(k:∀a st,ok a st->ok' a st):nY r ok':=by
 cases r with
 | ok a st=>exact k a st h
 | err c st=>exact h
 | bad=>exact h
def Mc(K:PySem.W.Frag)(m:Mp)(H:Hp)(Q:VK)(w:Wv)(st:Hs):Prop:=∀(v:V)(m':Mp)(H':Hp),Ext K m H m' H'->bg K m' st H'->ag K m' H' w v->Q v H'
def rh(K:PySem.W.Frag)(m:Mp)(H:Hp)(Q:Bool->Hp->Prop)(b:Bool)(st:Hs):Prop:=∀(m':Mp)(H':Hp),Ext K m H m' H'->bg K m' st H'->Q b H'
def Va(K:PySem.W.Frag)(m:Mp)(H:Hp)(Q:List V->Hp->Prop)(ws:List Wv)(st:Hs):Prop:=∀(vs:List V)(m':Mp)(H':Hp),Ext K m H m' H'->bg K m' st H'->ah K m' H' ws vs->Q vs H'
abbrev dD(X:Cx)(σ:St)(m:Mp)(H:Hp)(r:Re Wv)(Q:VK):Prop:=au X σ m H r (Mc X.K m H Q)
abbrev gH(X:Cx)(σ:St)(m:Mp)(H:Hp)(r:Re Bool)(Q:Bool->Hp->Prop):Prop:=au X σ m H r (rh X.K m H Q)
abbrev GZ(X:Cx)(σ:St)(m:Mp)(H:Hp)(r:Re (List Wv))(Q:List V->Hp->Prop):Prop:=au X σ m H r (Va X.K m H Q)
theorem dD.shift{X:Cx}{σ:St}{m m1:Mp}{H H1:Hp}{r:Re Wv}{Q:VK}(h:dD X σ m H r Q)(e:Ext X.K m H m1 H1):dD X σ m1 H1 r Q:=h.imp e λ_ _ k v m' H' e'=>k v m' H' (e.trans e')
theorem gH.shift{X:Cx}{σ:St}{m m1:Mp}{H H1:Hp}{r:Re Bool}{Q:Bool->Hp->Prop}(h:gH X σ m H r Q)(e:Ext X.K m H m1 H1):gH X σ m1 H1 r Q:=h.imp e λ_ _ k m' H' e'=>k m' H' (e.trans e')
abbrev cq(K:PySem.W.Frag)(m:Mp)(H:Hp)(r:Re Wv)(Q:VK):Prop:=nY r (Mc K m H Q)
theorem cq.shift{K:PySem.W.Frag}{m m1:Mp}{H H1:Hp}{r:Re Wv}{Q:VK}(h:cq K m H r Q)(e:Ext K m H m1 H1):cq K m1 H1 r Q:=nY.imp h λ_ _ k v m' H' e'=>k v m' H' (e.trans e')
def aD(X:Cx)(m:Mp)(H:Hp)(r:Rs)(D:Ends):Prop:=match r with
 | .nx ρ st=>∀(σ:St)(m':Mp)(H':Hp),Ext X.K m H m' H'->bg X.K m' st H'->ay X.K m' H' ρ σ->D.nx σ H'
 | .rt w st=>∀(v:V)(m':Mp)(H':Hp),Ext X.K m H m' H'->bg X.K m' st H'->ag X.K m' H' w v->D.rt v H'
 | .bk ρ st=>∀(σ:St)(m':Mp)(H':Hp),Ext X.K m H m' H'->bg X.K m' st H'->ay X.K m' H' ρ σ->D.bk σ H'
 | .ct ρ st=>∀(σ:St)(m':Mp)(H':Hp),Ext X.K m H m' H'->bg X.K m' st H'->ay X.K m' H' ρ σ->D.ct σ H'
 | .err c ρ st=>∀(σ:St)(m':Mp)(H':Hp)(e:X9)(s':X8),Ext X.K m H m' H'->bg X.K m' st H'->ay X.K m' H' ρ σ->va X σ H' c e s'->X.xe e s'
 | .bad=>False
theorem aD.shift{X:Cx}{m m1:Mp}{H H1:Hp}{r:Rs}{D:Ends}(h:aD X m H r D)(e:Ext X.K m H m1 H1):aD X m1 H1 r D:=by
 cases r with
 | nx ρ st=>exact λσ m' H' e'=>h σ m' H' (e.trans e')
 | rt w st=>exact λv m' H' e'=>h v m' H' (e.trans e')
 | bk ρ st=>exact λσ m' H' e'=>h σ m' H' (e.trans e')
 | ct ρ st=>exact λσ m' H' e'=>h σ m' H' (e.trans e')
 | err c ρ st=>exact λσ m' H' x s' e'=>h σ m' H' x s' (e.trans e')
 | bad=>exact h
theorem aD.bW{α:Type}{X:Cx}{m:Mp}{H:Hp}{ρ:bw}{σ:St}{r:Re α}{f:α->Hs->Rs}{D:Ends}(R:ay X.K m H ρ σ)(h:aD X m H (r.aY ρ f) D):au X σ m H r (λa st=>aD X m H (f a st) D):=by
 cases r with
 | ok a st=>exact h
 | err c st=>exact λm' H' x s' e' S r=>h σ m' H' x s' e' S (R.mono e') r
 | bad=>exact h
def SE(X:Cx)(e:Expr):TE:=λσ H Q=>∀(pins:List (X3×Obj))(s:X8),Inv X pins σ H s->Yk (model X.prog X.w) X.A (eval e X.env) (EP X pins σ Q) X.xe s
def ST(X:Cx)(e:Expr):TT:=λσ H Q=>∀(pins:List (X3×Obj))(s:X8),Inv X pins σ H s->Yk (model X.prog X.w) X.A (isTrue e X.env (eval e X.env)) (TP X pins σ Q) X.xe s
def SA(X:Cx)(es:List Expr):TA:=λσ H Q=>∀(pos:Pos)(pins:List (X3×Obj))(s:X8),Inv X pins σ H s->Yk (model X.prog X.w) X.A (spliced (backTo pos (Yj es X.env))) (AP X pins σ Q) X.xe s
def SS(X:Cx)(st:Stmt):TS:=λD σ H=>∀(pins:List (X3×Obj))(s:X8),Inv X pins σ H s->Yk (model X.prog X.w) X.A (exec st X.env) (SP X pins D) X.xe s
def Pe(X:Cx)(st:List Stmt):TS:=λD σ H=>∀(pins:List (X3×Obj))(s:X8),Inv X pins σ H s->Yk (model X.prog X.w) X.A (execs st X.env) (SP X pins D) X.xe s
section
variable {X:Cx}
theorem aJ{e:Expr}:PE X e (SE X e):=λpins s _ _ _ I h=>h pins s I
theorem nZ{e:Expr}:PT X e (ST X e):=λpins s _ _ _ I h=>h pins s I
theorem fo{es:List Expr}:PA X es (SA X es):=λpos pins s _ _ _ I h=>h pos pins s I
theorem G0{st:Stmt}:PS X st (SS X st):=λpins s _ _ _ I h=>h pins s I
theorem dE{st:List Stmt}:zY X st (Pe X st):=λpins s _ _ _ I h=>h pins s I
end
def JE(X:Cx)(e:Expr)(g:GE):Prop:=∀(ρ:bw)(st:Hs)(σ:St)(H:Hp)(m:Mp)(Q:VK),bg X.K m st H->ay X.K m H ρ σ->dD X σ m H (g ρ st) Q->SE X e σ H Q
def JT(X:Cx)(e:Expr)(g:GT):Prop:=∀(ρ:bw)(st:Hs)(σ:St)(H:Hp)(m:Mp)(Q:Bool->Hp->Prop),bg X.K m st H->ay X.K m H ρ σ->gH X σ m H (g ρ st) Q->ST X e σ H Q
def JA(X:Cx)(es:List Expr)(g:GA):Prop:=∀(ρ:bw)(st:Hs)(σ:St)(H:Hp)(m:Mp)(Q:List V->Hp->Prop),bg X.K m st H->ay X.K m H ρ σ->GZ X σ m H (g ρ st) Q->SA X es σ H Q
def JS(X:Cx)(s:Stmt)(g:GS):Prop:=∀(ρ:bw)(st:Hs)(σ:St)(H:Hp)(m:Mp)(D:Ends),bg X.K m st H->ay X.K m H ρ σ->aD X m H (g ρ st) D->SS X s D σ H
def j8(X:Cx)(s:List Stmt)(g:GS):Prop:=∀(ρ:bw)(st:Hs)(σ:St)(H:Hp)(m:Mp)(D:Ends),bg X.K m st H->ay X.K m H ρ σ->aD X m H (g ρ st) D->Pe X s D σ H
section
variable {X:Cx}
theorem JE.of{e:Expr}{g:GE}{t:TE}(h:PE X e t)(k:∀(ρ:bw)(st:Hs)(σ:St)(H:Hp)(m:Mp)(Q:VK),bg X.K m st H->ay X.K m H ρ σ->dD X σ m H (g ρ st) Q->t σ H Q):JE X e g :=
 λρ st σ H m Q S R p pins s I=>h pins s σ H Q I (k ρ st σ H m Q S R p)
theorem JT.of{e:Expr}{g:GT}{t:TT}(h:PT X e t)(k:∀(ρ:bw)(st:Hs)(σ:St)(H:Hp)(m:Mp)(Q:Bool->Hp->Prop),bg X.K m st H->ay X.K m H ρ σ->gH X σ m H (g ρ st) Q->t σ H Q):JT X e g :=
 λρ st σ H m Q S R p pins s I=>h pins s σ H Q I (k ρ st σ H m Q S R p)
theorem JA.of{es:List Expr}{g:GA}{t:TA}(h:PA X es t)(k:∀(ρ:bw)(st:Hs)(σ:St)(H:Hp)(m:Mp)(Q:List V->Hp->Prop),bg X.K m st H->ay X.K m H ρ σ->GZ X σ m H (g ρ st) Q->t σ H Q):JA X es g :=
 λρ st σ H m Q S R p pos pins s I=>h pos pins s σ H Q I (k ρ st σ H m Q S R p)
theorem JS.of{e:Stmt}{g:GS}{t:TS}(h:PS X e t)(k:∀(ρ:bw)(st:Hs)(σ:St)(H:Hp)(m:Mp)(D:Ends),bg X.K m st H->ay X.K m H ρ σ->aD X m H (g ρ st) D->t D σ H):JS X e g :=
 λρ st σ H m D S R p pins s I=>h pins s σ H D I (k ρ st σ H m D S R p)
theorem j8.of{e:List Stmt}{g:GS}{t:TS}(h:zY X e t)(k:∀(ρ:bw)(st:Hs)(σ:St)(H:Hp)(m:Mp)(D:Ends),bg X.K m st H->ay X.K m H ρ σ->aD X m H (g ρ st) D->t D σ H):j8 X e g :=
 λρ st σ H m D S R p pins s I=>h pins s σ H D I (k ρ st σ H m D S R p)
theorem JE.go{e:Expr}{g:GE}{ρ:bw}{st:Hs}{σ:St}{H:Hp}{m:Mp}{T:VK}{ok:Wv->Hs->Prop}(h:JE X e g)(S:bg X.K m st H)(R:ay X.K m H ρ σ)(p:au X σ m H (g ρ st) ok)
  (k:∀(w:Wv)(st1:Hs)(v:V)(m1:Mp)(H1:Hp),ok w st1->Ext X.K m H m1 H1->bg X.K m1 st1 H1->ag X.K m1 H1 w v->T v H1):SE X e σ H T :=
 h ρ st σ H m T S R (p.imp Ext.refl λw st1 q v m1 H1 e1 s1 r1=>k w st1 v m1 H1 q e1 s1 r1)
theorem JT.go{e:Expr}{g:GT}{ρ:bw}{st:Hs}{σ:St}{H:Hp}{m:Mp}{T:Bool->Hp->Prop}{ok:Bool->Hs->Prop}(h:JT X e g)(S:bg X.K m st H)(R:ay X.K m H ρ σ)(p:au X σ m H (g ρ st) ok)
  (k:∀(b:Bool)(st1:Hs)(m1:Mp)(H1:Hp),ok b st1->Ext X.K m H m1 H1->bg X.K m1 st1 H1->T b H1):ST X e σ H T :=
 h ρ st σ H m T S R (p.imp Ext.refl λb st1 q m1 H1 e1 s1=>k b st1 m1 H1 q e1 s1)
theorem JA.go{es:List Expr}{g:GA}{ρ:bw}{st:Hs}{σ:St}{H:Hp}{m:Mp}{T:List V->Hp->Prop}{ok:List Wv->Hs->Prop}(h:JA X es g)(S:bg X.K m st H)(R:ay X.K m H ρ σ)(p:au X σ m H (g ρ st) ok)
  (k:∀(ws:List Wv)(st1:Hs)(vs:List V)(m1:Mp)(H1:Hp),ok ws st1->Ext X.K m H m1 H1->bg X.K m1 st1 H1->ah X.K m1 H1 ws vs->T vs H1):SA X es σ H T :=
 h ρ st σ H m T S R (p.imp Ext.refl λw st1 q v m1 H1 e1 s1 r1=>k w st1 v m1 H1 q e1 s1 r1)
end
end J
namespace J
open PySem PySem.Spec PyProof.Rows L2
def lim:Nat:=1000000
theorem dg{n:Nat}(h:n<=lim):n<=Yi:=bo h (by unfold lim;rw[sizeLine_eq];decide)
theorem vb{n:Nat}(h:n < lim):n < Yi:=bj h (by unfold lim;rw[sizeLine_eq];decide)
def af(i:Nat):GE:=λρ st=>match ρ[i]? with
 | some (some w)=> .ok w st
 | _=> .bad
def gC(w:Wv):GE:=λ_ st=> .ok w st
section
variable {X:Cx}
theorem vc(i:Nat){x:Str}{pos:Pos}(hN:X.N[i]? =some x:=by rfl)(hv:Qd X.env.scope x:=by first | exact Or.inl rfl | exact jE (Or.inl rfl) | exact jE (jE rfl))(hd:(x == ("__debug__":Str))=false:=by decide)
  (hcd:(x == ("__classdict__":Str))=false:=by decide):JE X (.Name x pos) (af i):=JE.of (Ij hN hv hd hcd) λρ st σ H m Q S R p=>by
 unfold af at p
 cases e:ρ[i]? with
 | none=>rw[e] at p;exact aa p
 | some o=>
  cases o with
  | none=>rw[e] at p;exact aa p
  | some w=>
   rw[e] at p
   obtain⟨v,h1,h2⟩:=R.get i w e
   exact⟨v,h1,p v m H Ext.refl S h2⟩
theorem Jt{i:Int}{j pos}:JE X (.Constant (.int i) j pos) (gC (.int i)):=JE.of Ik λρ st σ H m Q S R p=>p (.int i) m H Ext.refl S (by unfold ag;rfl)
theorem Nd{b:Bool}{j pos}:JE X (.Constant (.bool b) j pos) (gC (.bl b)):=JE.of MB λρ st σ H m Q S R p=>p (.bl b) m H Ext.refl S (by unfold ag;rfl)
theorem Ju{j pos}:JE X (.Constant .none j pos) (gC .aR):=JE.of Il λρ st σ H m Q S R p=>p .aR m H Ext.refl S (by unfold ag;rfl)
theorem Jv{x:PySem.Str}{j pos}(hx:aW x=true:=by decide+kernel):JE X (.Constant (.str x) j pos) (gC (.str x)):=JE.of Io λρ st σ H m Q S R p=>p (.str x) m H Ext.refl S (by unfold ag;exact⟨rfl,hx⟩)
theorem AQ{x:Str}{i:Int}{t:Tok}{pos:Pos}(hg:Gl X x)(hm:X.mg x=some (.int i t))(hd:(x == ("__debug__":Str))=false:=by decide):JE X (.Name x pos) (gC (.int i)) :=
 JE.of (e_ (v:=.int i) hg hm ⟨t,rfl⟩ hd) λρ st σ H m Q S R p=>p (.int i) m H Ext.refl S (by unfold ag;rfl)
theorem AR{x y:Str}{t:Tok}{pos:Pos}(hg:Gl X x)(hm:X.mg x=some (.str y t))(hy:aW y=true:=by decide+kernel)(hd:(x == ("__debug__":Str))=false:=by decide):JE X (.Name x pos) (gC (.str y)) :=
 JE.of (e_ (v:=.str y) hg hm ⟨t,rfl⟩ hd) λρ st σ H m Q S R p=>p (.str y) m H Ext.refl S (by unfold ag;exact⟨rfl,hy⟩)
theorem Nf{x:Str}{T:String}{pos:Pos}(hg:Gl X x)(hm:X.mg x=none)(hv:Yb x=some (.type T))(hn:x≠"__name__":=by decide)(hd:(x == ("__debug__":Str))=false:=by decide):JE X (.Name x pos) (gC (.ty T)) :=
 JE.of (D9 (v:=.ty T) hg hm hv rfl hn hd) λρ st σ H m Q S R p=>p (.ty T) m H Ext.refl S (by unfold ag;rfl)
abbrev ff:=Wv->Wv->Hs->Re Wv
def aj(op:ff)(ga gb:GE):GE:=λρ st=>(ga ρ st).bind λx st1=>(gb ρ st1).bind λy st2=>(op x y st2).kL
def wJ(X:Cx)(op:ff)(r:R2):Prop:=∀(x y:Wv)(a b:V)(st:Hs)(H:Hp)(m:Mp)(Q:VK),bg X.K m st H->ag X.K m H x a->ag X.K m H y b->cq X.K m H (op x y st) Q->r a b H Q
def iP(X:Cx)(f:X9->X9->Sem X9)(op:ff):Prop:=∃r,dU X f r/\wJ X op r
theorem wK{a b:Expr}{ga gb:GE}{op:ff}{r:R2}(h2:wJ X op r)(ha:JE X a ga)(hb:JE X b gb){ρ:bw}{st:Hs}{σ:St}{H:Hp}{m:Mp}{Q:VK}(S:bg X.K m st H)(R:ay X.K m H ρ σ)(p:dD X σ m H (aj op ga gb ρ st) Q) :
  MP r (SE X a) (SE X b) σ H Q:=by
 refine ha.go S R (au.bind p) λx st1 v m1 H1 p1 e1 S1 rx=>?_
 refine hb.go S1 (R.mono e1) ((au.bind p1).imp e1 λ_ _ q=>q) λy st2 u m2 H2 p2 e2 S2 ry=>?_
 exact h2 x y v u st2 H2 m2 Q S2 (ag.mono e2 _ _ rx) ry (cq.shift (au.kL p2) (e1.trans e2))
theorem Jw{a b:Expr}{ga gb:GE}{o:Operator}{op:ff}{pos:Pos}(ho:iP X (Ya o) op)(ha:JE X a ga)(hb:JE X b gb):JE X (.BinOp a o b pos) (aj op ga gb):=by
 obtain⟨r,h1,h2⟩:=ho
 exact JE.of (MQ h1 aJ aJ) λρ st σ H m Q S R p=>wK h2 ha hb S R p
theorem ve{a b:Expr}{ga gb:GE}{o:CmpOp}{op:ff}{pos:Pos}(ho:iP X (Ye o) op)(ha:JE X a ga)(hb:JE X b gb)(hm:X' o b=false):JE X (.Compare a [o] [b] pos) (aj op ga gb):=by
 obtain⟨r,h1,h2⟩:=ho
 exact JE.of (Ej h1 aJ aJ hm) λρ st σ H m Q S R p=>wK h2 ha hb S R p
def Md(w:Wv)(st:Hs):Re Bool:=match w with
 | .bl b=> .ok b st
 | _=> .bad
def cn(g:GE):GT:=λρ st=>(g ρ st).bind Md
theorem kU{σ:St}{m:Mp}{H:Hp}{r:Re Wv}{Q:Bool->Hp->Prop}(p:gH X σ m H (r.bind Md) Q):dD X σ m H r (λx H'=>∃k,x= .bl k/\Q k H'):=by
 cases r with
 | ok w st=>
  cases w with
  | bl b=>
   intro v m' H' e S rw'
   unfold ag at rw'
   exact⟨b,rw',p m' H' e S⟩
  | _=>exact aa p
 | err c st=>exact p
 | bad=>exact p
theorem rj{a b:Expr}{ga gb:GE}{o:CmpOp}{op:ff}{pos:Pos}(ho:iP X (Ye o) op)(ha:JE X a ga)(hb:JE X b gb)(hm:X' o b=false):JT X (.Compare a [o] [b] pos) (cn (aj op ga gb)):=by
 obtain⟨r,h1,h2⟩:=ho
 exact JT.of (Ek h1 aJ aJ hm) λρ st σ H m Q S R p=>wK h2 ha hb S R (kU p)
def iQ(op op':ff)(ga gb gc:GE):GE:=λρ st=>(ga ρ st).bind λx st1=>(gb ρ st1).bind λy st2=>(op x y st2).kL.bind λz st3=>match z with
 | .bl true=>(gc ρ st3).bind λu wL=>(op' y u wL).kL
 | .bl false=> .ok (.bl false) st3
 | _=> .bad
theorem G9{a b c:Expr}{ga gb gc:GE}{op op':ff}{r r':R2}(h2:wJ X op r)(h2':wJ X op' r')(ha:JE X a ga)(hb:JE X b gb)(hc:JE X c gc){ρ:bw}{st:Hs}{σ:St}{H:Hp}{m:Mp}{Q:VK}
  (S:bg X.K m st H)(R:ay X.K m H ρ σ)(p:dD X σ m H (iQ op op' ga gb gc ρ st) Q):uV r r' (SE X a) (SE X b) (SE X c) σ H Q:=by
 refine ha.go S R (au.bind p) λx st1 v m1 H1 p1 e1 S1 rx=>?_
 refine hb.go S1 (R.mono e1) ((au.bind p1).imp e1 λ_ _ q=>q) λy st2 u m2 H2 p2 e2 S2 ry=>?_
 refine h2 x y v u st2 H2 m2 _ S2 (ag.mono e2 _ _ rx) ry (nY.imp (au.kL (au.bind p2)) λz st3 p3=>?_)
 intro z' m3 H3 e3 S3 rz
 cases z with
 | bl k=>
  unfold ag at rz
  refine⟨k,rz,?_⟩
  cases k with
  | true=>
   rw[if_pos rfl]
   refine hc.go S3 (R.mono (e1.trans (e2.trans e3))) ((au.bind p3).imp (e1.trans (e2.trans e3)) λ_ _ q=>q) λq wL u' m4 H4 p4 e4 S4 rq=>?_
   exact h2' y q u u' wL H4 m4 Q S4 (ag.mono (e3.trans e4) _ _ ry) rq (cq.shift (au.kL p4) (e1.trans (e2.trans (e3.trans e4))))
  | false=>
   rw[if_neg bV]
   exact p3 (.bl false) m3 H3 (e1.trans (e2.trans e3)) S3 (by unfold ag;rfl)
 | _=>exact aa p3
theorem AS{a b c:Expr}{ga gb gc:GE}{o o':CmpOp}{op op':ff}{pos:Pos}(ho:iP X (Ye o) op)(ho':iP X (Ye o') op')(ha:JE X a ga)(hb:JE X b gb)(hc:JE X c gc)
  (hm:lastMarks [o,o'] [b,c]=false:=by with_unfolding_all rfl):JE X (.Compare a [o,o'] [b,c] pos) (iQ op op' ga gb gc):=by
 obtain⟨r,h1,h2⟩:=ho
 obtain⟨r',AO,h2'⟩:=ho'
 exact JE.of (Aj h1 AO aJ aJ aJ hm) λρ st σ H m Q S R p=>G9 h2 h2' ha hb hc S R p
theorem AU{a b c:Expr}{ga gb gc:GE}{o o':CmpOp}{op op':ff}{pos:Pos}(ho:iP X (Ye o) op)(ho':iP X (Ye o') op')(ha:JE X a ga)(hb:JE X b gb)(hc:JE X c gc)
  (hm:lastMarks [o,o'] [b,c]=false:=by with_unfolding_all rfl):JT X (.Compare a [o,o'] [b,c] pos) (cn (iQ op op' ga gb gc)):=by
 obtain⟨r,h1,h2⟩:=ho
 obtain⟨r',AO,h2'⟩:=ho'
 exact JT.of (Ak h1 AO aJ aJ aJ hm) λρ st σ H m Q S R p=>G9 h2 h2' ha hb hc S R (kU p)
def Jx(op:Wv->Hs->Re Wv)(ga:GE):GE:=λρ st=>(ga ρ st).bind op
def n8:Wv->Hs->Re Wv
 | .int i,st=> .ok (.int (-i)) st
 | _,_=> .bad
theorem Jy{a:Expr}{ga:GE}{pos:Pos}(ha:JE X a ga):JE X (.UnaryOp .USub a pos) (Jx n8 ga):=by
 refine JE.of (MR IJ aJ) λρ st σ H m Q S R p=>?_
 refine ha.go S R (au.bind p) λx st1 v m1 H1 p1 e1 S1 rx=>?_
 cases x with
 | int i=>
  unfold ag at rx
  exact⟨i,rx,p1 _ m1 H1 e1 S1 (by unfold ag;rfl)⟩
 | _=>exact aa p1
def SW(X:Cx)(e:Expr):TT:=λσ H Q=>∀(wh:Sem X9)(pins:List (X3×Obj))(s:X8),Inv X pins σ H s->Yk (model X.prog X.w) X.A (isTrue e X.env wh) (TP X pins σ Q) X.xe s
theorem G_{e:Expr}:PW X e (SW X e):=λwh pins s _ _ _ I h=>h wh pins s I
def JW(X:Cx)(e:Expr)(g:GT):Prop:=∀(ρ:bw)(st:Hs)(σ:St)(H:Hp)(m:Mp)(Q:Bool->Hp->Prop),bg X.K m st H->ay X.K m H ρ σ->gH X σ m H (g ρ st) Q->SW X e σ H Q
theorem JW.of{e:Expr}{g:GT}{t:TT}(h:PW X e t)(k:∀(ρ:bw)(st:Hs)(σ:St)(H:Hp)(m:Mp)(Q:Bool->Hp->Prop),bg X.K m st H->ay X.K m H ρ σ->gH X σ m H (g ρ st) Q->t σ H Q):JW X e g :=
 λρ st σ H m Q S R p wh pins s I=>h wh pins s σ H Q I (k ρ st σ H m Q S R p)
theorem JW.jt{e:Expr}{g:GT}(h:JW X e g):JT X e g:=λρ st σ H m Q S R p pins s I=>h ρ st σ H m Q S R p _ pins s I
def AV(ga gb:GT):GT:=λρ st=>(ga ρ st).bind λb st1=>if b=true then gb ρ st1 else .ok false st1
def AW(ga gb:GT):GT:=λρ st=>(ga ρ st).bind λb st1=>if b=true then .ok true st1 else gb ρ st1
def kW(ga:GT):GT:=λρ st=>(ga ρ st).bind λb st1=> .ok (!b) st1
theorem EG{a:Expr}{ga:GT}{pos:Pos}(ha:JT X a ga):JW X (.BoolOp .And [a] pos) ga:=JW.of (D_ nZ) λρ st σ H m Q S R p=>ha ρ st σ H m Q S R p
theorem Jz{a:Expr}{ga:GT}{pos:Pos}(ha:JT X a ga):JW X (.BoolOp .Or [a] pos) ga:=JW.of (Iq nZ) λρ st σ H m Q S R p=>ha ρ st σ H m Q S R p
theorem JB{a b:Expr}{rest:List Expr}{ga gb:GT}{pos:Pos}(ha:JT X a ga)(hb:JW X (.BoolOp .And (b::rest) pos) gb):JW X (.BoolOp .And (a::b::rest) pos) (AV ga gb):=by
 refine JW.of (Ir nZ G_) λρ st σ H m Q S R p=>?_
 refine ha.go S R (au.bind p) λc st1 m1 H1 p1 e1 S1=>?_
 cases c with
 | true=>rw[if_pos rfl] at p1 ⊢;exact hb ρ st1 σ H1 m1 Q S1 (R.mono e1) (gH.shift p1 e1)
 | false=>rw[if_neg bV] at p1 ⊢;exact p1 m1 H1 e1 S1
theorem Ng{a b:Expr}{rest:List Expr}{ga gb:GT}{pos:Pos}(ha:JT X a ga)(hb:JW X (.BoolOp .Or (b::rest) pos) gb):JW X (.BoolOp .Or (a::b::rest) pos) (AW ga gb):=by
 refine JW.of (MC nZ G_) λρ st σ H m Q S R p=>?_
 refine ha.go S R (au.bind p) λc st1 m1 H1 p1 e1 S1=>?_
 cases c with
 | true=>rw[if_pos rfl] at p1 ⊢;exact p1 m1 H1 e1 S1
 | false=>rw[if_neg bV] at p1 ⊢;exact hb ρ st1 σ H1 m1 Q S1 (R.mono e1) (gH.shift p1 e1)
theorem JC{a:Expr}{ga:GT}{pos:Pos}(ha:JT X a ga):JT X (.UnaryOp .Not a pos) (kW ga):=by
 refine JT.of (Iu nZ) λρ st σ H m Q S R p=>?_
 exact ha.go S R (au.bind p) λc st1 m1 H1 p1 e1 S1=>p1 m1 H1 e1 S1
def iR(ga gb:GE):GE:=λρ st=>(ga ρ st).bind λw st1=>match w with
 | .bl true=>gb ρ st1
 | .bl false=> .ok (.bl false) st1
 | _=> .bad
def Nh(ga gb:GE):GE:=λρ st=>(ga ρ st).bind λw st1=>match w with
 | .bl true=> .ok (.bl true) st1
 | .bl false=>gb ρ st1
 | _=> .bad
def Ha(ga:GE):GE:=λρ st=>(ga ρ st).bind λw st1=>match w with
 | .bl b=> .ok (.bl (!b)) st1
 | _=> .bad
theorem AX{op}{a:Expr}{ga:GE}{pos:Pos}(ha:JE X a ga):JE X (.BoolOp op [a] pos) ga:=JE.of (Iv aJ) λρ st σ H m Q S R p=>ha ρ st σ H m Q S R p
theorem JD{a b:Expr}{rest:List Expr}{ga gb:GE}{pos:Pos}(ha:JE X a ga)(hb:JE X (.BoolOp .And (b::rest) pos) gb):JE X (.BoolOp .And (a::b::rest) pos) (iR ga gb):=by
 refine JE.of (Iw aJ aJ) λρ st σ H m Q S R p=>?_
 refine ha.go S R (au.bind p) λx st1 v m1 H1 p1 e1 S1 rx=>?_
 cases x with
 | bl c=>
  unfold ag at rx
  refine⟨c,rx,?_⟩
  cases c with
  | true=>rw[if_pos rfl];exact hb ρ st1 σ H1 m1 Q S1 (R.mono e1) (dD.shift p1 e1)
  | false=>rw[if_neg bV];exact p1 _ m1 H1 e1 S1 (by unfold ag;rfl)
 | _=>exact aa p1
theorem Ni{a b:Expr}{rest:List Expr}{ga gb:GE}{pos:Pos}(ha:JE X a ga)(hb:JE X (.BoolOp .Or (b::rest) pos) gb):JE X (.BoolOp .Or (a::b::rest) pos) (Nh ga gb):=by
 refine JE.of (MF aJ aJ) λρ st σ H m Q S R p=>?_
 refine ha.go S R (au.bind p) λx st1 v m1 H1 p1 e1 S1 rx=>?_
 cases x with
 | bl c=>
  unfold ag at rx
  refine⟨c,rx,?_⟩
  cases c with
  | true=>rw[if_pos rfl];exact p1 _ m1 H1 e1 S1 (by unfold ag;rfl)
  | false=>rw[if_neg bV];exact hb ρ st1 σ H1 m1 Q S1 (R.mono e1) (dD.shift p1 e1)
 | _=>exact aa p1
theorem JF{a:Expr}{ga:GE}{pos:Pos}(ha:JE X a ga):JE X (.UnaryOp .Not a pos) (Ha ga):=by
 refine JE.of (Iy aJ) λρ st σ H m Q S R p=>?_
 refine ha.go S R (au.bind p) λx st1 v m1 H1 p1 e1 S1 rx=>?_
 cases x with
 | bl c=>
  unfold ag at rx
  exact⟨c,rx,p1 _ m1 H1 e1 S1 (by unfold ag;rfl)⟩
 | _=>exact aa p1
def Nj(gt:GT)(ga gb:GE):GE:=λρ st=>(gt ρ st).bind λb st1=>if b=true then ga ρ st1 else gb ρ st1
theorem Nk{c a b:Expr}{gt:GT}{ga gb:GE}{pos:Pos}(hc:JT X c gt)(ha:JE X a ga)(hb:JE X b gb):JE X (.IfExp c a b pos) (Nj gt ga gb):=by
 refine JE.of (Ab nZ aJ aJ) λρ st σ H m Q S R p=>?_
 refine hc.go S R (au.bind p) λk st1 m1 H1 p1 e1 S1=>?_
 cases k with
 | true=>rw[if_pos rfl] at p1 ⊢;exact ha ρ st1 σ H1 m1 Q S1 (R.mono e1) (dD.shift p1 e1)
 | false=>rw[if_neg bV] at p1 ⊢;exact hb ρ st1 σ H1 m1 Q S1 (R.mono e1) (dD.shift p1 e1)
def aq:GA:=λ_ st=> .ok [] st
def ae(ga:GE)(gr:GA):GA:=λρ st=>(ga ρ st).bind λx st1=>(gr ρ st1).bind λxs st2=> .ok (x::xs) st2
theorem AY:JA X [] aq:=JA.of IM λρ st σ H m Q S R p=>p [] m H Ext.refl S ah.nil
theorem wM{e:Expr}{es:List Expr}{ga:GE}{gr:GA}(ha:JE X e ga)(hr:JA X es gr)(hs:Yj (e::es) X.env=(false,eval e X.env)::Yj es X.env:=by rfl):JA X (e::es) (ae ga gr):=by
 refine JA.of (El aJ fo hs) λρ st σ H m Q S R p=>?_
 refine ha.go S R (au.bind p) λx st1 v m1 H1 p1 e1 S1 rx=>?_
 refine hr.go S1 (R.mono e1) ((au.bind p1).imp e1 λ_ _ q=>q) λxs st2 vs m2 H2 p2 e2 S2 rs=>?_
 exact p2 (v::vs) m2 H2 (e1.trans e2) S2 (ah.cons (ag.mono e2 _ _ rx) rs)
def cH(g:GA):GE:=λρ st=>(g ρ st).bind λws st1=>if ws.length<=lim then .ok (.tup ws) st1 else .bad
def dX(g:GA):GE:=λρ st=>(g ρ st).bind λws st1=>if ws.length<=lim then .ok (.ref st1.length) (st1++[.lst ws]) else .bad
theorem JG{es:List Expr}{g:GA}{x1 pos}(h:JA X es g):JE X (.Tuple es x1 pos) (cH g):=by
 refine JE.of (IP fo) λρ st σ H m Q S R p=>?_
 refine h.go S R (au.bind p) λws st1 vs m1 H1 p1 e1 S1 rs=>?_
 by_cases hl:ws.length<=lim
 ·rw[if_pos hl] at p1
  refine⟨by rw[<-rs.length];exact dg hl,λq hq=>?_⟩
  have e2:Ext X.K m1 H1 m1 (upd H1 q (.tup vs)):=Ext.upd (.inl hq)
  exact p1 (.ref q) m1 _ (e1.trans e2) (S1.fresh hq) (by unfold ag;exact⟨q,vs,rfl,aM,ah.mono e2 _ _ rs⟩)
 ·rw[if_neg hl] at p1;exact aa p1
theorem bg.newest{K:PySem.W.Frag}{m:Mp}{st:Hs}{H:Hp}(S:bg K m st H)(q:X3)(H':Hp):ag K (m++[q]) H' (.ref st.length) (.ref q):=by
 unfold ag
 refine⟨q,rfl,?_⟩
 rw[<-S.len,jZ (ao _),ni]
 rfl
theorem gI{m m1:Mp}{H H1:Hp}{st1:Hs}{ws:List Wv}{vs:List V}{Q:VK}(p1:Mc X.K m H Q (.ref st1.length) (st1++[.lst ws]))(e1:Ext X.K m H m1 H1)(S1:bg X.K m1 st1 H1)(rs:ah X.K m1 H1 ws vs)(q:X3)(hq:H1 q=none) :
  Q (.ref q) (upd H1 q (.lst vs)) :=
 p1 (.ref q) (m1++[q]) _ (e1.trans (Ext.more.trans (Ext.upd (.inl hq)))) (S1.alloc hq rs) (S1.newest q _)
theorem JH{es:List Expr}{g:GA}{pos}(h:JA X es g):JE X (.List es pos) (dX g):=by
 refine JE.of (IQ fo) λρ st σ H m Q S R p=>?_
 refine h.go S R (au.bind p) λws st1 vs m1 H1 p1 e1 S1 rs=>?_
 by_cases hl:ws.length<=lim
 ·rw[if_pos hl] at p1
  exact⟨by rw[<-rs.length];exact dg hl,λq hq=>gI p1 e1 S1 rs q hq⟩
 ·rw[if_neg hl] at p1;exact aa p1
end
section
variable {X:Cx}
theorem dU.or{f:X9->X9->Sem X9}{r r':R2}(h:dU X f r)(h':dU X f r'):dU X f (λx y H Q=>r x y H Q\/r' x y H Q):=by
 intro pins s σ H x y v u Q I rx ry q
 rcases q with q | q
 ·exact h pins s σ H x y v u Q I rx ry q
 ·exact h' pins s σ H x y v u Q I rx ry q
theorem AZ:dU X (Ya .FloorDiv) (rI (λ_ j=>j≠0/\j.natAbs.log2 < 9000) λi j=> .int (i.fdiv j)):=O_ λi j _ _ _ _ _ hc q=>floordiv_int hc.1 q (.inl (PyProof.noPylong_of_log2 hc.2))
theorem EH:dU X (Ya .Mod) (rI (λ_ j=>j≠0) λi j=> .int (i.fmod j)):=O_ λi j _ _ _ _ _ hc q=>mod_int' hc q
theorem EI:dU X (Ya .Mult) (rI (λi j=>IntMulOk i j) λi j=> .int (i * j)):=O_ λ_ _ _ _ _ _ _ hc q=>mul_int q hc
instance QM{a b:Int}:Decidable (IntMulOk a b):=by unfold IntMulOk;infer_instance
def j9:ff
 | .int i,.int j,st=> .ok (.int (i - j)) st
 | _,_,_=> .bad
def bI:ff
 | .int i,.int j,st=>if j≠0/\j.natAbs.log2 < 9000 then .ok (.int (i.fdiv j)) st else .bad
 | _,_,_=> .bad
def oMod:ff
 | .int i,.int j,st=>if j≠0 then .ok (.int (i.fmod j)) st else .bad
 | _,_,_=> .bad
def sZ:ff
 | .int i,.int j,st=>if 0<=j/\j<=1000000/\i.natAbs < 2 ^ 64 then .ok (.int (i ^ j.toNat)) st else .bad
 | _,_,_=> .bad
def Nl:ff
 | .int i,.int j,st=> .ok (.bl (decide (i < j))) st
 | .str i,.str j,st=> .ok (.bl (decide (i.cps.toList < j.cps.toList))) st
 | _,_,_=> .bad
def Nm:ff
 | .int i,.int j,st=> .ok (.bl (decide (i<=j))) st
 | _,_,_=> .bad
def Nn:ff
 | .int i,.int j,st=> .ok (.bl (decide (j < i))) st
 | _,_,_=> .bad
def QN:ff
 | .int i,.int j,st=> .ok (.bl (decide (j<=i))) st
 | _,_,_=> .bad
theorem aO{m:Mp}{H:Hp}{i:Int}{a:V}(h:ag X.K m H (.int i) a):a= .int i:=by unfold ag at h;exact h
theorem dF{m:Mp}{H:Hp}{x:PySem.Str}{a:V}(h:ag X.K m H (.str x) a):a= .str x/\aW x=true:=by unfold ag at h;exact h
theorem mkInt{m:Mp}{H:Hp}{i:Int}:ag X.K m H (.int i) (.int i):=by unfold ag;rfl
theorem fB{m:Mp}{H:Hp}{i:Bool}:ag X.K m H (.bl i) (.bl i):=by unfold ag;rfl
theorem wN{m:Mp}{H:Hp}:ag X.K m H .aR .aR:=by unfold ag;rfl
theorem mkStr{m:Mp}{H:Hp}{x:PySem.Str}(h:aW x=true):ag X.K m H (.str x) (.str x):=by unfold ag;exact⟨rfl,h⟩
theorem JJ:iP X (Ya .Sub) j9:=⟨_,IH,λx y a b st H m Q S rx ry p=>by
 cases x with
 | int i=>
  cases y with
  | int j=>exact⟨i,j,aO rx,aO ry,p _ m H Ext.refl S mkInt⟩
  | _=>exact aa p
 | _=>cases y<;>exact aa p⟩
theorem EJ:iP X (Ya .FloorDiv) bI:=⟨_,AZ,λx y a b st H m Q S rx ry p=>by
 cases x with
 | int i=>
  cases y with
  | int j=>
   dsimp only[bI] at p
   by_cases c:j≠0/\j.natAbs.log2 < 9000
   ·rw[if_pos c] at p;exact⟨i,j,aO rx,aO ry,c,p _ m H Ext.refl S mkInt⟩
   ·rw[if_neg c] at p;exact aa p
  | _=>exact aa p
 | _=>cases y<;>exact aa p⟩
theorem JK:iP X (Ya .Mod) oMod:=⟨_,EH,λx y a b st H m Q S rx ry p=>by
 cases x with
 | int i=>
  cases y with
  | int j=>
   dsimp only[oMod] at p
   by_cases c:j≠0
   ·rw[if_pos c] at p;exact⟨i,j,aO rx,aO ry,c,p _ m H Ext.refl S mkInt⟩
   ·rw[if_neg c] at p;exact aa p
  | _=>exact aa p
 | _=>cases y<;>exact aa p⟩
theorem JM:iP X (Ya .Pow) sZ:=⟨_,II,λx y a b st H m Q S rx ry p=>by
 cases x with
 | int i=>
  cases y with
  | int j=>
   dsimp only[sZ] at p
   by_cases c:0<=j/\j<=1000000/\i.natAbs < 2 ^ 64
   ·rw[if_pos c] at p;exact⟨i,j,aO rx,aO ry,c,p _ m H Ext.refl S mkInt⟩
   ·rw[if_neg c] at p;exact aa p
  | _=>exact aa p
 | _=>cases y<;>exact aa p⟩
theorem Np:iP X (Ye .Lt) Nl:=⟨_,dU.or MT yd,λx y a b st H m Q S rx ry p=>by
 cases x with
 | int i=>
  cases y with
  | int j=>exact .inl ⟨i,j,aO rx,aO ry,p _ m H Ext.refl S fB⟩
  | _=>exact aa p
 | str i=>
  cases y with
  | str j=>exact .inr ⟨i,j,(dF rx).1,(dF ry).1,p _ m H Ext.refl S fB⟩
  | _=>exact aa p
 | _=>cases y<;>exact aa p⟩
theorem Nq:iP X (Ye .LtE) Nm:=⟨_,MU,λx y a b st H m Q S rx ry p=>by
 cases x with
 | int i=>
  cases y with
  | int j=>exact⟨i,j,aO rx,aO ry,p _ m H Ext.refl S fB⟩
  | _=>exact aa p
 | _=>cases y<;>exact aa p⟩
theorem Nr:iP X (Ye .Gt) Nn:=⟨_,MV,λx y a b st H m Q S rx ry p=>by
 cases x with
 | int i=>
  cases y with
  | int j=>exact⟨i,j,aO rx,aO ry,p _ m H Ext.refl S fB⟩
  | _=>exact aa p
 | _=>cases y<;>exact aa p⟩
theorem Nt:iP X (Ye .GtE) QN:=⟨_,MW,λx y a b st H m Q S rx ry p=>by
 cases x with
 | int i=>
  cases y with
  | int j=>exact⟨i,j,aO rx,aO ry,p _ m H Ext.refl S fB⟩
  | _=>exact aa p
 | _=>cases y<;>exact aa p⟩
def Tq:ff
 | x,.aR,st=> .ok (.bl (match x with | .aR=>true | _=>false)) st
 | _,_,_=> .bad
def j_:ff
 | x,.aR,st=> .ok (.bl (match x with | .aR=>false | _=>true)) st
 | _,_,_=> .bad
theorem Hd{m:Mp}{H:Hp}{x:Wv}{a:V}(h:ag X.K m H x a):decide (a=V.aR)=(match x with | .aR=>true | _=>false):=by
 cases x with
 | aR=>unfold ag at h;subst h;rfl
 | bl b=>unfold ag at h;subst h;rfl
 | int b=>unfold ag at h;subst h;rfl
 | str b=>unfold ag at h;obtain⟨h,_⟩:=h;subst h;rfl
 | tup b=>unfold ag at h;obtain⟨q,xs,h,_⟩:=h;subst h;rfl
 | nX b=>unfold ag at h;obtain⟨q,xs,h,_⟩:=h;subst h;rfl
 | ref b=>unfold ag at h;obtain⟨q,h,_⟩:=h;subst h;rfl
 | ty b=>unfold ag at h;subst h;rfl
 | cls b=>unfold ag at h;obtain⟨q,h,_⟩:=h;subst h;rfl
 | j7 b=>unfold ag at h;obtain⟨q,C,h,_⟩:=h;subst h;rfl
 | fn fp b=>unfold ag at h;obtain⟨h,_⟩:=h;subst h;rfl
theorem Nu:iP X (Ye .Is) Tq:=⟨_,IK,λx y a b st H m Q S rx ry p=>by
 cases y with
 | aR=>
  refine⟨by unfold ag at ry;exact ry,?_⟩
  rw[Hd rx]
  cases x<;>exact p _ m H Ext.refl S fB
 | _=>cases x<;>exact aa p⟩
theorem A0:iP X (Ye .IsNot) j_:=⟨_,Ei,λx y a b st H m Q S rx ry p=>by
 cases y with
 | aR=>
  refine⟨by unfold ag at ry;exact ry,?_⟩
  rw[Hd rx]
  cases x<;>exact p _ m H Ext.refl S fB
 | _=>cases x<;>exact aa p⟩
theorem rl{a b:PySem.Str}(ha:aW a=true)(hb:aW b=true):aW (a++b)=true:=by
 unfold aW at *
 show((a.cps++b.cps).all _)=true
 rw[Array.all_append,ha,hb]
 rfl
def Nv(K:PySem.W.Frag):R2:=λx y H Q=>∃l b xs zs,x= .ref l/\y= .ref b/\iu K H l xs/\iu K H b zs/\xs.length+zs.length<=Yi/\∀p,H p=none->Q (.ref p) (upd H p (.lst (xs++zs)))
theorem EK:dU X (Ya .Add) (Nv X.K):=by
 intro pins s σ H x y v u Q I rx ry h
 obtain⟨l,b,xs,zs,rfl,rfl,hH,hB,hz,q⟩:=h
 cases rx
 cases ry
 obtain⟨its,r,pl,hs⟩:=I.list hH
 obtain⟨its2,r2,Vb,hs2⟩:=I.list hB
 have hl:=r.length
 have hl2:=r2.length
 obtain⟨⟨cls,dd,data,sl⟩,ho,hc,n,hd⟩:=id pl.isList
 obtain⟨⟨QA,dd2,data2,sl2⟩,ho2,hc2,n2,hd2⟩:=id Vb.isList
 simp only at hc hd hc2 hd2
 subst hc hd hc2 hd2
 have e:its.toArray++its2.toArray=(its++its2).toArray:=by simp
 refine PySem.concat_meets ⟨_,ho,rfl⟩ ⟨_,ho2,rfl⟩ PySem.noFill_list_add PySem.seq_list_add PySem.F.slot_list_add PySem.F.entry_list_add (PySem.F.args_list_add_2 _ _) (list_addW l b its.toArray its2.toArray n n2 dd dd2 sl sl2 (by simp;omega)) ⟨ho,ho2,?_⟩
 rw[e]
 exact⟨.ref _,_,I.Jb (t':=s.toks) (r.append r2) (by rw[dB];omega),rfl,q _ I.fresh⟩
def Nw(K:PySem.W.Frag):R2:=λx y H Q=>∃a b ys,x= .ref a/\y= .ref b/\cU K H a []/\cU K H b ys/\Q (.ref b) H
theorem EL:dU X (Ya .Add) (Nw X.K):=by
 intro pins s σ H x y v u Q I rx ry h
 obtain⟨a,b,ys,rfl,rfl,ha,hb,q⟩:=h
 cases rx
 cases ry
 obtain⟨its,r1,p1,_⟩:=I.tuple ha
 obtain⟨its2,r2,p2,_⟩:=I.tuple hb
 cases r1
 obtain⟨⟨c1,d1,t1,l1⟩,g1,k1,n1,j1⟩:=id p1
 obtain⟨⟨c2,d2,t2,l2⟩,g2,k2,n2,j2⟩:=id p2
 simp only at k1 j1 k2 j2
 subst k1 j1 k2 j2
 exact PySem.concat_meets ⟨_,g1,rfl⟩ ⟨_,g2,rfl⟩ PySem.noFill_tuple_add PySem.seq_tuple_add PySem.F.slot_tuple_add PySem.F.entry_tuple_add (PySem.F.args_tuple_add_2 _ _) (tuple_addW0 a b #[] its2.toArray n1 n2 d1 d2 l1 l2 (by simp)) ⟨g1,g2,⟨.ref b,H,I,rfl,q⟩⟩
def bS:ff
 | .int i,.int j,st=> .ok (.int (i+j)) st
 | .str i,.str j,st=>if i.length+j.length<=lim then .ok (.str (i++j)) st else .bad
 | .tup i,.tup j,st=>if i.length+j.length<=lim then .ok (.tup (i++j)) st else .bad
 | .ref l,.ref k,st=>match ai st l,ai st k with
  | some i,some j=>if i.length+j.length<=lim then .ok (.ref st.length) (st++[.lst (i++j)]) else .bad
  | _,_=> .bad
 | _,_,_=> .bad
instance {α:Type}{xs:List α}:Decidable (xs≠[]):=match xs with
 | []=>isFalse (λh=>h rfl)
 | _::_=>isTrue (λh=>by cases h)
theorem JN:iP X (Ya .Add) bS:=⟨_,dU.or IG (dU.or uX (dU.or Et (dU.or EK EL))),λx y a b st H m Q S rx ry p=>by
 cases x with
 | int i=>
  cases y with
  | int j=>exact .inl ⟨i,j,aO rx,aO ry,p _ m H Ext.refl S mkInt⟩
  | _=>exact aa p
 | str i=>
  cases y with
  | str j=>
   dsimp only[bS] at p
   by_cases c:i.length+j.length<=lim
   ·rw[if_pos c] at p
    exact .inr (.inl ⟨i,j,(dF rx).1,(dF ry).1,dg c,p _ m H Ext.refl S (mkStr (rl (dF rx).2 (dF ry).2))⟩)
   ·rw[if_neg c] at p;exact aa p
  | _=>exact aa p
 | tup i=>
  cases y with
  | tup j=>
   dsimp only[bS] at p
   by_cases c:i.length+j.length<=lim
   ·rw[if_pos c] at p
    by_cases c0:i=[]
    ·subst c0
     unfold ag at rx ry
     obtain⟨a1,xs,rfl,h1,h2⟩:=rx
     obtain⟨a2,ys,rfl,h3,h4⟩:=ry
     have l1:xs=[]:=A1 h2.length.symm
     subst l1
     exact .inr (.inr (.inr (.inr ⟨a1,a2,ys,rfl,rfl,cU.of h1,cU.of h3,p (.ref a2) m H Ext.refl S (by rw[List.nil_append];unfold ag;exact⟨a2,ys,rfl,h3,h4⟩)⟩)))
    unfold ag at rx ry
    obtain⟨a1,xs,rfl,h1,h2⟩:=rx
    obtain⟨a2,ys,rfl,h3,h4⟩:=ry
    have l1:=h2.length
    have l2:=h4.length
    have n1:xs≠[]:=λz=>by rw[z] at l1;exact c0 (A1 l1)
    refine .inr (.inr (.inl ⟨a1,a2,xs,ys,rfl,rfl,cU.of h1,cU.of h3,n1,by rw[<-l1,<-l2];exact dg c,λz=>?_,λ_ q hq=>?_⟩))
    ·rw[z] at l2
     rw[A1 l2,lR] at p
     exact p (.ref a1) m H Ext.refl S (by unfold ag;exact⟨a1,xs,rfl,h1,h2⟩)
    have e2:Ext X.K m H m (upd H q (.tup (xs++ys))):=Ext.upd (.inl hq)
    exact p (.ref q) m _ e2 (S.fresh hq) (by unfold ag;exact⟨q,xs++ys,rfl,aM,ah.mono e2 _ _ (h2.append h4)⟩)
   ·rw[if_neg c] at p;exact aa p
  | _=>exact aa p
 | ref l=>
  cases y with
  | ref k=>
   dsimp only[bS] at p
   unfold ag at rx ry
   obtain⟨a1,rfl,h1⟩:=rx
   obtain⟨a2,rfl,h2⟩:=ry
   cases e1:ai st l with
   | none=>rw[e1] at p;exact aa p
   | some i=>
    cases e2:ai st k with
    | none=>rw[e1,e2] at p;exact aa p
    | some j=>
     rw[e1,e2] at p
     by_cases c:i.length+j.length<=lim
     ·simp only[if_pos c] at p
      obtain⟨xs,q1,q2⟩:=S.read h1 e1
      obtain⟨ys,q3,q4⟩:=S.read h2 e2
      exact .inr (.inr (.inr (.inl ⟨a1,a2,xs,ys,rfl,rfl,q1,q3,by rw[<-q2.length,<-q4.length];exact dg c,λq hq=>gI p Ext.refl S (q2.append q4) q hq⟩)))
     ·simp only[if_neg c] at p;exact aa p
  | _=>exact aa p
 | _=>cases y<;>exact aa p⟩
def pz(n:Nat)(x:PySem.Str):PySem.Str:=⟨(a_ n x.cps).foldl (· ++·) #[]⟩
end
open PySem PySem.Spec PySem.SeqAt PyProof.Rows L2
def dY{α β:Type}(f:α->Option β):List α->Option (List β)
 | []=>some []
 | w::ws=>match f w,dY f ws with
  | some d,some ds=>some (d::ds)
  | _,_=>none
def aA(st:Hs):Nat->Wv->Option PyData
 | 0,w=>match w with
  | .aR=>some .none
  | .bl b=>some (.bool b)
  | .int i=>some (.int i)
  | .str x=>some (.str x)
  | _=>none
 | n+1,w=>match w with
  | .aR=>some .none
  | .bl b=>some (.bool b)
  | .int i=>some (.int i)
  | .str x=>some (.str x)
  | .tup ws=>(dY (aA st n) ws).map .tuple
  | .nX ws=>(dY (aA st n) ws).map .tuple
  | .ref l=>match ai st l with
   | some ws=>(dY (aA st n) ws).map .list
   | none=>none
  | .ty _=>none
  | .cls _=>none
  | .j7 _=>none
  | .fn _ _=>none
section
variable {X:Cx} {pins:List (X3×Obj)} {σ:St} {H:Hp} {s:X8} {m:Mp} {st:Hs}
def Hf(h:Heap)(n:Nat)(u:X9)(d:PyData):Prop:=∃as,Reads h u d as/\d.canLay0=true/\d.depth<=n
theorem jF{n:Nat}(ih:∀(w:Wv)(a:V)(u:X9)(d:PyData),ag X.K m H w a->RelV a u->aA st n w=some d->Hf s.heap n u d) :
  ∀(ws:List Wv)(xs:List V)(us:List X9)(ds:List PyData),ah X.K m H ws xs->Vals xs us->dY (aA st n) ws=some ds->∃as,ReadsAll s.heap us ds as/\wO ds=true/\kX ds<=n
 | [],xs,us,ds,h,r,e=>by
  unfold ah at h
  subst h
  cases r
  cases e
  exact⟨[],.nil,rfl,bx _⟩
 | w::ws,xs,us,ds,h,r,e=>by
  unfold ah at h
  obtain⟨x,xr,rfl,h1,h2⟩:=h
  cases r with
  | cons r1 r2=>
   unfold dY at e
   cases e1:aA st n w with
   | none=>rw[e1] at e;cases e
   | some d=>
    cases e2:dY (aA st n) ws with
    | none=>rw[e1,e2] at e;cases e
    | some dr=>
     rw[e1,e2] at e
     cases e
     obtain⟨as,q1,q2,q3⟩:=ih w x _ d h1 r1 e1
     obtain⟨bs,p1,p2,p3⟩:=jF ih ws xr _ dr h2 r2 e2
     refine⟨as++bs,.cons q1 p1,?_,?_⟩
     ·show(PyData.canLay0 d&&wO dr)=true
      rw[q2,p2];rfl
     ·show max d.depth (kX dr)<=n
      omega
theorem bY(I:Inv X pins σ H s)(S:bg X.K m st H):∀(n:Nat)(w:Wv)(a:V)(u:X9)(d:PyData),ag X.K m H w a->RelV a u->aA st n w=some d->Hf s.heap n u d:=by
 intro n
 induction n with
 | zero=>
  intro w a u d h r e
  cases w with
  | aR=>unfold ag at h;subst h;cases r;cases e;exact⟨[],.none,rfl,ao _⟩
  | bl b=>unfold ag at h;subst h;cases r;cases e;exact⟨[],.bool b,rfl,ao _⟩
  | int i=>unfold ag at h;subst h;obtain⟨t,rfl⟩:=r;cases e;exact⟨[],.int i t,rfl,ao _⟩
  | str x=>unfold ag at h;obtain⟨rfl,hx⟩:=h;obtain⟨t,rfl⟩:=r;cases e;exact⟨[],.str x t,hx,ao _⟩
  | tup ws=>cases e
  | nX ws=>cases e
  | ref l=>cases e
  | ty t=>cases e
  | cls t=>cases e
  | j7 t=>cases e
  | fn fp t=>cases e
 | succ n ih=>
  intro w a u d h r e
  cases w with
  | aR=>unfold ag at h;subst h;cases r;cases e;exact⟨[],.none,rfl,bx _⟩
  | bl b=>unfold ag at h;subst h;cases r;cases e;exact⟨[],.bool b,rfl,bx _⟩
  | int i=>unfold ag at h;subst h;obtain⟨t,rfl⟩:=r;cases e;exact⟨[],.int i t,rfl,bx _⟩
  | str x=>unfold ag at h;obtain⟨rfl,hx⟩:=h;obtain⟨t,rfl⟩:=r;cases e;exact⟨[],.str x t,hx,bx _⟩
  | ty t=>cases e
  | cls t=>cases e
  | j7 t=>cases e
  | fn fp t=>cases e
  | tup ws=>
   unfold ag at h
   obtain⟨p,xs,rfl,h1,h2⟩:=h
   cases r
   have e':(dY (aA st n) ws).map nj=some d:=e
   cases e2:dY (aA st n) ws with
   | none=>rw[e2] at e';cases e'
   | some ds=>
    rw[e2] at e'
    cases e'
    obtain⟨its,rv,ht,hz⟩:=I.tuple (cU.of h1)
    obtain⟨as,q1,q2,q3⟩:=jF ih ws xs its ds h2 rv e2
    obtain⟨o,ho,hc,k,hd⟩:=ht
    exact⟨as,.tuple ho hc hd (by simpa using q1),q2,wQ q3⟩
  | nX ws=>
   unfold ag at h
   obtain⟨p,xs,rfl,h1,h2⟩:=h
   cases r
   have e':(dY (aA st n) ws).map nj=some d:=e
   cases e2:dY (aA st n) ws with
   | none=>rw[e2] at e';cases e'
   | some ds=>
    rw[e2] at e'
    cases e'
    obtain⟨its,rv,ht,hz⟩:=I.tuple (.inr h1)
    obtain⟨as,q1,q2,q3⟩:=jF ih ws xs its ds h2 rv e2
    obtain⟨o,ho,hc,k,hd⟩:=ht
    exact⟨as,.tuple ho hc hd (by simpa using q1),q2,wQ q3⟩
  | ref l=>
   unfold ag at h
   obtain⟨p,rfl,h1⟩:=h
   cases r
   have e':(match ai st l with | some ws=>(dY (aA st n) ws).map rn | none=>none)=some d:=e
   cases e1:ai st l with
   | none=>rw[e1] at e';cases e'
   | some ws=>
    rw[e1] at e'
    have e'':(dY (aA st n) ws).map rn=some d:=e'
    cases e2:dY (aA st n) ws with
    | none=>rw[e2] at e'';cases e''
    | some ds=>
     rw[e2] at e''
     cases e''
     obtain⟨xs,hq,h2⟩:=S.read h1 e1
     obtain⟨its,rv,ht,hz⟩:=I.list hq
     obtain⟨as,q1,q2,q3⟩:=jF ih ws xs its ds h2 rv e2
     obtain⟨o,ho,hc,k,hd⟩:=ht.isList
     exact⟨_,.list ho hc hd (by simpa using q1),q2,wQ q3⟩
end
def oEq:ff:=λx y st=>match aA st 20 x,aA st 20 y with
 | some a,some b=> .ok (.bl (aF a b)) st
 | _,_=> .bad
def rp:ff:=λx y st=>match aA st 20 x,aA st 20 y with
 | some a,some b=> .ok (.bl (!PyData.eqv a b)) st
 | _,_=> .bad
section
variable {X:Cx}
def Nx(K:PySem.W.Frag)(neg:Bool):R2:=λa b H Q=>∃m st x y da db,bg K m st H/\ag K m H x a/\ag K m H y b/\aA st 20 x=some da/\aA st 20 y=some db/\Q (.bl (if neg then !PyData.eqv da db else aF da db)) H
theorem jG{n:Nat}{d:PyData}(hn:n<=64)(h:d.canLay0=true)(k:d.depth<=n):shaped d=true:=by
 unfold shaped
 rw[h,decide_eq_true (bo k hn)]
 rfl
theorem JP(hu:X.A.units+64 < cLine):dU X (Ye .Eq) (Nx X.K false):=by
 intro pins s σ H a b v u Q I rx ry h
 obtain⟨m,st,x,y,da,db,S,h1,h2,e1,e2,q⟩:=h
 obtain⟨as,q1,q2,q3⟩:=bY I S 20 x a v da h1 rx e1
 obtain⟨bs,p1,p2,p3⟩:=bY I S 20 y b u db h2 ry e2
 exact eq_dataH q1 p1 (jG (by decide) q2 q3) (jG (by decide) p2 p3) hu ⟨.bl _,H,I,rfl,q⟩
theorem JQ(hu:X.A.units+64 < cLine):dU X (Ye .NotEq) (Nx X.K true):=by
 intro pins s σ H a b v u Q I rx ry h
 obtain⟨m,st,x,y,da,db,S,h1,h2,e1,e2,q⟩:=h
 obtain⟨as,q1,q2,q3⟩:=bY I S 20 x a v da h1 rx e1
 obtain⟨bs,p1,p2,p3⟩:=bY I S 20 y b u db h2 ry e2
 exact ne_dataH q1 p1 (jG (by decide) q2 q3) (jG (by decide) p2 p3) hu ⟨.bl _,H,I,rfl,q⟩
theorem Ny(hu:X.A.units+64 < cLine):iP X (Ye .Eq) oEq:=⟨_,JP hu,λx y a b st H m Q S rx ry p=>by
 unfold oEq at p
 cases e1:aA st 20 x with
 | none=>rw[e1] at p;exact aa p
 | some da=>
  cases e2:aA st 20 y with
  | none=>rw[e1,e2] at p;exact aa p
  | some db=>
   rw[e1,e2] at p
   exact⟨m,st,x,y,da,db,S,rx,ry,e1,e2,p _ m H Ext.refl S fB⟩⟩
theorem Hg(hu:X.A.units+64 < cLine):iP X (Ye .NotEq) rp:=⟨_,JQ hu,λx y a b st H m Q S rx ry p=>by
 unfold rp at p
 cases e1:aA st 20 x with
 | none=>rw[e1] at p;exact aa p
 | some da=>
  cases e2:aA st 20 y with
  | none=>rw[e1,e2] at p;exact aa p
  | some db=>
   rw[e1,e2] at p
   exact⟨m,st,x,y,da,db,S,rx,ry,e1,e2,p _ m H Ext.refl S fB⟩⟩
def gJ:Wv->Bool
 | .aR=>true
 | .bl _=>true
 | .int _=>true
 | .str _=>true
 | _=>false
def Pf:Wv->Wv->Bool
 | .aR,.aR=>true
 | .bl a,.bl b=>a == b
 | .bl a,.int b=>(if a then 1 else 0) == b
 | .int a,.bl b=>a == (if b then 1 else 0)
 | .int a,.int b=>a == b
 | .str a,.str b=>a == b
 | _,_=>false
def iS(st:Hs):Wv->Option (List Wv)
 | .tup ws=>some ws
 | .nX ws=>some ws
 | .ref l=>ai st l
 | _=>none
def QO:ff:=λx y st=>match iS st y with
 | some ws=>if gJ x=true/\ws.all gJ=true then .ok (.bl (ws.any λz=>Pf z x)) st else .bad
 | none=> .bad
def vf:ff:=λx y st=>match iS st y with
 | some ws=>if gJ x=true/\ws.all gJ=true then .ok (.bl (!(ws.any λz=>Pf z x))) st else .bad
 | none=> .bad
theorem n9{m:Mp}{H:Hp}{x:Wv}{a:V}(h:ag X.K m H x a)(f:gJ x=true):jT a=true:=by
 cases x with
 | aR=>unfold ag at h;subst h;rfl
 | bl b=>unfold ag at h;subst h;rfl
 | int b=>unfold ag at h;subst h;rfl
 | str b=>unfold ag at h;obtain⟨h,_⟩:=h;subst h;rfl
 | _=>cases f
theorem EM{m:Mp}{H:Hp}{x y:Wv}{a b:V}(h:ag X.K m H x a)(k:ag X.K m H y b)(f:gJ x=true)(g:gJ y=true):Ey a b=Pf x y:=by
 cases x with
 | aR=>
  unfold ag at h;subst h
  cases y with
  | str j=>unfold ag at k;obtain⟨k,_⟩:=k;subst k;rfl
  | tup j=>cases g
  | nX j=>cases g
  | ref j=>cases g
  | ty j=>cases g
  | cls j=>cases g
  | j7 j=>cases g
  | fn fp j=>cases g
  | _=>unfold ag at k;subst k;rfl
 | bl i=>
  unfold ag at h;subst h
  cases y with
  | str j=>unfold ag at k;obtain⟨k,_⟩:=k;subst k;rfl
  | tup j=>cases g
  | nX j=>cases g
  | ref j=>cases g
  | ty j=>cases g
  | cls j=>cases g
  | j7 j=>cases g
  | fn fp j=>cases g
  | _=>unfold ag at k;subst k;rfl
 | int i=>
  unfold ag at h;subst h
  cases y with
  | str j=>unfold ag at k;obtain⟨k,_⟩:=k;subst k;rfl
  | tup j=>cases g
  | nX j=>cases g
  | ref j=>cases g
  | ty j=>cases g
  | cls j=>cases g
  | j7 j=>cases g
  | fn fp j=>cases g
  | _=>unfold ag at k;subst k;rfl
 | str i=>
  unfold ag at h;obtain⟨h,_⟩:=h;subst h
  cases y with
  | str j=>unfold ag at k;obtain⟨k,_⟩:=k;subst k;rfl
  | tup j=>cases g
  | nX j=>cases g
  | ref j=>cases g
  | ty j=>cases g
  | cls j=>cases g
  | j7 j=>cases g
  | fn fp j=>cases g
  | _=>unfold ag at k;subst k;rfl
 | _=>cases f
theorem lU{m:Mp}{H:Hp}{x:Wv}{a:V}(h:ag X.K m H x a)(f:gJ x=true):∀{ws:List Wv}{xs:List V},ah X.K m H ws xs->ws.all gJ=true->xs.all jT=true/\O' a xs=ws.any λz=>Pf z x
 | [],xs,r,_=>by unfold ah at r;subst r;exact⟨rfl,rfl⟩
 | w::ws,xs,r,g=>by
  unfold ah at r
  obtain⟨y,yr,rfl,r1,r2⟩:=r
  rw[cg,cz] at g
  obtain⟨q1,q2⟩:=lU h f r2 g.2
  constructor
  ·rw[cg,n9 r1 g.1,q1];rfl
  ·unfold O' at q2 ⊢
   rw[dW,dW,EM r1 h g.1 f,q2]
theorem nk{m:Mp}{H:Hp}{st:Hs}{y:Wv}{b:V}{ws:List Wv}(S:bg X.K m st H)(h:ag X.K m H y b)(e:iS st y=some ws):∃p xs,b= .ref p/\(iu X.K H p xs\/cU X.K H p xs)/\ah X.K m H ws xs:=by
 cases y with
 | tup zs=>
  cases e
  unfold ag at h
  obtain⟨p,xs,e1,e2,e3⟩:=h
  exact⟨p,xs,e1,.inr (cU.of e2),e3⟩
 | nX zs=>
  cases e
  unfold ag at h
  obtain⟨p,xs,e1,e2,e3⟩:=h
  exact⟨p,xs,e1,.inr (.inr e2),e3⟩
 | ref l=>
  unfold ag at h
  obtain⟨p,e1,e2⟩:=h
  obtain⟨xs,q1,q2⟩:=S.read e2 e
  exact⟨p,xs,e1,.inl q1,q2⟩
 | _=>cases e
theorem Nz:iP X (Ye .In) QO:=⟨_,yh,λx y a b st H m Q S rx ry p=>by
 unfold QO at p
 cases e:iS st y with
 | none=>rw[e] at p;exact aa p
 | some ws=>
  rw[e] at p
  by_cases c:gJ x=true/\ws.all gJ=true
  ·simp only[if_pos c] at p
   obtain⟨q,xs,e1,e2,e3⟩:=nk S ry e
   obtain⟨f1,f2⟩:=lU rx c.1 e3 c.2
   refine⟨q,xs,e1,e2,n9 rx c.1,f1,?_⟩
   rw[f2]
   exact p _ m H Ext.refl S fB
  ·simp only[if_neg c] at p;exact aa p⟩
theorem A2:iP X (Ye .NotIn) vf:=⟨_,qP,λx y a b st H m Q S rx ry p=>by
 unfold vf at p
 cases e:iS st y with
 | none=>rw[e] at p;exact aa p
 | some ws=>
  rw[e] at p
  by_cases c:gJ x=true/\ws.all gJ=true
  ·simp only[if_pos c] at p
   obtain⟨q,xs,e1,e2,e3⟩:=nk S ry e
   obtain⟨f1,f2⟩:=lU rx c.1 e3 c.2
   refine⟨q,xs,e1,e2,n9 rx c.1,f1,?_⟩
   rw[f2]
   exact p _ m H Ext.refl S fB
  ·simp only[if_neg c] at p;exact aa p⟩
def bu:ff
 | .str z,.int i,st=>if z.length<=lim then(match mE z.cps.toList i with | some c=> .ok (.str ⟨#[c]⟩) st | none=> .bad) else .bad
 | x,.int i,st=>match iS st x with
  | some ws=>(match mE ws i with | some w=> .ok w st | none=> .bad)
  | none=> .bad
 | _,_,_=> .bad
theorem EN{m:Mp}{H:Hp}{ws:List Wv}{xs:List V}{i:Int}{w:Wv}(r:ah X.K m H ws xs)(h:mE ws i=some w):∃x,mE xs i=some x/\ag X.K m H w x:=by
 unfold mE at h ⊢
 rw[<-r.length]
 cases e:sR ws.length i with
 | none=>rw[e] at h;cases h
 | some j=>rw[e] at h;exact r.get h
theorem EO{α:Type}{xs:List α}{i:Int}{v:α}(h:mE xs i=some v):v∈xs:=by
 obtain⟨j,_,h2,_⟩:=m8 h
 exact m6 h2
theorem yp{z:PySem.Str}{c:Nat}(h:aW z=true)(hc:c∈z.cps.toList):aW ⟨#[c]⟩=true:=by
 unfold aW at h ⊢
 rw[NA] at h
 have q:=h c (by simpa using hc)
 simpa using q
theorem NB{a b:Expr}{ga gb:GE}{pos:Pos}(ha:JE X a ga)(hb:JE X b gb)(hs:wC b:=by exact λ_ _=>rfl):JE X (.Subscript a b pos) (aj bu ga gb) :=
 JE.of (M5 IY aJ aJ hs) λρ st σ H m Q S R p=>wK (op:=bu) (λx y a b st H m Q S rx ry p=>by
  have seqs:∀(i:Int),y= .int i->(match iS st x with | some ws=>(match mE ws i with | some w=>Re.ok w st | none=> .bad) | none=> .bad)=bu x y st->Te X.K a b H Q:=λi hy hp=>by
   subst hy
   rw[<-hp] at p
   cases e:iS st x with
   | none=>rw[e] at p;exact aa p
   | some ws=>
    rw[e] at p
    dsimp only at p
    cases e1:mE ws i with
    | none=>rw[e1] at p;exact aa p
    | some w=>
     rw[e1] at p
     obtain⟨q,xs,e2,e3,e4⟩:=nk S rx e
     obtain⟨v,f1,f2⟩:=EN e4 e1
     rcases e3 with e3 | e3
     ·exact .inl ⟨q,xs,i,v,e2,aO ry,e3,f1,p v m H Ext.refl S f2⟩
     ·exact .inr (.inl ⟨q,xs,i,v,e2,aO ry,e3,f1,p v m H Ext.refl S f2⟩)
  cases y with
  | int i=>
   cases x with
   | str z=>
    dsimp only[bu] at p
    by_cases c:z.length<=lim
    ·simp only[if_pos c] at p
     cases e1:mE z.cps.toList i with
     | none=>rw[e1] at p;exact aa p
     | some ch=>
      rw[e1] at p
      exact .inr (.inr ⟨z,i,ch,(dF rx).1,aO ry,dg c,e1,p _ m H Ext.refl S (mkStr (yp (dF rx).2 (EO e1)))⟩)
    ·simp only[if_neg c] at p;exact aa p
   | _=>exact seqs i rfl rfl
  | _=>cases x<;>exact aa p) ha hb S R p
abbrev GO:=bw->Hs->Re (Option Int)
def SO(X:Cx)(e:Option Expr):TO:=λσ H Q=>∀(pins:List (X3×Obj))(s:X8),Inv X pins σ H s->Yk (model X.prog X.w) X.A (evalPart e X.env) (λu s'=>∃o H',Inv X pins σ H' s'/\IsPart u o/\Q o H') X.xe s
theorem p5{e:Option Expr}:PO X e (SO X e):=λpins s _ _ _ I h=>h pins s I
def Vc(K:PySem.W.Frag)(m:Mp)(H:Hp)(Q:Option Int->Hp->Prop)(o:Option Int)(st:Hs):Prop:=∀(m':Mp)(H':Hp),Ext K m H m' H'->bg K m' st H'->Q o H'
def JO(X:Cx)(e:Option Expr)(g:GO):Prop:=∀(ρ:bw)(st:Hs)(σ:St)(H:Hp)(m:Mp)(Q:Option Int->Hp->Prop),bg X.K m st H->ay X.K m H ρ σ->au X σ m H (g ρ st) (Vc X.K m H Q)->SO X e σ H Q
def ei:GO:=λ_ st=> .ok none st
def dm(g:GE):GO:=λρ st=>(g ρ st).bind λw st1=>match w with
 | .int i=> .ok (some i) st1
 | _=> .bad
theorem ER:JO X none ei:=λρ st σ H m Q S R p pins s I=>Er pins s σ H Q I (p m H Ext.refl S)
theorem ES{e:Expr}{g:GE}(h:JE X e g):JO X (some e) (dm g):=λρ st σ H m Q S R p pins s I=>
 Es aJ pins s σ H Q I (h.go S R (au.bind p) λw st1 v m1 H1 p1 e1 S1 r1=>by
  cases w with
  | int i=>exact⟨i,aO r1,p1 m1 H1 e1 S1⟩
  | _=>exact aa p1)
theorem JO.go{e:Option Expr}{g:GO}{ρ:bw}{st:Hs}{σ:St}{H:Hp}{m:Mp}{T:Option Int->Hp->Prop}{ok:Option Int->Hs->Prop}(h:JO X e g)(S:bg X.K m st H)(R:ay X.K m H ρ σ)(p:au X σ m H (g ρ st) ok)
  (k:∀(b:Option Int)(st1:Hs)(m1:Mp)(H1:Hp),ok b st1->Ext X.K m H m1 H1->bg X.K m1 st1 H1->T b H1):SO X e σ H T :=
 h ρ st σ H m T S R (p.imp Ext.refl λb st1 q m1 H1 e1 s1=>k b st1 m1 H1 q e1 s1)
def iG(xs:List Wv)(lo hi:Option Int):List Wv:=(xs.drop (HT.bX xs.length 0 lo)).take (HT.bX xs.length xs.length hi - HT.bX xs.length 0 lo)
def Me(x:Wv)(lo hi:Option Int)(st:Hs):Re Wv:=match x with
 | .tup ws=>if HT.bX ws.length 0 lo=0/\HT.bX ws.length ws.length hi=ws.length then .bad else .ok (.tup (iG ws lo hi)) st
 | .ref l=>match ai st l with
  | some ws=> .ok (.ref st.length) (st++[.lst (iG ws lo hi)])
  | none=> .bad
 | _=> .bad
theorem rA{m:Mp}{H:Hp}{ws:List Wv}{xs:List V}{lo hi:Option Int}(r:ah X.K m H ws xs):ah X.K m H (iG ws lo hi) (pg xs lo hi):=by
 unfold iG pg
 rw[<-r.length]
 exact(r.drop _).take _
def vg(ga:GE)(gl gh:GO):GE:=λρ st=>(ga ρ st).bind λx st1=>(gl ρ st1).bind λlo st2=>(gh ρ st2).bind λhi st3=>Me x lo hi st3
theorem s_{a:Expr}{lo hi:Option Expr}{ga:GE}{gl gh:GO}{pos p2:Pos}(ha:JE X a ga)(hl:JO X lo gl)(hh:JO X hi gh):JE X (.Subscript a (.Slice lo hi none p2) pos) (vg ga gl gh):=by
 refine JE.of (nQ (Aq.or Ex) aJ p5 p5) λρ st σ H m Q S R p=>?_
 refine ha.go S R (au.bind p) λx st1 v m1 H1 p1 e1 S1 rx=>?_
 refine hl.go S1 (R.mono e1) ((au.bind p1).imp e1 λ_ _ q=>q) λl st2 m2 H2 p2 e2 S2=>?_
 refine hh.go S2 (R.mono (e1.trans e2)) ((au.bind p2).imp (e1.trans e2) λ_ _ q=>q) λh st3 m3 H3 p3 e3 S3=>?_
 have yq:=e1.trans (e2.trans e3)
 have Pg:=ag.mono (e2.trans e3) _ _ rx
 cases x with
 | tup ws=>
  have mO:dD X σ m H (if HT.bX ws.length 0 l=0/\HT.bX ws.length ws.length h=ws.length then .bad else .ok (.tup (iG ws l h)) st3) Q:=p3
  by_cases c:HT.bX ws.length 0 l=0/\HT.bX ws.length ws.length h=ws.length
  ·rw[if_pos c] at mO;exact aa mO
  ·rw[if_neg c] at mO
   unfold ag at Pg
   obtain⟨q,xs,rfl,f1,f2⟩:=Pg
   refine .inl ⟨q,xs,rfl,cU.of f1,by rw[<-f2.length];exact c,λr hr=>?_⟩
   have e4:Ext X.K m3 H3 m3 (upd H3 r (.tup (pg xs l h))):=Ext.upd (.inl hr)
   exact mO (.ref r) m3 _ (yq.trans e4) (S3.fresh hr) (by unfold ag;exact⟨r,_,rfl,aM,ah.mono e4 _ _ (rA f2)⟩)
 | ref k=>
  have mO:dD X σ m H (match ai st3 k with | some ws=> .ok (.ref st3.length) (st3++[.lst (iG ws l h)]) | none=> .bad) Q:=p3
  unfold ag at Pg
  obtain⟨q,rfl,f1⟩:=Pg
  cases e:ai st3 k with
  | none=>rw[e] at mO;exact aa mO
  | some ws=>
   rw[e] at mO
   obtain⟨xs,g1,g2⟩:=S3.read f1 e
   exact .inr ⟨q,xs,rfl,g1,λr hr=>gI mO yq S3 (rA g2) r hr⟩
 | _=>exact aa p3
end
section
variable {X:Cx}
def cX(X:Cx)(f:X9)(op:List Wv->Hs->Re Wv):Prop:=∃r,cR X f r/\∀(ws:List Wv)(vs:List V)(st:Hs)(H:Hp)(m:Mp)(Q:VK),bg X.K m st H->ah X.K m H ws vs->cq X.K m H (op ws st) Q->r vs H Q
def aG(op:List Wv->Hs->Re Wv)(g:GA):GE:=λρ st=>(g ρ st).bind λws st1=>(op ws st1).kL
theorem A3{x:Str}{id:String}{p pos:Pos}{e:Expr}{es:List Expr}{g:GA}{op:List Wv->Hs->Re Wv}(hc:cX X (.builtin id) op)(hg:Gl X x)(hm:X.mg x=none)(hv:Yb x=some (.builtin id))(ha:JA X (e::es) g)
  (hn:x≠"__name__":=by decide)(hdb:(x == ("__debug__":Str))=false:=by decide)(he:Yj (e::es) X.env=(false,eval e X.env)::Yj es X.env:=by rfl)(hpl:(backTo pos (Yj es X.env)).any (·.1)=false:=by rfl) :
  JE X (.Call (.Name x p) (e::es) [] pos) (aG op g):=by
 obtain⟨r,h1,h2⟩:=hc
 refine JE.of (An h1 hg hm hv fo hn hdb he hpl) λρ st σ H m Q S R p=>?_
 exact ha.go S R (au.bind p) λws st1 vs m1 H1 p1 e1 S1 rs=>h2 ws vs st1 H1 m1 Q S1 rs (cq.shift (au.kL p1) e1)
theorem yt{x:Str}{T:String}{p pos:Pos}{e:Expr}{es:List Expr}{g:GA}{op:List Wv->Hs->Re Wv}(hc:cX X (.type T) op)(hg:Gl X x)(hm:X.mg x=none)(hv:Yb x=some (.type T))(ha:JA X (e::es) g)
  (hn:x≠"__name__":=by decide)(hdb:(x == ("__debug__":Str))=false:=by decide)(he:Yj (e::es) X.env=(false,eval e X.env)::Yj es X.env:=by rfl)(hpl:(backTo pos (Yj es X.env)).any (·.1)=false:=by rfl) :
  JE X (.Call (.Name x p) (e::es) [] pos) (aG op g):=by
 obtain⟨r,h1,h2⟩:=hc
 refine JE.of (yg h1 hg hm hv fo hn hdb he hpl) λρ st σ H m Q S R p=>?_
 exact ha.go S R (au.bind p) λws st1 vs m1 H1 p1 e1 S1 rs=>h2 ws vs st1 H1 m1 Q S1 rs (cq.shift (au.kL p1) e1)
theorem kY{m:Mp}{H:Hp}{w:Wv}{vs:List V}(r:ah X.K m H [w] vs):∃v,vs=[v]/\ag X.K m H w v:=by
 unfold ah at r
 obtain⟨v,t,rfl,h1,h2⟩:=r
 unfold ah at h2
 subst h2
 exact⟨v,rfl,h1⟩
theorem pA{m:Mp}{H:Hp}{w w':Wv}{vs:List V}(r:ah X.K m H [w,w'] vs):∃v v',vs=[v,v']/\ag X.K m H w v/\ag X.K m H w' v':=by
 unfold ah at r
 obtain⟨v,t,rfl,h1,h2⟩:=r
 obtain⟨v',rfl,h3⟩:=kY h2
 exact⟨v,v',rfl,h1,h3⟩
def ka:List Wv->Hs->Re Wv
 | [.str z],st=>if z.length<=lim then .ok (.int z.length) st else .bad
 | [x],st=>match iS st x with
  | some ws=> .ok (.int ws.length) st
  | none=> .bad
 | _,_=> .bad
theorem A4:cX X (.builtin "len") ka:=⟨_,qR.or qS,λws vs st H m Q S r p=>by
 match ws,r,p with
 | [],r,p=>exact aa p
 | x::y::t,r,p=>cases x<;>exact aa p
 | [x],r,p=>
  obtain⟨v,rfl,rx⟩:=kY r
  have seqs:(match iS st x with | some ws=>Re.ok (Wv.int ws.length) st | none=> .bad)=ka [x] st->(∃p ys,[v]=[V.ref p]/\(iu X.K H p ys\/cU X.K H p ys)/\Q (.int ys.length) H):=λhp=>by
   rw[<-hp] at p
   cases e:iS st x with
   | none=>rw[e] at p;exact aa p
   | some ws=>
    rw[e] at p
    obtain⟨q,xs,rfl,e2,e3⟩:=nk S rx e
    refine⟨q,xs,rfl,e2,?_⟩
    rw[<-e3.length]
    exact p _ m H Ext.refl S mkInt
  cases x with
  | str z=>
   have p':cq X.K m H (if z.length<=lim then .ok (.int z.length) st else .bad) Q:=p
   by_cases c:z.length<=lim
   ·rw[if_pos c] at p'
    obtain⟨rfl,_⟩:=dF rx
    exact .inr ⟨z,rfl,dg c,p' _ m H Ext.refl S mkInt⟩
   ·rw[if_neg c] at p';exact aa p'
  | _=>exact .inl (seqs rfl)⟩
def QP:List Wv->Hs->Re Wv
 | [.int i],st=> .ok (.int (if i < 0 then -i else i)) st
 | _,_=> .bad
def Mf(st:Hs)(T:String):Wv->Option Bool
 | .aR=>some false
 | .bl _=>some (T == "bool"||T == "int")
 | .int _=>some (T == "int")
 | .str _=>some (T == "str")
 | .tup _=>some (T == "tuple")
 | .nX _=>none
 | .ref l=>(ai st l).map λ_=>T == "list"
 | .ty _=>none
 | .cls _=>none
 | .j7 _=>none
 | .fn _ _=>none
def vh(T:String):Bool:=T == "int"||T == "str"||T == "bool"||T == "tuple"||T == "list"
def JR:List Wv->Hs->Re Wv
 | [x,.ty T],st=>if vh T=true then(match Mf st T x with | some b=> .ok (.bl b) st | none=> .bad) else .bad
 | _,_=> .bad
def QQ(K:PySem.W.Frag):List V->Hp->VK->Prop:=λvs H Q=>∃m st x T v b,vs=[v,.ty T]/\bg K m st H/\ag K m H x v/\vh T=true/\Mf st T x=some b/\Q (.bl b) H
theorem A5:cR X (.builtin "isinstance") (QQ X.K):=by
 intro pins s σ H xs us Q I r h
 obtain⟨m,st,x,T,v,b,rfl,S,rx,hT,hb,q⟩:=h
 obtain⟨u,u',rfl,r1,r2⟩:=vals2 r
 cases r2
 have fin:∀tk,EP X pins σ Q (.bool b) { s with toks:=tk }:=λtk=>⟨.bl b,H,I.tok tk,rfl,q⟩
 have A6:EP X pins σ Q (.bool b) s:=⟨.bl b,H,I,rfl,q⟩
 unfold vh at hT
 simp only[A7,beq_iff_eq] at hT
 cases x with
 | aR=>
  unfold ag at rx;subst rx;cases r1
  cases hb
  rcases hT with (((rfl | rfl) | rfl) | rfl) | rfl<;>
   exact call_isinstance (isinstance_false_none (by decide) (by kernel_rfl) (by rw[Yg];kernel_rfl)) (fin _)
 | bl c=>
  unfold ag at rx;subst rx;cases r1
  rcases hT with (((rfl | rfl) | rfl) | rfl) | rfl<;>cases hb<;>first
   | exact call_isinstance_yes (Tx:="bool") rfl (by kernel_rfl) (by rw[Yg];kernel_rfl) A6
   | exact call_isinstance (isinstance_false_bool (by decide) (by kernel_rfl) (by rw[Yg];kernel_rfl)) (fin _)
 | int c=>
  unfold ag at rx;subst rx;obtain⟨t,rfl⟩:=r1
  rcases hT with (((rfl | rfl) | rfl) | rfl) | rfl<;>cases hb<;>first
   | exact call_isinstance_yes (Tx:="int") (typeIs_int s c t) (by kernel_rfl) (by rw[Yg];kernel_rfl) A6
   | exact call_isinstance (isinstance_false_int (by decide) (by kernel_rfl) (by rw[Yg];kernel_rfl)) (fin _)
 | str c=>
  obtain⟨rfl,_⟩:=dF rx;obtain⟨t,rfl⟩:=r1
  rcases hT with (((rfl | rfl) | rfl) | rfl) | rfl<;>cases hb<;>first
   | exact call_isinstance_yes (Tx:="str") (typeIs_str s c t) (by kernel_rfl) (by rw[Yg];kernel_rfl) A6
   | exact call_isinstance (isinstance_false_str (by decide) (by kernel_rfl) (by rw[Yg];kernel_rfl)) (fin _)
 | nX ws=>cases hb
 | tup ws=>
  unfold ag at rx;obtain⟨a,xs,rfl,h1,h2⟩:=rx;cases r1
  obtain⟨its,rv,ht,hz⟩:=I.tuple (cU.of h1)
  have hty:=ht.typeIs
  obtain⟨o,ho,hc,k,hd⟩:=ht
  rcases hT with (((rfl | rfl) | rfl) | rfl) | rfl<;>cases hb<;>first
   | exact call_isinstance_yes (Tx:="tuple") hty (by kernel_rfl) (by rw[Yg];kernel_rfl) A6
   | exact call_isinstance (isinstance_false_tuple (by decide) (by kernel_rfl) (by rw[Yg];kernel_rfl)) ⟨⟨o,ho,hc⟩,fin _⟩
 | ref l=>
  unfold ag at rx;obtain⟨a,rfl,h1⟩:=rx;cases r1
  have hb':(ai st l).map (λ_=>T == "list")=some b:=hb
  cases e:ai st l with
  | none=>rw[e] at hb';cases hb'
  | some ws=>
   rw[e] at hb'
   obtain⟨xs,hq,h2⟩:=S.read h1 e
   obtain⟨its,rv,ht,hz⟩:=I.list hq
   have hty:=ht.isList.typeIs
   obtain⟨o,ho,hc,k,hd⟩:=ht.isList
   rcases hT with (((rfl | rfl) | rfl) | rfl) | rfl<;>cases hb'<;>first
    | exact call_isinstance_yes (Tx:="list") hty (by kernel_rfl) (by rw[Yg];kernel_rfl) A6
    | exact call_isinstance (isinstance_false_list (by decide) (by kernel_rfl) (by rw[Yg];kernel_rfl)) ⟨⟨o,ho,hc⟩,fin _⟩
 | ty t=>cases hb
 | cls t=>cases hb
 | j7 t=>cases hb
 | fn fp t=>cases hb
theorem JU:cX X (.builtin "isinstance") JR:=⟨_,A5,λws vs st H m Q S r p=>by
 match ws,r,p with
 | [],r,p=>exact aa p
 | [x],r,p=>cases x<;>exact aa p
 | x::y::z::t,r,p=>cases y<;>exact aa p
 | [x,y],r,p=>
  obtain⟨v,v',rfl,rx,ry⟩:=pA r
  cases y with
  | ty T=>
   unfold ag at ry
   subst ry
   have p':cq X.K m H (if vh T=true then(match Mf st T x with | some b=> .ok (.bl b) st | none=> .bad) else .bad) Q:=p
   by_cases c:vh T=true
   ·rw[if_pos c] at p'
    cases e:Mf st T x with
    | none=>rw[e] at p';exact aa p'
    | some b=>rw[e] at p';exact⟨m,st,x,T,v,b,rfl,S,rx,c,e,p' _ m H Ext.refl S fB⟩
   ·rw[if_neg c] at p';exact aa p'
  | _=>exact aa p⟩
def bJ:GS:=λρ st=> .nx ρ st
def aK(g h:GS):GS:=λρ st=>match g ρ st with
 | .nx ρ' st'=>h ρ' st'
 | r=>r
theorem ET:j8 X [] bJ:=j8.of Ea λρ st σ H m D S R p=>p σ m H Ext.refl S R
theorem A8{s:Stmt}{rest:List Stmt}{g h:GS}(h1:JS X s g)(h2:j8 X rest h):j8 X (s::rest) (aK g h) :=
 j8.of (Ad G0 dE) λρ st σ H m D S R p=>h1 ρ st σ H m _ S R (by
  unfold aK at p
  cases e:g ρ st with
  | nx ρ' st'=>rw[e] at p;exact λσ' m' H' e' S' R'=>h2 ρ' st' σ' H' m' D S' R' (aD.shift p e')
  | rt w st'=>rw[e] at p;exact p
  | bk ρ' st'=>rw[e] at p;exact p
  | ct ρ' st'=>rw[e] at p;exact p
  | err c ρ' st'=>rw[e] at p;exact p
  | bad=>rw[e] at p;exact p)
theorem EU{s:Stmt}{g:GS}(h1:JS X s g):j8 X [s] g:=j8.of (Eb G0) λρ st σ H m D S R p=>h1 ρ st σ H m D S R p
def cV(g:GE):GS:=λρ st=>(g ρ st).aY ρ λw st'=> .rt w st'
theorem JV{e:Expr}{g:GE}{pos:Pos}(h:JE X e g):JS X (.Return (some e) pos) (cV g) :=
 JS.of (Iz aJ) λρ st σ H m D S R p=>h.go S R (aD.bW R p) λw st1 v m1 H1 q e1 S1 r1=>q v m1 H1 e1 S1 r1
theorem EV{pos:Pos}:JS X (.Pass pos) bJ:=JS.of Ec λρ st σ H m D S R p=>p σ m H Ext.refl S R
def iT(g:GE):GS:=λρ st=>(g ρ st).aY ρ λ_ st'=> .nx ρ st'
theorem EW{e:Expr}{g:GE}{pos:Pos}(h:JE X e g)(hs:swapsWith e none pos.line X.env=pure false:=by rfl):JS X (.Expr e pos) (iT g) :=
 JS.of (Ed aJ hs) λρ st σ H m D S R p=>h.go S R (aD.bW R p) λw st1 v m1 H1 q e1 S1 r1=>q σ m1 H1 e1 S1 (R.mono e1)
def kF(gt:GT)(ga gb:GS):GS:=λρ st=>(gt ρ st).aY ρ λb st'=>if b=true then ga ρ st' else gb ρ st'
theorem NC{c:Expr}{a b:List Stmt}{gt:GT}{ga gb:GS}{pos:Pos}(hc:JT X c gt)(ha:j8 X a ga)(hb:j8 X b gb):JS X (.If c a b pos) (kF gt ga gb) :=
 JS.of (MI nZ dE dE) λρ st σ H m D S R p=>hc.go S R (aD.bW R p) λk st1 m1 H1 q e1 S1=>by
  cases k with
  | true=>rw[if_pos rfl] at q ⊢;exact ha ρ st1 σ H1 m1 D S1 (R.mono e1) (aD.shift q e1)
  | false=>rw[if_neg bV] at q ⊢;exact hb ρ st1 σ H1 m1 D S1 (R.mono e1) (aD.shift q e1)
def bf(i:Nat)(g:GE):GS:=λρ st=>(g ρ st).aY ρ λw st'=> .nx (ρ.set i (some w)) st'
theorem vi(i:Nat){x:Str}{e:Expr}{g:GE}{pos pos':Pos}(hN:X.N.Nodup)(h:JE X e g)(hi:X.N[i]? =some x:=by rfl)(hx:Loc X.env.scope x:=by first | exact Or.inl rfl | exact jE rfl)(hs:swapsWith e (some (.Name x pos')) pos.line X.env=pure false:=by rfl)
  (hf:X.fn x=true\/X.env.scope.names.lookup x=some .local:=by first | exact .inl rfl | exact .inr rfl | assumption):JS X (.Assign [.Name x pos'] e pos) (bf i g) :=
 JS.of (IC hN hi hx aJ hs hf) λρ st σ H m D S R p=>h.go S R (aD.bW R p) λw st1 v m1 H1 q e1 S1 r1=>q _ m1 H1 e1 S1 ((R.mono e1).set i r1)
def bH:GS:=λ_ _=> .bad
theorem aZ{s:Stmt}:JS X s bH:=JS.of Af λρ st σ H m D S R p=>p
theorem yu{s:List Stmt}:j8 X s bH:=j8.of yb λρ st σ H m D S R p=>p
def JX(o i v:Wv)(ρ:bw)(st:Hs):Rs:=match o,i with
 | .ref l,.int k=>match st[l]? with
  | some (.lst ws)=>(match sR ws.length k with | some j=> .nx ρ (st.set l (.lst (ws.set j v))) | none=> .bad)
  | _=> .bad
 | _,_=> .bad
def kZ(ge go gi:GE):GS:=λρ st=>(ge ρ st).aY ρ λv st1=>(go ρ st1).aY ρ λo st2=>(gi ρ st2).aY ρ λi st3=>JX o i v ρ st3
theorem EY{o i e:Expr}{go gi ge:GE}{pos pos':Pos}(he:JE X e ge)(ho:JE X o go)(hi:JE X i gi)(hs:swapsWithSole [.Subscript o i pos'] e pos.line X.env=pure false:=by rfl)(hw:swappedStores [.Subscript o i pos'] e X.env=pure none:=by rfl)
  (h1:(assignEach [.Subscript o i pos'] X.env).map (·.2)=[assign (.Subscript o i pos') X.env]:=by rfl)
  (ha:∀v,assign (.Subscript o i pos') X.env v=(do
   let ov <-holding [v] (eval o X.env)
   let iv <-holding [v,ov] (eval i X.env)
   standAt pos'
   holding [v,ov,iv] (setItem ov iv v)
   release [v,ov,iv] []):=by intro _;rfl):JS X (.Assign [.Subscript o i pos'] e pos) (kZ ge go gi):=by
 refine JS.of (Ah aJ (IB aJ aJ set_list ha) hs hw h1) λρ st σ H m D S R p=>?_
 refine he.go S R (aD.bW R p) λv st1 vv m1 H1 p1 e1 S1 rv=>?_
 refine ho.go S1 (R.mono e1) ((aD.bW (m:=m) (H:=H) R p1).imp e1 λ_ _ q=>q) λo' st2 ov m2 H2 p2 e2 S2 ro=>?_
 refine hi.go S2 (R.mono (e1.trans e2)) ((aD.bW (m:=m) (H:=H) R p2).imp (e1.trans e2) λ_ _ q=>q) λi' st3 iv m3 H3 p3 e3 S3 ri=>?_
 have yq:=e1.trans (e2.trans e3)
 cases o' with
 | ref l=>
  cases i' with
  | int k=>
   have mO:aD X m H (match st3[l]? with | some (.lst ws)=>(match sR ws.length k with | some j=> .nx ρ (st3.set l (.lst (ws.set j v))) | none=> .bad) | _=> .bad) D:=p3
   have Tr:=ag.mono e3 _ _ ro
   unfold ag at Tr
   obtain⟨a,rfl,f1⟩:=Tr
   cases e:st3[l]? with
   | none=>rw[e] at mO;exact aa mO
   | some ob=>
    cases ob with
    | dct kvs=>rw[e] at mO;exact aa mO
    | dP kvs=>rw[e] at mO;exact aa mO
    | wI kvs=>rw[e] at mO;exact aa mO
    | pk ns=>rw[e] at mO;exact aa mO
    | lst ws=>
     rw[e] at mO
     cases ej:sR ws.length k with
     | none=>simp only[ej] at mO;exact aa mO
     | some j=>
      simp only[ej] at mO
      obtain⟨xs,g1,g2⟩:=S3.kT f1 e
      refine⟨a,xs,k,j,rfl,aO ri,g1,by rw[<-g2.length];exact ej,?_⟩
      have Vd:=ag.mono (e2.trans e3) _ _ rv
      have e4:Ext X.K m3 H3 m3 (upd H3 a (.lst (xs.set j vv))):=Ext.upd (.inr ⟨xs,g1⟩)
      exact mO σ m3 _ (yq.trans e4) (S3.write f1 e (g2.set j Vd)) (R.mono (yq.trans e4))
  | _=>exact aa p3
 | _=>cases i'<;>exact aa p3
open Classical in
def forL(i:Nat)(gb:GS)(l:Nat)(all:List Wv):List Wv->bw->Hs->Rs
 | [],ρ,st=> .nx ρ st
 | w::r,ρ,st=>match gb (ρ.set i (some w)) st with
  | .nx ρ' st'=>if ai st' l=some all then forL i gb l all r ρ' st' else .bad
  | .ct ρ' st'=>if ai st' l=some all then forL i gb l all r ρ' st' else .bad
  | .bk ρ' st'=> .nx ρ' st'
  | .rt w st'=> .rt w st'
  | .err c ρ' st'=> .err c ρ' st'
  | .bad=> .bad
end
def CXJ(P:X7)(w:X_):zP:=λouter H s E e s'=>∃H' C,sX P w outer H s H' (.ref C) e s'/\E (.ref C) none H'
section
variable {X:Cx} {pins:List (X3×Obj)} {σ:St} {Hc H':Hp} {sc s':X8} {cls e:X9} {E:X9->X8->Prop} {Q:Unit->X8->Prop}
theorem old_ne(I:Inv X pins σ Hc sc){b:X3}{o:Obj}(q:X.s₀.heap.get? b=some o):b≠X.env.locals:=λz=>by
 have h1:=aC q
 have h2:=I.ok.above
 rw[z] at h1
 exact absurd (bj h1 h2) (c_ _)
theorem EZ(I:Inv X pins σ Hc sc)(hst:X.stack=X.env::X.outer)(hf:X.env.frame=some X.env.locals){b:X3}{o:Obj}(q:X.s₀.heap.get? b=some o)(hb:b∉frs X.outer):b∉frs X.stack:=λz=>by
 rw[hst] at z
 unfold frs at z
 rw[qH,hf] at z
 rcases List.mem_cons.mp z with z | z
 ·exact old_ne I q z
 ·exact hb z
theorem A9(hst:X.stack=X.env::X.outer)(hf:X.env.frame=some X.env.locals){b:X3}(hb:b∈frs X.outer):b∈frs X.stack:=by
 rw[hst]
 unfold frs
 rw[qH,hf]
 exact aU _ hb
theorem tm{M:Model}{A:X4}{E:X9->X8->Prop}{s:X8}{base:Heap}{env:Env}{outer:List Env}{L e:X3}{cls a0 nt:X9}{Q:Unit->X8->Prop}(hfr:A.frames=some (env::outer))(hf:env.frame=some L)
  (x:base.StaysIn s.heap/\base.get? e=none/\s.heap.FunFrames base (env::outer)/\Pc s.heap base e cls a0 nt)(k:∀h',AH base (env::outer) e cls a0 L h'->s.heap.UpToSlots h'->Q () { s with heap:=h' }) :
  Yk M A (noteFrame (.ref e) env) Q E s:=by
 obtain⟨x1,x2,x3,x4⟩:=x
 by_cases z:nt=rawInt L
 ·subst z
  exact Js hf x4 (k s.heap ⟨x1,x2,x3,x4⟩ (JY _))
 ·obtain⟨ox,us,T,ot,ws,g1,⟨g2,g3⟩,g4,g5,g6,g7,g8,g9,Ts⟩:=x4
  subst g2
  have apart:∀b,b≠T->(s.heap.update T (gY (·.setIfInBounds 3 bE))).get? b=s.heap.get? b:=λb hb=>nR _ _ (az hb)
  have plain:∀b o,s.heap.get? b=some o->(∀vs,o.data≠.fields vs)->b≠T:=λb o hb hd q=>by
   subst q
   rw[g8] at hb
   cases hb
   exact hd ws g9
  unfold noteFrame
  simp only[hf]
  refine Yl (wpAny_field g1 g4 g5 ?_)
  rw[if_pos (show(aB T != bE)=true from by simp)]
  refine Yl (wpAny_field g8 g9 Ts ?_)
  rw[if_neg (show ¬((nt == rawInt L)=true) from by simpa using z)]
  refine Yl (wpAny_setField g8 g9 (Array.getElem?_eq_some_iff.mp Ts).1 ?_)
  refine AI (a0:=a0) hfr (x3.of_keeps λb o hb hd=>⟨o,(apart b (plain b o hb hd)).trans hb,rfl⟩) hf ((apart e (az g7)).trans g1) (λb o hb=>(apart b λq=>by rw[q,g6] at hb;cases hb).trans (x1 b o hb)) x2 g4 (Array.getElem?_eq_some_iff.mp g5).1 g3 λh' y y4=>?_
  exact k h' y λb o hb hd=>y4 b o ((apart b (plain b o hb hd)).trans hb) hd
theorem p6{M:Model}{A:X4}{E:X9->X8->Prop}{s:X8}{base h:Heap}{env:Env}{outer:List Env}{L a:X3}{cls:X9}{args:List X9}{Q:Unit->X8->Prop}(hfr:A.frames=some (env::outer))(hf:env.frame=some L)
  (st:base.StaysIn h)(fs:h.FunFrames base (env::outer))(mk:rf h s.heap a cls args)(k:∀h' a0,AH base (env::outer) a cls a0 L h'->s.heap.UpToSlots h'->Q () { s with heap:=h' }) :
  Yk M A (noteFrame (.ref a) env) Q E s:=by
 obtain⟨t,e1,e2,e3⟩:=mk.there
 have fresh:∀b,h.get? b=none->base.get? b=none:=λb hb=>by
  cases q:base.get? b with
  | none=>rfl
  | some o'=>have z:=st b o' q;rw[hb] at z;cases z
 have fs':=fs.of_keeps (h':=s.heap) λb o hb _=>⟨o,mk.keeps b o hb,rfl⟩
 unfold noteFrame
 simp only[hf]
 refine Yl (wpAny_field e1 rfl (x:=.none) rfl ?_)
 rw[if_neg (by decide)]
 exact AI hfr fs' hf e1 (λb o hb=>mk.keeps b o (st b o hb)) (fresh a mk.new) rfl (by simp) (a0:=.ref t) rfl λh' l1 l4=>k h' (.ref t) l1 l4
theorem A_{ch:List X3}(hx:X.ex=[])(hst:X.stack=X.env::X.outer)(hf:X.env.frame=some X.env.locals)(I:Inv X pins σ Hc sc){B h2:Heap}(hch:∀b∈ch,fb X pins Hc b)(un:Un (frs X.stack) ch Hc H' sc.heap s'.heap)(up:s'.heap.UpToSlots h2)(stay:B.StaysIn h2)
  (sY:∀b o,sc.heap.get? b=some o->b∉frs X.stack->b∉ch->∃o',B.get? b=some o'/\(Hc b=none->o'=o)) :
  Un (frs X.outer) [] X.H₀ H' X.s₀.heap h2/\(∀b o,X.s₀.heap.get? b=some o->b∉frs X.outer->∃o',B.get? b=some o'/\(X.H₀ b=none->o'=o)):=by
 have nx:∀b:X3,b∉X.ex:=λb=>by rw[hx];simp
 have nc:∀b o,X.s₀.heap.get? b=some o->b∉ch:=λb o q z=>by
  rcases(hch b z).2.2.2.1 with y | y
  ·exact nx b y
  ·exact absurd (bj (aC q) y) (c_ _)
 have JZ:∀b o,X.s₀.heap.get? b=some o->b∉frs X.outer->∃o',B.get? b=some o'/\(X.H₀ b=none->o'=o):=λb o q hb=>by
  obtain⟨o1,q1⟩:=I.base.there b o q (nx b)
  obtain⟨o2,q2,q3⟩:=sY b o1 q1 (EZ I hst hf q hb) (nc b o q)
  refine⟨o2,q2,λn=>?_⟩
  have q4:=I.base.keep b o q n hb (nx b)
  rw[q4] at q1
  cases q1
  exact q3 (I.base.free b o q n (nx b))
 have sl:∀b o,X.s₀.heap.get? b=some o->X.H₀ b=none->b∈frs X.outer->∃sl,h2.get? b=some { o with slots:=sl }:=λb o q n hb=>by
  obtain⟨s1,q1⟩:=I.base.slot b o q n hb (nx b)
  obtain⟨s2,q2⟩:=un.slot b _ q1 (I.base.free b o q n (nx b)) (A9 hst hf hb) (nc b o q)
  obtain⟨_,o3,q3,q4⟩:=I.ok.lQ.mem hb
  rw[q] at q3
  cases q3
  obtain⟨s3,q5⟩:=up b _ q2 q4
  exact⟨s3,q5⟩
 refine⟨⟨λb o q n hb _=>?_,λb o q n hb _=>sl b o q n hb,λb o q n _=>?_,λb o q _=>?_,λb xs h=>un.tups b xs (I.base.tups b xs h),λb o u h=>un.iF b o u (I.base.iF b o u h),λb ps h=>?_⟩,JZ⟩
 ·obtain⟨o2,q2,q3⟩:=JZ b o q hb
  rw[q3 n] at q2
  exact stay b o q2
 ·obtain⟨o1,q1⟩:=I.base.there b o q (nx b)
  exact un.free b o1 q1 (I.base.free b o q n (nx b)) (nc b o q)
 ·by_cases hb:b∈frs X.outer
  ·obtain⟨s3,q3⟩:=sl b o q (I.ok.Ih b hb) hb
   exact⟨_,q3⟩
  ·obtain⟨o2,q2,_⟩:=JZ b o q hb
   exact⟨o2,stay b o2 q2⟩
 ·obtain⟨m1,t1⟩:=I.base.jS b ps h
  obtain⟨m2,t2⟩:=un.jS b _ t1
  exact⟨m1++m2,by rw[<-Array.append_assoc];exact t2⟩
theorem tq(hx:X.ex=[])(hst:X.stack=X.env::X.outer)(hf:X.env.frame=some X.env.locals)(I:Inv X pins σ Hc sc)(F:iO X pins Hc sc H' cls e s')
  (k:∀s2,sX X.prog X.w X.outer X.H₀ X.s₀ H' cls e s2->Q () s2):Yk (model X.prog X.w) X.A (leaving X.env e) Q E s':=by
 obtain⟨a,a0,nt,B,ch,rfl,os,bare,hch,un,hok,fl,sY⟩:=F
 have hfr:X.A.frames=some (X.env::X.outer):=by rw[I.ok.frames,hst]
 rw[hst] at fl
 unfold leaving
 refine Yl (tm hfr hf fl λh1 hd1 up1=>?_)
 refine sV hd1 λh2 zQ ND=>k _ ?_
 obtain⟨k1,k2,⟨_,_,k3⟩,k4⟩:=zQ
 obtain⟨u2,c2⟩:=A_ hx hst hf I hch un (up1.trans ND) k1 sY
 exact⟨a,a0,B,rfl,os.trans I.os,bare,u2,hok,⟨k1,k2,k3,k4⟩,c2⟩
theorem tu{P:X7}{w:X_}{H:Hp}{h:Heap}{l:List X3}(ok:iE P w H h)(fr:∀b∈l,H b=none):iE P w H (PySem.W.hideAll h l):=λa o q=>
 (ok a o q).stay (λb u hb r=>PySem.W.hideAll_get _ r λz=>by
  have n:=fr b z
  rcases hb with hb | hb
  ·rw[hb,q] at n;cases n
  ·rw[hb] at n;cases n) (λ_ r=>r) λ_ _ r=>r
theorem vj{a C:X3}{args:List X9}(hx:X.ex=[])(hst:X.stack=X.env::X.outer)(hf:X.env.frame=some X.env.locals)(I:Inv X pins σ Hc sc)(ho:s'.os=sc.os)(Ve:s'.gens=sc.gens)
  (M:rf sc.heap s'.heap a (.ref C) args)(k:∀s2,sX X.prog X.w X.outer X.H₀ X.s₀ Hc (.ref C) (.ref a) s2->Q () s2):Yk (model X.prog X.w) X.A (leaving X.env (.ref a)) Q E s':=by
 have hfr:X.A.frames=some (X.env::X.outer):=by rw[I.ok.frames,hst]
 have fs:sc.heap.FunFrames (PySem.W.hideAll sc.heap (frs X.stack)) (X.env::X.outer):=by
  rw[<-hst]
  exact PySem.W.funFrames_hide I.stack λenv he b hb=>List.mem_filterMap.mpr ⟨env,he,hb⟩
 unfold leaving
 refine Yl (p6 (base:=PySem.W.hideAll sc.heap (frs X.stack)) hfr hf (λb o q=>PySem.W.of_hideAll _ q) fs M λh1 t hd1 up1=>?_)
 refine sV hd1 λh2 zQ ND=>k _ ?_
 have up:=up1.trans ND
 replace zQ:qZ (PySem.W.hideAll sc.heap (frs X.stack)) X.outer a (.ref C) t h2:=let ⟨k1,k2,⟨_,_,k3⟩,k4⟩:=zQ;⟨k1,k2,k3,k4⟩
 obtain⟨u2,c2⟩:=A_ (H':=Hc) (s':=s') (ch:=[]) hx hst hf I (λb z=>by cases z) (Un.kept M.keeps) up zQ.1 λb o q hb _=>⟨o,PySem.W.hideAll_get _ q hb,λ_=>rfl⟩
 exact⟨a,t,_,rfl,ho.trans I.os,by rw[show({ s' with heap:=h2 }:X8).gens=sc.gens from Ve];exact I.bare,u2,tu I.hok I.kI,zQ,c2⟩
end
def Hh(K:PySem.W.Frag)(m:Mp)(H:Hp)(r:Re Wv)(Q:VK)(E:XK):Prop:=match r with
 | .ok w st=>Mc K m H Q w st
 | .err c st=>∀(m':Mp)(H':Hp)(C:X3),Ext K m H m' H'->bg K m' st H'->ClsAt K c C->E (.ref C) none H'
 | .bad=>False
def spW(K:PySem.W.Frag)(n:Nat)(F:List Wv->Hs->Re Wv):Sp:=λvs H Q E=>∃m st ws,bg K m st H/\ah K m H ws vs/\ws.length=n/\Hh K m H (F ws st) Q E
def bM(n:Nat)(F:List Wv->Hs->Re Wv)(g:GA):GE:=λρ st=>(g ρ st).bind λws st1=>if ws.length=n then F ws st1 else .bad
section
variable {X:Cx}
theorem E2{k n:Nat}{f:X3}{fd:X5}{ps:List Str}{F:List Wv->Hs->Re Wv}{x:Str}{p pos:Pos}{e:Expr}{es:List Expr}{g:GA}
  (G:FnOk X.prog X.w X.K X.mg X.base (CXJ X.prog X.w) k f fd ps (spW X.K n F))(hr:iK k X.A)(hm:X.mg x=some (.ref f))(hk:PySem.W.keepIn X.K (.ref f)=true)(hb:Binds X.K fd ps [])(ha:JA X (e::es) g)(hg:Gl X x:=by rfl)
  (hdb:(x == ("__debug__":Str))=false:=by decide)(he:Yj (e::es) X.env=(false,eval e X.env)::Yj es X.env:=by rfl)(hpl:(backTo pos (Yj es X.env)).any (·.1)=false:=by rfl) :
  JE X (.Call (.Name x p) (e::es) [] pos) (bM n F g):=by
 intro ρ st σ H m Q S R p pins s I
 have args:=ha.go (T:=λvs H1=>∃ws st1 m1,dD X σ m H (if ws.length=n then F ws st1 else .bad) Q/\Ext X.K m H m1 H1/\bg X.K m1 st1 H1/\ah X.K m1 H1 ws vs) S R (au.bind p)
  λws st1 vs m1 H1 p1 e1 S1 rs=>⟨ws,st1,m1,p1,e1,S1,rs⟩
 refine wpAny_Call_Name_kw (mY I hg hm ?_ hdb)
 refine PySem.W.callWith_K (h₀:=X.base) I.ok.mod.Mw hk (aY (args pos pins s I) λus s1 ⟨vs,H1,I1,r,ws,st1,m1,p1,e1,S1,rs⟩=>⟨I1.uR,?_⟩) he hpl
 by_cases c:ws.length=n
 ·rw[if_pos c] at p1
  let E:XK:=λcl _ H2=>∃c' st2 m2 C,cl= .ref C/\ClsAt X.K c' C/\F ws st1= .err c' st2/\Ext X.K m1 H1 m2 H2/\bg X.K m2 st2 H2
  have sp:spW X.K n F vs H1 Q E:=by
   refine⟨m1,st1,ws,S1,rs,c,?_⟩
   cases er:F ws st1 with
   | ok w st2=>rw[er] at p1;exact dD.shift (r:=.ok w st2) p1 e1
   | err c' st2=>exact λm2 H2 C e2 S2 hC=>⟨c',st2,m2,C,rfl,hC,er,e2,S2⟩
   | bad=>rw[er] at p1;exact aa p1
  have hl:us.length=ps.length:=by rw[<-r.length];exact G.len _ _ _ _ sp
  have bd:=hb s1 us I1.uR (by rw[lR];exact hl)
  rw[lR] at bd
  refine wpAny_call (codeAny_mono (G.run X.A X.stack s1 H1 ⟨us,[]⟩ us vs Q E hr I1.Qz bd r sp) λrr s2 hq=>?_)
  cases rr with
  | error x=>
   obtain⟨H2,C,fl,c',st2,m2,C',ec,hC,er,e2,S2⟩:=hq
   cases ec
   rw[er] at p1
   exact p1 m2 H2 x s2 (e1.trans e2) S2 ⟨C,pins,H1,s1,hC,I1,.inl fl.any⟩
  | ok fw=>
   cases fw with
   | ret u=>exact I1.after hq
   | next=>exact aa hq
   | brk=>exact aa hq
   | cont=>exact aa hq
 ·rw[if_neg c] at p1;exact aa p1
end
def iH(n:Nat)(g:GS):List Wv->Hs->Re Wv:=λws st=>match g (ws.map some++a_ (n - ws.length) none) st with
 | .nx _ st'=> .ok .aR st'
 | .rt w st'=> .ok w st'
 | .err c _ st'=> .err c st'
 | _=> .bad
theorem Ba{K:PySem.W.Frag}{m:Mp}{H:Hp}{N:List Str}{ws:List Wv}{vs:List V}(r:ah K m H ws vs)(h:ws.length<=N.length):ay K m H (ws.map some++a_ (N.length - ws.length) none) (L2.start N vs):=by
 have hl:=r.length
 refine⟨by unfold L2.start;simp[hl],λi w e=>?_⟩
 by_cases hi:i < ws.length
 ·rw[eP (by simpa using hi),dA] at e
  cases q:ws[i]? with
  | none=>rw[q] at e;cases e
  | some w'=>
   rw[q] at e
   cases e
   obtain⟨x,h1,h2⟩:=r.get q
   refine⟨x,?_,h2⟩
   unfold L2.start
   rw[eP (by simp;omega),dA,h1]
   rfl
 ·rw[jZ (by simpa using hi),Em] at e
  split at e<;>cases e
section
variable {P:X7} {w:X_} {K:PySem.W.Frag} {mg:Str->Option X9} {base:Heap}
theorem vm{N:List Str}{qual:Str}{scope:Scope}{f:X3}{cdv:X9}{A:X4}{outer:List Env}{s s':X8}{H H':Hp}{E:XK}{σ:St}{c:PySem.Str}{e:X9}
  (r:va (pf (CXJ P w) P w K mg base N qual scope f cdv A outer s H E) σ H' c e s')(h:∀C,ClsAt K c C->E (.ref C) none H'):(pf (CXJ P w) P w K mg base N qual scope f cdv A outer s H E).xe e s':=by
 obtain⟨C,pins,Hc,sc,hC,I,r⟩:=r
 rcases r with fl | ⟨rfl,a,args,rfl,ho,hg,M⟩
 ·exact tq (X:=pf (CXJ P w) P w K mg base N qual scope f cdv A outer s H E) rfl rfl rfl I fl λs2 zQ=>⟨H',C,zQ,h C hC⟩
 ·exact vj (X:=pf (CXJ P w) P w K mg base N qual scope f cdv A outer s H E) rfl rfl rfl I ho hg M λs2 zQ=>⟨H',C,zQ,h C hC⟩
def Bb(K:PySem.W.Frag)(f:X3)(cdv:X9):Prop:=∃o,K.lookup f=some o/\∃fd,o.data= .func fd/\fd.code=cdv
theorem Hj{x qual:Str}{st:Stmt}{f:X3}{fd:X5}{N ps:List Str}{k:Nat}{g:GS}(F:Jg K x qual st f fd)(S:FnScope N ps (defScope st))
  (body:∀(cdv:X9),Bb K f cdv->∀(A:X4)(outer:List Env)(s:X8)(H:Hp)(E:XK),iK k (A.deeper (envOfC qual (defScope st) s.heap.objs.size f cdv))->j8 (pf (CXJ P w) P w K mg base N qual (defScope st) f cdv A outer s H E) (defBody st) g) :
  FnOk P w K mg base (CXJ P w) (k+1) f fd ps (spW K ps.length (iH N.length g)):=by
 have hpl:ps.length<=N.length:=by have:=congrArg gU S.pre;rw[fF] at this;omega
 obtain⟨oc,od,kV,doc,pm,an,cdv,ct,osl,rfl,lk,hcd⟩:=F.ex
 refine M0 lk hcd S (λvs H Q E h=>?_) λA outer s H vs Q E hr h=>?_
 ·obtain⟨m,st',ws,_,r,hl,_⟩:=h
  rw[<-r.length];exact hl
 ·obtain⟨m,st',ws,S',r,hl,p⟩:=h
  refine⟨_,dE,?_⟩
  refine body cdv ⟨_,lk,_,rfl,rfl⟩ A outer s H E hr _ st' _ H m _ S' (Ba r (by omega)) ?_
  unfold iH at p
  cases e:g (ws.map some++a_ (N.length - ws.length) none) st' with
  | nx ρ st2=>rw[e] at p;exact λσ m' H' e' S2 R2=>p _ m' H' e' S2 (by unfold ag;rfl)
  | rt w' st2=>rw[e] at p;exact p
  | bk ρ st2=>rw[e] at p;exact aa p
  | ct ρ st2=>rw[e] at p;exact aa p
  | err c ρ st2=>rw[e] at p;exact λσ m' H' x s' e' S2 R2 rz=>vm rz λC hC=>p m' H' C e' S2 hC
  | bad=>rw[e] at p;exact aa p
end
def OnlyT(H:Hp):Prop:=∀b,H b=none\/(∃o xs,H b=some (.fD o (.lst xs)))\/H b=some (.f7 #[])
theorem OnlyT.of{H:Hp}(h:EB H):OnlyT H:=λb=>by
 rcases h b with q | q
 ·exact .inl q
 ·exact .inr (.inl q)
theorem law_sp{K:PySem.W.Frag}{F:List Wv->Hs->Re Wv}(h:∀ns:List Int,ns.length<=63->∃st,F [.ref 0] [.pk ns]= .ok (.bl true) st)(H:Hp)(a:X3)(ns:List Int)(hl:ns.length<=63)(hO:OnlyT H)(hS:iu K H a (ns.map V.int))(hT:q_ K H) :
  spW K 1 F [.ref a] H (λv _=>v= .bl true) λ_ _ _=>False:=by
 obtain⟨st,e⟩:=h ns hl
 refine⟨[a],[.pk ns],[.ref 0],⟨rfl,λl b o h1 h2=>?_,λl l' b ws tw _ _ h2 _ k _=>?_,hT⟩,ah.cons (by unfold ag;exact⟨a,rfl,rfl⟩) ah.nil,rfl,?_⟩
 ·cases l with
  | zero=>
   simp at h1 h2
   subst h1 h2
   show sW K H a ns
   rcases hS with (q | ⟨o',q⟩) | q
   ·rcases hO a with z | ⟨o',xs,z⟩ | z
    ·rw[z] at q;cases q
    ·rw[z] at q;cases q
    ·rw[z] at q;cases q
   ·exact .inl ⟨o',q⟩
   ·exact .inr q
  | succ l=>simp at h1
 ·cases l with
  | zero=>simp at h2;subst h2;simp[Ob.mu] at k
  | succ l=>simp at h2
 ·rw[e]
  intro v m' H' _ _ r
  unfold ag at r
  exact r
def J0(w:Wv)(st:Hs):Re Bool:=match w with
 | .aR=> .ok false st
 | .bl b=> .ok b st
 | .int i=> .ok (i != 0) st
 | .str y=>if y.length<=lim then .ok ((y.length:Int) != 0) st else .bad
 | .tup ws=> .ok (!ws.isEmpty) st
 | .nX _=> .bad
 | .ref l=>match ai st l with
  | some ws=> .ok (!ws.isEmpty) st
  | none=> .bad
 | .ty _=> .bad
 | .cls _=> .bad
 | .j7 _=> .bad
 | .fn _ _=> .bad
def eR(g:GE):GT:=λρ st=>(g ρ st).bind J0
section
variable {X:Cx}
theorem Tt{m:Mp}{H:Hp}{ws:List Wv}{xs:List V}(r:ah X.K m H ws xs):(!ws.isEmpty)= !xs.isEmpty:=by
 have h:=r.length
 cases ws<;>cases xs<;>simp_all
theorem n_{e:Expr}{g:GE}(h:JE X e g)(he:∀whole,isTrue e X.env whole=(do let v <-whole;standAt e.pos;holding [v] (truthy v))):JT X e (eR g) :=
 JT.of (Al aJ he) λρ st σ H m Q S R p=>h.go S R (au.bind p) λw st1 v m1 H1 p1 e1 S1 r1=>by
  cases w with
  | aR=>unfold ag at r1;subst r1;exact⟨false,rfl,p1 m1 H1 e1 S1⟩
  | bl b=>unfold ag at r1;subst r1;exact⟨b,rfl,p1 m1 H1 e1 S1⟩
  | int i=>unfold ag at r1;subst r1;exact⟨_,rfl,p1 m1 H1 e1 S1⟩
  | str y=>
   obtain⟨rfl,_⟩:=dF r1
   have p2:gH X σ m H (if y.length<=lim then .ok ((y.length:Int) != 0) st1 else .bad) Q:=p1
   by_cases c:y.length<=lim
   ·rw[if_pos c] at p2;exact⟨_,⟨dg c,rfl⟩,p2 m1 H1 e1 S1⟩
   ·rw[if_neg c] at p2;exact aa p2
  | nX ws=>exact aa p1
  | tup ws=>
   unfold ag at r1
   obtain⟨a,xs,rfl,h1,h2⟩:=r1
   refine⟨!xs.isEmpty,.inr (.inl ⟨xs,cU.of h1,rfl⟩),?_⟩
   rw[<-Tt h2]
   exact p1 m1 H1 e1 S1
  | ref l=>
   unfold ag at r1
   obtain⟨a,rfl,h1⟩:=r1
   have p2:gH X σ m H (match ai st1 l with | some ws=> .ok (!ws.isEmpty) st1 | none=> .bad) Q:=p1
   cases el:ai st1 l with
   | none=>rw[el] at p2;exact aa p2
   | some ws=>
    rw[el] at p2
    obtain⟨xs,hq,h2⟩:=S1.read h1 el
    refine⟨!xs.isEmpty,.inl ⟨xs,hq,rfl⟩,?_⟩
    rw[<-Tt h2]
    exact p2 m1 H1 e1 S1
  | ty T=>exact aa p1
  | cls T=>exact aa p1
  | j7 T=>exact aa p1
  | fn fp T=>exact aa p1
theorem tD{p:Nat->Bool}{x:Array Nat}(hx:x.all p=true):∀(n:Nat)(a:Array Nat),a.all p=true->((a_ n x).foldl (· ++·) a).all p=true
 | 0,a,h=>h
 | n+1,a,h=>by
  rw[fG,Au]
  refine tD hx n _ ?_
  rw[Array.all_append,h,hx]
  rfl
theorem yv{x:PySem.Str}{n:Nat}(h:aW x=true):aW (pz n x)=true:=by
 unfold aW at h ⊢
 unfold pz
 exact tD h n #[] (by simp)
theorem p7{x:Array Nat}:∀(n:Nat)(a:Array Nat),((a_ n x).foldl (· ++·) a).size=a.size+x.size * n
 | 0,a=>by simp
 | n+1,a=>by
  rw[fG,Au,p7 n,Array.size_append,Nat.mul_succ]
  omega
theorem Bc{x:PySem.Str}{n:Nat}:(pz n x).length=x.length * n:=by
 show((a_ n x.cps).foldl (· ++·) #[]).size=x.cps.size * n
 rw[p7]
 simp
def mG(x:PySem.Str)(n:Int):Prop:=1 < n/\n<=100000/\x.length≠0/\x.length * n.toNat<=lim
instance {x n}:Decidable (mG x n):=by unfold mG;infer_instance
theorem E3:dU X (Ya .Mult) (λx y H Q=>∃z n,x= .str z/\y= .int n/\mG z n/\Q (.str (pz n.toNat z)) H):=by
 intro pins s σ H x y v u Q I rx ry h
 obtain⟨z,n,rfl,rfl,⟨h1,h2,h3,h4⟩,q⟩:=h
 obtain⟨t,rfl⟩:=rx
 obtain⟨t',rfl⟩:=ry
 have n1:¬n < 1:=by omega
 have hlen:z.length<=lim:=by
  refine bo ?_ h4
  exact Nat.le_mul_of_pos_right _ (by omega)
 have hne:(n == 1||z.length == 0)=false:=by
  have e1:(n == 1)=false:=by rw[beq_eq_false_iff_ne];omega
  have e2:(z.length == 0)=false:=by rw[beq_eq_false_iff_ne];exact h3
  rw[e1,e2];rfl
 have hl:PySem.Builtin.Str.tooLong (z.length * n.toNat)=false:=by
  unfold PySem.Builtin.Str.tooLong
  have q:=dg h4
  first
   | exact decide_eq_false (by omega)
   | simp only[decide_eq_false_iff_not];omega
 refine PySem.P.mul_str (by
   have e1:¬n < -(2 ^ 63:Int):=by omega
   have e2:¬n >= 2 ^ 63:=by omega
   rw[decide_eq_false e1,decide_eq_false e2];rfl) (λ_ _=>?_) (λ_ _=>hl) ?_
 ·have e:((2:Int) ^ 63 - 1) / 100000<=(2 ^ 63 - 1) / n:=by
   refine Int.le_ediv_of_mul_le (by omega) ?_
   have:((2:Int) ^ 63 - 1) / 100000 * n<=((2:Int) ^ 63 - 1) / 100000 * 100000:=Int.mul_le_mul_of_nonneg_left h2 (by decide)
   exact Int.le_trans this (by decide)
  have e':(1000000:Int)<=(2 ^ 63 - 1) / 100000:=by decide
  unfold lim at hlen
  omega
 ·rw[if_neg n1,if_neg (by rw[hne];exact bV)]
  exact⟨by show(pz n.toNat z).length<=_;rw[Bc];exact dg h4,.str (pz n.toNat z),H,I.tok _,⟨_,rfl⟩,q⟩
def Hk:ff
 | .int i,.int j,st=>if IntMulOk i j then .ok (.int (i * j)) st else .bad
 | .str z,.int n,st=>if mG z n then .ok (.str (pz n.toNat z)) st else .bad
 | _,_,_=> .bad
theorem E4:iP X (Ya .Mult) Hk:=⟨_,dU.or EI E3,λx y a b st H m Q S rx ry p=>by
 cases x with
 | int i=>
  cases y with
  | int j=>
   cases aO rx;cases aO ry
   have p':cq X.K m H (if IntMulOk i j then .ok (.int (i * j)) st else .bad) Q:=p
   by_cases c:IntMulOk i j
   ·rw[if_pos c] at p';exact .inl ⟨i,j,rfl,rfl,c,p' _ m H Ext.refl S mkInt⟩
   ·rw[if_neg c] at p';exact aa p'
  | _=>exact aa p
 | str z=>
  cases y with
  | int n=>
   obtain⟨rfl,hz⟩:=dF rx
   cases aO ry
   have p':cq X.K m H (if mG z n then .ok (.str (pz n.toNat z)) st else .bad) Q:=p
   by_cases c:mG z n
   ·rw[if_pos c] at p';exact .inr ⟨z,n,rfl,rfl,c,p' _ m H Ext.refl S (mkStr (yv hz))⟩
   ·rw[if_neg c] at p';exact aa p'
  | _=>exact aa p
 | _=>exact aa p⟩
def bL:GE:=λ_ _=> .bad
def iz:GT:=λ_ _=> .bad
theorem aI{e:Expr}:JE X e bL:=λρ st σ H m Q S R p=>aa p
theorem hG{e:Expr}:JT X e iz:=λρ st σ H m Q S R p=>aa p
end
def lP(P:X7)(w:X_)(K:PySem.W.Frag)(mg:Str->Option X9)(base:Heap)(k:Nat)(x:Str)(n:Nat)(F:List Wv->Hs->Re Wv):Prop :=
 ∃f fd ps,FnOk P w K mg base (CXJ P w) k f fd ps (spW K n F)/\mg x=some (.ref f)/\PySem.W.keepIn K (.ref f)=true/\Binds K fd ps []
theorem lP.mono{P:X7}{w:X_}{K:PySem.W.Frag}{mg:Str->Option X9}{base:Heap}{j k:Nat}{x:Str}{n:Nat}{F:List Wv->Hs->Re Wv}(h:lP P w K mg base j x n F)(l:j<=k):lP P w K mg base k x n F:=by
 obtain⟨f,fd,ps,G,r⟩:=h
 exact⟨f,fd,ps,G.mono l,r⟩
def cS(K:PySem.W.Frag)(x:Str)(st:Stmt):Prop:=∃f fd,PySem.W.nsIn K Yh x=some (some (.ref f))/\Jg K x x st f fd
theorem J1{K:PySem.W.Frag}{x:Str}{st:Stmt}{f:X3}{oc:X9}{od an:Option X3}{osl:Array (Option X9)}{kV doc pm cdv ct:X9}(a:PySem.W.nsIn K Yh x=some (some (.ref f)))
  (l:K.lookup f=some ⟨oc,od,.func (PySem.W.fnOf x x (defArgs st) (defBody st) (defScope st) .none kV doc pm an cdv ct),osl⟩)(c:PySem.W.codeIn K cdv x=true)(k:PySem.W.keepIn K (.ref f)=true):cS K x st:=⟨f,_,a,Jh l c k⟩
theorem Bd:Yb "isinstance"=some (.builtin "isinstance"):=by decide+kernel
theorem p8:Yb "len"=some (.builtin "len"):=by decide+kernel
theorem Be:Yb "int"=some (.type "int"):=by decide+kernel
theorem Bf:Yb "str"=some (.type "str"):=by decide+kernel
theorem Bg:Yb "bool"=some (.type "bool"):=by decide+kernel
theorem tE:Yb "tuple"=some (.type "tuple"):=by decide+kernel
theorem tF:Yb "list"=some (.type "list"):=by decide+kernel
def dz(i:Nat)(gb:GS):List Wv->bw->Hs->Rs
 | [],ρ,st=> .nx ρ st
 | w::r,ρ,st=>match gb (ρ.set i (some w)) st with
  | .nx ρ' st'=>dz i gb r ρ' st'
  | .ct ρ' st'=>dz i gb r ρ' st'
  | .bk ρ' st'=> .nx ρ' st'
  | .rt w st'=> .rt w st'
  | .err c ρ' st'=> .err c ρ' st'
  | .bad=> .bad
section
variable {X:Cx}
theorem k9(i:Nat){body:List Stmt}{gb:GS}(hb:j8 X body gb){J':It}{ws:List Wv}{m1:Mp}{H1:Hp}{st1:Hs}{ρ:bw}{σ:St}{D:Ends}(S1:bg X.K m1 st1 H1)(R:ay X.K m1 H1 ρ σ)(p1:aD X m1 H1 (dz i gb ws ρ st1) D)
  (hgo:∀(k:Nat)(H:Hp)(m':Mp),Ext X.K m1 H1 m' H->k < ws.length->J'.go k H)(hstop:∀(k:Nat)(H:Hp)(m':Mp),Ext X.K m1 H1 m' H->k=ws.length->J'.stop k H)
  (hy:∀(k:Nat)(hk:k < ws.length)(H:Hp)(x:V)(H':Hp)(m':Mp),Ext X.K m1 H1 m' H->J'.sN k H x H'->H'=H/\ag X.K m' H ws[k] x) :
  ∃W:Nat->Nat->St->Hp->Prop,(∃m,W 0 m σ H1)/\∀k n σ H,W k n σ H->
   (J'.stop k H/\D.nx σ H)\/(J'.go k H/\∃N:St->Hp->Prop,(∀σ' H',N σ' H'->∃m',m' < n/\W (k+1) m' σ' H')/\∀x H',J'.sN k H x H'->sM i x σ H' λσ2 H2=>Pe X body { D with nx:=N,ct:=N,bk:=D.nx } σ2 H2):=by
 let Pv:Nat->St->Hp->Prop:=λk σ H=>∃ρ st m',Ext X.K m1 H1 m' H/\bg X.K m' st H/\ay X.K m' H ρ σ/\aD X m' H (dz i gb (ws.drop k) ρ st) D
 refine⟨λk n σ H=>n=ws.length - k/\k<=ws.length/\Pv k σ H,⟨ws.length,by simp,bx _,ρ,st1,m1,Ext.refl,S1,R,p1⟩,?_⟩
 rintro k n σ2 H2 ⟨rfl,hk,ρ2,st2,m2,e2,S2,R2,p2⟩
 by_cases hlt:k < ws.length
 ·refine .inr ⟨hgo k H2 m2 e2 hlt,Pv (k+1),λσ' H' p'=>⟨ws.length - (k+1),by omega,rfl,hlt,p'⟩,λx H' y=>?_⟩
  obtain⟨ee,mP⟩:=hy k hlt H2 x H' m2 e2 y
  subst ee
  have ed:ws.drop k=ws[k]::ws.drop (k+1):=lV hlt
  rw[ed] at p2
  refine hb _ st2 _ _ m2 _ S2 (R2.set i mP) ?_
  unfold dz at p2
  cases eg:gb (ρ2.set i (some ws[k])) st2 with
  | nx ρ3 st3=>rw[eg] at p2;exact λσ3 m3 H3 e3 S3 R3=>⟨ρ3,st3,m3,e2.trans e3,S3,R3,aD.shift p2 e3⟩
  | ct ρ3 st3=>rw[eg] at p2;exact λσ3 m3 H3 e3 S3 R3=>⟨ρ3,st3,m3,e2.trans e3,S3,R3,aD.shift p2 e3⟩
  | bk ρ3 st3=>rw[eg] at p2;exact p2
  | rt w3 st3=>rw[eg] at p2;exact p2
  | err c3 ρ3 st3=>rw[eg] at p2;exact p2
  | bad=>rw[eg] at p2;exact p2
 ·have e:k=ws.length:=by omega
  subst e
  rw[og] at p2
  exact .inl ⟨hstop _ H2 m2 e2 rfl,p2 σ2 m2 H2 Ext.refl S2 R2⟩
def QR(K:PySem.W.Frag)(tl:TE):TI:=λσ H R=>tl σ H λx H1=>∃a,x= .ref a/\(((∃xs,iu K H1 a xs)/\R (Qr K a) H1)\/((∃xs,cU K H1 a xs)/\R (S0 K a) H1))
theorem Bh{tg l:Expr}{tl:TE}(hl:PE X l tl):PI X tg l (QR X.K tl):=by
 intro pins s σ H R I h
 refine aY (hl pins s σ H _ I h) λv s1 ⟨x,H1,I1,r1,q1⟩=>?_
 obtain⟨a,e,q1⟩:=q1
 subst e
 cases r1
 have frs:∀b∈[s1.heap.objs.size],fb X pins H1 b:=λb hb=>by
  have e:b=s1.heap.objs.size:=by simpa using hb
  subst e
  exact I1.sO (ao _) (I1.hok.fresh (ao _))
 rcases q1 with ⟨⟨xs,hq⟩,q⟩ | ⟨⟨xs,hq⟩,q⟩
 ·obtain⟨its,rv,p,hz⟩:=I1.list hq
  refine wpAny_pyIter_list p.isList ?_
  exact⟨s1.heap.objs.size,[s1.heap.objs.size],_,_,H1,rfl,I1.kept (t':=s1.toks) λb o e=>aQ _ e,pN a _,⟨_,aX _ rfl,rfl,rfl⟩,frs,q⟩
 ·obtain⟨its,rv,p,hz⟩:=I1.tuple hq
  refine wpAny_pyIter_tuple (show s1.heap.IsTuple a its.toArray from p) ?_
  exact⟨s1.heap.objs.size,[s1.heap.objs.size],_,_,H1,rfl,I1.kept (t':=s1.toks) λb o e=>aQ _ e,uS a _,⟨_,aX _ rfl,rfl,rfl⟩,frs,q⟩
def tG(i:Nat)(gi:GE)(gb:GS):GS:=λρ st=>(gi ρ st).aY ρ λw st1=>match w with
 | .ref l=>(match ai st1 l with | some ws=>forL i gb l ws ws ρ st1 | none=> .bad)
 | .tup ws=>dz i gb ws ρ st1
 | .nX ws=>dz i gb ws ρ st1
 | _=> .bad
theorem rB(i:Nat){x:Str}{iter:Expr}{body:List Stmt}{gi:GE}{gb:GS}{pos pos':Pos}(hN:X.N.Nodup)(hp:PassesOwn (model X.prog X.w) X.A X.env X.xe)(hc:X.calm=true)(hi:JE X iter gi)(hb:j8 X body gb)
  (hx:X.N[i]? =some x)(hlo:Loc X.env.scope x)(J2:X.fn x=true\/X.env.scope.names.lookup x=some .local)
  (hs:∀x,Yf iter X.env x=pure x):JS X (.For (.Name x pos') iter body [] pos) (tG i gi gb):=by
 refine JS.of (jX hp hc (Bh aJ) (kM hN hx hlo J2) dE hs) λρ st σ H m D S R p=>?_
 refine hi.go S R (aD.bW R p) λw st1 v m1 H1 p1 e1 S1 rw'=>?_
 cases w with
 | ref l=>
  have p1':aD X m H (match ai st1 l with | some ws=>forL i gb l ws ws ρ st1 | none=> .bad) D:=p1
  unfold ag at rw'
  obtain⟨a,rfl,hla⟩:=rw'
  cases el:ai st1 l with
  | none=>rw[el] at p1';exact aa p1'
  | some ws=>
   rw[el] at p1'
   obtain⟨J3,q0,_⟩:=S1.read hla el
   refine⟨a,rfl,.inl ⟨⟨J3,q0⟩,?_⟩⟩
   let Pv:Nat->St->Hp->Prop:=λk σ H=>∃ρ st m',Ext X.K m1 H1 m' H/\bg X.K m' st H/\ay X.K m' H ρ σ/\ai st l=some ws/\aD X m' H (forL i gb l ws (ws.drop k) ρ st) D
   refine⟨λk n σ H=>n=ws.length - k/\k<=ws.length/\Pv k σ H,⟨ws.length,by simp,bx _,ρ,st1,m1,Ext.refl,S1,R.mono e1,el,aD.shift p1' e1⟩,?_⟩
   rintro k n σ2 H2 ⟨rfl,hk,ρ2,st2,m2,e2,S2,R2,l2,p2⟩
   obtain⟨xs,hq,rws⟩:=S2.read (e2.pre _ _ hla) l2
   have hlen:=rws.length
   by_cases hlt:k < ws.length
   ·have hx':k < xs.length:=by omega
    refine .inr ⟨⟨xs,xs[k],hq,by simp[hx']⟩,Pv (k+1),λσ' H' p'=>⟨ws.length - (k+1),by omega,rfl,hlt,p'⟩,λx H' y=>?_⟩
    obtain⟨ee,y⟩:=y
    subst ee
    have ey:=y xs hq
    have ed:ws.drop k=ws[k]::ws.drop (k+1):=lV hlt
    obtain⟨x',ex',mP⟩:=rws.get (i:=k) (w:=ws[k]) (cW hlt)
    rw[ey] at ex'
    cases ex'
    rw[ed] at p2
    refine hb _ st2 _ _ m2 _ S2 (R2.set i mP) ?_
    unfold forL at p2
    cases eg:gb (ρ2.set i (some ws[k])) st2 with
    | nx ρ3 st3=>
     rw[eg] at p2
     by_cases c:ai st3 l=some ws
     ·simp only[if_pos c] at p2
      exact λσ3 m3 H3 e3 S3 R3=>⟨ρ3,st3,m3,e2.trans e3,S3,R3,c,aD.shift p2 e3⟩
     ·simp only[if_neg c] at p2;exact aa p2
    | ct ρ3 st3=>
     rw[eg] at p2
     by_cases c:ai st3 l=some ws
     ·simp only[if_pos c] at p2
      exact λσ3 m3 H3 e3 S3 R3=>⟨ρ3,st3,m3,e2.trans e3,S3,R3,c,aD.shift p2 e3⟩
     ·simp only[if_neg c] at p2;exact aa p2
    | bk ρ3 st3=>rw[eg] at p2;exact p2
    | rt w3 st3=>rw[eg] at p2;exact p2
    | err c3 ρ3 st3=>rw[eg] at p2;exact p2
    | bad=>rw[eg] at p2;exact p2
   ·have e:k=ws.length:=by omega
    subst e
    rw[og] at p2
    exact .inl ⟨⟨xs,hq,by omega⟩,p2 σ2 m2 H2 Ext.refl S2 R2⟩
 | tup ws=>
  unfold ag at rw'
  obtain⟨a,xs,rfl,hq,rws⟩:=rw'
  have hlen:=rws.length
  refine⟨a,rfl,.inr ⟨⟨xs,cU.of hq⟩,?_⟩⟩
  refine k9 i hb (ws:=ws) S1 (R.mono e1) (aD.shift p1 e1) (λk H m' e hk=>?_) (λk H m' e hk=>?_) λk hk H x H' m' e y=>?_
  ·have hx':k < xs.length:=by omega
   exact⟨xs,xs[k],cU.of (e.tup _ _ hq),by simp[hx']⟩
  ·exact⟨xs,cU.of (e.tup _ _ hq),by omega⟩
  ·obtain⟨ee,y⟩:=y
   refine⟨ee,?_⟩
   obtain⟨x',ex',mP⟩:=(ah.mono e _ _ rws).get (i:=k) (w:=ws[k]) (cW hk)
   rw[y xs (cU.of (e.tup _ _ hq))] at ex'
   cases ex'
   exact mP
 | nX ws=>
  unfold ag at rw'
  obtain⟨a,xs,rfl,hq,rws⟩:=rw'
  have hlen:=rws.length
  refine⟨a,rfl,.inr ⟨⟨xs,.inr hq⟩,?_⟩⟩
  refine k9 i hb (ws:=ws) S1 (R.mono e1) (aD.shift p1 e1) (λk H m' e hk=>?_) (λk H m' e hk=>?_) λk hk H x H' m' e y=>?_
  ·have hx':k < xs.length:=by omega
   exact⟨xs,xs[k],.inr hq,by simp[hx']⟩
  ·exact⟨xs,.inr hq,by omega⟩
  ·obtain⟨ee,y⟩:=y
   refine⟨ee,?_⟩
   obtain⟨x',ex',mP⟩:=(ah.mono e _ _ rws).get (i:=k) (w:=ws[k]) (cW hk)
   rw[y xs (.inr hq)] at ex'
   cases ex'
   exact mP
 | _=>exact aa p1
def bC(lo:Int)(n:Nat):List Wv:=(a9 n).map λk:Nat=>Wv.int (lo+k)
theorem gK{lo:Int}{n k:Nat}(h:k < n):(bC lo n)[k]? =some (.int (lo+k)):=by
 unfold bC
 rw[dA,Bi h]
 rfl
theorem tH{lo:Int}{n k:Nat}(h:k < (bC lo n).length):(bC lo n)[k]= .int (lo+k):=by
 have q:=gK (lo:=lo) (n:=n) (k:=k) (by unfold bC at h;simpa using h)
 rw[cW h] at q
 exact Option.some.inj q
theorem bD{lo:Int}{n:Nat}:(bC lo n).length=n:=by unfold bC;simp
def bN(i:Int):Prop:=-(2 ^ 62)<=i/\i < 2 ^ 62
instance {i}:Decidable (bN i):=Bj _
def lW(i:Nat)(ga:GA)(gb:GS):GS:=λρ st=>(ga ρ st).aY ρ λws st1=>match ws with
 | [.int j]=>if bN j then dz i gb (bC 0 j.toNat) ρ st1 else .bad
 | _=> .bad
def lX(i:Nat)(ga:GA)(gb:GS):GS:=λρ st=>(ga ρ st).aY ρ λws st1=>match ws with
 | [.int a,.int j]=>if bN a/\bN j then dz i gb (bC a (j - a).toNat) ρ st1 else .bad
 | _=> .bad
theorem wR(i:Nat){body:List Stmt}{gb:GS}(hb:j8 X body gb){lo:Int}{n:Nat}{m1:Mp}{H1:Hp}{st1:Hs}{ρ:bw}{σ:St}{D:Ends}(S1:bg X.K m1 st1 H1)(R:ay X.K m1 H1 ρ σ)(p1:aD X m1 H1 (dz i gb (bC lo n) ρ st1) D) :
  ∃W:Nat->Nat->St->Hp->Prop,(∃m,W 0 m σ H1)/\∀k n' σ H,W k n' σ H->
   ((GU lo n).stop k H/\D.nx σ H)\/((GU lo n).go k H/\∃N:St->Hp->Prop,(∀σ' H',N σ' H'->∃m',m' < n'/\W (k+1) m' σ' H')/\∀x H',(GU lo n).sN k H x H'->sM i x σ H' λσ2 H2=>Pe X body { D with nx:=N,ct:=N,bk:=D.nx } σ2 H2) :=
 k9 i hb S1 R p1 (λk H m' e hk=>by rw[bD] at hk;exact hk) (λk H m' e hk=>by rw[bD] at hk;exact jB hk.symm) λk hk H x H' m' e y=>by
  obtain⟨y1,y2⟩:=y
  refine⟨y1,?_⟩
  rw[tH,y2]
  exact mkInt
theorem Bk(i:Nat){x:Str}{a:Expr}{body:List Stmt}{ga:GA}{gb:GS}{pos pos' p q:Pos}(hN:X.N.Nodup)(hp:PassesOwn (model X.prog X.w) X.A X.env X.xe)(hc:X.calm=true)(hg:Gl X "range")(hm:X.mg "range"=none)(ha:JA X [a] ga)(hb:j8 X body gb)
  (hx:X.N[i]? =some x)(hlo:Loc X.env.scope x)(J2:X.fn x=true\/X.env.scope.names.lookup x=some .local)(hst:Yj [a] X.env=[(false,eval a X.env)]):JS X (.For (.Name x pos') (.Call (.Name "range" p) [a] [] q) body [] pos) (lW i ga gb):=by
 refine JS.of (jX hp hc (pO hg hm fo hst) (kM hN hx hlo J2) dE (λ_=>rfl)) λρ st σ H m D S R p=>?_
 refine ha.go S R (aD.bW R p) λws st1 vs m1 H1 p1 e1 S1 rs=>?_
 match ws,rs,p1 with
 | [],rs,p1=>exact aa p1
 | x::y::t,rs,p1=>cases x<;>exact aa p1
 | [x],rs,p1=>
  obtain⟨v,rfl,r1⟩:=kY rs
  cases x with
  | int j=>
   cases aO r1
   have p2:aD X m H (if bN j then dz i gb (bC 0 j.toNat) ρ st1 else .bad) D:=p1
   by_cases c:bN j
   ·rw[if_pos c] at p2
    exact⟨j,rfl,c.1,c.2,wR i hb S1 (R.mono e1) (aD.shift p2 e1)⟩
   ·rw[if_neg c] at p2;exact aa p2
  | _=>exact aa p1
theorem Bl(i:Nat){x:Str}{a b:Expr}{body:List Stmt}{ga:GA}{gb:GS}{pos pos' p q:Pos}(hN:X.N.Nodup)(hp:PassesOwn (model X.prog X.w) X.A X.env X.xe)(hc:X.calm=true)(hg:Gl X "range")(hm:X.mg "range"=none)(ha:JA X [a,b] ga)(hb:j8 X body gb)
  (hx:X.N[i]? =some x)(hlo:Loc X.env.scope x)(J2:X.fn x=true\/X.env.scope.names.lookup x=some .local)(hst:Yj [a,b] X.env=[(false,eval a X.env),(false,eval b X.env)])(J4:Yj [b] X.env=[(false,eval b X.env)]):JS X (.For (.Name x pos') (.Call (.Name "range" p) [a,b] [] q) body [] pos) (lX i ga gb):=by
 refine JS.of (jX hp hc (pP hg hm fo hst J4) (kM hN hx hlo J2) dE (λ_=>rfl)) λρ st σ H m D S R p=>?_
 refine ha.go S R (aD.bW R p) λws st1 vs m1 H1 p1 e1 S1 rs=>?_
 match ws,rs,p1 with
 | [],rs,p1=>exact aa p1
 | [x],rs,p1=>cases x<;>exact aa p1
 | x::y::z::t,rs,p1=>cases x<;>cases y<;>exact aa p1
 | [x,y],rs,p1=>
  obtain⟨v,v',rfl,r1,r2⟩:=pA rs
  cases x with
  | int a=>
   cases y with
   | int j=>
    cases aO r1;cases aO r2
    have p2:aD X m H (if bN a/\bN j then dz i gb (bC a (j - a).toNat) ρ st1 else .bad) D:=p1
    by_cases c:bN a/\bN j
    ·rw[if_pos c] at p2
     exact⟨a,j,rfl,⟨c.1.1,c.1.2,c.2.1,c.2.2⟩,wR i hb S1 (R.mono e1) (aD.shift p2 e1)⟩
    ·rw[if_neg c] at p2;exact aa p2
   | _=>exact aa p1
  | _=>cases y<;>exact aa p1
theorem E5{pos:Pos}:JS X (.Return none pos) (cV (gC .aR)):=JS.of Ee λρ st σ H m D S R p=>p .aR m H Ext.refl S wN
end
abbrev wU:List X9:=[.type "ValueError",.type "Exception",.type "BaseException",.type "object"]
abbrev wV:String:="ValueError.__new__"
structure E6(K:PySem.W.Frag)(c:PySem.Str)(C:X3):Prop where
 cls:ClsAt K c C
 exc:PySem.W.excIn K C wU wV=true
theorem hI{K:PySem.W.Frag}{h:Heap}{C:X3}(KX:K.In h)(q:PySem.W.excIn K C wU wV=true) :
  ∃(bm:List X9)(N:X3)(nm qn:Str)(bs:List X9)(hd:Bool)(sn:List Str)(sub:List X9)(ab:Bool)(col:Option Bool)(dd:Option X3)(k0 k1 k2 k3 k5:Option X9)(mN:Str->Option X9),
   h.get? C=some (excClassObj nm qn C N bs bm hd sn sub ab col dd k0 k1 k2 k3 k5 wV)/\h.Ns N mN/\mN "__init__"=none/\OwnTail h wU bm/\(∀v r,PySem.W.mroIn K C v=some r->(aB C::bm).contains v=r):=by
 unfold PySem.W.excIn at q
 split at q
 ·rename_i dd cd sl lk
  split at q
  ·rename_i C1 bm k0 k1 k2 k3 n1 k5 em es
   simp only[cz,beq_iff_eq,Bool.not_eq_true'] at q
   obtain⟨⟨⟨⟨⟨q1,q2⟩,q3⟩,q4⟩,q5⟩,q6⟩:=q
   subst q1 q2
   obtain⟨nm,bs,mro,N,qn,hd,sn,sub,ab,col,del⟩:=cd
   dsimp only at em q3 q5 q6
   subst em q3
   have Vf:sl=#[k0,k1,k2,k3,some (.builtin wV),k5]:=by
    cases sl with
    | mk l=>exact congrArg Array.mk es
   subst Vf
   refine⟨bm,N,nm,qn,bs,hd,sn,sub,ab,col,dd,k0,k1,k2,k3,k5,_,KX _ _ lk,.of_isNs (PySem.W.isNs_of_in KX q5),PySem.W.nsMap_none_of_in KX q5 q6,PySem.W.tail_of_in KX q4,λv r e=>?_⟩
   unfold PySem.W.mroIn PySem.W.clsIn at e
   rw[lk] at e
   first
    | exact Option.some.inj e
    | (simp at e;exact e)
  ·cases q
 ·cases q
section
variable {X:Cx}
def lY(c:PySem.Str)(ga:GA):GS:=λρ st=>(ga ρ st).aY ρ λws st1=>if ws.length<=lim then .err c ρ st1 else .bad
theorem Bm{c:Str}{C:X3}{e:Expr}{es:List Expr}{ga:GA}{np cpos pos:Pos}(hc:X.calm=true)(O:E6 X.K c C)(hg:Gl X c)(hm:X.mg c=some (.ref C))(ha:JA X (e::es) ga)(hd:(c == ("__debug__":Str))=false)
  (he:Yj (e::es) X.env=(false,eval e X.env)::Yj es X.env)(hpl:(backTo cpos (Yj es X.env)).any (·.1)=false):JS X (.Raise (some (.Call (.Name c np) (e::es) [] cpos)) none pos) (lY c ga):=by
 intro ρ st σ H m D S R p pins s I
 have args:=ha.go (T:=λvs H1=>∃ws st1 m1,aD X m H (if ws.length<=lim then .err c ρ st1 else .bad) D/\Ext X.K m H m1 H1/\bg X.K m1 st1 H1/\ah X.K m1 H1 ws vs) S R (aD.bW R p)
  λws st1 vs m1 H1 p1 e1 S1 rs=>⟨ws,st1,m1,p1,e1,S1,rs⟩
 obtain⟨bm,N,nm,qn,bs,Mi,sn,sub,ab,col,dd,k0,k1,k2,k3,k5,mN,hC,hN,hni,T,_⟩:=hI I.ok.mod.Mw O.exc
 refine wpAny_Raise_call_subU (C:=C) (nm:=nm) (q:=qn) (N:=N) (bs:=bs) (bm:=bm) (hdct:=Mi) (sn:=sn) (sub:=sub) (ab:=ab) (col:=col) (dd:=dd) (k0:=k0) (k1:=k1) (k2:=k2) (k3:=k3) (k5:=k5) (bmB:=wU)
  F.excBase_ValueError (by decide) F.excBase_ValueError (mN:=mN) (T.hasType F.excBase_ValueError.hasBase) (I.ok.hd hc) ?_ hni (mY I hg hm ⟨rfl,?_⟩ hd)
 ·rw[he]
  show(false||(backTo cpos (Yj es X.env)).any (·.1))=false
  rw[hpl]
  rfl
 ·have go:=args cpos pins s I
  rw[he] at go ⊢
  refine nT (aY go λus s1 ⟨vs,H1,I1,r,ws,st1,m1,p1,e1,S1,rs⟩=>?_)
  by_cases cl:ws.length<=lim
  ·rw[if_pos cl] at p1
   refine⟨rfl,by rw[<-r.length,<-rs.length];exact dg cl,I1.bk _ _ hC,hN.keeps I1.bk,T.keeps I1.bk,λh2 a M=>?_⟩
   exact p1 σ m1 H1 _ _ e1 S1 (R.mono e1) ⟨C,pins,H1,s1,O.cls,I1,.inr ⟨rfl,a,us,rfl,rfl,rfl,M⟩⟩
  ·rw[if_neg cl] at p1;exact aa p1
end
structure kc(K:PySem.W.Frag)(C:X3):Prop where
 exc:PySem.W.excIn K C wU wV=true
 ga:PySem.W.findIn K (.ref C) "__getattribute__"=some (some (.builtin "BaseException.__getattribute__"))
 gx:PySem.W.findIn K (.ref C) "__getattr__"=some none
 cl:PySem.W.findIn K (.ref C) "__class__"=some (some (.builtin "object.__class__"))
section
variable {prog:X7} {w:X_} {A:X4} {E:X9->X8->Prop} {h:Heap} {g:Array GenState} {d:Drawn} {t:Nat} {os:OsState} {a C:X3} {o:Obj} {K:PySem.W.Frag}
theorem J5{R:Result->X8->Prop}(Y:K.In h)(Z:kc K C)(ha:h.get? a=some o)(hc:o.cls= .ref C)(k:R (.ok (.ret (.ref C))) ⟨h,g,d,t,os⟩) :
  Yc (model prog w) A (.call (.builtin "getset_descriptor.__get__") ⟨[.builtin "object.__class__",.ref a,.ref C],[]⟩) R ⟨h,g,d,t,os⟩:=by
 obtain⟨bm,N,nm,qn,bs,Mi,sn,sub,ab,col,dd,k0,k1,k2,k3,k5,mN,hC,hN,hni,T,_⟩:=hI Y Z.exc
 have ty:(⟨h,g,d,t,os⟩:X8).TypeIs (.builtin "object.__class__") "getset_descriptor":=Bn
 have own:(aB C::bm).contains (.type (".".intercalate ("object.__class__".cutAt '.').dropLast))=true:=by
  rw[F.owner_object_class,vn,T.hasType (X:="object") (b:=true) (by decide)];rfl
 refine codeAny_call_builtin F.slot_gs_get.plain F.entry_gs_get (F.slot_gs_get.check _ _ _ _ _ _ _ _ ty (F.args_gs_get _ _ _) ?_)
 repeat (any_goals (first | assumption | (with_reducible refine wpAny_loadPart_at ha ?_;rw[hc]) | (with_reducible refine wpAny_isSubtype_exc hC ?_;rw[own]) | wp_step))
 refine⟨Code.quiet_builtin _ (by decide+kernel),codeAny_builtin F.entry_object_class ?_⟩
 repeat (any_goals (first | assumption | (with_reducible refine wpAny_loadPart_at ha ?_;rw[hc]) | wp_step))
theorem Bo{tk:Tok}{Q:Fin->X8->Prop}(Y:K.In h)(Z:kc K C)(ha:h.get? a=some o)(hc:o.cls= .ref C)(k:Q (.done (.ret (.ref C))) ⟨h,g,d,t,os⟩) :
  Yk (model prog w) A (Builtin.«object.__getattribute__» ⟨[.ref a,.str "__class__" tk],[]⟩) Q E ⟨h,g,d,t,os⟩:=by
 have ty:(⟨h,g,d,t,os⟩:X8).TypeIs (.builtin "object.__class__") "getset_descriptor":=Bn
 have t1:=Bn
 have t2:=F.slot_gs_get.lookup
 have t3:=F.slot_gs_set.lookup
 have L:=PySem.W.looks_findIn (M:=model prog w) Y Z.cl
 repeat (any_goals (first | assumption | (with_reducible refine wpAny_loadPart_at ha ?_;rw[hc]) | with_reducible refine L.at ?_ | wp_step))
 refine J5 Y Z ha hc ?_
 repeat (any_goals (first | assumption | wp_step))
theorem Bp{M:Model}{nv:X9}{Q:Unit->X8->Prop}(Y:K.In h)(Z:kc K C)(ha:h.get? a=some o)(hc:o.cls= .ref C)(k:Q () ⟨h,g,d,t,os⟩) :
  Yk M A (checkBuiltinCall "BaseException.__getattribute__" ⟨[.ref a,nv],[]⟩) Q E ⟨h,g,d,t,os⟩:=by
 obtain⟨bm,N,nm,qn,bs,Mi,sn,sub,ab,col,dd,k0,k1,k2,k3,k5,mN,hC,hN,hni,T,_⟩:=hI Y Z.exc
 have u1:builtinKind "BaseException.__getattribute__"=some .slot:=by decide+kernel
 have u2:splitId "BaseException.__getattribute__"=some ("BaseException","__getattribute__"):=by decide+kernel
 have u3:(aB C::bm).contains (.type "BaseException")=true:=by rw[vn,T.hasType (X:="BaseException") (b:=true) (by decide)];rfl
 have u4:=F.args_bexc_ga (.ref a) nv
 simp only[checkBuiltinCall,u1,u2]
 refine Yl ?_
 unfold isInstance
 repeat (first | (with_reducible refine wpAny_loadPart_at ha ?_;rw[hc]) | (with_reducible refine wpAny_isSubtype_exc hC ?_;rw[u3]) | wp_step)
 exact k
theorem NF{tk:Tok}{Q:X9->X8->Prop}(Y:K.In h)(Z:kc K C)(ha:h.get? a=some o)(hc:o.cls= .ref C)(k:Q (.ref C) ⟨h,g,d,t,os⟩) :
  Yk (model prog w) A (getAttrBy (.ref a) (.str "__class__" tk) false) Q E ⟨h,g,d,t,os⟩:=by
 have v1:=F.excAttr_ValueError.ga.bind (.ref a)
 have v2:(jH "BaseException.__getattribute__" == jH "object.__getattribute__")=false:=by decide+kernel
 have v3:(onTheHeap (aB C)&&jH "BaseException.__getattribute__" == jH "object.__getattribute__")=false:=by rw[v2];rfl
 have v4:(false&&onTheHeap (jH "BaseException.__getattribute__"))=false:=rfl
 have L1:=PySem.W.looks_findIn (M:=model prog w) Y Z.ga
 have L2:=PySem.W.looks_findIn (M:=model prog w) Y Z.gx
 repeat (any_goals (first | assumption | (with_reducible refine wpAny_loadPart_at ha ?_;rw[hc]) | with_reducible refine L1.at ?_ | with_reducible refine L2.at ?_ | wp_step))
 refine codeAny_call_builtin F.excAttr_ValueError.ga.plain F.entry_bexc_ga (Bp Y Z ha hc (Bo Y Z ha hc ?_))
 repeat (any_goals (first | assumption | wp_step))
theorem E7{Q:Option X9->X8->Prop}(Y:K.In h)(Z:kc K C)(ha:h.get? a=some o)(hc:o.cls= .ref C)(k:Q (some (.ref C)) ⟨h,g,d,t+1,os⟩) :
  Yk (model prog w) A (getAttr? (.ref a) "__class__") Q E ⟨h,g,d,t,os⟩:=by
 unfold getAttr? getAttrBy?
 repeat (any_goals (first | assumption | with_reducible apply NF Y Z ha hc | wp_step))
end
structure QS(X:Cx):Prop where
 st:X.stack=X.env::X.outer
 fr:X.env.frame=some X.env.locals
 ex:X.ex=[]
theorem p_{P:X7}{w:X_}{H:Hp}{h:Heap}{a:X3}{o:HO}(x:cp P w H h a o):∃u,h.get? a=some u:=by
 cases o with
 | lst xs=>obtain⟨_,_,_,_,e⟩:=x;exact⟨_,e⟩
 | tup xs=>obtain⟨_,_,_,⟨ob,e,_⟩,_⟩:=x;exact⟨_,e⟩
 | dK kvs=>obtain⟨_,_,_,_,ob,_,_,e,_⟩:=x;exact⟨_,e⟩
 | dT kvs=>obtain⟨_,_,_,_,ob,_,_,e,_⟩:=x;exact⟨_,e⟩
 | set S n=>obtain⟨ob,_,_,_,e,_⟩:=x;exact⟨_,e⟩
 | ins C dx fs=>obtain⟨_,_,_,e,_⟩:=x;exact⟨_,e⟩
 | own y=>exact x
 | xd fs=>obtain⟨_,⟨_,_,_,e,_⟩,_⟩:=x;exact⟨_,e⟩
 | O5 lo hi=>obtain⟨_,_,_,e⟩:=x;exact⟨_,e⟩
 | fD ob u=>obtain⟨e,_⟩:=x;exact⟨_,e⟩
 | f7 ps=>exact⟨_,x⟩
 | met f y=>exact⟨_,x⟩
 | ext φ=>exact x.2.1
def J6(X:Cx)(a:X3):Prop:=X.s₀.heap.get? a=none/\(∀xs,X.H₀ a≠some (.tup xs))/\(∀o u,X.H₀ a≠some (.fD o u))/\∀ps,X.H₀ a≠some (.f7 ps)
def yw(o:Obj):Prop:=∃vs,o.data= .fields vs/\vs[2]? =some bE
section
variable {X:Cx} {pins:List (X3×Obj)} {σ:St} {Hc H':Hp} {sc s':X8} {B h2:Heap} {a C:X3} {a0:X9} {ch:List X3}
theorem jI(I:Inv X pins σ Hc sc)(os:s'.os=sc.os)(bare:AllBare s'.gens)(hch:∀b∈ch,fb X pins Hc b)(un:Un (frs X.stack) ch Hc H' sc.heap s'.heap)(hok:iE X.prog X.w H' B)(fl:qZ B X.stack a (.ref C) a0 h2)(up:s'.heap.UpToSlots h2)
  (sY:∀b o,sc.heap.get? b=some o->b∉frs X.stack->b∉ch->∃o',B.get? b=some o'/\(Hc b=none->o'=o)){tk:Nat} :
  (∃o,yw o/\Inv X pins σ (upd H' a (.fD o (.ext (iN a C)))) { s' with heap:=h2,toks:=tk })/\H' a=none/\(X.ex=[]->J6 X a):=by
 have stay:=fl.1
 obtain⟨oe,vs,Ph,hcl,hda,Vg⟩:=fl.first
 have Vh:iN a C h2:=⟨oe,Ph,hcl,vs,hda⟩
 have ha:H' a=none:=by
  cases q:H' a with
  | none=>rfl
  | some u=>
   obtain⟨z,e⟩:=p_ (hok a u q)
   rw[fl.2.1] at e
   cases e
 have Vi:a∉frs X.stack:=λz=>by
  obtain⟨_,o1,e1,d1⟩:=fl.2.2.1.mem z
  rw[Ph] at e1
  cases e1
  exact d1 vs hda
 have Ii:∀b∈frs X.stack,b∉ch:=λb hb z=>by
  rcases List.mem_cons.mp (I.nK b hb) with q | q
  ·exact(hch b z).2.1 q
  ·exact(hch b z).2.2.1 q
 have new:a∉ch->∀o,sc.heap.get? a≠some o:=λhx o e=>by
  obtain⟨o1,e1,_⟩:=sY a o e Vi hx
  rw[fl.2.1] at e1
  cases e1
 have ne:∀b u,H' b=some u->b≠a:=λb u e=>bh e ha
 have sl:∀b o,sc.heap.get? b=some o->Hc b=none->b∈frs X.stack->∃sl,h2.get? b=some { o with slots:=sl }:=λb o e n hb=>by
  obtain⟨s1,e1⟩:=un.slot b o e n hb (Ii b hb)
  obtain⟨_,o1,e2,d1⟩:=I.stack.mem hb
  rw[e] at e2
  cases e2
  obtain⟨s2,e3⟩:=up b _ e1 d1
  exact⟨s2,e3⟩
 refine⟨⟨oe,⟨vs,hda,Vg⟩,?_⟩,ha,λhex=>?_⟩
 rotate_left
 ·refine⟨?_,λxs q=>?_,λo u q=>?_,λps q=>?_⟩
  rotate_left
  ·have z:=un.tups _ _ (I.base.tups _ _ q)
   rw[ha] at z;cases z
  ·have z:=un.iF _ _ _ (I.base.iF _ _ _ q)
   rw[ha] at z;cases z
  ·obtain⟨_,z⟩:=I.base.jS _ _ q
   obtain⟨_,z⟩:=un.jS _ _ z
   rw[ha] at z;cases z
  cases q:X.s₀.heap.get? a with
  | none=>rfl
  | some o0=>
   obtain⟨o1,q1⟩:=I.base.there a o0 q (by rw[hex];simp)
   refine absurd q1 (new (λz=>?_) o1)
   rcases(hch a z).2.2.2.1 with y | y
   ·rw[hex] at y;cases y
   ·exact absurd (bj (aC q) y) (c_ _)
 refine I.pL (s':={ s' with heap:=h2,toks:=tk }) (ch:=ch) os ?_ ?_ bare (λb z=>⟨(hch b z).2.2.2.1,(hch b z).2.1,(hch b z).2.2.2.2.1,(hch b z).2.2.2.2.2⟩)
 ·refine⟨λb o e n hb hx=>?_,λb o e n hb _=>sl b o e n hb,λb o e n hx=>?_,λb o e hx=>?_,λb xs h=>?_,λb o u h=>?_,λb ps h=>?_⟩
  ·obtain⟨o1,e1,e2⟩:=sY b o e hb hx
   rw[e2 n] at e1
   exact stay b o e1
  ·have ba:b≠a:=λz=>by subst z;exact new hx o e
   rw[aw ba]
   exact un.free b o e n hx
  ·by_cases hb:b∈frs X.stack
   ·obtain⟨s2,e2⟩:=sl b o e (I.kI b hb) hb
    exact⟨_,e2⟩
   ·obtain⟨o1,e1,_⟩:=sY b o e hb hx
    exact⟨o1,stay b o1 e1⟩
  ·have q:=un.tups b xs h
   rw[aw (ne b _ q)]
   exact q
  ·have q:=un.iF b o u h
   rw[aw (ne b _ q)]
   exact q
  ·obtain⟨m1,q⟩:=un.jS b ps h
   refine⟨m1,?_⟩
   rw[aw (ne b _ q)]
   exact q
 ·intro b u e
  by_cases hb:b=a
  ·subst hb
   rw[aM] at e
   cases e
   exact⟨Ph,Vh,⟨oe,Ph⟩,λh3 h4 p k=>let ⟨o1,q1,q2,q3⟩:=p;⟨o1,k o1 q1,q2,q3⟩⟩
  ·rw[aw hb] at e
   exact(hok b u e).stay (λc v _ q=>stay c v q) (λc q=>by rw[aw (ne c _ q)];exact q) λc xs q=>by rw[aw (ne c _ q)];exact q
end
theorem yx{M:Model}{A:X4}{E:X9->X8->Prop}{s:X8}{K:PySem.W.Frag}{a C D:X3}{o:Obj}{b:Bool}{Q:Bool->X8->Prop}(Y:K.In s.heap)(ZC:PySem.W.excIn K C wU wV=true)(ZD:PySem.W.excIn K D wU wV=true)
  (hm:PySem.W.mroIn K C (.ref D)=some b)(ha:s.heap.get? a=some o)(hc:o.cls= .ref C)(k:Q b s):Yk M A (excMatches (.ref a) (.ref D)) Q E s:=by
 obtain⟨h,g,d,t,os⟩:=s
 obtain⟨bm,N,nm,qn,bs,Mi,sn,sub,ab,col,dd,k0,k1,k2,k3,k5,mN,hC,hN,hni,T,mr⟩:=hI Y ZC
 obtain⟨bm',N',Xh,Xi,bs',Vj,sn',sub',Xj,col',GX,Xk,Xl,Xm,Xn,Xo,Xp,hD,Xq,Vk,T',Xr⟩:=hI Y ZD
 have e1:(aB C::bm).contains (.ref D)=b:=mr _ _ hm
 have e2:(aB D::bm').contains (.type "BaseException")=true:=by rw[vn,T'.hasType (X:="BaseException") (b:=true) (by decide)];rfl
 have f:=tc_notTuple
 unfold excMatches
 repeat (first | (with_reducible refine wpAny_loadPart_at ha ?_;rw[hc]) | with_reducible refine wpAny_loadPart_at hD ?_ | (with_reducible refine wpAny_isSubtype_exc hD ?_;rw[e2]) | (with_reducible refine wpAny_isSubtype_exc hC ?_;rw[e1]) | wp_step)
 cases b<;>(wp_walk;exact k)
theorem tJ{K:PySem.W.Frag}{a C:X3}(Z:kc K C):PySem.W.KitX K (.ref a) (.ref C) (iN a C) where
 ty:=λM h _ p=>by
  obtain⟨o,h1,h2,_⟩:=p
  rw[<-h2]
  exact(PySem.W.Looks.ld h1).andThen .now
 it:=λM h Y _=>by
  obtain⟨bm,N,nm,qn,bs,Mi,sn,sub,ab,col,dd,k0,k1,k2,k3,k5,mN,hC,_⟩:=hI Y Z.exc
  intro A' Q' E' s' k q
  unfold isType loadHead
  exact Yl (wpAny_loadPart (k _ _ hC) (Yq q))
 ne:=λh tp dd its n sl Y e=>by
  obtain⟨bm,N,nm,qn,bs,Mi,sn,sub,ab,col,GX,k0,k1,k2,k3,k5,mN,hC,_⟩:=hI Y Z.exc
  refine Bool.eq_false_iff.mpr λq=>?_
  have z:C=tp:=Value.ref.inj (beq_iff_eq.mp q)
  subst z
  rw[hC] at e
  have z2:mX "type"=mX "tuple":=congrArg Obj.cls (Option.some.inj e)
  exact absurd z2 (by decide)
 ca:=λ{prog w A E Q s} Y p k=>by
  obtain⟨o,h1,h2,_⟩:=p
  obtain⟨h,g,d,t,os⟩:=s
  exact E7 Y Z h1 h2 k
abbrev Tab:=List ((PySem.Str×PySem.Str)×Bool)
abbrev pB:=List ((PySem.Str×String)×Bool)
structure TabOk(K:PySem.W.Frag)(tb:Tab)(tt:pB)(tc:Tab):Prop where
 own:∀c d b C D,tb.lookup (c,d)=some b->ClsAt K c C->ClsAt K d D->kc K C/\PySem.W.kitOne K (.ref C) (.ref D)=some b
 cat:∀c d b C D,tc.lookup (c,d)=some b->ClsAt K c C->ClsAt K d D->PySem.W.excIn K C wU wV=true/\PySem.W.excIn K D wU wV=true/\PySem.W.mroIn K C (.ref D)=some b
 typ:∀c T b C,tt.lookup (c,T)=some b->ClsAt K c C->kc K C/\PySem.W.kitOne K (.ref C) (.type T)=some b
def lZ(tb:Tab)(c:PySem.Str):List Wv->Option Bool
 | []=>some false
 | .cls d::r=>(match tb.lookup (c,d) with
  | some true=>some true
  | some false=>lZ tb c r
  | none=>none)
 | _=>none
theorem qa{K:PySem.W.Frag}{m:Mp}{H:Hp}{tb:Tab}{tt:pB}{tc:Tab}(O:TabOk K tb tt tc){c:PySem.Str}{C:X3}(hC:ClsAt K c C):∀{ds:List Wv}{vs:List V}{its:List X9}{b:Bool},ah K m H ds vs->Vals vs its->lZ tb c ds=some b->PySem.W.kitAny K (.ref C) its=some b
 | [],vs,its,b,r,v,e=>by
  unfold ah at r
  subst r
  cases v
  cases e
  rfl
 | w::ds,vs,its,b,r,v,e=>by
  unfold ah at r
  obtain⟨x,t,rfl,r1,r2⟩:=r
  cases v with
  | cons h1 h2=>
   cases w with
   | cls d=>
    unfold ag at r1
    obtain⟨D,rfl,hD⟩:=r1
    cases h1
    unfold lZ at e
    unfold PySem.W.kitAny
    cases q:tb.lookup (c,d) with
    | none=>rw[q] at e;cases e
    | some k=>
     rw[q] at e
     obtain⟨_,z3⟩:=O.own c d k C D q hC hD
     rw[z3]
     cases k with
     | true=>cases e;rfl
     | false=>exact qa O hC r2 h2 e
   | _=>cases e
def dZ(tb:Tab)(tt:pB):List Wv->Hs->Re Wv
 | [.j7 c,.cls d],st=>(match tb.lookup (c,d) with | some b=> .ok (.bl b) st | none=> .bad)
 | [.j7 c,.ty T],st=>(match tt.lookup (c,T) with | some b=> .ok (.bl b) st | none=> .bad)
 | [.j7 c,.tup (.cls d::ds)],st=>(match lZ tb c (.cls d::ds) with | some b=> .ok (.bl b) st | none=> .bad)
 | ws,st=>JR ws st
section
variable {X:Cx}
theorem Bq:cR X (.builtin "isinstance") (λvs H Q=>∃a C v c b,vs=[.ref a,v]/\Pd a C (H a)/\kc X.K C/\RelV v c/\PySem.W.kitOne X.K (.ref C) c=some b/\Q (.bl b) H):=by
 intro pins s σ H xs us Q I r h
 obtain⟨a,C,v,c,b,rfl,ha,Z,rc,e,q⟩:=h
 obtain⟨u,u',rfl,r1,r2⟩:=vals2 r
 cases r1
 have uc:u'=c:=by
  cases v with
  | int i=>obtain⟨t,rfl⟩:=rc;cases e
  | str i=>obtain⟨t,rfl⟩:=rc;cases e
  | L9 i=>obtain⟨t,rfl⟩:=rc;cases e
  | O4 i=>obtain⟨t,rfl⟩:=rc;cases e
  | aR=>cases rc;cases r2;rfl
  | bl i=>cases rc;cases r2;rfl
  | ref i=>cases rc;cases r2;rfl
  | ty i=>cases rc;cases r2;rfl
 subst uc
 exact PySem.W.kia_one (tJ Z) I.uR (GY I.hok ha) e (by intro z;cases z) λtk=>⟨.bl b,H,I.tok tk,rfl,q⟩
theorem yz:cR X (.builtin "isinstance") (λvs H Q=>∃a C p xs b,vs=[.ref a,.ref p]/\Pd a C (H a)/\kc X.K C/\cU X.K H p xs/\(∀its,Vals xs its->PySem.W.kitAny X.K (.ref C) its=some b)/\Q (.bl b) H):=by
 intro pins s σ H xs us Q I r h
 obtain⟨a,C,p,ys,b,rfl,ha,Z,hT,e,q⟩:=h
 obtain⟨u,u',rfl,r1,r2⟩:=vals2 r
 cases r1
 cases r2
 obtain⟨its,rv,⟨o,g1,g2,n,g3⟩,z⟩:=I.tuple hT
 obtain⟨oc,od,Xs,osl⟩:=o
 cases g2
 cases g3
 exact PySem.W.kia_tup (tJ Z) I.uR (GY I.hok ha) g1 (e its rv) (by intro z;cases z) λtk=>⟨.bl b,H,I.tok tk,rfl,q⟩
theorem Br{tb:Tab}{tt:pB}{tc:Tab}(O:TabOk X.K tb tt tc):cX X (.builtin "isinstance") (dZ tb tt):=by
 obtain⟨r,h1,h2⟩:=JU (X:=X)
 refine⟨_,Bq.or (yz.or h1),λws vs st H m Q S rs p=>?_⟩
 unfold dZ at p
 split at p
 ·rename_i _ c d
  cases e:tb.lookup (c,d) with
  | none=>rw[e] at p;exact aa p
  | some b=>
   rw[e] at p
   obtain⟨v,v',rfl,r1,r2⟩:=pA rs
   unfold ag at r1 r2
   obtain⟨a,C,rfl,hC,ha⟩:=r1
   obtain⟨D,rfl,hD⟩:=r2
   obtain⟨z1,z3⟩:=O.own c d b C D e hC hD
   exact .inl ⟨a,C,.ref D,.ref D,b,rfl,ha,z1,rfl,z3,p _ m H Ext.refl S fB⟩
 ·rename_i _ c T
  cases e:tt.lookup (c,T) with
  | none=>rw[e] at p;exact aa p
  | some b=>
   rw[e] at p
   obtain⟨v,v',rfl,r1,r2⟩:=pA rs
   unfold ag at r1 r2
   obtain⟨a,C,rfl,hC,ha⟩:=r1
   subst r2
   obtain⟨z1,z3⟩:=O.typ c T b C e hC
   exact .inl ⟨a,C,.ty T,.type T,b,rfl,ha,z1,rfl,z3,p _ m H Ext.refl S fB⟩
 ·rename_i _ c d ds
  cases e:lZ tb c (.cls d::ds) with
  | none=>rw[e] at p;exact aa p
  | some b=>
   rw[e] at p
   obtain⟨v,v',rfl,r1,r2⟩:=pA rs
   unfold ag at r1
   obtain⟨a,C,rfl,hC,ha⟩:=r1
   have r2':=r2
   unfold ag at r2'
   obtain⟨t,xs,rfl,hT,rx⟩:=r2'
   have Z:kc X.K C:=by
    have mP:=rx
    unfold ah at mP
    obtain⟨x,r,_,rd,_⟩:=mP
    unfold ag at rd
    obtain⟨D,_,hD⟩:=rd
    unfold lZ at e
    cases q:tb.lookup (c,d) with
    | none=>rw[q] at e;cases e
    | some k=>exact(O.own c d k C D q hC hD).1
   exact .inr (.inl ⟨a,C,t,xs,b,rfl,ha,Z,cU.of hT,λits hv=>qa O hC rx hv e,p _ m H Ext.refl S fB⟩)
 ·exact .inr (.inr (h2 ws vs st H m Q S rs p))
end
section
variable {X:Cx} {pins:List (X3×Obj)} {σ:St} {H:Hp} {s:X8}
abbrev E8(X:Cx)(A':X4)(cm:Bool)(pn:List (X3×Obj))(E:X9->X8->Prop):Cx:={ X with A:=A',calm:=cm,pn:=pn,xe:=E }
theorem NG{A':X4}{cm:Bool}{pn:List (X3×Obj)}{E:X9->X8->Prop}(ok:X.Ok)(hf:A'.frames=X.A.frames)(hd:cm=true->A'.handled=none):(E8 X A' cm pn E).Ok :=
 ⟨ok.mod,ok.kind,ok.glob,ok.blt,ok.above,ok.inj,ok.has,ok.Mx,hd,hf.trans ok.frames,ok.stk,ok.SU,ok.bs,ok.GN,ok.zX,ok.D7,ok.lQ,ok.Ih⟩
theorem Bs{A':X4}{cm:Bool}{E:X9->X8->Prop}(I:Inv X pins σ H s)(hf:A'.frames=X.A.frames)(hd:cm=true->A'.handled=none):Inv (E8 X A' cm (X.pn++pins) E) [] σ H s :=
 ⟨NG I.ok hf hd,I.os,I.bare,I.base,I.loc,I.cell,I.free,I.gF,λp hp=>I.pin p (by simpa using hp),I.hok,I.len⟩
theorem oh{A':X4}{cm:Bool}{E:X9->X8->Prop}{iJ:List (X3×Obj)}(ok:X.Ok)(I:Inv (E8 X A' cm (X.pn++pins) E) iJ σ H s):Inv X pins σ H s :=
 ⟨ok,I.os,I.bare,I.base,I.loc,I.cell,I.free,I.gF,λp hp=>I.pin p (kJ _ hp),I.hok,I.len⟩
abbrev NH(X:Cx)(a:X3)(u:HO)(pn:List (X3×Obj))(E:X9->X8->Prop):Cx:={ X with A:=X.A.mark (some (.ref a)),calm:=false,pn:=pn,xe:=E,H₀:=upd X.H₀ a u }
theorem J7{a:X3}{o:Obj}{u:HO}{E:X9->X8->Prop}(I:Inv X pins σ H s)(e:H a=some (.fD o u))(n:X.s₀.heap.get? a=none):Inv (NH X a (.fD o u) (X.pn++pins) E) [] σ H s:=by
 have k:=I.ok
 have ne:∀b o,X.s₀.heap.get? b=some o->b≠a:=λb o q z=>by rw[z,n] at q;cases q
 have nf:∀b∈X.fs,b≠a:=λb hb=>let ⟨_,o,q,_⟩:=k.lQ.mem hb;ne b o q
 have up:∀b,b≠a->upd X.H₀ a (.fD o u) b=X.H₀ b:=λb h=>aw h
 have dn:∀{b:X3}{w:Option HO},upd X.H₀ a (.fD o u) b=w->w≠some (.fD o u)->X.H₀ b=w:=λ{b w} q h=>by
  by_cases z:b=a
  ·rw[z,aM] at q;exact absurd q.symm h
  ·rw[up b z] at q;exact q
 have nn:∀{b:X3},upd X.H₀ a (.fD o u) b=none->X.H₀ b=none:=λq=>dn q (by intro z;cases z)
 refine⟨⟨k.mod,k.kind,k.glob,k.blt,k.above,k.inj,k.has,k.Mx,(λz=>by cases z),k.frames,k.stk,k.SU,λb ob q=>⟨(k.bs b ob q).1,(up b (ne b ob (k.bs b ob q).1)).trans (k.bs b ob q).2⟩,k.GN,k.zX,k.D7,k.lQ,λb hb=>(up b (nf b hb)).trans (k.Ih b hb)⟩,I.os,I.bare,?_,I.loc,I.cell,I.free,I.gF,λp hp=>I.pin p (by simpa using hp),I.hok,I.len⟩
 have g:=I.base
 exact⟨λb ob q h=>g.keep b ob q (nn h),λb ob q h=>g.slot b ob q (nn h),λb ob q h=>g.free b ob q (nn h),g.there,λb xs q=>g.tups b xs (dn q (by intro z;cases z)),λb ob v q=>by
  by_cases z:b=a
  ·subst z
   have q':upd X.H₀ b (.fD o u) b=some (.fD ob v):=q
   rw[aM] at q'
   cases q'
   exact e
  ·exact g.iF b ob v ((up b z).symm.trans q),λb ps q=>g.jS b ps (dn q (by intro z;cases z))⟩
theorem Bt{a:X3}{o:Obj}{u:HO}{E:X9->X8->Prop}{iJ:List (X3×Obj)}(ok:X.Ok)(n:J6 X a)(I:Inv (NH X a (.fD o u) (X.pn++pins) E) iJ σ H s):Inv X pins σ H s:=by
 have ne:∀b o,X.s₀.heap.get? b=some o->b≠a:=λb o q z=>by rw[z,n.1] at q;cases q
 have up:∀b,b≠a->(NH X a (.fD o u) (X.pn++pins) E).H₀ b=X.H₀ b:=λb h=>aw h
 have g:=I.base
 exact⟨ok,I.os,I.bare,⟨λb ob q h=>g.keep b ob q ((up b (ne b ob q)).trans h),λb ob q h=>g.slot b ob q ((up b (ne b ob q)).trans h),λb ob q h=>g.free b ob q ((up b (ne b ob q)).trans h),g.there,λb xs q=>g.tups b xs ((up b λz=>n.2.1 xs (z ▸ q)).trans q),λb ob v q=>g.iF b ob v ((up b λz=>n.2.2.1 ob v (z ▸ q)).trans q),λb ps q=>g.jS b ps ((up b λz=>n.2.2.2 ps (z ▸ q)).trans q)⟩,I.loc,I.cell,I.free,I.gF,λp hp=>I.pin p (kJ _ hp),I.hok,I.len⟩
def J8(X:Cx):Prop:=X.A.handled=none\/∃a o u,X.A.handled=some (.ref a)/\yw o/\X.H₀ a=some (.fD o u)
def yA(A:X4)(H:Hp):Prop:=A.handled=none\/∃a o u,A.handled=some (.ref a)/\yw o/\H a=some (.fD o u)
theorem J8.at(h:J8 X)(I:Inv X pins σ H s):yA X.A H:=h.imp id λ⟨a,o,u,h1,h2,h3⟩=>⟨a,o,u,h1,h2,I.base.iF _ _ _ h3⟩
theorem NI{A':X4}{cm:Bool}{E:X9->X8->Prop}{D:Ends}{f:Flow}(ok:X.Ok)(h:SP (E8 X A' cm (X.pn++pins) E) [] D f s):SP X pins D f s:=by
 cases f with
 | next=>obtain⟨σ',H',I,q⟩:=h;exact⟨σ',H',oh ok I,q⟩
 | brk=>obtain⟨σ',H',I,q⟩:=h;exact⟨σ',H',oh ok I,q⟩
 | cont=>obtain⟨σ',H',I,q⟩:=h;exact⟨σ',H',oh ok I,q⟩
 | ret u=>obtain⟨v,σ',H',I,r,q⟩:=h;exact⟨v,σ',H',oh ok I,r,q⟩
end
theorem qb{X:Cx}{pins:List (X3×Obj)}{σ:St}{H:Hp}{s:X8}{M:Model}{A:X4}{E:X9->X8->Prop}{i:Nat}{n:Str}{pos:Pos}{Q:Unit->X8->Prop}(I:Inv X pins σ H s)(hN:X.N.Nodup)(hi:X.N[i]? =some n)(hx:X.env.scope.names.lookup n=some .local)
  (k:∀s',Inv X pins (σ.set i none) H s'->Q () s'):Yk M A (do bindName X.env n .none;unbindBehindTheSuite X.env n pos) Q E s:=by
 obtain⟨m,ns,lk⟩:=id I.loc
 have pl:(X.env.scope.kind == .class||(X.env.scope.kind == .module&&X.env.locals != X.env.globals))=false:=by rw[I.ok.kind];rfl
 have up:∀b o,X.s₀.heap.get? b=some o->b≠X.env.locals:=λb o e=>old_ne I e
 refine wpAny_nameGoes_keeps hx ns pl λh2 v Vl sb=>k _ ?_
 obtain⟨oL,_,_,SX,_⟩:=id ns
 refine⟨I.ok,I.os,I.bare,⟨λb o e f hb hx=>(sb.2 b (up b o e)).trans (I.base.keep b o e f hb hx),λb o e f hb hx=>?_,I.base.free,λb o e hx=>?_,I.base.tups,I.base.iF,I.base.jS⟩,⟨_,Vl,λj y w e1 e2 e3=>?_⟩,λy c e=>?_,I.free,I.gF,λp hp=>?_,λb u e=>?_,by simpa using I.len⟩
 ·obtain⟨sl,e1⟩:=I.base.slot b o e f hb hx
  exact⟨sl,(sb.2 b (up b o e)).trans e1⟩
 ·obtain⟨o1,e1⟩:=I.base.there b o e hx
  exact⟨o1,(sb.2 b (up b o e)).trans e1⟩
 ·have ji:j≠i:=λz=>by
   subst z
   have:j < σ.length:=by have q:=(List.getElem?_eq_some_iff.mp e2).1;simpa using q
   rw[gS this] at e2
   cases e2
  rw[bG (az ji)] at e2
  obtain⟨u,r,q⟩:=lk j y w e1 e2 e3
  refine⟨u,r,?_⟩
  rcases q with ⟨q1,q2⟩ | ⟨q1,c,q2,z⟩
  ·have yn:y≠n:=λz=>ji (nL hN e1 (z ▸ hi))
   exact .inl ⟨q1,by simp[yn,q2]⟩
  ·exact .inr ⟨q1,c,q2,z.sameBut sb (I.D8 y c q2)⟩
 ·obtain⟨w,z⟩:=I.cell y c e
  exact⟨w,z.sameBut sb (I.D8 y c e)⟩
 ·obtain⟨e,f,ne,nf,d⟩:=I.pin p hp
  exact⟨(sb.2 p.1 ne).trans e,f,ne,nf,d⟩
 ·refine(I.hok b u e).stay (λc w hc q=>(sb.2 c λz=>?_).trans q) (λ_ q=>q) λ_ _ q=>q
  have fr:=I.free
  rcases hc with hc | hc
  ·rw[<-z,hc,e] at fr;cases fr
  ·rw[<-z,hc] at fr;cases fr
def yB(cat:PySem.Str->Option Bool)(i:Nat)(gb gs:GS):GS:=λρ st=>match gb ρ st with
 | .err c ρ' st'=>(match cat c with
  | some true=>(match gs (ρ'.set i (some (.j7 c))) st' with
   | .nx ρ2 st2=> .nx (ρ2.set i none) st2
   | .rt w st2=> .rt w st2
   | _=> .bad)
  | _=> .bad)
 | r=>r
theorem ay.unset{K:PySem.W.Frag}{m:Mp}{H:Hp}{ρ:bw}{σ:St}(R:ay K m H ρ σ)(i:Nat):ay K m H (ρ.set i none) (σ.set i none):=by
 refine⟨by simp[R.len],λj w e=>?_⟩
 have ji:i≠j:=λz=>by
  subst z
  have:i < ρ.length:=by have q:=(List.getElem?_eq_some_iff.mp e).1;simpa using q
  rw[gS this] at e
  cases e
 rw[bG ji] at e ⊢
 exact R.get j w e
section
variable {X:Cx}
theorem yC{M:Model}{A:X4}{E:X9->X8->Prop}{s:X8}{base h:Heap}{env:Env}{outer:List Env}{L a:X3}{cls:X9}{args:List X9}{Q:Unit->X8->Prop}(hfr:A.frames=some (env::outer))(hf:env.frame=some L)
  (st:base.StaysIn h)(fs:h.FunFrames base (env::outer))(mk:rf h s.heap a cls args)(k:∀h' a0,qZ base (env::outer) a cls a0 h'->s.heap.UpToSlots h'->Q () { s with heap:=h' }) :
  Yk M A (noteFrame (.ref a) env) (λ_ s2=>Yk M A (setFlight (.ref a) none) Q E s2) E s:=by
 exact p6 hfr hf st fs mk λh1 t hd1 up1=>sV hd1 λh2 zQ ND=>k h2 t zQ (up1.trans ND)
theorem iO.er{A:X4}{b:Bool}{E:X9->X8->Prop}{pins iJ:List (X3×Obj)}{H H':Hp}{s s':X8}{cls e:X9}(f:iO (E8 X A b (X.pn++pins) E) iJ H s H' cls e s'):iO X pins H s H' cls e s' :=
 let ⟨a,a0,nt,B,ch,e1,e2,e3,hch,r⟩:=f
 ⟨a,a0,nt,B,ch,e1,e2,e3,λb hb=>let ⟨h1,h2,h3,h4,h5,h6⟩:=hch b hb;⟨h1,h2,h3,h4,h5,λp hp=>h6 p (kJ _ hp)⟩,r⟩
theorem land{pins:List (X3×Obj)}{σ:St}{Hc H':Hp}{sc s':X8}{C:X3}{e:X9}{E:X9->X8->Prop}{Q:Unit->X8->Prop}(K0:QS X)(I:Inv X pins σ Hc sc)
  (r:iO X pins Hc sc H' (.ref C) e s'\/(H'=Hc/\∃a args,e= .ref a/\s'.os=sc.os/\s'.gens=sc.gens/\rf sc.heap s'.heap a (.ref C) args))
  (k:∀(a:X3)(a0:X9)(B h5:Heap),e= .ref a->qZ B X.stack a (.ref C) a0 h5->(∀h6 tk,qZ B X.stack a (.ref C) a0 h6->h5.UpToSlots h6->∃o,yw o/\Inv X pins σ (upd H' a (.fD o (.ext (iN a C)))) { s' with heap:=h6,toks:=tk })->H' a=none->J6 X a->Q () { s' with heap:=h5 }) :
  Yk (model X.prog X.w) X.A (noteFrame e X.env) (λ_ s2=>Yk (model X.prog X.w) X.A (setFlight e none) Q E s2) E s':=by
 have hfr:X.A.frames=some (X.env::X.outer):=by rw[I.ok.frames,K0.st]
 rcases r with ⟨a,a0,nt,B,ch,rfl,os,bare,hch,un,hok,fl,sY⟩ | ⟨rfl,a,args,rfl,ho,hg,M⟩
 ·rw[K0.st] at fl
  refine tm hfr K0.fr fl λh4 Vm QT=>?_
  refine sV Vm λh5 zR J9=>?_
  rw[<-K0.st] at zR
  exact k a a0 B h5 rfl zR (λh6 tk NJ NK=>(jI I os bare hch un hok NJ ((QT.trans J9).trans NK) sY).1) (jI (tk:=0) I os bare hch un hok zR (QT.trans J9) sY).2.1 ((jI (tk:=0) I os bare hch un hok zR (QT.trans J9) sY).2.2 K0.ex)
 ·have fs:sc.heap.FunFrames (PySem.W.hideAll sc.heap (frs X.stack)) (X.env::X.outer):=by
   rw[<-K0.st]
   exact PySem.W.funFrames_hide I.stack λenv he b hb=>List.mem_filterMap.mpr ⟨env,he,hb⟩
  refine yC (base:=PySem.W.hideAll sc.heap (frs X.stack)) hfr K0.fr (λb o q=>PySem.W.of_hideAll _ q) fs M λh5 a0 zR J9=>?_
  rw[<-K0.st] at zR
  have bare:AllBare s'.gens:=by rw[hg];exact I.bare
  have hok:iE X.prog X.w H' (PySem.W.hideAll sc.heap (frs X.stack)):=tu I.hok I.kI
  have sY:∀b o,sc.heap.get? b=some o->b∉frs X.stack->b∉([]:List X3)->∃o',(PySem.W.hideAll sc.heap (frs X.stack)).get? b=some o'/\(H' b=none->o'=o):=λb o q hb _=>⟨o,PySem.W.hideAll_get _ q hb,λ_=>rfl⟩
  have nil:∀b∈([]:List X3),fb X pins H' b:=λb z=>by cases z
  exact k a a0 _ h5 rfl zR (λh6 tk NJ NK=>(jI I ho bare nil (Un.kept M.keeps) hok NJ (J9.trans NK) sY).1) (jI (tk:=0) I ho bare nil (Un.kept M.keeps) hok zR J9 sY).2.1 ((jI (tk:=0) I ho bare nil (Un.kept M.keeps) hok zR J9 sY).2.2 K0.ex)
theorem J_{x n:Str}{D:X3}{i:Nat}{body suite:List Stmt}{b₀:Stmt}{gb gs:GS}{np hp pos:Pos}{tb:Tab}{tt:pB}{tc:Tab}(K0:QS X)(hN:X.N.Nodup)(hi:X.N[i]? =some n)(hx:X.env.scope.names.lookup n=some .local)(hc:X.calm=true)(O:TabOk X.K tb tt tc)
  (hg:Gl X x)(hm:X.mg x=some (.ref D))(hD:ClsAt X.K x D)(hd:(x == ("__debug__":Str))=false)
  (hb:∀(pn:List (X3×Obj))(E:X9->X8->Prop),j8 (E8 X X.A true pn E) body gb)(hs:∀(a:X3)(o:Obj)(u:HO)(pn:List (X3×Obj))(E:X9->X8->Prop),yw o->j8 (NH X a (.fD o u) pn E) (b₀::suite) gs) :
  JS X (.Try body [.ExceptHandler (some (.Name x np)) (some n) (b₀::suite) hp] [] [] pos) (yB (λc=>tc.lookup (c,x)) i gb gs):=by
 intro ρ st σ H m D' S R p pins s I
 refine wpAny_Try_except ?_
 let hx':X9->X8->Prop:=λe s1=>Yk (model X.prog X.w) X.A (noteFrame e X.env) (λ_ s2=>Yk (model X.prog X.w) X.A (setFlight e none) (λ_ s3=>
  Yk (model X.prog X.w) X.A (handleBy e X.env [.ExceptHandler (some (.Name x np)) (some n) (b₀::suite) hp]) (SP X pins D') X.xe s3) X.xe s2) X.xe s1
 have hA:X.A.handled=none:=I.ok.hd hc
 have Ib:Inv (E8 X X.A true (X.pn++pins) hx') [] σ H s:=Bs I rfl λ_=>hA
 have post:aD (E8 X X.A true (X.pn++pins) hx') m H (gb ρ st) D':=by
  unfold yB at p
  cases eb:gb ρ st with
  | nx ρ1 st1=>rw[eb] at p;exact p
  | rt w1 st1=>rw[eb] at p;exact p
  | bk ρ1 st1=>rw[eb] at p;exact p
  | ct ρ1 st1=>rw[eb] at p;exact p
  | bad=>rw[eb] at p;exact p
  | err c ρ1 st1=>
   rw[eb] at p
   dsimp only at p
   cases ec:tc.lookup (c,x) with
   | none=>rw[ec] at p;exact aa p
   | some bc=>
    cases bc with
    | false=>rw[ec] at p;exact aa p
    | true=>
     rw[ec] at p
     dsimp only at p
     intro σ1 m1 H1 e s1 e1 S1 R1 rz
     obtain⟨C,iJ,Hc,sc,hC,Ic,rz⟩:=rz
     obtain⟨zC,zD,NL⟩:=O.cat c x true C D ec hC hD
     refine land K0 (oh I.ok Ic) (rz.imp iO.er id) λa a0 B h5 ea zR inv hn hnew=>?_
     subst ea
     obtain⟨ox,_,I5⟩:=inv h5 s1.toks zR (JY _)
     obtain⟨o5,Vn,hc5,_⟩:=(I5.hok a _ aM).2.1
     have Im:=Bs (A':=X.A.mark (some (.ref a))) (cm:=false) (E:=λ_ _=>False) I5 rfl (λz=>by cases z)
     refine wpAny_handleBy_cons (codeAny_handlers_test (mY Im hg hm ?_ hd)) (by intro q;cases q)
     refine yx (b:=true) Im.uR zC zD NL Vn hc5 ?_
     refine codeAny_handlers_suite_as ?_
     refine sV zR λh6 NJ NK=>?_
     obtain⟨oy,nx,I6⟩:=inv h6 s1.toks NJ NK
     have e6:Ext X.K m1 H1 m1 (upd H1 a (.fD oy (.ext (iN a C)))):=Ext.upd (.inl hn)
     have S6:bg X.K m1 st1 (upd H1 a (.fD oy (.ext (iN a C)))):=S1.fresh hn
     have rv:ag X.K m1 (upd H1 a (.fD oy (.ext (iN a C)))) (.j7 c) (.ref a):=by unfold ag;obtain⟨vs,d1,d2⟩:=nx;exact⟨a,C,rfl,hC,oy,vs,aM,d1,d2⟩
     refine kK (v:=.ref a) I6 hN hi (.inl hx) rfl (λs7 I7=>?_) (.inr hx)
     have Pj:=J7 (E:=λ_ _=>False) I7 aM hnew.1
     cases es:gs (ρ1.set i (some (.j7 c))) st1 with
     | nx ρ2 st2=>
      rw[es] at p
      let D2:Ends:={ nx:=λσ' H'=>D'.nx (σ'.set i none) H',rt:=λ_ _=>False,bk:=λ_ _=>False,ct:=λ_ _=>False }
      have go:=hs a oy (.ext (iN a C)) (X.pn++pins) (λ_ _=>False) nx (ρ1.set i (some (.j7 c))) st1 (σ1.set i (some (.ref a))) _ m1 D2 S6 ((R1.mono e6).set i rv) (by
       rw[es]
       exact λσ' m' H' e' S' R'=>p (σ'.set i none) m' H' (e1.trans (e6.trans e')) S' (ay.unset R' i)) [] s7 Pj
      refine Yo go (λf s8 h8=>?_) λ_ _ z=>z.elim
      cases f with
      | next=>
       obtain⟨σ8,H8,I8,q8⟩:=h8
       exact qb (Bt I.ok hnew I8) hN hi hx λs9 I9=>⟨_,H8,I9,q8⟩
      | brk=>obtain⟨_,_,_,q8⟩:=h8;exact q8.elim
      | cont=>obtain⟨_,_,_,q8⟩:=h8;exact q8.elim
      | ret u=>obtain⟨_,_,_,_,_,q8⟩:=h8;exact q8.elim
     | rt w2 st2=>
      rw[es] at p
      let D2:Ends:={ nx:=λ_ _=>False,rt:=D'.rt,bk:=λ_ _=>False,ct:=λ_ _=>False }
      have go:=hs a oy (.ext (iN a C)) (X.pn++pins) (λ_ _=>False) nx (ρ1.set i (some (.j7 c))) st1 (σ1.set i (some (.ref a))) _ m1 D2 S6 ((R1.mono e6).set i rv) (by
       rw[es]
       exact λv' m' H' e' S' R'=>p v' m' H' (e1.trans (e6.trans e')) S' R') [] s7 Pj
      refine Yo go (λf s8 h8=>?_) λ_ _ z=>z.elim
      cases f with
      | next=>obtain⟨_,_,_,q8⟩:=h8;exact q8.elim
      | brk=>obtain⟨_,_,_,q8⟩:=h8;exact q8.elim
      | cont=>obtain⟨_,_,_,q8⟩:=h8;exact q8.elim
      | ret u=>
       obtain⟨v8,σ8,H8,I8,r8,q8⟩:=h8
       exact qb (Bt I.ok hnew I8) hN hi hx λs9 I9=>⟨v8,_,H8,I9,r8,q8⟩
     | bk ρ2 st2=>rw[es] at p;exact aa p
     | ct ρ2 st2=>rw[es] at p;exact aa p
     | err c2 ρ2 st2=>rw[es] at p;exact aa p
     | bad=>rw[es] at p;exact aa p
 refine Yo (hb (X.pn++pins) hx' ρ st σ H m D' S R post [] s Ib) (λf s1 h1=>?_) λe s1 h1=>h1
 have h2:=NI I.ok h1
 cases f with
 | next=>exact wpAny_execs_nil h2
 | brk=>exact h2
 | cont=>exact h2
 | ret u=>exact h2
end
section
variable {X:Cx}
def NM:List Wv->Hs->Re Wv
 | [.int i],st=>if i.natAbs.log2 < 1920 then .ok (.str (toString i:String)) st else .bad
 | _,_=> .bad
def iU(o v:Wv)(st:Hs):Re Wv:=match o with
 | .ref l=>(match st[l]? with
  | some (.lst ws)=>if ws.length < lim then .ok .aR (st.set l (.lst (ws++[v]))) else .bad
  | _=> .bad)
 | _=> .bad
def Ka(o v:Wv)(st:Hs):Re Wv:=match o,v with
 | .ref l,.ref k=>(match st[l]?,st[k]? with
  | some (.lst ws),some (.lst zs)=>if ws.length+zs.length<=lim then .ok .aR (st.set l (.lst (ws++zs))) else .bad
  | _,_=> .bad)
 | _,_=> .bad
def jU(mt:Wv->Wv->Hs->Re Wv)(go ga:GE):GE:=λρ st=>(go ρ st).bind λo st1=>match o with
 | .ref l=>(match ai st1 l with
  | some _=>(ga ρ st1).bind λv st2=>(mt o v st2).kL
  | none=> .bad)
 | _=> .bad
def Pk(X:Cx)(id:String)(mt:Wv->Wv->Hs->Re Wv):Prop:=∃r,QC X id r/\∀(o w:Wv)(x v:V)(st:Hs)(H:Hp)(m:Mp)(Q:VK),bg X.K m st H->ag X.K m H o x->ag X.K m H w v->cq X.K m H (mt o w st) Q->r x [v] H Q
theorem Bu:Pk X "list.append" iU:=⟨_,yi,λo w x v st H m Q S ro rw' p=>by
 cases o with
 | ref l=>
  unfold ag at ro
  obtain⟨a,rfl,ha⟩:=ro
  have p':cq X.K m H (match st[l]? with | some (.lst ws)=>if ws.length < lim then .ok .aR (st.set l (.lst (ws++[w]))) else .bad | _=> .bad) Q:=p
  cases e:st[l]? with
  | none=>rw[e] at p';exact aa p'
  | some ob=>
   cases ob with
   | dct kvs=>rw[e] at p';exact aa p'
   | dP kvs=>rw[e] at p';exact aa p'
   | wI kvs=>rw[e] at p';exact aa p'
   | pk ns=>rw[e] at p';exact aa p'
   | lst ws=>
    rw[e] at p'
    dsimp only at p'
    by_cases c:ws.length < lim
    ·rw[if_pos c] at p'
     obtain⟨xs,h1,h2⟩:=S.kT ha e
     have e4:Ext X.K m H m (upd H a (.lst (xs++[v]))):=Ext.upd (.inr ⟨xs,h1⟩)
     exact⟨a,xs,v,rfl,rfl,h1,by rw[<-h2.length];exact vb c,p' _ m _ e4 (S.write ha e (h2.append (ah.cons rw' ah.nil))) wN⟩
    ·rw[if_neg c] at p';exact aa p'
 | _=>exact aa p⟩
theorem Kb:Pk X "list.extend" Ka:=⟨_,yj,λo w x v st H m Q S ro rw' p=>by
 cases o with
 | ref l=>
  cases w with
  | ref k=>
   unfold ag at ro rw'
   obtain⟨a,rfl,ha⟩:=ro
   obtain⟨b,rfl,hb⟩:=rw'
   have p':cq X.K m H (match st[l]?,st[k]? with | some (.lst ws),some (.lst zs)=>if ws.length+zs.length<=lim then .ok .aR (st.set l (.lst (ws++zs))) else .bad | _,_=> .bad) Q:=p
   cases e:st[l]? with
   | none=>rw[e] at p';exact aa p'
   | some ob=>
    cases ob with
    | dct kvs=>rw[e] at p';exact aa p'
    | dP kvs=>rw[e] at p';exact aa p'
    | wI kvs=>rw[e] at p';exact aa p'
    | pk ns=>rw[e] at p';exact aa p'
    | lst ws=>
     cases e2:st[k]? with
     | none=>rw[e,e2] at p';exact aa p'
     | some Vo=>
      cases Vo with
      | dct kvs=>rw[e,e2] at p';exact aa p'
      | dP kvs=>rw[e,e2] at p';exact aa p'
      | wI kvs=>rw[e,e2] at p';exact aa p'
      | pk ns=>rw[e,e2] at p';exact aa p'
      | lst zs=>
       rw[e,e2] at p'
       dsimp only at p'
       by_cases c:ws.length+zs.length<=lim
       ·rw[if_pos c] at p'
        obtain⟨xs,h1,h2⟩:=S.kT ha e
        obtain⟨ys,g1,g2⟩:=S.kT hb e2
        have e4:Ext X.K m H m (upd H a (.lst (xs++ys))):=Ext.upd (.inr ⟨xs,h1⟩)
        exact⟨a,b,xs,ys,rfl,rfl,h1,g1,by rw[<-h2.length,<-g2.length];exact dg c,p' _ m _ e4 (S.write ha e (h2.append g2)) wN⟩
       ·rw[if_neg c] at p';exact aa p'
  | _=>exact aa p
 | _=>exact aa p⟩
theorem wW{x name:Str}{id:String}{e:Expr}{go ga:GE}{p apos cpos:Pos}{mt:Wv->Wv->Hs->Re Wv}(hm:Pk X id mt)(slot:Slot "list" name id)(hty:typeOf (.builtin id)=pure (.type "method_descriptor"))(ho:JE X (.Name x p) go)(ha:JE X e ga)
  (hst:Yj [e] X.env=[(false,eval e X.env)])(hline:(apos.endLine == cpos.line)=true):JE X (.Call (.Attribute (.Name x p) name apos) [e] [] cpos) (jU mt go ga):=by
 obtain⟨r,h1,h2⟩:=hm
 have hfew:((backTo cpos (Yj [e] X.env)).all (λx=> !x.1)&&(backToKw cpos (keywordEach [] X.env)).all (λx=>x.1.isSome)&&decide ([e].length+([]:List Keyword).length+(if([]:List Keyword).isEmpty then 0 else 1) < 30))=true:=by
  rw[hst];rfl
 refine JE.of (M_ PySem.F.plainAttrs_list slot hty h1 aJ fo rfl hfew hline hst rfl) λρ st σ H m Q S R p=>?_
 refine ho.go S R (au.bind p) λo st1 v m1 H1 p1 e1 S1 ro=>?_
 cases o with
 | ref l=>
  dsimp only at p1
  cases el:ai st1 l with
  | none=>rw[el] at p1;exact aa p1
  | some Xt=>
   rw[el] at p1
   dsimp only at p1
   have Tu:=ro
   unfold ag at Tu
   obtain⟨a,rfl,hla⟩:=Tu
   obtain⟨xs,hq,_⟩:=S1.read hla el
   refine⟨.inl ⟨rfl,xs,hq⟩,?_⟩
   refine(wM ha AY hst).go S1 (R.mono e1) (ok:=λws st2=>au X σ m H (match ws with | [w]=>(mt (.ref l) w st2).kL | _=> .bad) (Mc X.K m H Q)) ?_ λws st2 vs m2 H2 p2 e2 S2 rs=>?_
   ·have p3:=(au.bind p1).imp e1 (λ_ _ q=>q)
    show au X σ m1 H1 ((ga ρ st1).bind λx st1=>(aq ρ st1).bind λxs st2=> .ok (x::xs) st2) _
    cases eg:ga ρ st1 with
    | ok w st2=>rw[eg] at p3;exact p3
    | err c st2=>rw[eg] at p3;exact p3
    | bad=>rw[eg] at p3;exact p3
   ·match ws,rs,p2 with
    | [],rs,p2=>exact aa p2
    | [w],rs,p2=>
     obtain⟨v2,rfl,Mj⟩:=kY rs
     exact h2 (.ref l) w (.ref a) v2 st2 H2 m2 Q S2 (ag.mono e2 _ _ ro) Mj (cq.shift (au.kL p2) (e1.trans e2))
    | _::_::_,rs,p2=>exact aa p2
 | _=>exact aa p1
end
section
variable {X:Cx}
def NN:List Wv->Hs->Re Wv
 | [.str z],st=> .ok (.str z) st
 | ws,st=>NM ws st
def QU:List Wv->Hs->Re Wv
 | [.int i,.int j],st=> .ok (.int (if j > i then j else i)) st
 | _,_=> .bad
def QV:List Wv->Hs->Re Wv
 | [.int i,.int j],st=> .ok (.int (if j < i then j else i)) st
 | _,_=> .bad
def rC:List Nat->List Wv->bw->Option bw
 | [],[],ρ=>some ρ
 | i::is,w::ws,ρ=>rC is ws (ρ.set i (some w))
 | _,_,_=>none
def Hl(is:List Nat)(w:Wv)(ρ:bw):Option bw:=match w with
 | .tup ws=>rC is ws ρ
 | _=>none
def QW:List Nat->GR
 | []=>L2.aq
 | i::is=>L2.ae (sM i) (QW is)
theorem iV{m:Mp}{H:Hp}{Q:St->Hp->Prop}:∀{is:List Nat}{ws:List Wv}{xs:List V}{ρ ρ':bw}{σ:St},ah X.K m H ws xs->ay X.K m H ρ σ->rC is ws ρ=some ρ'->(∀σ',ay X.K m H ρ' σ'->Q σ' H)->QW is xs σ H Q
 | [],[],xs,ρ,ρ',σ,r,R,e,k=>by
  unfold ah at r
  subst r
  cases e
  exact⟨rfl,k σ R⟩
 | i::is,w::ws,xs,ρ,ρ',σ,r,R,e,k=>by
  unfold ah at r
  obtain⟨x,rr,rfl,h1,h2⟩:=r
  exact⟨x,rr,rfl,iV (is:=is) h2 (R.set i h1) e k⟩
 | [],_::_,_,_,_,_,_,_,e,_=>by cases e
 | _::_,[],_,_,_,_,_,_,e,_=>by cases e
theorem iW:∀{is:List Nat}{ws:List Wv}{ρ ρ':bw},rC is ws ρ=some ρ'->ws.length=is.length
 | [],[],_,_,_=>rfl
 | _::is,_::ws,_,_,e=>congrArg (· +1) (iW (is:=is) (ws:=ws) e)
 | [],_::_,_,_,e=>by cases e
 | _::_,[],_,_,e=>by cases e
inductive Slots(X:Cx):List Expr->List Nat->Prop
 | nil:Slots X [] []
 | cons {x:Str} {p:Pos} {i:Nat} {es:List Expr} {is:List Nat}:X.N[i]? =some x->(Loc X.env.scope x/\(X.fn x=true\/X.env.scope.names.lookup x=some .local))->Slots X es is->Slots X (.Name x p::es) (i::is)
theorem gL(hN:X.N.Nodup):∀{es:List Expr}{is:List Nat},Slots X es is->MJ X es (QW is)
 | _,_,.nil=>Ef
 | _,_,.cons h1 h2 r=>Ag (kM hN h1 h2.1 h2.2) (gL hN r) rfl
theorem iX:∀{es:List Expr}{is:List Nat},Slots X es is->(assignEach es X.env).length=is.length
 | _,_,.nil=>rfl
 | _,_,.cons _ _ r=>congrArg (· +1) (iX r)
theorem gM:∀{es:List Expr}{is:List Nat},Slots X es is->(assignEach es X.env).findIdx? (·.1)=none
 | _,_,.nil=>rfl
 | _,_,.cons (x:=x) (p:=p) (es:=es) _ _ r=>by
  have q:=gM r
  show List.findIdx? _ ((false,assign (.Name x p) X.env)::assignEach es X.env)=none
  rw[List.findIdx?_cons]
  simp[q]
def qc(is:List Nat)(g:GE):GS:=λρ st=>(g ρ st).aY ρ λw st'=>match Hl is w ρ with
 | some ρ'=> .nx ρ' st'
 | none=> .bad
theorem E9{es:List Expr}{is:List Nat}{k:Nat}{e:Expr}{g:GE}{pos pos':Pos}(hN:X.N.Nodup)(hc:X.calm=true)(sl:Slots X es is)(h:JE X e g)(hs:swapsWith e (some (.Tuple es k pos')) pos.line X.env=pure false)(hw:swappedStores [.Tuple es k pos'] e X.env=pure none) :
  JS X (.Assign [.Tuple es k pos'] e pos) (qc is g) :=
 JS.of (Ah aJ (qI hc (gL hN sl) (iX sl) (gM sl)) (by unfold swapsWithSole;exact hs) hw rfl) λρ st σ H m D S R p=>h.go S R (aD.bW R p) λw st1 v m1 H1 q e1 S1 r1=>by
  cases w with
  | tup ws=>
   have q':aD X m H (match rC is ws ρ with | some ρ'=> .nx ρ' st1 | none=> .bad) D:=q
   cases e2:rC is ws ρ with
   | none=>rw[e2] at q';exact aa q'
   | some ρ'=>
    rw[e2] at q'
    unfold ag at r1
    obtain⟨a,xs,rfl,f1,f2⟩:=r1
    exact⟨a,xs,rfl,cU.of f1,by rw[<-f2.length];exact iW e2,iV f2 (R.mono e1) e2 λσ' R'=>q' σ' m1 H1 e1 S1 R'⟩
  | _=>exact aa q
open Classical in
def qd(is:List Nat)(gb:GS)(l:Nat)(all:List Wv):List Wv->bw->Hs->Rs
 | [],ρ,st=> .nx ρ st
 | w::r,ρ,st=>match Hl is w ρ with
  | none=> .bad
  | some ρ1=>match gb ρ1 st with
   | .nx ρ' st'=>if ai st' l=some all then qd is gb l all r ρ' st' else .bad
   | .ct ρ' st'=>if ai st' l=some all then qd is gb l all r ρ' st' else .bad
   | .bk ρ' st'=> .nx ρ' st'
   | .rt w st'=> .rt w st'
   | .err c ρ' st'=> .err c ρ' st'
   | .bad=> .bad
def Hm(is:List Nat)(gi:GE)(gb:GS):GS:=λρ st=>(gi ρ st).aY ρ λw st1=>match w with
 | .ref l=>(match ai st1 l with | some ws=>qd is gb l ws ws ρ st1 | none=> .bad)
 | _=> .bad
theorem E_{es:List Expr}{is:List Nat}{k:Nat}{iter:Expr}{body:List Stmt}{gi:GE}{gb:GS}{pos pos':Pos}(hN:X.N.Nodup)(hp:PassesOwn (model X.prog X.w) X.A X.env X.xe)(hc:X.calm=true)(sl:Slots X es is)(hi:JE X iter gi)(hb:j8 X body gb)
  (hs:∀x,Yf iter X.env x=pure x):JS X (.For (.Tuple es k pos') iter body [] pos) (Hm is gi gb):=by
 refine JS.of (jX hp hc (Eg aJ) (qI hc (gL hN sl) (iX sl) (gM sl)) dE hs) λρ st σ H m D S R p=>?_
 refine hi.go S R (aD.bW R p) λw st1 v m1 H1 p1 e1 S1 rw'=>?_
 cases w with
 | ref l=>
  have p1':aD X m H (match ai st1 l with | some ws=>qd is gb l ws ws ρ st1 | none=> .bad) D:=p1
  unfold ag at rw'
  obtain⟨a,rfl,hla⟩:=rw'
  cases el:ai st1 l with
  | none=>rw[el] at p1';exact aa p1'
  | some ws=>
   rw[el] at p1'
   obtain⟨J3,q0,_⟩:=S1.read hla el
   refine⟨a,rfl,⟨J3,q0⟩,?_⟩
   let Pv:Nat->St->Hp->Prop:=λk σ H=>∃ρ st m',Ext X.K m1 H1 m' H/\bg X.K m' st H/\ay X.K m' H ρ σ/\ai st l=some ws/\aD X m' H (qd is gb l ws (ws.drop k) ρ st) D
   refine⟨λk n σ H=>n=ws.length - k/\k<=ws.length/\Pv k σ H,⟨ws.length,by simp,bx _,ρ,st1,m1,Ext.refl,S1,R.mono e1,el,aD.shift p1' e1⟩,?_⟩
   rintro k n σ2 H2 ⟨rfl,hk,ρ2,st2,m2,e2,S2,R2,l2,p2⟩
   obtain⟨xs,hq,rws⟩:=S2.read (e2.pre _ _ hla) l2
   have hlen:=rws.length
   by_cases hlt:k < ws.length
   ·have hx':k < xs.length:=by omega
    refine .inr ⟨⟨xs,xs[k],hq,by simp[hx']⟩,Pv (k+1),λσ' H' p'=>⟨ws.length - (k+1),by omega,rfl,hlt,p'⟩,λx H' y=>?_⟩
    obtain⟨ee,y⟩:=y
    subst ee
    have ey:=y xs hq
    have ed:ws.drop k=ws[k]::ws.drop (k+1):=lV hlt
    obtain⟨x',ex',mP⟩:=rws.get (i:=k) (w:=ws[k]) (cW hlt)
    rw[ey] at ex'
    cases ex'
    rw[ed] at p2
    unfold qd at p2
    cases eb:ws[k] with
    | tup us=>
     rw[eb] at p2 mP
     dsimp only[Hl] at p2
     cases e5:rC is us ρ2 with
     | none=>rw[e5] at p2;exact aa p2
     | some ρ5=>
      rw[e5] at p2
      dsimp only at p2
      unfold ag at mP
      obtain⟨b,ys,rfl,f1,f2⟩:=mP
      refine⟨b,ys,rfl,cU.of f1,by rw[<-f2.length];exact iW e5,iV f2 R2 e5 λσ5 R5=>?_⟩
      refine hb _ st2 _ _ m2 _ S2 R5 ?_
      cases eg:gb ρ5 st2 with
      | nx ρ3 st3=>
       rw[eg] at p2
       by_cases c:ai st3 l=some ws
       ·simp only[if_pos c] at p2
        exact λσ3 m3 H3 e3 S3 R3=>⟨ρ3,st3,m3,e2.trans e3,S3,R3,c,aD.shift p2 e3⟩
       ·simp only[if_neg c] at p2;exact aa p2
      | ct ρ3 st3=>
       rw[eg] at p2
       by_cases c:ai st3 l=some ws
       ·simp only[if_pos c] at p2
        exact λσ3 m3 H3 e3 S3 R3=>⟨ρ3,st3,m3,e2.trans e3,S3,R3,c,aD.shift p2 e3⟩
       ·simp only[if_neg c] at p2;exact aa p2
      | bk ρ3 st3=>rw[eg] at p2;exact p2
      | rt w3 st3=>rw[eg] at p2;exact p2
      | err c3 ρ3 st3=>rw[eg] at p2;exact p2
      | bad=>rw[eg] at p2;exact p2
    | _=>rw[eb] at p2;exact aa p2
   ·have e:k=ws.length:=by omega
    subst e
    rw[og] at p2
    exact .inl ⟨⟨xs,hq,by omega⟩,p2 σ2 m2 H2 Ext.refl S2 R2⟩
 | _=>exact aa p1
end
def l_(env:Env):List (Str×X6)->List (Str×X3)->List (Str×X3)
 | [],acc=>acc
 | (n,k)::r,acc=>if k= .free then l_ env r ((n,(env.cells.lookup n).getD 0)::acc) else l_ env r acc
theorem tK(env:Env):∀(names:List (Str×X6))(acc:List (Str×X3)),(∀y∈names,y.2= .free->∃c,env.cells.lookup y.1=some c)->
  (forIn names acc λx r=>match x with
   | (name,kind)=>if(kind == df)=true then do let c <-cellOf env name;pure (om ((name,c)::r)) else(pure (om r):Sem _))=pure (l_ env names acc)
 | [],acc,_=>rfl
 | (n,k)::r,acc,h=>by
  have ih:=λacc=>tK env r acc λy hy=>h y (aU _ hy)
  rw[rD]
  by_cases hk:k= .free
  ·subst hk
   obtain⟨c,e⟩:=h (n,.free) bF rfl
   have e':env.cells.lookup n=some c:=e
   have cc:cellOf env n=pure c:=by unfold cellOf;rw[e']
   simp only[beq_self_eq_true,if_true,cc]
   have q:l_ env ((n,.free)::r) acc=l_ env r ((n,c)::acc):=by
    show(if df= .free then l_ env r ((n,(env.cells.lookup n).getD 0)::acc) else _)=_
    rw[if_pos rfl,e']
    rfl
   rw[q,<-ih]
   rfl
  ·have hb:(k == df)=false:=by simpa using hk
   simp only[hb,gN,if_false]
   have q:l_ env ((n,k)::r) acc=l_ env r acc:=by
    show(if k= .free then _ else l_ env r acc)=_
    rw[if_neg hk]
   rw[q,<-ih]
   rfl
theorem Fb{env:Env}{scope:Scope}(h:∀y∈scope.names,y.2= .free->∃c,env.cells.lookup y.1=some c):closureFor scope env=pure (l_ env scope.names []):=by
 have q:=tK env scope.names [] h
 unfold closureFor
 first
  | (rw[<-q];rfl)
  | (simp only[bind_pure];exact q)
theorem rE{env:Env}:∀{names:List (Str×X6)}{acc:List (Str×X3)}{y:Str}{c:X3},(∀y∈names,y.2= .free->∃c,env.cells.lookup y.1=some c)->(∀y c,acc.lookup y=some c->env.cells.lookup y=some c)->(l_ env names acc).lookup y=some c->env.cells.lookup y=some c
 | [],acc,y,c,_,ha,e=>ha y c e
 | (n,k)::r,acc,y,c,h,ha,e=>by
  unfold l_ at e
  by_cases hk:k= .free
  ·rw[if_pos hk] at e
   subst hk
   obtain⟨c0,e0⟩:=h (n,.free) bF rfl
   have Vp:env.cells.lookup n=some c0:=e0
   refine rE (λy hy=>h y (aU _ hy)) (λy' c' e'=>?_) e
   rw[fI] at e'
   cases q:y' == n with
   | true=>
    rw[q] at e'
    have q':=eq_of_beq q
    subst q'
    rw[Vp] at e' ⊢
    exact e'
   | false=>rw[q] at e';exact ha y' c' e'
  ·rw[if_neg hk] at e
   exact rE (λy hy=>h y (aU _ hy)) ha e
theorem nr{env:Env}{y:Str}:∀{names:List (Str×X6)}{acc:List (Str×X3)},((∃c,acc.lookup y=some c)\/(y,df)∈names)->∃c,(l_ env names acc).lookup y=some c
 | [],acc,h=>by
  rcases h with h | h
  ·exact h
  ·cases h
 | (n,k)::r,acc,h=>by
  unfold l_
  by_cases hk:k= .free
  ·rw[if_pos hk]
   refine nr ?_
   rw[fI]
   cases q:y == n with
   | true=>exact .inl ⟨_,rfl⟩
   | false=>
    rcases h with h | h
    ·exact .inl h
    ·rcases List.mem_cons.mp h with h | h
     ·cases h;simp at q
     ·exact .inr h
  ·rw[if_neg hk]
   refine nr ?_
   rcases h with h | h
   ·exact .inl h
   ·rcases List.mem_cons.mp h with h | h
    ·cases h;exact absurd rfl hk
    ·exact .inr h
theorem lookup_mem{α β:Type}[BEq α][LawfulBEq α]{y:α}{k:β}:∀{names:List (α×β)},names.lookup y=some k->(y,k)∈names
 | [],h=>by cases h
 | (n,j)::r,h=>by
  rw[fI] at h
  cases q:y == n with
  | true=>
   rw[q] at h
   cases h
   have q':=eq_of_beq q
   subst q'
   exact bF
  | false=>rw[q] at h;exact aU _ (lookup_mem h)
theorem oo{env:Env}:∀{names:List (Str×X6)}{y:Str},(names.map λ(n,k)=>if(k == df&&env.scope.kind == .function&&env.kindOf n == some .cell) then(n,ny) else(n,k)).lookup y=
  (names.lookup y).map λk=>if(k == df&&env.scope.kind == .function&&env.kindOf y == some .cell)=true then ny else k
 | [],y=>rfl
 | (n,k)::r,y=>by
  have ih:=oo (env:=env) (names:=r) (y:=y)
  show List.lookup y ((if(k == df&&env.scope.kind == .function&&env.kindOf n == some .cell)=true then(n,ny) else(n,k))::_)=_
  cases q:y == n with
  | true=>
   have q':=eq_of_beq q
   subst q'
   by_cases hc:(k == df&&env.scope.kind == .function&&env.kindOf y == some .cell)=true
   ·rw[if_pos hc]
    simp only[fI,beq_self_eq_true,kH]
    rw[if_pos hc]
   ·rw[if_neg hc]
    simp only[fI,beq_self_eq_true,kH]
    rw[if_neg hc]
  | false=>
   by_cases hc:(k == df&&env.scope.kind == .function&&env.kindOf n == some .cell)=true
   ·rw[if_pos hc];simp only[fI,q];exact ih
   ·rw[if_neg hc];simp only[fI,q];exact ih
open Classical in
def iA(ck:Hs->Prop)(gt:Wv->Hs->Re Bool)(ge:Wv->Hs->Re Wv)(l:Nat):List Wv->Hs->Option Hs
 | [],st=>some st
 | w::r,st=>match gt w st with
  | .ok false st1=>if ck st1 then iA ck gt ge l r st1 else none
  | .ok true st1=>(match ge w st1 with
   | .ok v st2=>(match iU (.ref l) v st2 with
    | .ok _ st3=>if ck st3 then iA ck gt ge l r st3 else none
    | _=>none)
   | _=>none)
  | _=>none
open Classical in
def mH(ck:Hs->Prop)(gt:Wv->Hs->Re Bool)(ge:Wv->Hs->Re Wv)(l:Nat):List Wv->Hs->Re Unit
 | [],st=> .ok () st
 | w::r,st=>match gt w st with
  | .ok false st1=>if ck st1 then mH ck gt ge l r st1 else .bad
  | .ok true st1=>(match ge w st1 with
   | .ok v st2=>(match iU (.ref l) v st2 with
    | .ok _ st3=>if ck st3 then mH ck gt ge l r st3 else .bad
    | _=> .bad)
   | .err c st2=> .err c st2
   | .bad=> .bad)
  | .err c st1=> .err c st1
  | .bad=> .bad
theorem oq{ck:Hs->Prop}{gt:Wv->Hs->Re Bool}{ge:Wv->Hs->Re Wv}{l:Nat}{wX:Hs}:∀(ws:List Wv)(st:Hs),iA ck gt ge l ws st=some wX->mH ck gt ge l ws st= .ok () wX
 | [],st,h=>by cases h;rfl
 | w::r,st,h=>by
  unfold iA at h
  unfold mH
  cases eg:gt w st with
  | err c st1=>rw[eg] at h;cases h
  | bad=>rw[eg] at h;cases h
  | ok b st1=>
   rw[eg] at h
   cases b with
   | false=>
    dsimp only at h ⊢
    by_cases c:ck st1
    ·rw[if_pos c] at h ⊢;exact oq r st1 h
    ·rw[if_neg c] at h;cases h
   | true=>
    dsimp only at h ⊢
    cases ee:ge w st1 with
    | err c st2=>rw[ee] at h;cases h
    | bad=>rw[ee] at h;cases h
    | ok v st2=>
     rw[ee] at h
     dsimp only at h ⊢
     cases ea:iU (.ref l) v st2 with
     | err c st3=>rw[ea] at h;cases h
     | bad=>rw[ea] at h;cases h
     | ok u st3=>
      rw[ea] at h
      dsimp only at h ⊢
      by_cases c:ck st3
      ·rw[if_pos c] at h ⊢;exact oq r st3 h
      ·rw[if_neg c] at h;cases h
abbrev eK:=List (Str×Nat)
def dQ(cs:eK)(ρ:bw):bw:=cs.map λp=>(ρ[p.2]?).getD none
def rF(cs:eK)(σ:St):St:=cs.map λp=>(σ[p.2]?).getD none
theorem Fc{K:PySem.W.Frag}{m:Mp}{H:Hp}{ρ:bw}{σ:St}(cs:eK)(R:ay K m H ρ σ):ay K m H (dQ cs ρ) (rF cs σ):=by
 refine⟨by unfold dQ rF;simp,λi w e=>?_⟩
 unfold dQ at e
 rw[dA] at e
 cases q:cs[i]? with
 | none=>rw[q] at e;cases e
 | some p=>
  rw[q] at e
  have e':(ρ[p.2]?).getD none=some w:=by simpa using e
  cases q2:ρ[p.2]? with
  | none=>rw[q2] at e';cases e'
  | some o=>
   rw[q2] at e'
   have e2:o=some w:=e'
   subst e2
   obtain⟨v,h1,h2⟩:=R.get _ _ q2
   refine⟨v,?_,h2⟩
   unfold rF
   rw[dA,q]
   simp[h1]
def eW(X:Cx)(scope:Scope)(x:Str)(cs:eK)(C:X3)(s0:X8)(H0:Hp)(fp:List X3)(pn:List (X3×Obj))(E:X9->X8->Prop):Cx where
 prog:=X.prog
 w:=X.w
 K:=X.K
 mg:=X.mg
 base:=X.base
 A:=X.A
 N:=x::cs.map (·.1)
 s₀:=s0
 H₀:=H0
 env:=compEnvC scope (l_ X.env scope.names []) C X.env
 outer:=X.stack
 stack:=X.stack
 ex:=fp
 fn:=λ_=>false
 calm:=X.calm
 pn:=pn
 xe:=E
structure dG(X:Cx)(scope:Scope)(x:Str)(cs:eK):Prop where
 kind:scope.kind= .function
 look:∀y∈scope.names,scope.names.lookup y.1=some y.2
 cell:∀y∈scope.names,y.2≠.cell
 var:scope.names.lookup x=some .local
 cap:∀y∈scope.names,y.2= .free->X.env.kindOf y.1=some .cell\/X.env.kindOf y.1=some .free
 at_:∀p∈cs,X.N[p.2]? =some p.1/\scope.names.lookup p.1=some .free
 nd:(x::cs.map (·.1)).Nodup
section
variable {X:Cx} {pins:List (X3×Obj)} {σ:St} {H:Hp} {s:X8} {scope:Scope} {x:Str} {cs:eK}
theorem tL(I:Inv X pins σ H s){b:X3}(f:fb X pins H b):b∉frs X.stack:=λz=>by
 rcases List.mem_cons.mp (I.nK b z) with q | q
 ·exact f.2.1 q
 ·exact f.2.2.1 q
theorem dG.has(S:dG X scope x cs)(ok:X.Ok):∀y∈scope.names,y.2= .free->∃c,X.env.cells.lookup y.1=some c:=λy hy e=>ok.has y.1 (S.cap y hy e)
theorem dG.sub(S:dG X scope x cs)(ok:X.Ok){y:Str}{c:X3}(e:(l_ X.env scope.names []).lookup y=some c):X.env.cells.lookup y=some c :=
 rE (S.has ok) (λ_ _ z=>by cases z) e
theorem dG.Kd(S:dG X scope x cs)(ok:X.Ok){C:X3}{y:Str}(h:(compEnvC scope (l_ X.env scope.names []) C X.env).kindOf y=some .cell\/(compEnvC scope (l_ X.env scope.names []) C X.env).kindOf y=some .free):scope.names.lookup y=some .free:=by
 have q:(compEnvC scope (l_ X.env scope.names []) C X.env).kindOf y=(scope.names.lookup y).map λk=>if(k == df&&X.env.scope.kind == .function&&X.env.kindOf y == some .cell)=true then ny else k:=oo
 rw[q] at h
 cases e:scope.names.lookup y with
 | none=>rw[e] at h;simp at h
 | some k=>
  rw[e] at h
  simp only[kH,Option.some.injEq] at h
  by_cases hk:k= .free
  ·rw[hk]
  ·have hb:(k == df)=false:=by simpa using hk
   rw[hb] at h
   simp only[wk,gN,if_false] at h
   rcases h with h | h
   ·exact absurd h (S.cell (y,k) (lookup_mem e))
   ·exact absurd h hk
theorem dG.Bv(S:dG X scope x cs){C:X3}{y:Str}(e:scope.names.lookup y=some .free):(compEnvC scope (l_ X.env scope.names []) C X.env).kindOf y=some .cell\/(compEnvC scope (l_ X.env scope.names []) C X.env).kindOf y=some .free:=by
 have q:(compEnvC scope (l_ X.env scope.names []) C X.env).kindOf y=(scope.names.lookup y).map λk=>if(k == df&&X.env.scope.kind == .function&&X.env.kindOf y == some .cell)=true then ny else k:=oo
 rw[q,e]
 simp only[kH]
 split
 ·exact .inl rfl
 ·exact .inr rfl
theorem Bw{fp:List X3}{h2:Heap}{tk:Nat}{E:X9->X8->Prop}(S:dG X scope x cs)(I:Inv X pins σ H s)(hf:∀b∈fp,fb X pins H b)(hl:∀b∈fp,b < s.heap.objs.size)
  (ns:h2.Ns s.heap.objs.size (λy=>([]:List (Str×X9)).reverse.lookup y))(sb:f9 s.heap.objs.size (s.heap.push { cls:=.type "dict",data:=.dict #[] }) h2) :
  Inv (eW X scope x cs s.heap.objs.size s H fp (X.pn++pins) E) [] (none::rF cs σ) H { s with heap:=h2,toks:=tk }:=by
 have keep:∀b o,s.heap.get? b=some o->h2.get? b=some o:=λb o e=>(sb.2 b (aP (aC e))).trans (aQ _ e)
 have sub:∀{y:Str}{c:X3},(l_ X.env scope.names []).lookup y=some c->X.env.cells.lookup y=some c:=λe=>S.sub I.ok e
 have cellK:∀y c,X.env.cells.lookup y=some c->∀v,s.heap.IsCell c v->h2.IsCell c v:=λy c _ v ⟨o,ho,hd⟩=>⟨o,keep c o ho,hd⟩
 refine⟨⟨I.ok.mod,S.kind,I.ok.glob,I.ok.blt,ao _,(λy z c e1 e2=>I.ok.inj y z c (sub e1) (sub e2)),λy h=>nr (.inr (lookup_mem (S.Kd I.ok h))),(λy c e=>by cases e),I.ok.hd,I.ok.frames,.inl rfl,λb hb=>⟨aP (hl b hb),λy c e=>(hf b hb).2.2.2.2.1 y c (sub e)⟩,I.bs,bo I.ok.GN I.sz,λb o e hb=>?_,λb hb=>tL I (hf b hb),I.stack,I.kI⟩,rfl,I.bare,Un.kept keep,⟨_,ns,λi y v e1 e2 e3=>?_⟩,(λy c e=>?_),I.fresh,(λy c e=>I.gF y c (sub e)),λp hp=>?_,I.hok.kept keep,by unfold eW rF;simp⟩
 ·rcases(hf b hb).2.2.2.1 with z | z
  ·exact I.ok.zX b o e z
  ·exact absurd (bj (aC e) (bo I.ok.GN z)) (c_ _)
 ·cases i with
  | zero=>cases e2
  | succ i=>
   have NO:(cs.map (·.1))[i]? =some y:=e1
   have DX:(rF cs σ)[i]? =some (some v):=e2
   unfold rF at DX
   rw[dA] at NO DX
   cases q:cs[i]? with
   | none=>rw[q] at NO;cases NO
   | some p=>
    rw[q] at NO DX
    have y1:p.1=y:=by simpa using NO
    have e4:(σ[p.2]?).getD none=some v:=by simpa using DX
    have e5:σ[p.2]? =some (some v):=by
     cases q2:σ[p.2]? with
     | none=>rw[q2] at e4;cases e4
     | some o=>
      rw[q2] at e4
      have:o=some v:=e4
      rw[this]
    have hp:=S.at_ p (List.mem_iff_getElem?.mpr ⟨i,q⟩)
    rw[y1] at hp
    have kd:=S.cap (y,.free) (lookup_mem hp.2) rfl
    obtain⟨m,hn,hl'⟩:=I.loc
    obtain⟨u,r,l⟩:=hl' p.2 y v hp.1 e5 (.inr kd)
    refine⟨u,r,.inr ⟨S.Bv hp.2,?_⟩⟩
    rcases l with ⟨l,_⟩ | ⟨_,c,e,z⟩
    ·rcases kd with kd | kd
     ·have QX:X.env.kindOf y=some .cell:=kd
      rw[QX] at l;cases l
     ·have QX:X.env.kindOf y=some .free:=kd
      rw[QX] at l;cases l
    ·obtain⟨c',e'⟩:=nr (env:=X.env) (y:=y) (names:=scope.names) (acc:=[]) (.inr (lookup_mem hp.2))
     have:=sub e'
     rw[e] at this
     cases this
     exact⟨c,e',cellK y c e _ z⟩
 ·obtain⟨v,z⟩:=I.cell y c (sub e)
  exact⟨v,cellK y c (sub e) v z⟩
 ·rw[lR] at hp
  obtain⟨e,n,ne,nf,d⟩:=I.pin p hp
  refine⟨keep _ _ e,n,aP (aC e),λz=>?_,d⟩
  rcases List.mem_cons.mp (I.nK p.1 z) with q | q
  ·exact ne q
  ·exact nf q
theorem Bx{fp:List X3}{E:X9->X8->Prop}{Hb He:Hp}{sb se:X8}{C:X3}{σ':St}{iJ:List (X3×Obj)}(I:Inv X pins σ Hb sb)(hf:∀b∈fp,fb X pins Hb b)(J:Inv (eW X scope x cs C sb Hb fp (X.pn++pins) E) iJ σ' He se):Inv X pins σ He se:=by
 have un:Un (frs X.stack) fp Hb He sb.heap se.heap:=J.base
 exact I.pL (ch:=fp) J.os un J.hok J.bare λb hb=>⟨(hf b hb).2.2.2.1,(hf b hb).2.1,(hf b hb).2.2.2.2.1,λp hp=>(hf b hb).2.2.2.2.2 p hp⟩
theorem qf{He:Hp}{se:X8}{C:X3}{h2:Heap}(I:Inv X pins σ He se)(f:fb X pins He C)(same:f9 C se.heap h2):Inv X pins σ He { se with heap:=h2 } :=
 I.turned (t':=se.toks) (it:=C) (λb o hb e=>(same.2 b hb).trans e) f.1 f.2.1 f.2.2.2.1 f.2.2.2.2.1 f.2.2.2.2.2
end
def By(X:Cx):Prop:=∃(env:Env)(outer:List Env)(L:X3),X.stack=env::outer/\env.frame=some L/\X.env.frame=some L
section
variable {X:Cx} {pins:List (X3×Obj)} {σ:St} {scope:Scope} {x:Str} {cs:eK}
end
structure Bz(Y:Cx->Prop)(P:X7)(w:X_)(K:PySem.W.Frag)(tg:Expr)(J:It)(fp:List X3)(it:X3)(tn:Nat->Heap->Prop):Prop where
 obj:∀i h,tn i h->∀b∈fp,∃o,h.get? b=some o/\∀v,o.data≠.cell v
 keep:∀i h h',tn i h->(∀b∈fp,∀o,h.get? b=some o->h'.get? b=some o)->tn i h'
 item:∀(X:Cx),X.prog=P->X.w=w->X.K=K->Y X->∀(i:Nat)(pins:List (X3×Obj))(s:X8)(σ:St)(H:Hp)(E:X9->X8->Prop),Inv X pins σ H s->(∀b∈fp,fb X pins H b)->tn i s.heap->J.go i H->Yk (model P w) X.A (pyNext (.ref it)) (λr s1=>∃u,r=some u/\
  Yk (model P w) X.A (letOwnedTupleGo tg (.ref it) u) (λ_ s2=>∃x H',Inv X pins σ H' s2/\RelV x u/\J.sN i H x H'/\tn (i+1) s2.heap/\∀b∈fp,H' b=none) E s1) E s
 done:∀(X:Cx),X.prog=P->X.w=w->X.K=K->Y X->∀(i:Nat)(pins:List (X3×Obj))(s:X8)(σ:St)(H:Hp)(E:X9->X8->Prop),Inv X pins σ H s->(∀b∈fp,fb X pins H b)->tn i s.heap->J.stop i H->Yk (model P w) X.A (pyNext (.ref it)) (λr s1=>r=none/\Inv X pins σ H s1) E s
 self:∀(A:X4)(i:Nat)(s:X8)(Q:X9->X8->Prop)(E:X9->X8->Prop),tn i s.heap->Q (.ref it) s->Yk (model P w) A (pyIter (.ref it)) Q E s
abbrev Calm(X:Cx):Prop:=X.calm=true
theorem _root_.L2.Turn.y{P:X7}{w:X_}{K:PySem.W.Frag}{tg:Expr}{J:It}{fp:List X3}{it:X3}{tn:Nat->Heap->Prop}(T:Turn P w K tg J fp it tn):Bz Calm P w K tg J fp it tn:=⟨T.obj,T.keep,T.item,T.done,T.self⟩
def NP(Y:Cx->Prop)(X:Cx):Prop:=∀{pins:List (X3×Obj)}{σ:St}{H:Hp}{s:X8}(scope:Scope)(x:Str)(cs:eK)(C:X3)(s0:X8)(fp:List X3)(pn:List (X3×Obj))(E:X9->X8->Prop),Inv X pins σ H s->Y (eW X scope x cs C s0 H fp pn E)
theorem tM{X:Cx}(hc:X.calm=true):NP Calm X:=λ_ _ _ _ _ _ _ _ _=>hc
def Hn(X:Cx)(ifs:List Expr)(g:GT):Prop:=∀(ρ:bw)(st:Hs)(σ:St)(H:Hp)(m:Mp)(Q:Bool->Hp->Prop),bg X.K m st H->ay X.K m H ρ σ->gH X σ m H (g ρ st) Q->∀(pins:List (X3×Obj))(s:X8),Inv X pins σ H s->
 Yk (model X.prog X.w) X.A (forIn ifs true λc r=>if r=true then do let ok <-isTrue c X.env (eval c X.env);pure (om ok) else pure (om r)) (TP X pins σ Q) X.xe s
section
variable {X:Cx}
theorem Fd:Hn X [] (λ_ st=> .ok true st):=λρ st σ H m Q S R p pins s I=>wpAny_tests_nil ⟨H,I,p m H Ext.refl S⟩
theorem Fe{c:Expr}{g:GT}(h:JT X c g):Hn X [c] g:=λρ st σ H m Q S R p pins s I=>wpAny_tests_one (h ρ st σ H m Q S R p pins s I)
theorem vo{pins:List (X3×Obj)}{σ:St}{ρ:bw}{scope:Scope}{x:Str}{cs:eK}{px pos:Pos}{elt iter:Expr}{ifs:List Expr}{gt:GT}{ge:GE}{ck:Hs->Prop}{ws:List Wv}{E:X9->X8->Prop}
  {use:Option (X9->Sem Unit)}{Q:X9->X8->Prop}{res:Re Unit}
  {it:X3}{fp:List X3}{tn:Nat->Heap->Prop}{J':It}{H2:Hp}{s2:X8}{m1:Mp}{st1:Hs}{Y:Cx->Prop}(fr:By X)(S:dG X scope x cs)(hY:NP Y X)(hH:J8 X)(I2:Inv X pins σ H2 s2)(T:Bz Y X.prog X.w X.K (.Name x px) J' fp it tn)(t0:tn 0 s2.heap)(f2:∀b∈fp,fb X pins H2 b)
  (S1:bg X.K m1 st1 H2)(R:ay X.K m1 H2 ρ σ)(hck:ck (st1++[.lst []]))(run:mH ck (λw=>gt (some w::dQ cs ρ)) (λw=>ge (some w::dQ cs ρ)) st1.length ws (st1++[.lst []])=res)(nb:res≠.bad)(hx:∀c Vq,res≠.err c Vq)
  (hE:∀C s0 H0 pn E,yA X.A H0->JE (eW X scope x cs C s0 H0 fp pn E) elt ge)(hT:∀C s0 H0 pn E,yA X.A H0->Hn (eW X scope x cs C s0 H0 fp pn E) ifs gt)
  (hgo:∀(k:Nat)(H:Hp)(m':Mp)(st:Hs),Ext X.K m1 H2 m' H->bg X.K m' st H->ck st->k < ws.length->J'.go k H)(hstop:∀(k:Nat)(H:Hp)(m':Mp)(st:Hs),Ext X.K m1 H2 m' H->bg X.K m' st H->ck st->k=ws.length->J'.stop k H)
  (hy:∀(k:Nat)(hk:k < ws.length)(H:Hp)(v:V)(H':Hp)(m':Mp)(st:Hs),Ext X.K m1 H2 m' H->bg X.K m' st H->ck st->J'.sN k H v H'->H'=H/\ag X.K m' H ws[k] v)
  (fin:∀(wX:Hs),res= .ok () wX->∀(D C:X3)(mm:Str->Option X9)(m':Mp)(H':Hp)(s':X8),Ext X.K m1 H2 m' H'->bg X.K m' wX H'->m'[st1.length]? =some D->Inv X pins σ H' s'->fb X pins H' C->s'.heap.Ns C mm->(∀y c,X.env.cells.lookup y=some c->c≠C)->Yd (model X.prog X.w) X.A X.xe use Q (.ref D) C (.ok .next) s') :
  Yk (model X.prog X.w) X.A (newList []) (λacc s3=>Yk (model X.prog X.w) X.A (newFunctionEnv scope X.env.globals (l_ X.env scope.names []) [] X.env.qual none .none (some X.env)) (λcenv s4=>
   Yc (model X.prog X.w) X.A (.compStart (.ListComp elt [⟨.Name x px,iter,ifs,0⟩] scope pos) 0 (.ref it) acc { cenv with scope:=relabel scope X.env }) (Yd (model X.prog X.w) X.A X.xe use Q acc cenv.locals) s4) E s3) E s2:=by
 refine wpAny_newList ?_
 have I3:Inv X pins σ (upd H2 s2.heap.objs.size (.lst [])) { s2 with heap:=s2.heap.push { cls:=.type "list",data:=.seq ([]:List X9).toArray } }:=I2.Jb (ys:=[]) (its:=[]) (t':=s2.toks) .nil (bx _)
 have QY:∀b∈fp,b < s2.heap.objs.size:=λb hb=>by
  obtain⟨o,e,_⟩:=T.obj _ _ t0 b hb
  exact aC e
 have hD:H2 s2.heap.objs.size=none:=I2.fresh
 have f3:∀b∈fp,fb X pins (upd H2 s2.heap.objs.size (.lst [])) b:=λb hb=>⟨by rw[aw (aP (QY b hb))];exact(f2 b hb).1,(f2 b hb).2⟩
 have S3:=S1.alloc (ws:=[]) (xs:=[]) hD ah.nil
 have e3:Ext X.K m1 H2 (m1++[s2.heap.objs.size]) (upd H2 s2.heap.objs.size (.lst [])):=Ext.more.trans (Ext.upd (.inl hD))
 have Pl:(m1++[s2.heap.objs.size])[st1.length]? =some s2.heap.objs.size:=by
  rw[<-S1.len,jZ (ao _),ni];rfl
 generalize kG:({ s2 with heap:=s2.heap.push { cls:=.type "list",data:=.seq ([]:List X9).toArray } }:X8)=s3 at I3
 have Tv:∀b o,s2.heap.get? b=some o->s3.heap.get? b=some o:=λb o e=>by rw[<-kG];exact aQ _ e
 have Tw:∀b∈fp,b < s3.heap.objs.size:=λb hb=>by
  obtain⟨o,e,_⟩:=T.obj _ _ t0 b hb
  exact aC (Tv b o e)
 generalize Xu:s2.heap.objs.size=D at *
 generalize Xv:upd H2 D (.lst [])=H3 at *
 generalize Xw:m1++[D]=m3 at *
 have R3:ay X.K m3 H3 (dQ cs ρ) (rF cs σ):=(Fc cs R).mono e3
 generalize hrr:dQ cs ρ=ρc at *
 generalize hss:rF cs σ=σc at *
 refine wpAny_newFunctionEnv S.cell (λ_ z=>nomatch z) (λh4 Vr Tz=>?_) S.kind
 have Ic:=λE=>Bw (E:=E) (tk:=s3.toks+([]:List (Str×X9)).length) S I3 f3 Tw Vr Tz
 have Vs:∀b o,s3.heap.get? b=some o->h4.get? b=some o:=λb o e=>(Tz.2 b (aP (aC e))).trans (aQ _ e)
 have t4:tn 0 h4:=T.keep _ _ _ t0 λb _ o e=>Vs b o (Tv b o e)
 let EX:X9->X8->Prop:=notedBy (model X.prog X.w) X.A (compEnvC scope (l_ X.env scope.names []) s3.heap.objs.size X.env) λe s'=>Yd (model X.prog X.w) X.A X.xe use Q (.ref D) s3.heap.objs.size (.error e) s'
 let Xc:=eW X scope x cs s3.heap.objs.size s3 H3 fp (X.pn++pins) EX
 have noted:∀{σ':St}{m:Mp}{H:Hp}{c:Str}{st:Hs},Ext X.K m1 H2 m H->res= .err c st->Mb Xc σ' m H c st:=λ_ er=>(hx _ _ er).elim
 have vis:Xc.env.scope.names.lookup x=some .local:=lookup_relabel_local S.var
 have QZ:∀(H':Hp),(∀b∈fp,H' b=none)->∀b∈fp,fb Xc [] H' b:=λH' hn b hb=>⟨hn b hb,aP (Tw b hb),tL I3 (f3 b hb),.inl hb,λy c e=>(f3 b hb).2.2.2.2.1 y c (S.sub I3.ok e),λp hp=>(f2 b hb).2.2.2.2.2 p (by have TC:p∈(X.pn++pins)++[]:=hp;rw[lR] at TC;exact TC)⟩
 let Pv:Nat->X8->Prop:=λk s'=>∃z H' st m',Inv Xc [] (z::σc) H' s'/\tn k s'.heap/\(∀b∈fp,H' b=none)/\Ext X.K m3 H3 m' H'/\bg X.K m' st H'/\ck st/\mH ck (λw=>gt (some w::ρc)) (λw=>ge (some w::ρc)) st1.length (ws.drop k) st=res
 have loop:∀s4:X8,Pv 0 s4->Yc (model X.prog X.w) X.A (.compLoop (.ListComp elt [⟨.Name x px,iter,ifs,0⟩] scope pos) 0 (.ref it) (.ref D) (compEnvC scope (l_ X.env scope.names []) s3.heap.objs.size X.env)) (Yd (model X.prog X.w) X.A X.xe use Q (.ref D) s3.heap.objs.size) s4:=λs4 p0=>by
  refine codeAny_compLoop_tests (λn s'=>∃k,n=ws.length - k/\k<=ws.length/\Pv k s') ?_ ws.length ⟨0,by simp,bx _,p0⟩
  rintro n s5 ⟨k,rfl,hk,z5,H5,Ai,m5,I5,TF,O9,e5,S5,c5,dh⟩
  have Mk:=e3.trans e5
  by_cases hlt:k < ws.length
  ·refine aY (T.item Xc rfl rfl rfl (hY _ _ _ _ _ _ _ _ I3) k [] s5 (z5::σc) H5 _ I5 (QZ H5 O9) TF (hgo k H5 m5 Ai Mk S5 c5 hlt)) λr s6 h6=>?_
   obtain⟨u,rfl,h6⟩:=h6
   show Yk (model X.prog X.w) X.A (pure () >>= λ_=>assign (.Name x px) Xc.env u) _ _ s6
   refine Yl (aY h6 λ_ s7 h7=>?_)
   obtain⟨v,H7,I7,rv,yl,Q0,Vt⟩:=h7
   obtain⟨rfl,Vu⟩:=hy k hlt H5 v H7 m5 Ai Mk S5 c5 yl
   have Pj:=I7.pinned (QZ H7 Vt) (T.obj _ _ Q0)
   refine wpAny_assign_Name (kK (i:=0) Pj S.nd rfl (.inl vis) rv (λs8 I8=>?_) (.inr vis))
   have TH:Inv Xc ([]++fm fp s7.heap) (some v::σc) H7 s8:=I8
   have R8:ay X.K m5 H7 (some ws[k]::ρc) (some v::σc):=by
    have R5:=R3.mono e5
    refine⟨by simp[R5.len],λi w e=>?_⟩
    cases i with
    | zero=>
     cases e
     exact⟨v,rfl,Vu⟩
    | succ i=>exact R5.get i w e
   have ed:ws.drop k=ws[k]::ws.drop (k+1):=lV hlt
   rw[ed] at dh
   unfold mH at dh
   have back:∀{H':Hp}{s':X8}{m':Mp}{st:Hs},Inv Xc ([]++fm fp s7.heap) (some v::σc) H' s'->Ext X.K m3 H3 m' H'->bg X.K m' st H'->ck st->mH ck (λw=>gt (some w::ρc)) (λw=>ge (some w::ρc)) st1.length (ws.drop (k+1)) st=res->∃n',n' < ws.length - k/\∃k',n'=ws.length - k'/\k'<=ws.length/\Pv k' s' :=
    λ{H' s' m' st} I' e' S' c' r'=>⟨ws.length - (k+1),by omega,k+1,rfl,hlt,some v,H',st,m',I'.kN,T.keep _ _ _ Q0 λb hb o e=>(I'.pin (b,o) (fc _ (fc _ (gT hb e)))).1,λb hb=>by
     obtain⟨o,e,_⟩:=T.obj _ _ Q0 b hb
     exact(I'.pin (b,o) (fc _ (fc _ (gT hb e)))).2.1,e',S',c',r'⟩
   cases eg:gt (some ws[k]::ρc) Ai with
   | err c Ml=>
    rw[eg] at dh
    refine Yo (hT s3.heap.objs.size s3 H3 (X.pn++pins) EX (hH.at I3) (some ws[k]::ρc) Ai (some v::σc) H7 m5 (λ_ _=>False) S5 R8 (by rw[eg];exact noted Mk dh.symm) ([]++fm fp s7.heap) s8 TH) (λ_ _ h9=>?_) λ_ _ z=>z
    obtain⟨_,_,z⟩:=h9
    exact z.elim
   | bad=>rw[eg] at dh;exact absurd dh.symm nb
   | ok b Ml=>
    rw[eg] at dh
    have Md:=hT s3.heap.objs.size s3 H3 (X.pn++pins) EX (hH.at I3) (some ws[k]::ρc) Ai (some v::σc) H7 m5 (λb' H'=>b'=b/\∃m',Ext X.K m5 H7 m' H'/\bg X.K m' Ml H') S5 R8 (by rw[eg];exact λm' H' e' S'=>⟨rfl,m',e',S'⟩) ([]++fm fp s7.heap) s8 TH
    refine Yo Md (λok s9 h9=>?_) λ_ _ z=>z
    obtain⟨H9,I9,rfl,m9,e9,S9⟩:=h9
    cases ok with
    | false=>
     dsimp only at dh
     by_cases c6:ck Ml
     ·rw[if_pos c6] at dh
      rw[if_neg bV]
      exact back I9 (e5.trans e9) S9 c6 dh
     ·rw[if_neg c6] at dh;exact absurd dh.symm nb
    | true=>
     dsimp only at dh
     rw[if_pos rfl]
     cases ee:ge (some ws[k]::ρc) Ml with
     | err c Pn=>
      rw[ee] at dh
      refine Yo (hE s3.heap.objs.size s3 H3 (X.pn++pins) EX (hH.at I3) (some ws[k]::ρc) Ml (some v::σc) H9 m9 (λ_ _=>False) S9 (R8.mono e9) (by rw[ee];exact noted (Mk.trans e9) dh.symm) ([]++fm fp s7.heap) s9 I9) (λ_ _ Q1=>?_) λ_ _ z=>z
      obtain⟨_,_,_,_,z⟩:=Q1
      exact z.elim
     | bad=>rw[ee] at dh;exact absurd dh.symm nb
     | ok w Pn=>
      rw[ee] at dh
      dsimp only at dh
      cases ea:iU (.ref st1.length) w Pn with
      | err c Q3=>rw[ea] at dh;exact absurd dh.symm nb
      | bad=>rw[ea] at dh;exact absurd dh.symm nb
      | ok w2 Q3=>
       rw[ea] at dh
       dsimp only at dh
       by_cases c8:ck Q3
       ·rw[if_pos c8] at dh
        have el:=hE s3.heap.objs.size s3 H3 (X.pn++pins) EX (hH.at I3) (some ws[k]::ρc) Ml (some v::σc) H9 m9 (λv' H'=>∃m',Ext X.K m9 H9 m' H'/\bg X.K m' Pn H'/\ag X.K m' H' w v') S9 (R8.mono e9) (by rw[ee];exact λv' m' H' e' S' r'=>⟨m',e',S',r'⟩) ([]++fm fp s7.heap) s9 I9
        refine Yo el (λu2 BA Q1=>?_) λ_ _ z=>z
        obtain⟨v2,Mm,Vv,r2,Q4,Vw,Vx,Q5⟩:=Q1
        obtain⟨r,h1,h2⟩:=Bu (X:=Xc)
        have eA:=(e5.trans e9).trans Vw
        have ro:ag X.K Q4 Mm (.ref st1.length) (.ref D):=by unfold ag;exact⟨D,rfl,eA.pre _ _ Pl⟩
        have rd:=h2 (.ref st1.length) w (.ref D) v2 Pn Mm Q4 (λ_ H'=>∃m',Ext X.K Q4 Mm m' H'/\bg X.K m' Q3 H') Vx ro Q5 (by rw[ea];exact λv' m' H' e' S' r'=>⟨m',e',S'⟩)
        refine Yo (h1 ([]++fm fp s7.heap) BA (some v::σc) Mm (.ref D) [v2] (.ref D) [u2] _ Vv rfl (.cons r2 .nil) rd) (λ_ Mn h11=>?_) λ_ _ z=>z
        obtain⟨_,TJ,Vy,_,Xx,Po,Vz⟩:=h11
        exact back Vy (eA.trans Po) Vz c8 dh
       ·rw[if_neg c8] at dh;exact absurd dh.symm nb
  ·have ek:k=ws.length:=by omega
   subst ek
   refine aY (T.done Xc rfl rfl rfl (hY _ _ _ _ _ _ _ _ I3) _ [] s5 (z5::σc) H5 _ I5 (QZ H5 O9) TF (hstop _ H5 m5 Ai Mk S5 c5 rfl)) λr s6 h6=>?_
   obtain⟨rfl,I6⟩:=h6
   rw[og] at dh
   obtain⟨mm,VA,_⟩:=id I6.loc
   have fC:=I3.sO (H':=H5) (ao _) I6.free
   exact fin Ai dh.symm D _ mm m5 H5 _ Mk S5 (e5.pre _ _ Pl) (Bx I3 f3 I6) fC VA fC.2.2.2.2.1
 have p0:Pv 0 { s3 with heap:=h4,toks:=s3.toks+([]:List (Str×X9)).length }:=⟨none,H3,st1++[Ob.lst []],m3,hss ▸ Ic EX,t4,λb hb=>(f3 b hb).1,Ext.refl,S3,hck,by rw[f'];exact run⟩
 exact codeAny_compStart_list (loop _ p0) (T.self X.A 0 _ _ _ t4 (loop _ p0))
end
abbrev Wk:=Option Nat×List Wv
def iI(w:Wk)(st:Hs):Prop:=match w.1 with
 | some l=>ai st l=some w.2
 | none=>True
structure qg(X:Cx)(w:Wk)(m1:Mp)(H1:Hp)(J':It):Prop where
 go:∀(k:Nat)(H:Hp)(m':Mp)(st:Hs),Ext X.K m1 H1 m' H->bg X.K m' st H->iI w st->k < w.2.length->J'.go k H
 stop:∀(k:Nat)(H:Hp)(m':Mp)(st:Hs),Ext X.K m1 H1 m' H->bg X.K m' st H->iI w st->k=w.2.length->J'.stop k H
 sN:∀(k:Nat)(hk:k < w.2.length)(H:Hp)(v:V)(H':Hp)(m':Mp)(st:Hs),Ext X.K m1 H1 m' H->bg X.K m' st H->iI w st->J'.sN k H v H'->H'=H/\ag X.K m' H w.2[k] v
abbrev GI:=bw->Hs->Re Wk
def Q6(Y:Cx->Prop)(X:Cx)(pins:List (X3×Obj))(σ:St)(tg:Expr)(R:It->Hp->Prop)(itv:X9)(s2:X8):Prop :=
 ∃(it:X3)(fp:List X3)(tn:Nat->Heap->Prop)(J:It)(H':Hp),itv= .ref it/\Inv X pins σ H' s2/\Bz Y X.prog X.w X.K tg J fp it tn/\tn 0 s2.heap/\(∀b∈fp,fb X pins H' b)/\R J H'
def TK(Y:Cx->Prop)(X:Cx)(tg iter:Expr)(wi:TI):Prop:=∀(pins:List (X3×Obj))(s:X8)(σ:St)(H:Hp)(R:It->Hp->Prop),Inv X pins σ H s->wi σ H R->
 Yk (model X.prog X.w) X.A (eval iter X.env) (λv s1=>Yk (model X.prog X.w) X.A (pyIter v) (Q6 Y X pins σ tg R) X.xe s1) X.xe s
theorem _root_.L2.PI.y{X:Cx}{tg iter:Expr}{wi:TI}(h:PI X tg iter wi):TK Calm X tg iter wi:=λpins s σ H R I q=>aY (h pins s σ H R I q) λ_ _ h1=>aY h1 λ_ _ h2=>
 let ⟨it,fp,tn,J,H',e,I',T,r⟩:=h2;⟨it,fp,tn,J,H',e,I',T.y,r⟩
def Pp(Y:Cx->Prop)(X:Cx)(tg iter:Expr)(gi:GI):Prop:=∃wi,TK Y X tg iter wi/\∀(ρ:bw)(st:Hs)(σ:St)(H:Hp)(m:Mp)(R:It->Hp->Prop),bg X.K m st H->ay X.K m H ρ σ->
 au X σ m H (gi ρ st) (λw st1=>∀(m1:Mp)(H1:Hp)(J':It),Ext X.K m H m1 H1->bg X.K m1 st1 H1->iI w st1->qg X w m1 H1 J'->R J' H1)->wi σ H R
def JI(X:Cx)(tg iter:Expr)(gi:GI):Prop:=∃wi,PI X tg iter wi/\∀(ρ:bw)(st:Hs)(σ:St)(H:Hp)(m:Mp)(R:It->Hp->Prop),bg X.K m st H->ay X.K m H ρ σ->
 au X σ m H (gi ρ st) (λw st1=>∀(m1:Mp)(H1:Hp)(J':It),Ext X.K m H m1 H1->bg X.K m1 st1 H1->iI w st1->qg X w m1 H1 J'->R J' H1)->wi σ H R
theorem JI.y{X:Cx}{tg iter:Expr}{gi:GI}(h:JI X tg iter gi):Pp Calm X tg iter gi:=let ⟨wi,h1,h2⟩:=h;⟨wi,h1.y,h2⟩
def Ke(w:Wv)(st:Hs):Re Wk:=match w with
 | .ref l=>(match ai st l with | some ws=> .ok (some l,ws) st | none=> .bad)
 | .tup ws=> .ok (none,ws) st
 | .nX ws=> .ok (none,ws) st
 | _=> .bad
def BB(g:GE):GI:=λρ st=>(g ρ st).bind Ke
section
variable {X:Cx}
theorem Kf{tg iter:Expr}{g:GE}(h:JE X iter g):JI X tg iter (BB g):=by
 refine⟨_,Bh aJ,λρ st σ H m Q S R p=>?_⟩
 refine h.go S R (au.bind p) λw st1 v m1 H1 p1 e1 S1 rw'=>?_
 cases w with
 | ref l=>
  unfold ag at rw'
  obtain⟨a,rfl,hla⟩:=rw'
  unfold Ke at p1
  cases el:ai st1 l with
  | none=>simp only[el] at p1;exact aa p1
  | some ws=>
   simp only[el] at p1
   obtain⟨J3,q0,_⟩:=S1.read hla el
   refine⟨a,rfl,.inl ⟨⟨J3,q0⟩,p1 m1 H1 _ e1 S1 el ⟨λk H' m' st' e S' c hk=>?_,λk H' m' st' e S' c hk=>?_,λk hk H' v Q7 m' st' e S' c y=>?_⟩⟩⟩
   ·obtain⟨xs,hq,rws⟩:=S'.read (e.pre _ _ hla) c
    have hx':k < xs.length:=by rw[<-rws.length];exact hk
    exact⟨xs,xs[k],hq,by simp[hx']⟩
   ·obtain⟨xs,hq,rws⟩:=S'.read (e.pre _ _ hla) c
    exact⟨xs,hq,by rw[<-rws.length,hk];exact ao _⟩
   ·obtain⟨xs,hq,rws⟩:=S'.read (e.pre _ _ hla) c
    obtain⟨ee,y⟩:=y
    refine⟨ee,?_⟩
    obtain⟨x',ex',mP⟩:=rws.get (i:=k) (w:=ws[k]) (cW hk)
    rw[y xs hq] at ex'
    cases ex'
    exact mP
 | tup ws=>
  unfold ag at rw'
  obtain⟨a,xs,rfl,hq,rws⟩:=rw'
  refine⟨a,rfl,.inr ⟨⟨xs,cU.of hq⟩,p1 m1 H1 _ e1 S1 trivial ⟨λk H' m' st' e S' c hk=>?_,λk H' m' st' e S' c hk=>?_,λk hk H' v Q7 m' st' e S' c y=>?_⟩⟩⟩
  ·have hx':k < xs.length:=by rw[<-rws.length];exact hk
   exact⟨xs,xs[k],cU.of (e.tup _ _ hq),by simp[hx']⟩
  ·exact⟨xs,cU.of (e.tup _ _ hq),by rw[<-rws.length,hk];exact ao _⟩
  ·obtain⟨ee,y⟩:=y
   refine⟨ee,?_⟩
   obtain⟨x',ex',mP⟩:=(ah.mono e _ _ rws).get (i:=k) (w:=ws[k]) (cW hk)
   rw[y xs (cU.of (e.tup _ _ hq))] at ex'
   cases ex'
   exact mP
 | nX ws=>
  unfold ag at rw'
  obtain⟨a,xs,rfl,hq,rws⟩:=rw'
  refine⟨a,rfl,.inr ⟨⟨xs,.inr hq⟩,p1 m1 H1 _ e1 S1 trivial ⟨λk H' m' st' e S' c hk=>?_,λk H' m' st' e S' c hk=>?_,λk hk H' v Q7 m' st' e S' c y=>?_⟩⟩⟩
  ·have hx':k < xs.length:=by rw[<-rws.length];exact hk
   exact⟨xs,xs[k],.inr hq,by simp[hx']⟩
  ·exact⟨xs,.inr hq,by rw[<-rws.length,hk];exact ao _⟩
  ·obtain⟨ee,y⟩:=y
   refine⟨ee,?_⟩
   obtain⟨x',ex',mP⟩:=(ah.mono e _ _ rws).get (i:=k) (w:=ws[k]) (cW hk)
   rw[y xs (.inr hq)] at ex'
   cases ex'
   exact mP
 | _=>exact aa p1
theorem BC{lo:Int}{n:Nat}{m1:Mp}{H1:Hp}:qg X (none,bC lo n) m1 H1 (GU lo n) where
 go:=λk H m' st e S c hk=>by
  have:(bC lo n).length=n:=bD
  have hk':k < (bC lo n).length:=hk
  rw[this] at hk';exact hk'
 stop:=λk H m' st e S c hk=>by
  have:(bC lo n).length=n:=bD
  have hk':k=(bC lo n).length:=hk
  rw[this] at hk';exact jB hk'.symm
 sN:=λk hk H v H' m' st e S c y=>by
  obtain⟨y1,y2⟩:=y
  refine⟨y1,?_⟩
  have q:(bC lo n)[k]'hk= .int (lo+k):=tH hk
  show ag X.K m' H ((bC lo n)[k]'hk) v
  rw[q,y2]
  exact mkInt
def wY(ws:List Wv)(st:Hs):Re Wk:=match ws with
 | [.int j]=>if bN j then .ok (none,bC 0 j.toNat) st else .bad
 | _=> .bad
def wZ(ws:List Wv)(st:Hs):Re Wk:=match ws with
 | [.int a,.int j]=>if bN a/\bN j then .ok (none,bC a (j - a).toNat) st else .bad
 | _=> .bad
def Ff(g:GA):GI:=λρ st=>(g ρ st).bind wY
def BD(g:GA):GI:=λρ st=>(g ρ st).bind wZ
theorem NQ{tg a:Expr}{ga:GA}{p q:Pos}(hg:Gl X "range")(hm:X.mg "range"=none)(ha:JA X [a] ga)(hst:Yj [a] X.env=[(false,eval a X.env)]):JI X tg (.Call (.Name "range" p) [a] [] q) (Ff ga):=by
 refine⟨_,pO hg hm fo hst,λρ st σ H m Q S R p=>?_⟩
 refine ha.go S R (au.bind p) λws st1 vs m1 H1 p1 e1 S1 rs=>?_
 match ws,rs,p1 with
 | [],rs,p1=>exact aa p1
 | x::y::t,rs,p1=>cases x<;>exact aa p1
 | [x],rs,p1=>
  obtain⟨v,rfl,r1⟩:=kY rs
  cases x with
  | int j=>
   cases aO r1
   unfold wY at p1
   by_cases c:bN j
   ·simp only[if_pos c] at p1
    exact⟨j,rfl,c.1,c.2,p1 m1 H1 _ e1 S1 trivial BC⟩
   ·simp only[if_neg c] at p1;exact aa p1
  | _=>exact aa p1
theorem NR{tg a b:Expr}{ga:GA}{p q:Pos}(hg:Gl X "range")(hm:X.mg "range"=none)(ha:JA X [a,b] ga)(hst:Yj [a,b] X.env=[(false,eval a X.env),(false,eval b X.env)])(J4:Yj [b] X.env=[(false,eval b X.env)]):JI X tg (.Call (.Name "range" p) [a,b] [] q) (BD ga):=by
 refine⟨_,pP hg hm fo hst J4,λρ st σ H m Q S R p=>?_⟩
 refine ha.go S R (au.bind p) λws st1 vs m1 H1 p1 e1 S1 rs=>?_
 match ws,rs,p1 with
 | [],rs,p1=>exact aa p1
 | [x],rs,p1=>cases x<;>exact aa p1
 | x::y::z::t,rs,p1=>cases x<;>cases y<;>exact aa p1
 | [x,y],rs,p1=>
  obtain⟨v,v',rfl,r1,r2⟩:=pA rs
  cases x with
  | int a=>
   cases y with
   | int j=>
    cases aO r1;cases aO r2
    unfold wZ at p1
    by_cases c:bN a/\bN j
    ·simp only[if_pos c] at p1
     exact⟨a,j,rfl,⟨c.1.1,c.1.2,c.2.1,c.2.2⟩,p1 m1 H1 _ e1 S1 trivial BC⟩
    ·simp only[if_neg c] at p1;exact aa p1
   | _=>exact aa p1
  | _=>cases y<;>exact aa p1
def tN:GI:=λ_ _=> .bad
theorem tO{tg iter:Expr}:PI X tg iter (λ_ _ _=>False):=λ_ _ _ _ _ _ h=>h.elim
theorem rG{tg iter:Expr}:JI X tg iter tN:=⟨_,tO,λρ st σ H m Q S R p=>p⟩
def cI(cs:eK)(gt:GT)(ge:GE)(ρ:bw)(w:Wk)(st:Hs):Re Wv:=match iA (iI w) (λv=>gt (some v::dQ cs ρ)) (λv=>ge (some v::dQ cs ρ)) st.length w.2 (st++[.lst []]) with
 | some wX=> .ok (.ref st.length) wX
 | none=> .bad
def dS(cs:eK)(gi:GI)(gt:GT)(ge:GE):GE:=λρ st=>(gi ρ st).bind λw st1=>cI cs gt ge ρ w st1
theorem yD{st:Hs}{l:Nat}{ws:List Wv}{more:Hs}(h:ai st l=some ws):ai (st++more) l=some ws:=by
 unfold ai at h ⊢
 cases e:st[l]? with
 | none=>rw[e] at h;cases h
 | some o=>
  have hl:=(List.getElem?_eq_some_iff.mp e).1
  rw[eP hl,e]
  rw[e] at h
  exact h
theorem ou{w:Wk}{st more:Hs}(h:iI w st):iI w (st++more):=by
 obtain⟨o,ws⟩:=w
 cases o with
 | none=>trivial
 | some l=>exact yD h
theorem w4{scope:Scope}{x:Str}{cs:eK}{px pos:Pos}{elt iter:Expr}{ifs:List Expr}{gi:GI}{gt:GT}{ge:GE}{use:Option (X9->Sem Unit)}{Q:X9->X8->Prop}{P:Wv->Hs->Prop}
  {ρ:bw}{st:Hs}{σ:St}{H:Hp}{m:Mp}{pins:List (X3×Obj)}{s:X8}{ps:Pos}
  {Y:Cx->Prop}(fr:By X)(CS:dG X scope x cs)(hc:NP Y X)(hH:J8 X)(hi:Pp Y X (.Name x px) iter gi)(hE:∀C s0 H0 fp pn E,yA X.A H0->JE (eW X scope x cs C s0 H0 fp pn E) elt ge)(hT:∀C s0 H0 fp pn E,yA X.A H0->Hn (eW X scope x cs C s0 H0 fp pn E) ifs gt)(hs:∀x,Yf iter X.env x=pure x)
  (S:bg X.K m st H)(R:ay X.K m H ρ σ)(I:Inv X pins σ H s)(p:au X σ m H (dS cs gi gt ge ρ st) P)
  (fin:∀(w:Wv)(wX:Hs)(v:V)(D C:X3)(mm:Str->Option X9)(m':Mp)(H':Hp)(s':X8),P w wX->Ext X.K m H m' H'->bg X.K m' wX H'->ag X.K m' H' w v->v= .ref D->Inv X pins σ H' s'->fb X pins H' C->s'.heap.Ns C mm->Yd (model X.prog X.w) X.A X.xe use Q (.ref D) C (.ok .next) s') :
  Yk (model X.prog X.w) X.A (comprehension (.ListComp elt [⟨.Name x px,iter,ifs,0⟩] scope pos) scope X.env ps (newList []) false (eval iter X.env) use) Q X.xe s:=by
 obtain⟨wi,Q8,hw⟩:=hi
 let R':It->Hp->Prop:=λJ' H1=>∃(w:Wk)(st1:Hs)(m1:Mp),au X σ m H (cI cs gt ge ρ w st1) P/\Ext X.K m H m1 H1/\bg X.K m1 st1 H1/\iI w st1/\qg X w m1 H1 J'
 have hr:=hw ρ st σ H m R' S R ((au.bind p).imp Ext.refl λw st1 q m1 H1 J' e1 S1 c1 yE=>⟨w,st1,m1,q,e1,S1,c1,yE⟩)
 refine wpAny_comprehension_free (g:=⟨.Name x px,iter,ifs,0⟩) (gs:=[]) (cl:=l_ X.env scope.names []) rfl hs (Fb (CS.has I.ok)) CS.kind (λy hy e=>by rw[CS.look y hy,e]) (aY (Q8 pins s σ H R' I hr) λv s1 h1=>aY h1 λitv s2 h2=>?_)
 obtain⟨it,fp,tn,J',H1,rfl,I2,T,t0,f2,w,st1,m1,q,e1,S1,c1,yE⟩:=h2
 unfold cI at q
 cases run:iA (iI w) (λv=>gt (some v::dQ cs ρ)) (λv=>ge (some v::dQ cs ρ)) st1.length w.2 (st1++[.lst []]) with
 | none=>
  rw[run] at q
  exact aa q
 | some wX=>
  rw[run] at q
  refine vo (use:=use) (Q:=Q) fr CS hc hH I2 T t0 f2 S1 (R.mono e1) (ou c1) (oq _ _ run) (by intro z;cases z) (λc' VB z=>by cases z) (λC s0 H0 pn E=>hE C s0 H0 fp pn E) (λC s0 H0 pn E=>hT C s0 H0 fp pn E) yE.go yE.stop yE.sN ?_
  intro VC z D C mm m' H' s' e' S' Pl I' fC ns _
  cases z
  exact fin _ wX (.ref D) D C mm m' H' s' q (e1.trans e') S' (by unfold ag;exact⟨D,rfl,Pl⟩) rfl I' fC ns
theorem w6{scope:Scope}{x:Str}{cs:eK}{px pos:Pos}{elt iter:Expr}{ifs:List Expr}{gi:GI}{gt:GT}{ge:GE}
  {Y:Cx->Prop}(fr:By X)(CS:dG X scope x cs)(hc:NP Y X)(hH:J8 X)(hi:Pp Y X (.Name x px) iter gi)(hE:∀C s0 H0 fp pn E,yA X.A H0->JE (eW X scope x cs C s0 H0 fp pn E) elt ge)(hT:∀C s0 H0 fp pn E,yA X.A H0->Hn (eW X scope x cs C s0 H0 fp pn E) ifs gt)(hs:∀x,Yf iter X.env x=pure x) :
  JE X (.ListComp elt [⟨.Name x px,iter,ifs,0⟩] scope pos) (dS cs gi gt ge):=λρ st σ H m Q S R p pins s I=>by
 rw[eval_ListComp]
 refine w4 (use:=none) fr CS hc hH hi hE hT hs S R I p ?_
 intro w wX v D C mm m' H' s' q e' S' rw' ev I' fC ns
 exact⟨mm,ns,λh' same=>⟨.ref D,H',qf I' fC same,rfl,ev ▸ q v m' H' e' S' rw'⟩⟩
theorem Fg(i:Nat){scope:Scope}{x y:Str}{cs:eK}{px pos spos py:Pos}{elt iter:Expr}{ifs:List Expr}{gi:GI}{gt:GT}{ge:GE}(hN:X.N.Nodup)
  {Y:Cx->Prop}(fr:By X)(CS:dG X scope x cs)(hc:NP Y X)(hH:J8 X)(hi:Pp Y X (.Name x px) iter gi)(hE:∀C s0 H0 fp pn E,yA X.A H0->JE (eW X scope x cs C s0 H0 fp pn E) elt ge)(hT:∀C s0 H0 fp pn E,yA X.A H0->Hn (eW X scope x cs C s0 H0 fp pn E) ifs gt)(hs:∀x,Yf iter X.env x=pure x)
  (hx:X.N[i]? =some y)(hl:Loc X.env.scope y)(hf:X.fn y=true\/X.env.scope.names.lookup y=some .local) :
  JS X (.Assign [.Name y py] (.ListComp elt [⟨.Name x px,iter,ifs,0⟩] scope pos) spos) (bf i (dS cs gi gt ge)):=by
 have sw:∃b,swapsWith (.ListComp elt [⟨.Name x px,iter,ifs,0⟩] scope pos) (some (.Name y py)) spos.line X.env=pure b:=⟨_,rfl⟩
 obtain⟨b,sw⟩:=sw
 cases b with
 | false=>exact vi i hN (w6 fr CS hc hH hi hE hT hs) hx hl sw hf
 | true=>
  intro ρ st σ H m D S R p pins s I
  rw[exec_Assign_Name_used _ _ _ _ sw]
  refine Yl (wpAny_standAt (Yl ?_))
  show Yk _ X.A (do let _ <-comprehension (.ListComp elt [⟨.Name x px,iter,ifs,0⟩] scope pos) scope X.env _ (newList []) false (eval iter X.env) (some (assign (.Name y py) X.env))) _ _ s
  refine Yl (Yo (w4 (use:=some (assign (.Name y py) X.env)) (Q:=λ_ s'=>SP X pins D .next s') fr CS hc hH hi hE hT hs S R I (aD.bW R p) ?_) (λ_ s' hq=>Yq (Yq hq)) λ_ _ e=>e)
  intro w wX v D' C mm m' H' s' q e' S' rw' ev I' fC ns
  refine wpAny_assign_Name (pK (i:=i) I' hN hx hl (show RelV v (.ref D') by rw[ev];rfl) (λs2 I2 h2=>?_) hf)
  obtain⟨a,sb,ha⟩:=h2
  have hca:C≠a:=by
   rcases ha with z | z
   ·rw[z];exact fC.2.1
   ·exact az (fC.2.2.2.2.1 y a z)
  exact⟨mm,ns.sameBut sb hca,λh' same=>⟨_,_,qf I2 fC same,q _ m' H' e' S' ((R.mono e').set i rw')⟩⟩
end
section
variable {X:Cx}
def Kh(n:Nat)(k:Int):Prop:=-(2 ^ 62)<=k/\k < 2 ^ 62/\n * k.toNat<=lim
instance {n k}:Decidable (Kh n k):=Bj _
def ow:ff
 | .ref l,.int n,st=>match st[l]? with
  | some (.lst ws)=>if Kh ws.length n then .ok (.ref st.length) (st++[.lst (a_ n.toNat ws).flatten]) else .bad
  | _=> .bad
 | x,y,st=>Hk x y st
theorem qh{K:PySem.W.Frag}{m:Mp}{H:Hp}{ws:List Wv}{xs:List V}(r:ah K m H ws xs):∀n:Nat,ah K m H (a_ n ws).flatten (a_ n xs).flatten
 | 0=>ah.nil
 | n+1=>by
  rw[fG,nU,fG,nU]
  exact r.append (qh r n)
theorem Fh:iP X (Ya .Mult) ow:=by
 obtain⟨r,h1,h2⟩:=E4 (X:=X)
 refine⟨_,dU.or Jc h1,λx y a b st H m Q S rx ry p=>?_⟩
 unfold ow at p
 split at p
 ·rename_i l n
  unfold ag at rx
  obtain⟨a1,rfl,hl⟩:=rx
  cases aO ry
  cases e:st[l]? with
  | none=>rw[e] at p;exact aa p
  | some o=>
   cases o with
   | dct kvs=>rw[e] at p;exact aa p
   | dP kvs=>rw[e] at p;exact aa p
   | wI kvs=>rw[e] at p;exact aa p
   | pk ns=>rw[e] at p;exact aa p
   | lst ws=>
    rw[e] at p
    dsimp only at p
    by_cases c:Kh ws.length n
    ·rw[if_pos c] at p
     obtain⟨xs,q1,q2⟩:=S.kT hl e
     refine .inl ⟨a1,n,xs,rfl,rfl,q1,by have:=c.1;omega,by have:=c.2.1;omega,by rw[<-q2.length];exact dg c.2.2,λq hq=>?_⟩
     exact gI p Ext.refl S (qh q2 n.toNat) q hq
    ·rw[if_neg c] at p;exact aa p
 ·exact .inr (h2 x y a b st H m Q S rx ry p)
def iB:List Wv->Option (List Bool)
 | []=>some []
 | .bl b::r=>(match iB r with | some l=>some (b::l) | none=>none)
 | _=>none
def BE:List Wv->Hs->Re Wv
 | [.ref l],st=>match ai st l with
  | some ws=>(match iB ws with | some bs=> .ok (.bl (bs.all id)) st | none=> .bad)
  | none=> .bad
 | _,_=> .bad
theorem ma{K:PySem.W.Frag}{m:Mp}{H:Hp}:∀{ws:List Wv}{xs:List V}{bs:List Bool},ah K m H ws xs->iB ws=some bs->xs=bs.map V.bl
 | [],xs,bs,r,h=>by
  unfold ah at r
  cases h
  exact r
 | w::ws,xs,bs,r,h=>by
  unfold ah at r
  obtain⟨x,t,rfl,r1,r2⟩:=r
  cases w with
  | bl b=>
   unfold iB at h
   cases e:iB ws with
   | none=>rw[e] at h;cases h
   | some l=>
    rw[e] at h
    cases h
    unfold ag at r1
    rw[r1,ma r2 e]
    rfl
  | _=>cases h
theorem rH:∀{bs:List Bool}{its:List X9},Vals (bs.map V.bl) its->its=bs.map gR
 | [],its,r=>by cases r;rfl
 | b::bs,its,r=>by
  cases r with
  | cons h t=>
   cases h
   rw[av,rH t]
theorem all_range:∀(bs:List Bool),(a9 bs.length).all (λi=>bs.getD i true)=bs.all id
 | []=>rfl
 | b::bs=>by
  rw[ng,w8,cg,BF,cg,<-all_range bs]
  rfl
theorem yF(hc:X.calm=true):cR X (.builtin "all") (λxs H Q=>∃(p:X3)(bs:List Bool),xs=[.ref p]/\iu X.K H p (bs.map V.bl)/\Q (.bl (bs.all id)) H):=by
 intro pins s σ H xs us Q I r h
 obtain⟨p,bs,rfl,hq,q⟩:=h
 obtain⟨u,rfl,rx⟩:=vals1 r
 cases rx
 obtain⟨its,r',pl,hz⟩:=I.list hq
 have hb:=rH r'
 subst hb
 have hl:=pl.isList
 have hlt:p < s.heap.objs.size:=by obtain⟨_,e,_⟩:=hl;exact aC e
 refine call_all_walk (wpAny_pyIter_list hl ?_)
 refine⟨_,_,_,_,_,_,λi=>bs.getD i true,rfl,Walks.list (A:=X.A.in1) (I.ok.hd hc) _ p (aP hlt) (bs.map gR).toArray,⟨⟨_,aX _ rfl,rfl,rfl⟩,hl.push _⟩,?_,λh' tk hk=>?_⟩
 ·intro i v s' Q' E' hP hQ
  have BG:(bs.map gR).toArray[i]? =some v:=hP
  rw[w9,dA] at BG
  cases e:bs[i]? with
  | none=>rw[e] at BG;cases BG
  | some b=>
   rw[e] at BG
   cases BG
   have:(bs.getD i true)=b:=by rw[rJ,e];rfl
   dsimp only at hQ
   rw[this] at hQ
   exact Yr hQ
 ·have hk':∀b o,s.heap.get? b=some o->h'.get? b=some o:=old_kept hk
  refine⟨.bl _,H,I.kept (t':=tk) hk',?_,q⟩
  rw[<-all_range bs]
  simp only[aN,aH]
  rfl
theorem Ki(hc:X.calm=true):cX X (.builtin "all") BE:=⟨_,yF hc,λws vs st H m Q S rs p=>by
 match ws,rs,p with
 | [],rs,p=>exact aa p
 | x::y::t,rs,p=>cases x<;>exact aa p
 | [x],rs,p=>
  obtain⟨v,rfl,r1⟩:=kY rs
  cases x with
  | ref l=>
   unfold BE at p
   unfold ag at r1
   obtain⟨a,rfl,hl⟩:=r1
   cases e:ai st l with
   | none=>simp only[e] at p;exact aa p
   | some ws=>
    simp only[e] at p
    cases e2:iB ws with
    | none=>simp only[e2] at p;exact aa p
    | some bs=>
     simp only[e2] at p
     obtain⟨xs,q1,q2⟩:=S.read hl e
     have q3:=ma q2 e2
     subst q3
     exact⟨a,bs,rfl,q1,p _ m H Ext.refl S fB⟩
  | _=>exact aa p⟩
def oz:List Wv->Hs->Re Wv
 | [.ref l],st=>match ai st l with
  | some ws=> .ok (.ref st.length) (st++[.lst ws])
  | none=> .bad
 | [.tup ws],st=> .ok (.ref st.length) (st++[.lst ws])
 | _,_=> .bad
theorem Fi:cX X (.type "list") oz:=⟨_,qT,λws vs st H m Q S rs p=>by
 match ws,rs,p with
 | [],rs,p=>exact aa p
 | x::y::t,rs,p=>cases x<;>exact aa p
 | [x],rs,p=>
  obtain⟨v,rfl,r1⟩:=kY rs
  cases x with
  | ref l=>
   unfold oz at p
   unfold ag at r1
   obtain⟨a,rfl,hl⟩:=r1
   cases e:ai st l with
   | none=>simp only[e] at p;exact aa p
   | some ws=>
    simp only[e] at p
    obtain⟨xs,q1,q2⟩:=S.read hl e
    exact⟨a,xs,rfl,.inl q1,λq hq=>gI p Ext.refl S q2 q hq⟩
  | tup ws=>
   unfold ag at r1
   obtain⟨a,xs,rfl,q1,q2⟩:=r1
   exact⟨a,xs,rfl,.inr (cU.of q1),λq hq=>gI p Ext.refl S q2 q hq⟩
  | _=>exact aa p⟩
def eX:List Wv->Hs->Re Wv
 | [.ref l],st=>match ai st l with
  | some ws=> .ok (.tup ws) st
  | none=> .bad
 | [.tup ws],st=> .ok (.tup ws) st
 | _,_=> .bad
theorem Kj:cX X (.type "tuple") eX:=⟨_,pj,λws vs st H m Q S rs p=>by
 match ws,rs,p with
 | [],rs,p=>exact aa p
 | x::y::t,rs,p=>cases x<;>exact aa p
 | [x],rs,p=>
  obtain⟨v,rfl,r1⟩:=kY rs
  cases x with
  | ref l=>
   unfold eX at p
   unfold ag at r1
   obtain⟨a,rfl,hl⟩:=r1
   cases e:ai st l with
   | none=>simp only[e] at p;exact aa p
   | some ws=>
    simp only[e] at p
    obtain⟨xs,q1,q2⟩:=S.read hl e
    refine⟨a,xs,rfl,.inl ⟨q1,λq hq=>?_⟩⟩
    have e2:Ext X.K m H m (upd H q (.tup xs)):=Ext.upd (.inl hq)
    exact p (.ref q) m _ e2 (S.fresh hq) (by unfold ag;exact⟨q,xs,rfl,aM,ah.mono e2 _ _ q2⟩)
  | tup ws=>
   have r1':=r1
   unfold ag at r1'
   obtain⟨a,xs,rfl,q1,q2⟩:=r1'
   exact⟨a,xs,rfl,.inr ⟨cU.of q1,p _ m H Ext.refl S r1⟩⟩
  | _=>exact aa p⟩
end
end J
namespace JL
open PySem PyProof.Rows
def kn(p:Ys):Int:=numOf p.1
section
variable {prog:X7} {w:X_} {A:X4} {E:X9->X8->Prop} {s:X8}
def gp(left:Bool)(key:Ys)(arr:Array Ys)(base i:Nat):Bool:=if left then decide (K arr (base+i) < kn key) else !decide (kn key < K arr (base+i))
end
section
variable {α:Type} {f:α->Int} {A B:List α}
structure Mg(f:α->Int)(A B out:List α)(ia ib:Nat):Prop where
 pm:out.Perm (A.take ia++B.take ib)
 so:out.Pairwise (f · <=f ·)
 la:∀p∈out,∀q∈A.drop ia,f p<=f q
 lb:∀p∈out,∀q∈B.drop ib,f p<=f q
theorem Mg.swap{out:List α}{ia ib:Nat}(h:Mg f A B out ia ib):Mg f B A out ib ia:=⟨h.pm.trans Fj,h.so,h.lb,h.la⟩
theorem Mg.BH{out:List α}{ia ib:Nat}(h:Mg f A B out ia ib)(sa:A.Pairwise (f · <=f ·))(k:Nat)(hk:∀p∈(A.drop ia).take k,∀q∈B.drop ib,f p<=f q):Mg f A B (out++(A.drop ia).take k) (ia+k) ib:=by
 have sd:((A.drop ia).take k++(A.drop ia).drop k).Pairwise (f · <=f ·):=by rw[w_];exact sa.sublist (BI _ _)
 rw[rK] at sd
 have e:A.take (ia+k)=A.take ia++(A.drop ia).take k:=List.take_add
 have mT:∀p∈(A.drop ia).take k,p∈A.drop ia:=λp hp=>(wu _ _).mem hp
 have mD:∀p∈(A.drop ia).drop k,p∈A.drop ia:=λp hp=>(BI _ _).mem hp
 refine⟨?_,?_,?_,?_⟩
 ·rw[e]
  refine(h.pm.append_right _).trans ?_
  rw[gX,gX]
  exact List.perm_append_comm.append_left _
 ·rw[rK]
  exact⟨h.so,sd.1,λp hp q hq=>h.la p hp q (mT q hq)⟩
 ·intro p hp q hq
  rw[<-List.drop_drop] at hq
  rcases List.mem_append.mp hp with z | z
  ·exact h.la p z q (mD q hq)
  ·exact sd.2.2 p z q hq
 ·intro p hp q hq
  rcases List.mem_append.mp hp with z | z
  ·exact h.lb p z q hq
  ·exact hk p z q hq
theorem Mg.Kk{out:List α}{ia ib:Nat}(h:Mg f A B out ia ib)(sb:B.Pairwise (f · <=f ·))(k:Nat)(hk:∀q∈(B.drop ib).take k,∀p∈A.drop ia,f q<=f p):Mg f A B (out++(B.drop ib).take k) ia (ib+k) :=
 (h.swap.BH sb k hk).swap
theorem Mg.fin{out:List α}{ia ib:Nat}(h:Mg f A B out ia ib)(sa:A.Pairwise (f · <=f ·))(sb:B.Pairwise (f · <=f ·))(hk:∀p∈A.drop ia,∀q∈B.drop ib,f p<=f q):(out++A.drop ia++B.drop ib).Perm (A++B)/\(out++A.drop ia++B.drop ib).Pairwise (f · <=f ·):=by
 have tA:(A.drop ia).take A.length=A.drop ia:=k_ (by rw[m7];exact Nat.sub_le _ _)
 have tB:(B.drop ib).take B.length=B.drop ib:=k_ (by rw[m7];exact Nat.sub_le _ _)
 have h1:=h.BH sa A.length (by rw[tA];exact hk)
 have nA:A.drop (ia+A.length)=[]:=BJ (by exact xa _ _)
 have h2:=h1.Kk sb B.length (by rw[nA];intro _ _ _ z;cases z)
 rw[tA,tB] at h2
 have k1:A.take (ia+A.length)=A:=k_ (by exact xa _ _)
 have k2:B.take (ib+B.length)=B:=k_ (by exact xa _ _)
 have pm:=h2.pm
 rw[k1,k2] at pm
 exact⟨pm,h2.so⟩
end
abbrev Pq(st:Yt)(g:Nat):Yt:=SortSt.mk' (kindOf st) (arrOf st) (pendingOf st) g (failedOf st)
def Up(l:List Ys):Prop:=l.Pairwise (kn · <=kn ·)
def Fin'(a b:List Ys)(r:Array Ys):Prop:=r.toList.Perm (a++b)/\Up r.toList
theorem NT{a:Array Ys}{i:Nat}{p:Ys}(e:a[i]? =some p):K a i=kn p:=by unfold K;rw[e];rfl
section
variable {prog:X7} {w:X_} {A:X4} {E:X9->X8->Prop} {s:X8}
structure Lo(a b out:Array Ys)(ia ib:Nat):Prop where
 mg:Mg kn a.toList b.toList out.toList ia ib
 ha:ia+1 < a.size
 hb:ib < b.size
abbrev VD:=Option (Array Ys)×Array Ys×Nat×Nat×Nat×Nat×Nat
def TL(a b:Array Ys)(st:Yt)(n:Nat)(r:ForInStep VD)(st':Yt):Prop :=
 (∃g,st'=Pq st g)/\match r with
 | .done c=>(∃r t,c=(some r,t)/\Fin' a.toList b.toList r)\/∃out ia ib mg ac bc,c=(none,out,ia,ib,mg,ac,bc)/\n<=ia+ib/\Lo a b out ia ib
 | .yield c=>∃out ia ib mg ac bc,c=(none,out,ia,ib,mg,ac,bc)/\n<=ia+ib/\Lo a b out ia ib
theorem TL.fin{a b:Array Ys}{st:Yt}{n g:Nat}{r:Array Ys}{t:Array Ys×Nat×Nat×Nat×Nat×Nat}(h:Fin' a.toList b.toList r):TL a b st n (.done (some r,t)) (Pq st g):=⟨⟨g,rfl⟩,.inl ⟨r,t,rfl,h⟩⟩
end
section
variable {α:Type} {f:α->Int} {A B:List α}
structure Mh(f:α->Int)(A B R:List α)(na nb:Nat):Prop where
 pm:R.Perm (A.drop na++B.drop nb)
 so:R.Pairwise (f · <=f ·)
 la:∀q∈A.take na,∀p∈R,f q<=f p
 lb:∀q∈B.take nb,∀p∈R,f q<=f p
theorem Mh.swap{R:List α}{na nb:Nat}(h:Mh f A B R na nb):Mh f B A R nb na:=⟨h.pm.trans Fj,h.so,h.lb,h.la⟩
theorem take_take{i n:Nat}(h:i<=n):A.take n=A.take i++(A.take n).drop i:=by
 have:=w_ i (A.take n)
 rw[List.take_take,xb h] at this
 exact this.symm
theorem drop_take{i n:Nat}(h:i<=n):A.drop i=(A.take n).drop i++A.drop n:=by
 have h1:=w_ n A
 have h2:=congrArg (List.drop i) h1
 rw[List.drop_append] at h2
 rw[<-h2]
 by_cases c:n<=A.length
 ·rw[fF,xb c,Fl h,f']
 ·rw[BJ (show A.length<=n by exact Nat.le_of_not_le ‹_›),List.drop_nil]
theorem Mh.BH{R:List α}{na nb:Nat}(h:Mh f A B R na nb)(sa:A.Pairwise (f · <=f ·))(k:Nat)(k1:k<=na)(hk:∀p∈(A.take na).drop k,∀q∈B.take nb,f q<=f p):Mh f A B ((A.take na).drop k++R) k nb:=by
 have e:=take_take (A:=A) k1
 have st:(A.take na).Pairwise (f · <=f ·):=sa.sublist (wu _ _)
 rw[e,rK] at st
 have mT:∀p∈(A.take na).drop k,p∈A.take na:=λp hp=>(BI _ _).mem hp
 have mD:∀p∈A.take k,p∈A.take na:=λp hp=>by rw[e];exact kJ _ hp
 refine⟨?_,?_,?_,?_⟩
 ·rw[drop_take (A:=A) k1,gX]
  exact h.pm.append_left _
 ·rw[rK]
  exact⟨st.2.1,h.so,λp hp q hq=>h.la p (mT p hp) q hq⟩
 ·intro q hq p hp
  rcases List.mem_append.mp hp with z | z
  ·exact st.2.2 q hq p z
  ·exact h.la q (mD q hq) p z
 ·intro q hq p hp
  rcases List.mem_append.mp hp with z | z
  ·exact hk p z q hq
  ·exact h.lb q hq p z
theorem Mh.Kk{R:List α}{na nb:Nat}(h:Mh f A B R na nb)(sb:B.Pairwise (f · <=f ·))(k:Nat)(k1:k<=nb)(hk:∀p∈(B.take nb).drop k,∀q∈A.take na,f q<=f p):Mh f A B ((B.take nb).drop k++R) na k :=
 (h.swap.BH sb k k1 hk).swap
theorem Mh.fin{R:List α}{na nb:Nat}(h:Mh f A B R na nb)(sa:A.Pairwise (f · <=f ·))(sb:B.Pairwise (f · <=f ·))(hk:∀p∈B.take nb,∀q∈A.take na,f q<=f p):(A.take na++B.take nb++R).Perm (A++B)/\(A.take na++B.take nb++R).Pairwise (f · <=f ·):=by
 have h1:=h.Kk sb 0 (bx _) (by rw[f'];exact hk)
 have h2:=h1.BH sa 0 (bx _) (by intro _ _ _ z;cases z)
 have pm:=h2.pm
 have so:=h2.so
 rw[f',f',<-gX] at so
 rw[f',f',f',f',<-gX] at pm
 exact⟨pm,so⟩
end
theorem xc{a:Array Ys}(i n:Nat):(a.extract i n).toList=(a.toList.take n).drop i:=by
 rw[Array.toList_extract,List.extract_eq_take_drop,List.drop_take]
abbrev VE(a b out:Array Ys)(na nb:Nat):Prop:=Mh kn a.toList b.toList out.toList.reverse na nb
structure Hi(a b out:Array Ys)(na nb:Nat):Prop where
 mg:VE a b out na nb
 a0:1<=na
 a1:na<=a.size
 b0:2<=nb
 b1:nb<=b.size
section
variable {prog:X7} {w:X_} {A:X4} {E:X9->X8->Prop} {s:X8}
abbrev VF:=Option (Array Ys)×Nat×Nat×Array Ys×Nat×Nat×Nat
def TM(a b:Array Ys)(st:Yt)(n:Nat)(r:ForInStep VF)(st':Yt):Prop :=
 (∃g,st'=Pq st g)/\match r with
 | .done c=>(∃r t,c=(some r,t)/\Fin' a.toList b.toList r)\/∃na nb out mg ac bc,c=(none,na,nb,out,mg,ac,bc)/\na+nb<=n/\Hi a b out na nb
 | .yield c=>∃na nb out mg ac bc,c=(none,na,nb,out,mg,ac,bc)/\na+nb<=n/\Hi a b out na nb
theorem TM.fin{a b:Array Ys}{st:Yt}{n g:Nat}{r:Array Ys}{t:Nat×Nat×Array Ys×Nat×Nat×Nat}(h:Fin' a.toList b.toList r):TM a b st n (.done (some r,t)) (Pq st g):=⟨⟨g,rfl⟩,.inl ⟨r,t,rfl,h⟩⟩
end
section
variable {prog:X7} {w:X_} {A₀:X4} {E:X9->X8->Prop} {s:X8}
end
def Sm(lo:Nat)(xs ys:Array Ys):Prop:=ys.Perm xs/\∀i,i < lo->ys[i]? =xs[i]?
theorem Sm.refl{lo:Nat}{xs:Array Ys}:Sm lo xs xs:=⟨.refl _,λ_ _=>rfl⟩
theorem Sm.trans{lo:Nat}{xs ys zs:Array Ys}(h1:Sm lo xs ys)(h2:Sm lo ys zs):Sm lo xs zs:=⟨h2.1.trans h1.1,λi hi=>(h2.2 i hi).trans (h1.2 i hi)⟩
theorem Sm.size{lo:Nat}{xs ys:Array Ys}(h:Sm lo xs ys):ys.size=xs.size:=h.1.size_eq
theorem Sm.mirror{lo i j:Nat}{xs:Array Ys}(h:lo<=i)(hj:j<=xs.size):Sm lo xs (mirror xs i j ((j - i) / 2)) :=
 ⟨mirror_perm _ _ _ _,λk hk=>by rw[getElem?_mirror_all hj,if_neg (by omega)]⟩
def Fm(xs:Array Ys)(lo n:Nat):Prop:=∀i j,i<=j->j < n->K xs (lo+i)<=K xs (lo+j)
def Pr(xs:Array Ys)(lo n:Nat):Prop:=∀i j,i<=j->j < n->K xs (lo+j)<=K xs (lo+i)
theorem Fm.step{xs:Array Ys}{lo n:Nat}(h:Fm xs lo n)(h1:1<=n)(c:¬K xs (lo+n) < K xs (lo+n - 1)):Fm xs lo (n+1):=λi j hij hj=>by
 by_cases z:j < n
 ·exact h i j hij z
 ·have:j=n:=by omega
  subst this
  by_cases y:i=j
  ·subst y;exact Int.le_refl _
  ·have:=h i (j - 1) (by omega) (by omega)
   rw[show lo+(j - 1)=lo+j - 1 by omega] at this
   omega
theorem Pr.step{xs:Array Ys}{lo n:Nat}(h:Pr xs lo n)(h1:1<=n)(c:K xs (lo+n)<=K xs (lo+n - 1)):Pr xs lo (n+1):=λi j hij hj=>by
 by_cases z:j < n
 ·exact h i j hij z
 ·have:j=n:=by omega
  subst this
  by_cases y:i=j
  ·subst y;exact Int.le_refl _
  ·have:=h i (j - 1) (by omega) (by omega)
   rw[show lo+(j - 1)=lo+j - 1 by omega] at this
   exact Int.le_trans ‹_› ‹_›
theorem Fm.one{xs:Array Ys}{lo:Nat}:Fm xs lo 1:=λi j h1 h2=>by
 have:i=j:=by omega
 subst this;exact Int.le_refl _
theorem Fm.turn{xs:Array Ys}{lo n:Nat}(h:Pr xs lo n)(hn:lo+n<=xs.size):Fm (mirror xs lo (lo+n) ((lo+n - lo) / 2)) lo n:=λi j h1 h2=>by
 rw[K_mirror hn,K_mirror hn,if_pos (by omega),if_pos (by omega)]
 have:=h (n - 1 - j) (n - 1 - i) (by omega) (by omega)
 rw[show lo+(lo+n) - 1 - (lo+i)=lo+(n - 1 - i) by omega,show lo+(lo+n) - 1 - (lo+j)=lo+(n - 1 - j) by omega]
 exact this
section
variable {prog:X7} {w:X_} {A:X4} {E:X9->X8->Prop} {s:X8} {P:Array (Nat×Nat×Nat)} {g:Nat}
end
section
variable {prog:X7} {w:X_} {A:X4} {E:X9->X8->Prop} {s:X8} {P:Array (Nat×Nat×Nat)} {g:Nat}
end
inductive Rn:Nat->List (Nat×Nat×Nat)->List Ys->Prop
 | nil {s:Nat}:Rn s [] []
 | cons {s n p:Nat} {P:List (Nat×Nat×Nat)} {A X:List Ys}:A.length=n->1<=n->Up A->Rn (s+n) P X->Rn s ((s,n,p)::P) (A++X)
theorem Rn.split:∀{pre r:List (Nat×Nat×Nat)}{s:Nat}{X:List Ys},Rn s (pre++r) X->∃X1 X2,X=X1++X2/\Rn s pre X1/\Rn (s+X1.length) r X2
 | [],r,s,X,h=>⟨[],X,rfl,.nil,h⟩
 | a::pre,r,s,X,h=>by
  cases h with
  | cons h1 h2 h3 h4=>
   obtain⟨X1,X2,rfl,k1,k2⟩:=h4.split
   refine⟨_++X1,X2,(gX _ _ _).symm,.cons h1 h2 h3 k1,?_⟩
   rw[dB,h1,<-Nat.add_assoc]
   exact k2
theorem Rn.len:∀{P:List (Nat×Nat×Nat)}{s:Nat}{X:List Ys},Rn s P X->P.length<=X.length
 | [],s,X,h=>bx _
 | a::P,s,X,h=>by
  cases h with
  | cons h1 h2 h3 h4=>
   have:=h4.len
   rw[dB,ng]
   omega
theorem Rn.few{P:List (Nat×Nat×Nat)}{s:Nat}{X:List Ys}(h:Rn s P X)(l:P.length<=1):Up X:=by
 cases h with
 | nil=>exact .nil
 | cons h1 h2 h3 h4=>
  cases h4 with
  | nil=>rw[lR];exact h3
  | cons _ _ _ _=>simp at l
section
variable {prog:X7} {w:X_} {A₀:X4} {E:X9->X8->Prop} {s:X8}
end
section
variable {prog:X7} {w:X_} {A₀:X4} {E:X9->X8->Prop} {s:X8}
def Wt(xs:Array Ys)(lo:Nat)(Z:List Ys)(st:Yt):Prop:=∃ys P X g,st=SortSt.mk' oneType' ys (List.toArray P) g none/\ys.Perm xs/\ys.toList=X++Z/\X.length=lo/\Rn 0 P X
theorem Fm.up{zs:Array Ys}{lo n:Nat}(as:Fm zs lo n)(h:lo+n<=zs.size):Up ((zs.toList.drop lo).take n):=by
 unfold Up
 rw[List.pairwise_iff_getElem]
 intro i j hi hj hij
 rw[fF,m7] at hi hj
 have hz:zs.toList.length=zs.size:=rfl
 have:=as i j (by exact qG ‹_›) (by omega)
 rw[NT (Ho (by omega)),NT (Ho (by omega))] at this
 simpa using this
end
section
variable {prog:X7} {w:X_} {A:X4} {E:X9->X8->Prop} {s:X8}
end
end JL
namespace J
open PySem PySem.Spec PyProof.Rows L2
section
variable {X:Cx}
def intsOf:List Wv->Option (List Int)
  | []=>some []
  | .int b::r=>(match intsOf r with | some l=>some (b::l) | none=>none)
  | _=>none
theorem oA:∀ns:List Int,intsOf (ns.map Wv.int)=some ns
  | []=>rfl
  | n::r=>by rw[av];unfold intsOf;rw[oA r]
theorem oB{K:PySem.W.Frag}{m:Mp}{H:Hp}:∀{ws:List Wv}{xs:List V}{bs:List Int},ah K m H ws xs->intsOf ws=some bs->xs=bs.map V.int
  | [],xs,bs,r,h=>by
    unfold ah at r
    cases h
    exact r
  | w::ws,xs,bs,r,h=>by
    unfold ah at r
    obtain⟨x,t,rfl,r1,r2⟩:=r
    cases w with
    | int b=>
      unfold intsOf at h
      cases e:intsOf ws with
      | none=>rw[e] at h;cases h
      | some l=>
        rw[e] at h
        cases h
        unfold ag at r1
        rw[r1,oB r2 e]
        rfl
    | _=>cases h
theorem tP:∀{ns:List Int}{its:List X9},Vals (ns.map V.int) its->∃xs:List (Int×Tok),its=xs.map (λp=>mW p.1 p.2)/\xs.map (·.1)=ns
  | [],its,r=>by cases r;exact⟨[],rfl,rfl⟩
  | n::ns,its,r=>by
    cases r with
    | cons h t=>
      obtain⟨tk,rfl⟩:=h
      obtain⟨xs,e1,e2⟩:=tP t
      exact⟨(n,tk)::xs,by rw[e1];rfl,by rw[<-e2];rfl⟩
theorem yG(xs:List (Int×Tok))(i:Nat):numAt xs.toArray i=(xs.map (·.1)).getD i 0:=by
  unfold numAt
  rw[w9,rJ,dA]
theorem oC(xs:List (Int×Tok)):∀k,preSum (numAt xs.toArray) k=((xs.map (·.1)).take k).sum
  | 0=>by simp[preSum]
  | k+1=>by
    unfold preSum
    rw[oC xs k,yG]
    rw[PySem.sum_take_succ]
theorem yH(hc:X.calm=true):cR X (.builtin "sum") (λxs H Q=>∃(p:X3)(ns:List Int),xs=[.ref p]/\iu X.K H p (ns.map V.int)/\Q (.int ns.sum) H):=by
  intro pins s σ H xs us Q I r h
  obtain⟨p,ns,rfl,hq,q⟩:=h
  obtain⟨u,rfl,rx⟩:=vals1 r
  cases rx
  obtain⟨its,r',pl,hz⟩:=I.list hq
  obtain⟨xs,rfl,rfl⟩:=tP r'
  have hl:=pl.isList
  have e:(xs.map λp=>mW p.1 p.2).toArray=intItems xs.toArray:=by unfold intItems;simp
  rw[e] at hl
  refine sum_intListG (I.ok.hd hc) hl λh' tk t' hk=>⟨.int _,H,I.kept hk,⟨t',?_⟩,q⟩
  rw[oC,k_ (by simp)]
def vp:List Wv->Hs->Re Wv
  | [.ref l],st=>match ai st l with
    | some ws=>(match intsOf ws with | some ns=> .ok (.int ns.sum) st | none=> .bad)
    | none=> .bad
  | _,_=> .bad
theorem Kl(hc:X.calm=true):cX X (.builtin "sum") vp:=⟨_,yH hc,λws vs st H m Q S rs p=>by
  match ws,rs,p with
  | [],rs,p=>exact aa p
  | x::y::t,rs,p=>cases x<;>exact aa p
  | [x],rs,p=>
    obtain⟨v,rfl,r1⟩:=kY rs
    cases x with
    | ref l=>
      unfold vp at p
      unfold ag at r1
      obtain⟨a,rfl,hl⟩:=r1
      cases e:ai st l with
      | none=>simp only[e] at p;exact aa p
      | some ws=>
        simp only[e] at p
        cases e2:intsOf ws with
        | none=>simp only[e2] at p;exact aa p
        | some bs=>
          simp only[e2] at p
          obtain⟨xs,q1,q2⟩:=S.read hl e
          have q3:=oB q2 e2
          subst q3
          exact⟨a,bs,rfl,q1,p _ m H Ext.refl S mkInt⟩
    | _=>exact aa p⟩
def VG(n:Int)(r:List Int):Int:=r.foldl (λa b=>if b > a then b else a) n
def NU:List Wv->Hs->Re Wv
  | [.ref l],st=>match ai st l with
    | some ws=>(match intsOf ws with | some (n::r)=> .ok (.int (VG n r)) st | _=> .bad)
    | none=> .bad
  | ws,st=>QU ws st
def NV:List Wv->Hs->Re Wv:=λws st=>QV ws st
theorem cX.or{f:X9}{op op':List Wv->Hs->Re Wv}(g:List Wv->Hs->Re Wv)(h:cX X f op)(h':cX X f op')(k:∀ws st,g ws st=op ws st\/g ws st=op' ws st):cX X f g:=by
  obtain⟨r,h1,h2⟩:=h
  obtain⟨r',AO,h2'⟩:=h'
  refine⟨_,h1.or AO,λws vs st H m Q S rs p=>?_⟩
  rcases k ws st with e | e
  · rw[e] at p;exact .inl (h2 ws vs st H m Q S rs p)
  · rw[e] at p;exact .inr (h2' ws vs st H m Q S rs p)
end
section
variable {X:Cx}
theorem qi{z:PySem.Str}:aW z=true↔∀c∈z.cps.toList,c < 1114112:=by
 unfold aW
 rw[NA]
 constructor
 ·intro h c hc
  simpa using h c (Array.mem_toList_iff.mp hc)
 ·intro h c hc
  simpa using h c (Array.mem_toList_iff.mpr hc)
end
section
variable {X:Cx}
theorem Km:DV X (λx lo hi H Q=>∃z,x= .str z/\z.length<=Yi/\Q (.str (jJ z lo hi)) H):=by
 intro pins s σ H x v vl vu lo hi sl Q I rx hs pl pu h
 obtain⟨z,rfl,hz,q⟩:=h
 obtain⟨t,rfl⟩:=rx
 have fin:∀t' k,EP X pins σ Q (.str (jJ z lo hi) t') { s with toks:=k }:=λt' k=>⟨.str _,H,I.tok k,⟨t',rfl⟩,q⟩
 refine⟨"str",_,PySem.F.slot_str_getitem.lookup,typeIs_str _ _ _,?_⟩
 have hl:=bo (Txt.slice_le z lo hi) hz
 cases pl with
 | none=>
  cases pu with
  | none=>exact wpAny_getItem_str_slice (l:=none) (u:=none) (st:=none) hs rfl (post_val_or_str ⟨hl,fin⟩)
  | int j tj=>exact wpAny_getItem_str_slice (l:=none) (u:=some (j,tj)) (st:=none) hs rfl (post_val_or_str ⟨hl,fin⟩)
 | int i ti=>
  cases pu with
  | none=>exact wpAny_getItem_str_slice (l:=some (i,ti)) (u:=none) (st:=none) hs rfl (post_val_or_str ⟨hl,fin⟩)
  | int j tj=>exact wpAny_getItem_str_slice (l:=some (i,ti)) (u:=some (j,tj)) (st:=none) hs rfl (post_val_or_str ⟨hl,fin⟩)
theorem yI{z:PySem.Str}{lo hi:Option Int}{c:Nat}(h:c∈(jJ z lo hi).cps.toList):c∈z.cps.toList:=by
 unfold jJ at h
 split at h
 ·exact h
 ·simp only[List.mem_filterMap] at h
  obtain⟨i,_,e⟩:=h
  rw[Array.getElem?_eq_some_iff] at e
  obtain⟨hi,rfl⟩:=e
  exact Array.mem_toList_iff.mpr (Array.getElem_mem hi)
theorem tQ{z:PySem.Str}{lo hi:Option Int}(h:aW z=true):aW (jJ z lo hi)=true:=by
 rw[qi] at h ⊢
 exact λc hc=>h c (yI hc)
end
section
open HT
theorem pC{prog:X7}{w:X_}{A:X4}{E:X9->X8->Prop}{s:X8}{t sl:X3}{us:Array X9}{vl vu:X9}{lo hi:Option Int}{Q:X9->X8->Prop}(ht:IsTup s.heap t us)(hs:s.heap.IsSliceOf sl vl vu .none)(pl:IsPart vl lo)(pu:IsPart vu hi)
  (hw:bX us.size 0 lo=0/\bX us.size us.size hi=us.size)(h:Q (.ref t) s):Yk (model prog w) A (getItem (.ref t) (.ref sl)) Q E s:=by
 obtain⟨os,o1,o2,o3⟩:=id hs
 have tys:s.TypeIs (.ref sl) "slice":=⟨os,o1,o2⟩
 unfold getItem;try with_reducible refine Yn ?_
 first | refine Yl (Yq ?_) | skip
 refine Yl (wpAny_sequenceKey ht.typeIs (by decide) ?_);refine Yl (wpAny_callSpecial?_slot (name:=fe "__getitem__") ht.typeIs qM (wpAny_call_entry qM ht.typeIs entry_tuple_getitem ?_ (args_tuple_getitem _ _)))
 show Yk _ _ (IV (.ref t) >>= _) _ _ _;refine Yl (tupleItemsOf_ ht ?_);refine Yl (wpAny_typeOf tys ?_)
 rw[if_pos (by decide)];refine Yl (gG hs pl pu ?_)
 rw[hw.1,hw.2]
 have yes:((((0:Nat):Int)) == 0&&(1:Int) == 1&&(us.size - 0) == us.size)=true:=by simp
 show Yk _ _ (if((((0:Nat):Int)) == 0&&(1:Int) == 1&&(us.size - 0) == us.size)=true then _ else _) _ _ s
 rw[if_pos yes]
 refine Yl (m:=Kn _) ?_
 unfold Kn
 refine Yl (wpAny_typeOf ht.typeIs (Yq ?_))
 rw[if_pos (by decide)]
 exact Yl (wpAny_rule (Yq ⟨_,rfl,Yq h⟩))
end
section
variable {X:Cx}
def Q9(K:PySem.W.Frag):V->Option Int->Option Int->Hp->VK->Prop:=λx lo hi H Q=>∃a xs,x= .ref a/\cU K H a xs/\(HT.bX xs.length 0 lo=0/\HT.bX xs.length xs.length hi=xs.length)/\Q (.ref a) H
theorem BK:DV X (Q9 X.K):=by
 intro pins s σ H x v vl vu lo hi sl Q I rx hs pl pu h
 obtain⟨a,xs,rfl,hx,hw,q⟩:=h
 cases rx
 obtain⟨its,r,ht,hz⟩:=I.tuple hx
 have n:its.toArray.size=xs.length:=by rw[aN];exact r.length.symm
 exact⟨"tuple",_,PyProof.Rows.slot_tuple_getitem.lookup,ht.typeIs,pC ht hs pl pu (by rw[n];exact hw) ⟨.ref a,H,I,rfl,q⟩⟩
def mQ(n:Nat)(lo hi:Option Int):Prop:=HT.bX n 0 lo=0/\HT.bX n n hi=n
instance {n:Nat}{lo hi:Option Int}:Decidable (mQ n lo hi):=inferInstanceAs (Decidable (HT.bX n 0 lo=0/\HT.bX n n hi=n))
def tR(x:Wv)(lo hi:Option Int)(st:Hs):Re Wv:=match x with
 | .str z=>if z.length<=lim then .ok (.str (jJ z lo hi)) st else .bad
 | .tup ws=>if mQ ws.length lo hi then .ok (.tup ws) st else Me (.tup ws) lo hi st
 | x=>Me x lo hi st
def bT(ga:GE)(gl gh:GO):GE:=λρ st=>(ga ρ st).bind λx st1=>(gl ρ st1).bind λlo st2=>(gh ρ st2).bind λhi st3=>tR x lo hi st3
theorem yJ{a:Expr}{lo hi:Option Expr}{ga:GE}{gl gh:GO}{pos p2:Pos}(ha:JE X a ga)(hl:JO X lo gl)(hh:JO X hi gh):JE X (.Subscript a (.Slice lo hi none p2) pos) (bT ga gl gh):=by
 have hS:JE X (.Subscript a (.Slice lo hi none p2) pos) (λρ st=>(ga ρ st).bind λx st1=>(gl ρ st1).bind λlo st2=>(gh ρ st2).bind λhi st3=>match x with | .str z=>if z.length<=lim then .ok (.str (jJ z lo hi)) st3 else .bad | _=> .bad):=by
  refine JE.of (nQ Km aJ p5 p5) λρ st σ H m Q S R p=>?_
  refine ha.go S R (au.bind p) λx st1 v m1 H1 p1 e1 S1 rx=>?_
  refine hl.go S1 (R.mono e1) ((au.bind p1).imp e1 λ_ _ q=>q) λl st2 m2 H2 p2 e2 S2=>?_
  refine hh.go S2 (R.mono (e1.trans e2)) ((au.bind p2).imp (e1.trans e2) λ_ _ q=>q) λh st3 m3 H3 p3 e3 S3=>?_
  have yq:=e1.trans (e2.trans e3)
  cases x with
  | str z=>
   dsimp only at p3
   by_cases c:z.length<=lim
   ·rw[if_pos c] at p3
    unfold ag at rx
    obtain⟨rfl,hz⟩:=rx
    exact⟨z,rfl,dg c,p3 _ m3 H3 yq S3 (mkStr (tQ hz))⟩
   ·rw[if_neg c] at p3;exact aa p3
  | _=>exact aa p3
 have hW:JE X (.Subscript a (.Slice lo hi none p2) pos) (λρ st=>(ga ρ st).bind λx st1=>(gl ρ st1).bind λlo st2=>(gh ρ st2).bind λhi st3=>match x with | .tup ws=>if mQ ws.length lo hi then .ok (.tup ws) st3 else Me (.tup ws) lo hi st3 | _=> .bad):=by
  refine JE.of (nQ (DV.or BK Aq) aJ p5 p5) λρ st σ H m Q S R p=>?_
  refine ha.go S R (au.bind p) λx st1 v m1 H1 p1 e1 S1 rx=>?_
  refine hl.go S1 (R.mono e1) ((au.bind p1).imp e1 λ_ _ q=>q) λl st2 m2 H2 p2 e2 S2=>?_
  refine hh.go S2 (R.mono (e1.trans e2)) ((au.bind p2).imp (e1.trans e2) λ_ _ q=>q) λh st3 m3 H3 p3 e3 S3=>?_
  have yq:=e1.trans (e2.trans e3)
  cases x with
  | tup ws=>
   dsimp only at p3
   have mP:=ag.mono (e2.trans e3) _ _ rx
   unfold ag at mP
   obtain⟨a',xs,rfl,f1,f2⟩:=mP
   by_cases c:mQ ws.length l h
   ·rw[if_pos c] at p3
    unfold mQ at c
    rw[f2.length] at c
    exact .inl ⟨a',xs,rfl,cU.of f1,c,p3 _ m3 H3 yq S3 (by unfold ag;exact⟨a',xs,rfl,f1,f2⟩)⟩
   ·rw[if_neg c] at p3
    unfold Me at p3
    dsimp only at p3
    unfold mQ at c
    rw[if_neg c] at p3
    rw[f2.length] at c
    refine .inr ⟨a',xs,rfl,cU.of f1,c,λq hq=>?_⟩
    have eU:Ext X.K m3 H3 m3 (L2.upd H3 q (.tup (pg xs l h))):=Ext.g_ (.inl hq)
    exact p3 (.ref q) m3 _ (yq.trans eU) (S3.fresh hq) (by unfold ag;exact⟨q,_,rfl,L2.aM,ah.mono eU _ _ (rA f2)⟩)
  | _=>exact aa p3
 intro ρ st σ H m Q S R p
 unfold bT at p
 cases e1:ga ρ st with
 | bad=>rw[e1] at p;exact aa p
 | err c st1=>rw[e1] at p;exact s_ ha hl hh ρ st σ H m Q S R (by unfold vg;rw[e1];exact p)
 | ok x st1=>
  rw[e1] at p
  cases x with
  | str z=>exact hS ρ st σ H m Q S R (by dsimp only;rw[e1];exact p)
  | tup ws=>exact hW ρ st σ H m Q S R (by dsimp only;rw[e1];exact p)
  | _=>exact s_ ha hl hh ρ st σ H m Q S R (by unfold vg;rw[e1];exact p)
def Ko:ff
 | .str i,.str j,st=> .ok (.bl (!(uU j i 0 j.length 1).isEmpty)) st
 | x,y,st=>QO x y st
def rL:ff
 | .str i,.str j,st=> .ok (.bl (!(!(uU j i 0 j.length 1).isEmpty))) st
 | x,y,st=>vf x y st
theorem Kp:iP X (Ye .In) Ko:=by
 obtain⟨r,h1,h2⟩:=Nz (X:=X)
 refine⟨_,dU.or ye h1,λx y a b st H m Q S rx ry p=>?_⟩
 unfold Ko at p
 split at p
 ·rename_i i j
  unfold ag at rx ry
  obtain⟨rfl,_⟩:=rx
  obtain⟨rfl,_⟩:=ry
  exact .inl ⟨i,j,rfl,rfl,p _ m H Ext.refl S fB⟩
 ·exact .inr (h2 x y a b st H m Q S rx ry p)
theorem yK:iP X (Ye .NotIn) rL:=by
 obtain⟨r,h1,h2⟩:=A2 (X:=X)
 refine⟨_,dU.or qQ h1,λx y a b st H m Q S rx ry p=>?_⟩
 unfold rL at p
 split at p
 ·rename_i i j
  unfold ag at rx ry
  obtain⟨rfl,_⟩:=rx
  obtain⟨rfl,_⟩:=ry
  exact .inl ⟨i,j,rfl,rfl,p _ m H Ext.refl S fB⟩
 ·exact .inr (h2 x y a b st H m Q S rx ry p)
end
open PySem PySem.Spec PyProof.Rows L2 PySem.W
section
variable {X:Cx}
end
section
variable {X:Cx}
end
section
variable {X:Cx}
end
def NW(x:Str):It:=⟨λi _=>i < x.cps.size,λi H v H'=>H'=H/\∃c,x.cps[i]? =some c/\v= .str ⟨#[c]⟩,λi _=>x.cps.size<=i⟩
theorem vq{P:X7}{w:X_}{K:PySem.W.Frag}{tg:Expr}(x:Str)(t:Tok)(it:X3):Turn P w K tg (NW x) [it] it (λi h=>h.IsStrIter it "str_ascii_iterator" x t i) where
 mem:=List.mem_singleton.mpr rfl
 obj:=λi h st b hb=>by
  cases List.mem_singleton.mp hb
  obtain⟨o,e,c,d⟩:=st
  exact⟨o,e,λv z=>by rw[d] at z;cases z⟩
 keep:=λi h h' st k=>let ⟨o,e,r⟩:=st;⟨o,k it (List.mem_singleton.mpr rfl) o e,r⟩
 item:=by
  intro X hP hw hK hc i pins s σ H E I hf st hg
  subst hP;subst hw;subst hK
  obtain⟨f0,f1,f2,f3,f4,f5⟩:=hf it (List.mem_singleton.mpr rfl)
  have hi:i < x.cps.size:=hg
  refine wpAny_pyNext_ascii_item st (c:=x.cps[i]) (by simp[hi]) λh' st' sb=>?_
  have I1:L2.Inv X pins σ H { s with heap:=h',toks:=s.toks+1 }:=I.turned (t':=s.toks+1) (λb o hb e=>sb.extBut b o hb e) f0 f1 f3 f4 f5
  obtain⟨o,e,c,d⟩:=id st'
  exact⟨_,rfl,pM (s:={ s with heap:=h',toks:=s.toks+1 }) e c d (by decide) ⟨.str ⟨#[x.cps[i]]⟩,H,I1,⟨_,rfl⟩,⟨rfl,_,by simp[hi],rfl⟩,st',λb hb=>(hf b hb).1⟩⟩
 done:=by
  intro X hP hw hK hc i pins s σ H E I hf st hg
  subst hP;subst hw;subst hK
  obtain⟨f0,f1,f2,f3,f4,f5⟩:=hf it (List.mem_singleton.mpr rfl)
  have hi:x.cps.size<=i:=hg
  exact wpAny_pyNext_ascii_end (I.ok.hd hc) st (by simp[hi]) λh' eb=>⟨rfl,I.turned (t':=s.toks) (λb o hb e=>eb b o hb e) f0 f1 f3 f4 f5⟩
 self:=λ_ _ _ _ _ st h=>wpAny_pyIter_striter_ascii st h
theorem yL{P:X7}{w:X_}{K:PySem.W.Frag}{tg:Expr}(x:Str)(t:Tok)(it:X3):Turn P w K tg (NW x) [it] it (λi h=>h.IsStrIter it "str_iterator" x t i) where
 mem:=List.mem_singleton.mpr rfl
 obj:=λi h st b hb=>by
  cases List.mem_singleton.mp hb
  obtain⟨o,e,c,d⟩:=st
  exact⟨o,e,λv z=>by rw[d] at z;cases z⟩
 keep:=λi h h' st k=>let ⟨o,e,r⟩:=st;⟨o,k it (List.mem_singleton.mpr rfl) o e,r⟩
 item:=by
  intro X hP hw hK hc i pins s σ H E I hf st hg
  subst hP;subst hw;subst hK
  obtain⟨f0,f1,f2,f3,f4,f5⟩:=hf it (List.mem_singleton.mpr rfl)
  have hi:i < x.cps.size:=hg
  refine wpAny_pyNext_wide_item st (c:=x.cps[i]) (by simp[hi]) λh' st' sb=>?_
  have I1:L2.Inv X pins σ H { s with heap:=h',toks:=s.toks+1 }:=I.turned (t':=s.toks+1) (λb o hb e=>sb.extBut b o hb e) f0 f1 f3 f4 f5
  obtain⟨o,e,c,d⟩:=id st'
  exact⟨_,rfl,pM (s:={ s with heap:=h',toks:=s.toks+1 }) e c d (by decide) ⟨.str ⟨#[x.cps[i]]⟩,H,I1,⟨_,rfl⟩,⟨rfl,_,by simp[hi],rfl⟩,st',λb hb=>(hf b hb).1⟩⟩
 done:=by
  intro X hP hw hK hc i pins s σ H E I hf st hg
  subst hP;subst hw;subst hK
  obtain⟨f0,f1,f2,f3,f4,f5⟩:=hf it (List.mem_singleton.mpr rfl)
  have hi:x.cps.size<=i:=hg
  exact wpAny_pyNext_wide_end (I.ok.hd hc) st (by simp[hi]) λh' eb=>⟨rfl,I.turned (t':=s.toks) (λb o hb e=>eb b o hb e) f0 f1 f3 f4 f5⟩
 self:=λ_ _ _ _ _ st h=>wpAny_pyIter_striter_wide st h
section
variable {X:Cx}
theorem Kq{tg l:Expr}{tl:TE}(hl:PE X l tl):PI X tg l (λσ H R=>tl σ H λv H1=>∃z,v= .str z/\R (NW z) H1):=by
 intro pins s σ H R I h
 refine aY (hl pins s σ H _ I h) λv s1 ⟨x,H1,I1,r1,z,e,q⟩=>?_
 subst e
 obtain⟨t,rfl⟩:=r1
 have frs:∀b∈[s1.heap.objs.size],fb X pins H1 b:=λb hb=>by
  cases List.mem_singleton.mp hb
  exact I1.sO (ao _) (I1.hok.fresh (ao _))
 cases ha:z.cps.all (· < 128)
 ·exact wpAny_pyIter_wide ha ⟨s1.heap.objs.size,[s1.heap.objs.size],_,_,H1,rfl,I1.kept (t':=s1.toks) λb o e=>aQ _ e,yL z t _,⟨_,aX _ rfl,rfl,rfl⟩,frs,q⟩
 ·exact wpAny_pyIter_ascii ha ⟨s1.heap.objs.size,[s1.heap.objs.size],_,_,H1,rfl,I1.kept (t':=s1.toks) λb o e=>aQ _ e,vq z t _,⟨_,aX _ rfl,rfl,rfl⟩,frs,q⟩
def gj(z:PySem.Str):List Wv:=z.cps.toList.map λc=>Wv.str ⟨#[c]⟩
def tS(w:Wv)(st:Hs):Re Wk:=match w with
 | .str z=> .ok (none,gj z) st
 | w=>Ke w st
def di(g:GE):GI:=λρ st=>(g ρ st).bind tS
theorem Kr{z:PySem.Str}{m1:Mp}{H1:Hp}(hz:aW z=true):qg X (none,gj z) m1 H1 (NW z) where
 go:=λk H m' st _ _ _ hk=>by
  have:k < z.cps.size:=by simpa [gj] using hk
  exact this
 stop:=λk H m' st _ _ _ hk=>by
  have:k=z.cps.size:=by simpa [gj] using hk
  exact jB this.symm
 sN:=λk hk H v H' m' st _ _ _ y=>by
  obtain⟨rfl,c,hc,rfl⟩:=y
  refine⟨rfl,?_⟩
  have hk':k < z.cps.size:=by simpa [gj] using hk
  have e:∀h:k < (gj z).length,(gj z)[k]'h= .str ⟨#[z.cps[k]]⟩:=by intro h;simp[gj]
  have hc':z.cps[k]=c:=by simpa [hk'] using hc
  show ag X.K m' H' ((gj z)[k]'hk) _
  rw[e hk,hc']
  refine mkStr ?_
  rw[qi] at hz ⊢
  intro d hd
  simp at hd
  rw[hd,<-hc']
  exact hz _ (by simp)
theorem nz{tg iter:Expr}{g:GE}(h:JE X iter g):JI X tg iter (di g):=by
 obtain⟨w1,h1,k1⟩:=Kf (tg:=tg) h
 refine⟨λσ H R=>w1 σ H R\/(SE X iter σ H λv H1=>∃z,v= .str z/\R (NW z) H1),λpins s σ H R I q=>?_,λρ st σ H m R S RR p=>?_⟩
 ·rcases q with q | q
  ·exact h1 pins s σ H R I q
  ·exact Kq aJ pins s σ H R I q
 ·unfold di at p
  cases e:g ρ st with
  | bad=>rw[e] at p;exact aa p
  | err c st'=>rw[e] at p;exact .inl (k1 ρ st σ H m R S RR (by unfold BB;rw[e];exact p))
  | ok w st'=>
   rw[e] at p
   cases w with
   | str z=>
    refine .inr ?_
    refine h.go (ok:=λw st1=>w= .str z/\st1=st') S RR (by rw[e];exact⟨rfl,rfl⟩) λw st1 v m1 H1 q e1 S1 r1=>?_
    obtain⟨rfl,rfl⟩:=q
    unfold ag at r1
    obtain⟨rfl,hz⟩:=r1
    exact⟨z,rfl,p m1 H1 _ e1 S1 trivial (Kr hz)⟩
   | _=>exact .inl (k1 ρ st σ H m R S RR (by unfold BB;rw[e];exact p))
end
section
variable {X:Cx}
end
def keyOf:Wv->Option L2.Key
 | .int i=>some (.inl i)
 | .str x=>some (.inr x)
 | _=>none
theorem me{K:PySem.W.Frag}{m:Mp}{H:Hp}{w:Wv}{v:V}{k:L2.Key}(r:ag K m H w v)(e:keyOf w=some k):v=kV k:=by
 cases w with
 | int i=>cases e;unfold ag at r;rw[r];rfl
 | str x=>cases e;unfold ag at r;rw[r.1];rfl
 | _=>cases e
def cJ{κ:Type}[DecidableEq κ](kvs:List (κ×Wv))(k:κ):Option Wv:=match kvs with
 | []=>none
 | p::r=>if p.1=k then some p.2 else cJ r k
def eS{κ:Type}[DecidableEq κ](kvs:List (κ×Wv))(k:κ)(v:Wv):List (κ×Wv):=if(kvs.any λkv=>decide (kv.1=k))=true then kvs.map (λkv=>if kv.1=k then(kv.1,v) else kv) else kvs++[(k,v)]
def Kt(kvs more:List (L2.Key×Wv)):List (L2.Key×Wv):=more.foldl (λacc kv=>eS acc kv.1 kv.2) kvs
section
variable {K:PySem.W.Frag} {m:Mp} {H:Hp} {κ:Type}
theorem RelK.nil:RelK (κ:=κ) K m H [] []:=⟨rfl,ah.nil⟩
theorem RelK.cons{k:κ}{w:Wv}{v:V}{kvs:List (κ×Wv)}{xs:List (κ×V)}(h:ag K m H w v)(t:RelK K m H kvs xs):RelK K m H ((k,w)::kvs) ((k,v)::xs) :=
 ⟨by simp[t.1],by simpa using ah.cons h t.2⟩
theorem RelK.nil_inv{xs:List (κ×V)}(h:RelK K m H [] xs):xs=[]:=by
 have:=h.1
 cases xs with
 | nil=>rfl
 | cons a b=>simp at this
theorem RelK.cons_inv{p:κ×Wv}{kvs:List (κ×Wv)}{xs:List (κ×V)}(h:RelK K m H (p::kvs) xs):∃v t,xs=(p.1,v)::t/\ag K m H p.2 v/\RelK K m H kvs t:=by
 obtain⟨h1,h2⟩:=h
 cases xs with
 | nil=>simp at h1
 | cons q t=>
  simp at h1 h2
  unfold ah at h2
  obtain⟨x,r,e1,e2,e3⟩:=h2
  cases e1
  exact⟨q.2,t,by rw[h1.1],e2,h1.2,e3⟩
theorem RelK.length{kvs:List (κ×Wv)}{xs:List (κ×V)}(h:RelK K m H kvs xs):kvs.length=xs.length:=by
 have:=congrArg gU h.1
 simpa using this
variable [DecidableEq κ]
theorem RelK.val:∀{kvs:List (κ×Wv)}{xs:List (κ×V)}(k:κ),RelK K m H kvs xs->(cJ kvs k=none->j6 xs k=none)/\∀w,cJ kvs k=some w->∃v,j6 xs k=some v/\ag K m H w v
 | [],xs,k,h=>by
  rw[h.nil_inv]
  exact⟨λ_=>rfl,(λw e=>by cases e)⟩
 | p::r,xs,k,h=>by
  obtain⟨v,t,rfl,h1,h2⟩:=h.cons_inv
  obtain⟨i1,i2⟩:=RelK.val k h2
  unfold cJ
  by_cases e:p.1=k
  ·rw[if_pos e,kR (by exact e)]
   exact⟨(λz=>by cases z),λw z=>⟨v,rfl,by cases z;exact h1⟩⟩
  ·rw[if_neg e,kS (by exact e)]
   exact⟨i1,i2⟩
theorem RelK.any:∀{kvs:List (κ×Wv)}{xs:List (κ×V)}(k:κ),RelK K m H kvs xs->(kvs.any λkv=>decide (kv.1=k))=xs.any λkv=>decide (kv.1=k)
 | [],xs,k,h=>by rw[h.nil_inv];rfl
 | p::r,xs,k,h=>by
  obtain⟨v,t,rfl,h1,h2⟩:=h.cons_inv
  rw[dW,dW,RelK.any k h2]
theorem RelK.repl:∀{kvs:List (κ×Wv)}{xs:List (κ×V)}(k:κ){w:Wv}{v:V},RelK K m H kvs xs->ag K m H w v->RelK K m H (kvs.map λkv=>if kv.1=k then(kv.1,w) else kv) (xs.map λkv=>if kv.1=k then(kv.1,v) else kv)
 | [],xs,k,w,v,h,r=>by rw[h.nil_inv];exact RelK.nil
 | p::kvs,xs,k,w,v,h,r=>by
  obtain⟨u,t,rfl,h1,h2⟩:=h.cons_inv
  rw[av,av]
  by_cases e:p.1=k
  ·rw[if_pos e,if_pos (by exact e)]
   exact RelK.cons r (RelK.repl k h2 r)
  ·rw[if_neg e,if_neg (by exact e)]
   exact RelK.cons h1 (RelK.repl k h2 r)
theorem RelK.snoc:∀{kvs:List (κ×Wv)}{xs:List (κ×V)}(k:κ){w:Wv}{v:V},RelK K m H kvs xs->ag K m H w v->RelK K m H (kvs++[(k,w)]) (xs++[(k,v)])
 | [],xs,k,w,v,h,r=>by rw[h.nil_inv];exact RelK.cons r RelK.nil
 | p::kvs,xs,k,w,v,h,r=>by
  obtain⟨u,t,rfl,h1,h2⟩:=h.cons_inv
  exact RelK.cons h1 (RelK.snoc k h2 r)
theorem RelK.put{kvs:List (κ×Wv)}{xs:List (κ×V)}(k:κ){w:Wv}{v:V}(h:RelK K m H kvs xs)(r:ag K m H w v):RelK K m H (eS kvs k w) (putK xs k v):=by
 unfold eS putK
 rw[h.any k]
 split
 ·exact h.repl k r
 ·exact h.snoc k r
end
section
variable {K:PySem.W.Frag} {m:Mp} {H:Hp}
theorem RelK.merge:∀{more:List (L2.Key×Wv)}{ms:List (L2.Key×V)}{kvs:List (L2.Key×Wv)}{xs:List (L2.Key×V)},RelK K m H kvs xs->RelK K m H more ms->RelK K m H (Kt kvs more) (Jm xs ms)
 | [],ms,kvs,xs,h,g=>by rw[g.nil_inv];exact h
 | p::more,ms,kvs,xs,h,g=>by
  obtain⟨u,t,rfl,h1,h2⟩:=g.cons_inv
  have:=RelK.merge (more:=more) (ms:=t) (kvs:=eS kvs p.1 p.2) (xs:=putK xs p.1 u) (RelK.put p.1 h h1) h2
  exact this
end
section
variable {X:Cx}
def xf(st:Hs)(l:Nat):Bool:=match st[l]? with
 | some (.dct _)=>true
 | _=>false
def BL(gd gk gx:GE):GE:=λρ st=>(gd ρ st).bind λd st1=>match d with
 | .ref l=>if xf st1 l=true then(gk ρ st1).bind λk st2=>(gx ρ st2).bind λx st3=>(match keyOf k,st3[l]? with
  | some kk,some (.dct kvs)=> .ok ((cJ kvs kk).getD x) st3
  | _,_=> .bad) else .bad
 | _=> .bad
theorem BM{m:Mp}{st:Hs}{H:Hp}{l:Nat}{a:X3}(S:bg X.K m st H)(ha:m[l]? =some a)(h:xf st l=true):Nb H a:=by
 unfold xf at h
 cases e:st[l]? with
 | none=>rw[e] at h;cases h
 | some o=>
  rw[e] at h
  cases o with
  | dct kvs=>
   obtain⟨xs,e1,_⟩:=(show ∃ys,H a=some (.dK ys)/\RelK X.K m H kvs ys from S.obj _ _ _ ha e)
   exact .inl ⟨xs,.inl e1⟩
  | _=>cases h
theorem BN{o e f:Expr}{gd gk gx:GE}{apos cpos:Pos}(hu:X.A.units+1 < cLine)(ho:JE X o gd)(he:JE X e gk)(hf:JE X f gx)(M:M2 X o "get" apos e f cpos):JE X (.Call (.Attribute o "get" apos) [e,f] [] cpos) (BL gd gk gx) :=
 JE.of (AG hu aJ aJ aJ M) λρ st σ H m Q S R p=>by
  refine ho.go S R (au.bind p) λd st1 v m1 H1 p1 e1 S1 r1=>?_
  cases d with
  | ref l=>
   dsimp only at p1
   by_cases hd:xf st1 l=true
   ·rw[if_pos hd] at p1
    unfold ag at r1
    obtain⟨a,rfl,ha⟩:=r1
    refine⟨a,rfl,BM S1 ha hd,?_⟩
    refine he.go S1 (R.mono e1) ((au.bind p1).imp e1 λ_ _ q=>q) λk st2 y m2 H2 p2 e2 S2 r2=>?_
    refine hf.go S2 (R.mono (e1.trans e2)) ((au.bind p2).imp (e1.trans e2) λ_ _ q=>q) λx st3 z m3 H3 p3 e3 S3 r3=>?_
    cases q1:keyOf k with
    | none=>rw[q1] at p3;exact aa p3
    | some kk=>
     cases q2:st3[l]? with
     | none=>rw[q1,q2] at p3;exact aa p3
     | some ob=>
      rw[q1,q2] at p3
      cases ob with
      | dct kvs=>
       have Pu:m3[l]? =some a:=(e2.trans e3).pre _ _ ha
       obtain⟨xs,y1,y2⟩:=(show ∃ys,H3 a=some (.dK ys)/\RelK X.K m3 H3 kvs ys from S3.obj _ _ _ Pu q2)
       dsimp only at p3
       refine⟨_,by rw[me r2 q1];exact u9.k y1,?_⟩
       obtain⟨i1,i2⟩:=y2.val kk
       cases q3:cJ kvs kk with
       | none=>
        rw[i1 q3]
        rw[q3] at p3
        exact p3 z m3 H3 (e1.trans (e2.trans e3)) S3 r3
       | some w=>
        obtain⟨u,j1,j2⟩:=i2 w q3
        rw[j1]
        rw[q3] at p3
        exact p3 u m3 H3 (e1.trans (e2.trans e3)) S3 j2
      | _=>exact aa p3
   ·rw[if_neg hd] at p1;exact aa p1
  | _=>exact aa p1
end
def xg:Wv->X9->Prop
 | .int i,u=>∃t,u= .int i t
 | .str x,u=>(∃t,u= .str x t)/\aW x=true
 | _,_=>False
abbrev Dc:=List (PySem.Str×Wv)
def rM(w:X_):Dc->List DictEntry->Prop
 | [],[]=>True
 | (k,v)::r,e::t=>(e.hash=hashStr w k/\(∃tk,e.key= .str k tk)/\xg v e.val)/\rM w r t
 | _,_=>False
def mf(K:PySem.W.Frag)(w:X_)(mg:Str->Option X9)(x:Str)(kvs:Dc):Prop :=
 ∃(a:X3)(es:Array DictEntry)(ep:Nat),mg x=some (.ref a)/\K.lookup a=some ⟨.type "dict",none,.dict es ep,#[]⟩/\(a == sysModules)=false/\rM w kvs es.toList/\(kvs.map (·.1)).Nodup
theorem lg{P:X7}{w:X_}:∀{kvs:Dc}{l:List DictEntry},rM w kvs l->∃vs:List (PySem.Str×X9),vs.map (·.1)=kvs.map (·.1)/\Pairs (PySem.strKind P w) l vs/\(∀e∈l,∃k,(PySem.strKind P w).is k e.key=true/\e.hash=(PySem.strKind P w).hash k)/\
  ∀k,(kvs.lookup k=none->valueAt vs k=none)/\∀v,kvs.lookup k=some v->∃u,valueAt vs k=some u/\xg v u
 | [],[],_=>⟨[],rfl,.nil,(λ_ z=>by cases z),λk=>⟨λ_=>rfl,(λv z=>by cases z)⟩⟩
 | (k,v)::r,e::t,h=>by
  obtain⟨⟨h1,⟨tk,h2⟩,h3⟩,h4⟩:=h
  obtain⟨vs,i1,i2,i3,i4⟩:=lg (P:=P) h4
  have his:(PySem.strKind P w).is k e.key=true:=by rw[h2];exact strKind_is P w k tk
  refine⟨(k,e.val)::vs,by simp[i1],.cons his rfl i2,λe' he=>?_,λk'=>?_⟩
  ·rcases List.mem_cons.mp he with z | z
   ·subst z;exact⟨k,his,h1⟩
   ·exact i3 e' z
  ·rw[fI]
   unfold valueAt
   rw[lS]
   by_cases ek:k=k'
   ·subst ek
    have b1:(k == k)=true:=by simp
    rw[b1]
    simp only[decide_true,kH]
    exact⟨(λz=>by cases z),λv' z=>⟨e.val,rfl,by cases z;exact h3⟩⟩
   ·have b1:(k' == k)=false:=beq_eq_false_iff_ne.mpr λz=>ek z.symm
    rw[b1]
    simp only[ek,decide_false]
    exact i4 k'
 | [],_::_,h=>aa h
 | _::_,[],h=>aa h
theorem nB{P:X7}{w:X_}{K:PySem.W.Frag}{h:Heap}{a:X3}{es:Array DictEntry}{ep:Nat}{kvs:Dc}(KX:K.In h)(hl:K.lookup a=some ⟨.type "dict",none,.dict es ep,#[]⟩)(he:rM w kvs es.toList)(nd:(kvs.map (·.1)).Nodup) :
  ∃vs:List (PySem.Str×X9),h.DictOf (PySem.strKind P w) a vs/\∀k,(kvs.lookup k=none->valueAt vs k=none)/\∀v,kvs.lookup k=some v->∃u,valueAt vs k=some u/\xg v u:=by
 obtain⟨vs,i1,i2,i3,i4⟩:=lg (P:=P) he
 exact⟨vs,⟨_,es,ep,KX a _ hl,⟨rfl,rfl,rfl⟩,rfl,λe hm=>i3 e (by simpa using hm),i2,by rw[i1];exact nd⟩,i4⟩
section
variable {X:Cx}
def lh(neg:Bool)(kvs:Dc)(ga:GE):GE:=λρ st=>(ga ρ st).bind λa st1=>match a with
 | .str k=> .ok (.bl ((kvs.lookup k).isSome != neg)) st1
 | _=> .bad
def Hq(kvs:Dc)(ga:GE):GE:=λρ st=>(ga ρ st).bind λa st1=>match a with
 | .str k=>(match kvs.lookup k with | some w=> .ok w st1 | none=> .bad)
 | _=> .bad
def BO(neg:Bool)(kvs:Dc)(ty:TE):TE:=λσ H Q=>ty σ H λy H1=>∃z,y= .str z/\Q (.bl ((kvs.lookup z).isSome != neg)) H1
theorem BP{i:Expr}{ty:TE}{x:Str}{p:Pos}{kvs:Dc}(hi:PE X i ty)(hg:Gl X x)(hd:(x == ("__debug__":Str))=false)(D:mf X.K X.w X.mg x kvs):PC X .In i (.Name x p) (BO false kvs ty):=by
 intro pins s σ H Q I h
 obtain⟨a,es,ep,g1,g2,g3,g4,g5⟩:=D
 refine aY (hi pins s σ H _ I h) λiv s1 ⟨y,H1,I1,ry,z,ey,q1⟩=>aY (e_ (v:=.ref a) hg g1 rfl hd pins s1 σ H1 (λv H2=>v= .ref a/\H2=H1) I1 ⟨rfl,rfl⟩) λu s2 ⟨v,H2,I2,rv,ev,eH⟩=>?_
 subst ey ev eH
 obtain rfl:u=aB a:=rv
 obtain⟨t,rfl⟩:=(show ∃t,iv=eZ z t from ry)
 obtain⟨vs,dd,look⟩:=nB (P:=X.prog) (w:=X.w) I2.uR g2 g4 g5
 refine wpAny_in_of (strKind_is X.prog X.w z t) g3 dd.mapOf ⟨.bl (kvs.lookup z).isSome,_,I2.tok _,?_,by simpa using q1⟩
 obtain⟨l1,l2⟩:=look z
 cases e:kvs.lookup z with
 | none=>rw[l1 e];rfl
 | some w=>obtain⟨u,e1,_⟩:=l2 w e;rw[e1];rfl
theorem qj{i:Expr}{ty:TE}{x:Str}{p:Pos}{kvs:Dc}(hi:PE X i ty)(hg:Gl X x)(hd:(x == ("__debug__":Str))=false)(D:mf X.K X.w X.mg x kvs):PC X .NotIn i (.Name x p) (BO true kvs ty):=by
 intro pins s σ H Q I h
 obtain⟨a,es,ep,g1,g2,g3,g4,g5⟩:=D
 refine aY (hi pins s σ H _ I h) λiv s1 ⟨y,H1,I1,ry,z,ey,q1⟩=>aY (e_ (v:=.ref a) hg g1 rfl hd pins s1 σ H1 (λv H2=>v= .ref a/\H2=H1) I1 ⟨rfl,rfl⟩) λu s2 ⟨v,H2,I2,rv,ev,eH⟩=>?_
 subst ey ev eH
 obtain rfl:u=aB a:=rv
 obtain⟨t,rfl⟩:=(show ∃t,iv=eZ z t from ry)
 obtain⟨vs,dd,look⟩:=nB (P:=X.prog) (w:=X.w) I2.uR g2 g4 g5
 refine wpAny_notIn_of (strKind_is X.prog X.w z t) g3 dd.mapOf ⟨.bl (!(kvs.lookup z).isSome),_,I2.tok _,?_,by simpa using q1⟩
 obtain⟨l1,l2⟩:=look z
 cases e:kvs.lookup z with
 | none=>rw[l1 e];rfl
 | some w=>obtain⟨u,e1,_⟩:=l2 w e;rw[e1];rfl
theorem jK{a:Expr}{ga:GE}{neg:Bool}{kvs:Dc}(ha:JE X a ga){ρ:bw}{st:Hs}{σ:St}{H:Hp}{m:Mp}{Q:VK}(S:bg X.K m st H)(R:ay X.K m H ρ σ)(p:dD X σ m H (lh neg kvs ga ρ st) Q):BO neg kvs (SE X a) σ H Q:=by
 refine ha.go S R (au.bind p) λw st1 v m1 H1 p1 e1 S1 r1=>?_
 cases w with
 | str k=>
  unfold ag at r1
  exact⟨k,r1.1,p1 _ m1 H1 e1 S1 (by unfold ag;rfl)⟩
 | _=>exact aa p1
theorem Fn{a:Expr}{ga:GE}{x:Str}{p pos:Pos}{kvs:Dc}(ha:JE X a ga)(hg:Gl X x)(hd:(x == ("__debug__":Str))=false)(D:mf X.K X.w X.mg x kvs):JE X (.Compare a [.In] [.Name x p] pos) (lh false kvs ga) :=
 JE.of (zZ (BP aJ hg hd D) rfl) λρ st σ H m Q S R p=>jK ha S R p
theorem vt{a:Expr}{ga:GE}{x:Str}{p pos:Pos}{kvs:Dc}(ha:JE X a ga)(hg:Gl X x)(hd:(x == ("__debug__":Str))=false)(D:mf X.K X.w X.mg x kvs):JE X (.Compare a [.NotIn] [.Name x p] pos) (lh true kvs ga) :=
 JE.of (zZ (qj aJ hg hd D) rfl) λρ st σ H m Q S R p=>jK ha S R p
theorem Fo{a:Expr}{ga:GE}{x:Str}{p pos:Pos}{kvs:Dc}(ha:JE X a ga)(hg:Gl X x)(hd:(x == ("__debug__":Str))=false)(D:mf X.K X.w X.mg x kvs):JT X (.Compare a [.In] [.Name x p] pos) (cn (lh false kvs ga)) :=
 JT.of (Aa (BP aJ hg hd D) rfl) λρ st σ H m Q S R p=>jK ha S R (kU p)
theorem vw{a:Expr}{ga:GE}{x:Str}{p pos:Pos}{kvs:Dc}(ha:JE X a ga)(hg:Gl X x)(hd:(x == ("__debug__":Str))=false)(D:mf X.K X.w X.mg x kvs):JT X (.Compare a [.NotIn] [.Name x p] pos) (cn (lh true kvs ga)) :=
 JT.of (Aa (qj aJ hg hd D) rfl) λρ st σ H m Q S R p=>jK ha S R (kU p)
def NX(kvs:Dc)(ty:TE):TE:=λσ H Q=>ty σ H λy H1=>∃z w v,y= .str z/\kvs.lookup z=some w/\(∀u,xg w u->RelV v u)/\Q v H1
theorem Fp{b:Expr}{ty:TE}{x:Str}{p pos:Pos}{kvs:Dc}(hb:PE X b ty)(hs:Jj b)(hg:Gl X x)(hd:(x == ("__debug__":Str))=false)(D:mf X.K X.w X.mg x kvs):PE X (.Subscript (.Name x p) b pos) (NX kvs ty):=by
 intro pins s σ H Q I h
 obtain⟨a,es,ep,g1,g2,g3,g4,g5⟩:=D
 refine ED PySem.F.slot_dict_getitem.lookup hs (aY (e_ (v:=.ref a) hg g1 rfl hd pins s σ H (λv H2=>v= .ref a/\H2=H) I ⟨rfl,rfl⟩) λu s1 ⟨v,H1,I1,rv,ev,eH⟩=>?_)
 subst ev eH
 obtain rfl:u=aB a:=rv
 refine aY (hb pins s1 σ H1 _ I1 h) λiv s2 ⟨y,H2,I2,ry,z,w,v,ey,ew,ev,q⟩=>?_
 subst ey
 obtain⟨t,rfl⟩:=(show ∃t,iv=eZ z t from ry)
 obtain⟨vs,dd,look⟩:=nB (P:=X.prog) (w:=X.w) I2.uR g2 g4 g5
 obtain⟨u,e1,e2⟩:=(look z).2 w ew
 exact⟨dd.typeIs,wpAny_getItem_of (strKind_is X.prog X.w z t) dd.mapOf e1 ⟨v,H2,I2.tok _,ev u e2,q⟩⟩
theorem Fq{b:Expr}{gb:GE}{x:Str}{p pos:Pos}{kvs:Dc}(hb:JE X b gb)(hs:Jj b)(hg:Gl X x)(hd:(x == ("__debug__":Str))=false)(D:mf X.K X.w X.mg x kvs):JE X (.Subscript (.Name x p) b pos) (Hq kvs gb) :=
 JE.of (Fp aJ hs hg hd D) λρ st σ H m Q S R p=>by
  refine hb.go S R (au.bind p) λw st1 v m1 H1 p1 e1 S1 r1=>?_
  cases w with
  | str k=>
   dsimp only at p1
   cases e:kvs.lookup k with
   | none=>rw[e] at p1;exact aa p1
   | some u=>
    rw[e] at p1
    unfold ag at r1
    cases u with
    | int i=>exact⟨k,.int i,.int i,r1.1,e,λu h=>h,p1 _ m1 H1 e1 S1 (by unfold ag;rfl)⟩
    | str y=>
     by_cases hy:aW y=true
     ·exact⟨k,.str y,.str y,r1.1,e,λu h=>h.1,p1 _ m1 H1 e1 S1 (by unfold ag;exact⟨rfl,hy⟩)⟩
     ·obtain⟨a,es,ep,_,_,_,g4,_⟩:=D
      obtain⟨vs,_,_,_,i4⟩:=lg (P:=X.prog) g4
      obtain⟨u,_,e2⟩:=(i4 k).2 _ e
      exact absurd e2.2 hy
    | _=>
     obtain⟨a,es,ep,_,_,_,g4,_⟩:=D
     obtain⟨vs,_,_,_,i4⟩:=lg (P:=X.prog) g4
     obtain⟨u,_,e2⟩:=(i4 k).2 _ e
     exact aa e2
  | _=>exact aa p1
end
open PySem PySem.Spec PyProof.Rows PySem.W L2
section
variable (lt:Nat->Nat->Bool) (N:Nat)
def Kg{α:Type}:KasT α->(α->Prop)->Prop
 | .ret a,Q=>Q a
 | .ask i j k,Q=>(i < N/\j < N)/\Kg (k (lt i j)) Q
end
section
variable {lt:Nat->Nat->Bool} {N:Nat}
theorem Kg.bind{α β:Type}{f:α->KasT β}{Q:β->Prop}:∀{t:KasT α},Kg lt N t (λa=>Kg lt N (f a) Q)->Kg lt N (t.bind f) Q
 | .ret a,h=>h
 | .ask i j k,h=>⟨h.1,Kg.bind (t:=k (lt i j)) h.2⟩
theorem Kg.imp{α:Type}{Q R:α->Prop}(hq:∀a,Q a->R a):∀{t:KasT α},Kg lt N t Q->Kg lt N t R
 | .ret a,h=>hq a h
 | .ask i j k,h=>⟨h.1,Kg.imp hq (t:=k (lt i j)) h.2⟩
structure Ord(lt:Nat->Nat->Bool):Prop where
 as:∀a b,lt a b=true->lt b a=false
 tr:∀a b c,lt a b=false->lt b c=false->lt a c=false
theorem Ord.TN(o:Ord lt)(a:Nat):lt a a=false:=by
 cases h:lt a a with
 | false=>rfl
 | true=>have:=o.as a a h;rw[h] at this;cases this
abbrev at_(p:Array Nat)(i:Nat):Nat:=p.getD i 0
structure Pm(N:Nat)(p:Array Nat):Prop where
 sz:p.size=N
 pm:p.toList.Perm (a9 N)
theorem Pm.bd{p:Array Nat}(h:Pm N p){i:Nat}(hi:i < N):at_ p i < N:=by
 have e:at_ p i=p[i]'(by rw[h.sz];exact hi):=by simp[at_,Array.getD,h.sz,hi]
 rw[e]
 have:p[i]'(by rw[h.sz];exact hi)∈p.toList:=by simp
 exact List.mem_range.mp (h.pm.mem_iff.mp this)
theorem xh{p q:Array Nat}{i j:Nat}(h:p[i]? =q[j]?):at_ p i=at_ q j:=by
 unfold at_
 rw[NY,NY,h]
theorem BQ{p:Array Nat}(h:Pm N p){i j:Nat}(hj:j<=N)(k:Nat):at_ (kas_rev p i j) k=if i<=k/\k < j then at_ p (i+j - 1 - k) else at_ p k:=by
 have q:=getElem?_mirror_all (xs:=p) (i:=i) (j:=j) (by rw[h.sz];exact hj) k
 unfold kas_rev
 split
 ·rename_i c;rw[if_pos c] at q;exact xh q
 ·rename_i c;rw[if_neg c] at q;exact xh q
def Up(lt:Nat->Nat->Bool)(p:Array Nat)(k:Nat):Prop:=∀i j,i<=j->j < k->lt (at_ p j) (at_ p i)=false
def Dn(lt:Nat->Nat->Bool)(p:Array Nat)(k:Nat):Prop:=∀i j,i<=j->j < k->lt (at_ p i) (at_ p j)=false
theorem Up.succ(o:Ord lt){p:Array Nat}{k:Nat}(h:Up lt p k)(hk:1<=k)(e:lt (at_ p k) (at_ p (k - 1))=false):Up lt p (k+1):=by
 intro i j hij hj
 by_cases c:j < k
 ·exact h i j hij c
 ·have:j=k:=by omega
  subst this
  by_cases c2:i=j
  ·subst c2;exact o.TN _
  ·exact o.tr _ _ _ e (h i (j - 1) (by omega) (by omega))
theorem Dn.succ(o:Ord lt){p:Array Nat}{k:Nat}(h:Dn lt p k)(hk:1<=k)(e:lt (at_ p (k - 1)) (at_ p k)=false):Dn lt p (k+1):=by
 intro i j hij hj
 by_cases c:j < k
 ·exact h i j hij c
 ·have:j=k:=by omega
  subst this
  by_cases c2:i=j
  ·subst c2;exact o.TN _
  ·exact o.tr _ _ _ (h i (j - 1) (by omega) (by omega)) e
theorem Dn.up{p:Array Nat}(hp:Pm N p){n:Nat}(hn:n<=N)(h:Dn lt p n):Up lt (kas_rev p 0 n) n:=by
 intro i j hij hj
 rw[BQ hp hn,BQ hp hn,if_pos ⟨by omega,hj⟩,if_pos ⟨by omega,by omega⟩]
 exact h _ _ (by omega) (by omega)
end
section
variable {prog:X7} {w:X_} {A:X4} {E:X9->X8->Prop} {s:X8}
end
section
variable {X:Cx} {pins:List (X3×Obj)} {σ:St} {H:Hp} {s:X8}
end
theorem Ku{h h':Heap}{L:X3}{m m':Str->Option X9}(a:h.Ns L m)(b:h.Ns L m')(c:h'.Ns L m):h'.Ns L m':=by
 obtain⟨o,es,ep,e1,e2,_,e4⟩:=a
 obtain⟨o',es',GP,f1,f2,_,f4⟩:=b
 rw[e1] at f1
 cases f1
 rw[e2] at f2
 cases f2
 have:m=m':=funext λx=>(e4 x).symm.trans (f4 x)
 rw[<-this]
 exact c
section
variable {X:Cx}
end
section
variable {prog:X7} {w:X_} {A:X4} {E:X9->X8->Prop} {s:X8}
end
section
variable {X:Cx}
abbrev pw(p:Int×Int):Wv:=.tup [.int p.1,.int p.2]
end
def keysOf:List Wv->Option (List L2.Key)
 | []=>some []
 | w::r=>(match keyOf w,keysOf r with | some k,some l=>some (k::l) | _,_=>none)
def mR:Wv->Option (List L2.Key)
 | .tup ws=>keysOf ws
 | _=>none
theorem oD{K:PySem.W.Frag}{m:Mp}{H:Hp}:∀{ws:List Wv}{xs:List V}{ks:List L2.Key},ah K m H ws xs->keysOf ws=some ks->xs=ks.map kV
 | [],xs,ks,r,e=>by unfold ah at r;subst r;cases e;rfl
 | w::ws,xs,ks,r,e=>by
  unfold ah at r
  obtain⟨x,t,rfl,r1,r2⟩:=r
  unfold keysOf at e
  cases e1:keyOf w with
  | none=>rw[e1] at e;cases e
  | some k=>
   cases e2:keysOf ws with
   | none=>rw[e1,e2] at e;cases e
   | some l=>
    rw[e1,e2] at e
    cases e
    rw[me r1 e1,oD r2 e2]
    rfl
theorem oE{K:PySem.W.Frag}{m:Mp}{H:Hp}{w:Wv}{v:V}{ks:List L2.Key}(r:ag K m H w v)(e:mR w=some ks):∃b,v= .ref b/\H b=some (.tup (ks.map kV)):=by
 cases w with
 | tup ws=>
  unfold ag at r
  obtain⟨a,xs,rfl,h1,h2⟩:=r
  rw[oD h2 e] at h1
  exact⟨a,rfl,h1⟩
 | _=>cases e
def tT:GE:=λ_ st=> .ok (.ref st.length) (st++[.dP []])
def Hr:GE:=λ_ st=> .ok (.ref st.length) (st++[.dct []])
section
variable {X:Cx}
theorem Fs{pos:Pos}:JE X (.Dict [] [] pos) tT:=JE.of AE λρ st σ H m Q S R p=>λq hq=>
 p (.ref q) (m++[q]) _ (Ext.more.trans (Ext.g_ (.inl hq))) (S.ra hq ⟨[],aM,RelK.nil⟩) (S.newest q _)
theorem Ft{pos:Pos}:JE X (.Dict [] [] pos) Hr:=JE.of AD λρ st σ H m Q S R p=>λq hq=>
 p (.ref q) (m++[q]) _ (Ext.more.trans (Ext.g_ (.inl hq))) (S.ra hq ⟨[],aM,RelK.nil⟩) (S.newest q _)
def putD(d k v:Wv)(st:Hs):Option Hs:=match d with
 | .ref l=>(match st[l]? with
  | some (.dct kvs)=>(match keyOf k with | some kk=>if kvs.length < lim then some (st.set l (.dct (eS kvs kk v))) else none | none=>none)
  | some (.dP kvs)=>(match mR k with | some kk=>if kvs.length < lim then some (st.set l (.dP (eS kvs kk v))) else none | none=>none)
  | _=>none)
 | _=>none
def jV(gv gd gk:GE):GS:=λρ st=>(gv ρ st).aY ρ λv st1=>(gd ρ st1).aY ρ λd st2=>(gk ρ st2).aY ρ λk st3=>match putD d k v st3 with
 | some wL=> .nx ρ wL
 | none=> .bad
theorem Fv{m:Mp}{st st':Hs}{H:Hp}{d k v:Wv}{x y z:V}(S:bg X.K m st H)(rd:ag X.K m H d x)(rk:ag X.K m H k y)(rv:ag X.K m H v z)(e:putD d k v st=some st'):∃a H',x= .ref a/\qW H a y z H'/\Ext X.K m H m H'/\bg X.K m st' H':=by
 unfold putD at e
 cases d with
 | ref l=>
  dsimp only at e
  unfold ag at rd
  obtain⟨a,rfl,ha⟩:=rd
  cases e1:st[l]? with
  | none=>rw[e1] at e;cases e
  | some o=>
   rw[e1] at e
   cases o with
   | dct kvs=>
    dsimp only at e
    cases e2:keyOf k with
    | none=>rw[e2] at e;cases e
    | some kk=>
     rw[e2] at e
     dsimp only at e
     by_cases c:kvs.length < lim
     ·rw[if_pos c] at e
      cases e
      obtain⟨xs,h1,h2⟩:=(show ∃ys,H a=some (.dK ys)/\RelK X.K m H kvs ys from S.obj _ _ _ ha e1)
      have ex:Ext X.K m H m (upd H a (.dK (putK xs kk z))):=Ext.g_ (.inr (.inr (.inl ⟨_,h1⟩)))
      refine⟨a,_,rfl,by rw[me rk e2];exact qW.k h1 (by rw[<-h2.length];exact vb c),ex,?_⟩
      exact S.rb ha e1 rfl ⟨_,aM,(h2.put kk rv).mono ex⟩
     ·rw[if_neg c] at e;cases e
   | dP kvs=>
    dsimp only at e
    cases e2:mR k with
    | none=>rw[e2] at e;cases e
    | some kk=>
     rw[e2] at e
     dsimp only at e
     by_cases c:kvs.length < lim
     ·rw[if_pos c] at e
      cases e
      obtain⟨xs,h1,h2⟩:=(show ∃ys,H a=some (.dT ys)/\RelK X.K m H kvs ys from S.obj _ _ _ ha e1)
      obtain⟨b,rfl,hb⟩:=oE rk e2
      have ex:Ext X.K m H m (upd H a (.dT (putK xs kk z))):=Ext.g_ (.inr (.inr (.inr ⟨_,h1⟩)))
      refine⟨a,_,rfl,qW.t h1 hb (by rw[<-h2.length];exact vb c),ex,?_⟩
      exact S.rb ha e1 rfl ⟨_,aM,(h2.put kk rv).mono ex⟩
     ·rw[if_neg c] at e;cases e
   | _=>cases e
 | _=>cases e
theorem Fw{o i e:Expr}{go gi ge:GE}{pos pos':Pos}(hu:X.A.units+1 < cLine)(he:JE X e ge)(ho:JE X o go)(hi:JE X i gi)(hs:swapsWith e (some (.Subscript o i pos')) pos.line X.env=pure false):JS X (.Assign [.Subscript o i pos'] e pos) (jV ge go gi) :=
 JS.of (EE hu aJ aJ aJ hs) λρ st σ H m D S R p=>by
  refine he.go S R (aD.bW R p) λv st1 vv m1 H1 p1 e1 S1 rv=>?_
  refine ho.go S1 (R.mono e1) ((aD.bW (m:=m) (H:=H) R p1).imp e1 λ_ _ q=>q) λd st2 vd m2 H2 p2 e2 S2 rd=>?_
  refine hi.go S2 (R.mono (e1.trans e2)) ((aD.bW (m:=m) (H:=H) R p2).imp (e1.trans e2) λ_ _ q=>q) λk st3 vk m3 H3 p3 e3 S3 rk=>?_
  have yq:=e1.trans (e2.trans e3)
  cases e4:putD d k v st3 with
  | none=>rw[e4] at p3;exact aa p3
  | some wL=>
   rw[e4] at p3
   obtain⟨a,H4,f1,f2,f3,f4⟩:=Fv (X:=X) S3 (ag.mono e3 _ _ rd) rk (ag.mono (e2.trans e3) _ _ rv) e4
   exact⟨a,H4,f1,f2,p3 σ m3 H4 (yq.trans f3) f4 (R.mono (yq.trans f3))⟩
end
def mS(h:Heap)(d:X3)(es:Array DictEntry)(ep:Nat):Prop:=∃o,h.get? d=some o/\o.cls= .type "dict"/\o.data= .dict es ep
section
variable {prog:X7} {w:X_} {A:X4} {E:X9->X8->Prop} {s:X8} {d it:X3} {es:Array DictEntry} {ep i:Nat}
theorem mS.ty(x:mS s.heap d es ep):s.TypeIs (.ref d) "dict":=let ⟨o,h1,h2,_⟩:=x;⟨o,h1,h2⟩
theorem BR{Q:X9->X8->Prop}(lo:(d == sysModules)=false)(x:mS s.heap d es ep)
  (k:Q (.ref s.heap.objs.size) { s with heap:=s.heap.push { cls:=.type "dict_keyiterator",data:=.fields #[.ref d,.int 0 0,.int es.size 0,.int ep 0] } }):Yk (model prog w) A (pyIter (.ref d)) Q E s:=by
 have ty:=x.ty
 obtain⟨o,g1,g2,g3⟩:=x
 refine wpAny_pyIter_slot ty PySem.F.slot_dict_iter (wpAny_call_entry PySem.F.slot_dict_iter ty PySem.F.entry_dict_iter ?_ (PySem.F.args_dict_iter_1 _))
 unfold Builtin.«dict.__iter__» Builtin.Dict.dictSlotNone
 refine Yl (Yl (wpAny_notOrdered_dict ty (Yq ?_)))
 unfold vx
 have nlo:¬(d == sysModules)=true:=by rw[lo];exact bV
 refine Yl (show Yk _ _ (pure d) _ _ s from Yq (Yl ?_))
 rw[if_neg nlo]
 exact Yq (Yl (Ym g1 g3 (Yl (wpAny_dictEpoch g1 g3 (Yl (Yp (Yq ⟨_,rfl,"dict_keyiterator",_,⟨_,aX _ rfl,rfl⟩,PySem.F.slot_dict_keyiterator_next.lookup,by simpa [rawInt] using k⟩)))))))
theorem BS{Q:Option X9->X8->Prop}(ki:s.heap.IsKeyIter it d i es.size ep)(x:mS s.heap d es ep)(hi:i < es.size)
  (k:∀h',h'.IsKeyIter it d (i+1) es.size ep->f9 it s.heap h'->Q (some es[i].key) { s with heap:=h' }):Yk (model prog w) A (pyNext (.ref it)) Q E s:=by
 have ty:=ki.typeIs
 obtain⟨oi,f1,f2,f3⟩:=id ki
 obtain⟨o,g1,g2,g3⟩:=x
 have own:Kv "dict_keyiterator"=false:=by decide
 have nn:¬((aB d == bE)=true):=bV
 unfold pyNext
 refine Yl (wpAny_attempt (wpAny_callSpecial?_slot (name:=fe "__next__") ty PySem.F.slot_dict_keyiterator_next (wpAny_call_entry PySem.F.slot_dict_keyiterator_next ty PySem.F.entry_dict_keyiterator_next ?_ (PySem.F.args_dict_keyiterator_next_1 _))))
 refine Yl (Yq (Yl (Yl ?_)))
 first | refine Yl (wpAny_typeNameOfWhole_keyiter ty (Yq (Yl (wpAny_fieldsOf f1 f3 ?_)))) | refine Yl (wpAny_typeNameOf_keyiter ty (Yq (Yl (wpAny_fieldsOf f1 f3 ?_))))
 simp only[own,gN,if_false]
 refine(show Yk _ _ (if(aB d == bE)=true then _ else _) _ _ s from ?_);rw[if_neg nn]
 refine Yl (Yq (Yl (Ym g1 g3 ?_)))
 rw[if_neg (by simp)]
 refine Yl (Yq (Yl (wpAny_dictEpoch g1 g3 ?_)))
 rw[if_neg (by simp)]
 refine Yq ?_
 have n0:¬((i:Int) < 0):=by omega
 simp only[n0,if_false,vy,Ho hi]
 refine Yl ?_
 first | refine Yl (wpAny_typeNameOfWhole_keyiter ty (Yq (Yl (wpAny_isOneOf_keyiter ty ?_)))) | refine Yl (wpAny_typeNameOf_keyiter ty (Yq (Yl (wpAny_isOneOf_keyiter ty ?_))))
 refine(show Yk _ _ (setField (.ref it) 1 (rawInt ((i:Int)+1)) >>= _) _ _ s from ?_)
 have TQ:(s.heap.update it (gY (·.setIfInBounds 1 (rawInt ((i:Int)+1))))).IsKeyIter it d (i+1) es.size ep:=⟨_,j4 _ f1 (q9 (jD f3 _)),(wH ..).trans f2,by rw[jD f3];simp[rawInt]⟩
 refine Yl (wpAny_setField f1 f3 (by simp) (Yl (Yn (Yl (wpAny_isOneOf_keyiter (s:={ s with heap:=s.heap.update it (gY (·.setIfInBounds 1 (rawInt ((i:Int)+1)))) }) TQ.typeIs ?_)))))
 exact(show Yk _ _ (pure es[i].key) _ _ _ from Yq (Yq ⟨_,rfl,Yq (k _ TQ (ke ..))⟩))
theorem Fx{Q:Option X9->X8->Prop}(hh:A.handled=none)(ki:s.heap.IsKeyIter it d i es.size ep)(x:mS s.heap d es ep)(hi:es.size<=i)(k:∀h',Heap.ExtBut it s.heap h'->Q none { s with heap:=h' }):Yk (model prog w) A (pyNext (.ref it)) Q E s:=by
 have ty:=ki.typeIs
 obtain⟨oi,f1,f2,f3⟩:=id ki
 obtain⟨o,g1,g2,g3⟩:=x
 have own:Kv "dict_keyiterator"=false:=by decide
 have nn:¬((aB d == bE)=true):=bV
 unfold pyNext
 refine Yl (wpAny_attempt (wpAny_callSpecial?_slot (name:=fe "__next__") ty PySem.F.slot_dict_keyiterator_next (wpAny_call_entry PySem.F.slot_dict_keyiterator_next ty PySem.F.entry_dict_keyiterator_next ?_ (PySem.F.args_dict_keyiterator_next_1 _))))
 refine Yl (Yq (Yl (Yl ?_)))
 first | refine Yl (wpAny_typeNameOfWhole_keyiter ty (Yq (Yl (wpAny_fieldsOf f1 f3 ?_)))) | refine Yl (wpAny_typeNameOf_keyiter ty (Yq (Yl (wpAny_fieldsOf f1 f3 ?_))))
 simp only[own,gN,if_false]
 refine(show Yk _ _ (if(aB d == bE)=true then _ else _) _ _ s from ?_);rw[if_neg nn]
 refine Yl (Yq (Yl (Ym g1 g3 ?_)))
 rw[if_neg (by simp)]
 refine Yl (Yq (Yl (wpAny_dictEpoch g1 g3 ?_)))
 rw[if_neg (by simp)]
 refine Yq ?_
 have n0:¬((i:Int) < 0):=by omega
 simp only[n0,if_false,vy,Array.getElem?_eq_none hi]
 refine Yl ?_
 first | refine Yl (wpAny_typeNameOfWhole_keyiter ty (Yq ?_)) | refine Yl (wpAny_typeNameOf_keyiter ty (Yq ?_))
 refine(show Yk _ _ (setField (.ref it) 0 .none >>= _) _ _ s from Yl (wpAny_setField f1 f3 (by simp) ?_))
 refine(show Yk _ _ (newExc (.type "StopIteration") [] >>= _) _ _ _ from ?_)
 simp only[newExc,newTuple,raiseNew]
 refine Yl (Yl (Yp (Yl (m:=firstArgMember _ _) (wpAny_of_eq (a:=bE) (by first | rfl | (simp only[firstArgMember];rfl)) (Yp ?_ (by size_fits)))) (by size_fits)))
 refine(Yl (wpAny_handled ?_))
 rw[show A.in1.handled=none by exact hh]
 refine(Yl (Yq (wpAny_throw ?_)))
 refine Yl (wpAny_isInstance (b:=true) (T:="StopIteration") ⟨_,aX _ rfl,rfl⟩ isSubtype_stop (Yq ?_))
 refine k _ ?_;exact((ke ..).extBut.push _).push _
theorem yM(hh:A.handled=none)(I:X3)(hne:d≠I):Walks prog w A I [I,d] [I] es.size (λi v=>∃h:i < es.size,v=es[i].key) (λi h=>h.IsKeyIter I d i es.size ep/\mS h d es ep) where
 sub:=λb hb=>List.mem_cons.mpr (.inl (List.mem_singleton.mp hb))
 frame:=λ_ _ _ st hk=>⟨st.1.at λo e=>hk I (by simp) o e,let ⟨o,e1,e2⟩:=st.2;⟨o,hk d (by simp) o e1,e2⟩⟩
 item:=λi s Q E hi st hQ=>BS st.1 st.2 hi λh' ki sb=>hQ _ h' s.toks ⟨hi,rfl⟩ ⟨ki,let ⟨o,e1,e2⟩:=st.2;⟨o,sb.extBut d o hne e1,e2⟩⟩ λb o hb e=>sb.extBut b o (λz=>hb (by simp[z])) e
 done:=λs Q E st hQ=>Fx hh st.1 st.2 (ao _) λh' eb=>hQ h' s.toks λb o hb e=>eb b o (λz=>hb (by simp[z])) e
 self:=λ_ _ _ _ st k=>wpAny_pyIter_keyiter st.1 k
theorem Fy(lo:(d == sysModules)=false):KdlSrc prog w "dict" d d es.size (λi v=>∃h:i < es.size,v=es[i].key) (λh=>mS h d es ep) where
 type:=λ_ x=>x.ty
 there:=λ_ x=>let ⟨o,e,_⟩:=x;⟨aC e,aC e⟩
 keep:=λ_ _ x hk=>let ⟨o,e,r⟩:=x;⟨o,hk d (.inl rfl) o e,r⟩
 notList:=by decide
 notTuple:=by decide
 hint:=λ_ _ _ _ x hq=>kdl_hint_dict x.ty hq
 iter:=λ_ s hh x=>⟨_,_,(λ_ _ hq=>BR lo x hq),yM hh _ (by obtain⟨o,e,_⟩:=x;exact aP (aC e)),⟨⟨_,aX _ rfl,rfl,rfl⟩,let ⟨o,e,r⟩:=x;⟨o,aQ _ e,r⟩⟩⟩
end
abbrev Pw(H:Hp):List V->List (List L2.Key)->Prop:=Paired λv k=>∃b,v= .ref b/\H b=some (.tup (k.map kV))
theorem xi{H:Hp}:∀{kvs:List (List L2.Key×V)}{xs:List (List L2.Key×X3×X9)},KT H kvs xs->Pw H (xs.map λx=>V.ref x.2.1) (kvs.map (·.1))
 | _,_,.nil=> .nil
 | _,_,.cons h t=> .cons ⟨_,rfl,h.2.1⟩ (xi t)
theorem qk{α:Type}(f:α->X3):∀xs:List α,Vals (xs.map λx=>V.ref (f x)) (xs.map λx=>aB (f x))
 | []=> .nil
 | x::r=> .cons rfl (qk f r)
section
variable {X:Cx}
theorem vz:cR X (.type "list") (λxs H Q=>∃(p:X3)(kvs:List (List L2.Key×V)),xs=[.ref p]/\H p=some (.dT kvs)/\X.A.handled=none/\∀l vs',H l=none->Pw H vs' (kvs.map (·.1))->Q (.ref l) (upd H l (.lst vs'))):=by
 intro pins s σ H xs us Q I r h
 obtain⟨p,kvs,rfl,hp,hh,q⟩:=h
 obtain⟨u,rfl,rx⟩:=vals1 r
 cases rx
 obtain⟨z,lo,ys,kt,o,es,ep,g1,g2,g3,g4,g5,g6⟩:=Az I.hok hp
 have len:es.size=ys.length:=by have:=congrArg gU g4;simpa using this
 have NZ:kvs.length=ys.length:=kt.length
 obtain⟨m,hn,hl⟩:=id I.loc
 have raw:mS s.heap p es ep:=⟨o,g1,g2.1,g3⟩
 refine kdl_N (Fy lo) hh (Att.Jd hn) (zW (g:=Att.qV s.heap) (h:=s.heap) (L:=X.env.locals)) raw (by rw[len,<-NZ];exact z) λD c h'' tk vs TR Q_ hD hlen hv=>?_
 have VH:vs=ys.map λx=>aB x.2.1:=by
  refine List.ext_getElem? λj=>?_
  cases e:vs[j]? with
  | none=>
   have hj:vs.length<=j:=by simpa using e
   rw[List.getElem?_eq_none]
   simp
   omega
  | some v=>
   obtain⟨hj,ev⟩:=hv j v e
   have hj':j < ys.length:=by omega
   have q1:es.toList[j]'(by simpa using hj)=entryOfKey (tupleKind (aV X.prog X.w)) ys[j]:=by
    have:es.toList[j]? =(ys.map (entryOfKey (tupleKind (aV X.prog X.w))))[j]?:=by rw[g4]
    rw[cW (by simpa using hj),dA,cW hj'] at this
    simpa using this
   rw[dA,cW hj',ev]
   have q2:es[j]=es.toList[j]'(by simpa using hj):=by simp
   rw[q2,q1]
   rfl
 subst VH
 have hDL:D≠X.env.locals:=(Q_ (D,_) bF).2.1
 have xj:∀b o,b≠X.env.locals->s.heap.get? b=some o->h''.get? b=some o:=λb o n e=>(Q_ (b,o) (aU _ (mB n (Att.j5 _ _) e))).1
 have TU:s.heap.get? D=none:=by
  cases e:s.heap.get? D with
  | none=>rfl
  | some o=>exact absurd (hD (D,o) (mB hDL (Att.j5 _ _) e)) (c_ _)
 have TV:H D=none:=by
  cases e:H D with
  | none=>rfl
  | some ob=>
   obtain⟨z,e'⟩:=p_ (I.hok D ob e)
   rw[TU] at e'
   cases e'
 have N0:∀b u,H b=some u->b≠D:=λb u e=>bh e TV
 have Mz:∀b u,H b=some u->b≠X.env.locals:=λb u e=>bh e I.free
 have I':Inv X pins σ (upd H D (.lst (ys.map λx=>V.ref x.2.1))) { s with heap:=h'',toks:=tk }:=by
  refine I.step (g':=s.gens) (d':=s.drawn) (t':=tk) (ch:=[]) (λ_ z=>nomatch z) (λb o n _ _ e _=>xj b o n e) (λb o n _ _ e _=>⟨o.slots,xj b o n e⟩) (λb o _ e n=>?_) (λb o _ e=>?_) (λb xs e=>?_) (λb o u e=>?_) (λb ps e=>?_) (λm' hm=>Ku hn hm TR.ns) (λb ob e=>?_) I.bare
  ·rw[aw (λz=>by subst z;rw[TU] at e;cases e)];exact n
  ·by_cases z:b=X.env.locals
   ·subst z
    obtain⟨o',_,_,e',_⟩:=TR.ns
    exact⟨o',e'⟩
   ·exact⟨o,xj b o z e⟩
  ·rw[aw (N0 _ _ e)];exact e
  ·rw[aw (N0 _ _ e)];exact e
  ·exact⟨#[],by rw[aw (N0 _ _ e),e];simp⟩
  ·by_cases z':b=D
   ·subst z'
    rw[aM] at e
    cases e
    exact⟨by rw[aH,<-NZ];exact z,_,c,qk (λx=>x.2.1) ys,(Q_ (b,_) bF).1⟩
   ·rw[aw z'] at e
    refine(I.hok b ob e).stay (λc v hc q=>xj c v ?_ q) (λc q=>by rw[aw (N0 _ _ q)];exact q) λc xs q=>by rw[aw (N0 _ _ q)];exact q
    rcases hc with y | y
    ·rw[y];exact Mz b ob e
    ·exact Mz c _ y
 exact⟨.ref D,_,I',rfl,q D _ TV (xi kt)⟩
end
def mU:List L2.Key->Option (List Int)
 | []=>some []
 | .inl i::r=>(match mU r with | some l=>some (i::l) | none=>none)
 | _=>none
theorem xk:∀{ks:List L2.Key}{ns:List Int},mU ks=some ns->ks.map kV=ns.map V.int
 | [],ns,e=>by cases e;rfl
 | .inl i::r,ns,e=>by
  unfold mU at e
  cases q:mU r with
  | none=>rw[q] at e;cases e
  | some l=>rw[q] at e;cases e;rw[av,av,xk q];rfl
 | .inr x::r,ns,e=>by cases e
def ql:List (List L2.Key)->Option (List Wv)
 | []=>some []
 | k::r=>(match mU k,ql r with | some ns,some l=>some (.tup (ns.map Wv.int)::l) | _,_=>none)
theorem qm{K:PySem.W.Frag}{m:Mp}{H:Hp}:∀{vs:List V}{ks:List (List L2.Key)}{ws:List Wv},Pw H vs ks->ql ks=some ws->ah K m H ws vs
 | _,_,ws,.nil,e=>by cases e;exact ah.nil
 | _,_,ws,.cons (b:=k) (l₂:=ks) h t,e=>by
  obtain⟨b,rfl,hb⟩:=h
  unfold ql at e
  cases q1:mU k with
  | none=>rw[q1] at e;cases e
  | some ns=>
   cases q2:ql ks with
   | none=>rw[q1,q2] at e;cases e
   | some l=>
    rw[q1,q2] at e
    cases e
    refine ah.cons ?_ (qm t q2)
    rw[xk q1] at hb
    unfold ag
    exact⟨b,_,rfl,hb,ah.ints ns⟩
def mh:List Wv->Hs->Re Wv
 | [.ref l],st=>match st[l]? with
  | some (.dP kvs)=>(match ql (kvs.map (·.1)) with | some ws=> .ok (.ref st.length) (st++[.lst ws]) | none=> .bad)
  | _=>oz [.ref l] st
 | ws,st=>oz ws st
section
variable {X:Cx}
theorem tU(hc:X.calm=true):cR X (.type "list") (λxs H Q=>∃(p:X3)(kvs:List (List L2.Key×V)),xs=[.ref p]/\H p=some (.dT kvs)/\∀l vs',H l=none->Pw H vs' (kvs.map (·.1))->Q (.ref l) (upd H l (.lst vs'))):=by
 intro pins s σ H xs us Q I r h
 obtain⟨p,kvs,e,hp,q⟩:=h
 exact vz pins s σ H xs us Q I r ⟨p,kvs,e,hp,I.ok.hd hc,q⟩
theorem BU(hc:X.calm=true):cX X (.type "list") mh:=by
 obtain⟨rr,h1,h2⟩:=Fi (X:=X)
 refine⟨_,(tU hc).or h1,λws vs st H m Q S rs p=>?_⟩
 have other:cq X.K m H (oz ws st) Q->rr vs H Q:=λp=>h2 ws vs st H m Q S rs p
 match ws,rs,p,other with
 | [],rs,p,other=>exact .inr (other p)
 | x::y::t,rs,p,other=>exact .inr (other (by cases x<;>exact p))
 | [x],rs,p,other=>
  cases x with
  | ref l=>
   unfold mh at p
   cases e:st[l]? with
   | none=>simp only[e] at p;exact .inr (other p)
   | some o=>
    simp only[e] at p
    cases o with
    | dP kvs=>
     dsimp only at p
     cases e2:ql (kvs.map (·.1)) with
     | none=>rw[e2] at p;exact aa p
     | some us=>
      rw[e2] at p
      obtain⟨v,rfl,r1⟩:=kY rs
      unfold ag at r1
      obtain⟨a,rfl,ha⟩:=r1
      obtain⟨xs,g1,g2⟩:=(show ∃ys,H a=some (.dT ys)/\RelK X.K m H kvs ys from S.obj _ _ _ ha e)
      refine .inl ⟨a,xs,rfl,g1,λk vs' hk hy=>?_⟩
      rw[<-g2.1] at hy
      exact p (.ref k) (m++[k]) _ (Ext.more.trans (Ext.upd (.inl hk))) (S.alloc hk (qm hy e2)) (S.newest k _)
    | _=>exact .inr (other p)
  | _=>exact .inr (other p)
end
open PySem L2 PyProof.Rows
section
open PySem.SeqAt PySem.MeetsSeq PySem.MeetsSeq2 PySem.MeetsSeq3
end
variable {X:Cx}
def oLe:ff:=λx y st=>Nm x y st
theorem Kw(hu:X.A.units+64 < cLine):iP X (Ye .LtE) oLe:=Nq
def oLt:ff:=λx y st=>Nl x y st
theorem Kx(hu:X.A.units+64 < cLine):iP X (Ye .Lt) oLt:=Np
structure qo(k:Nat)(A:X4):Prop where
 d:A.depth+3 * k+5 < recursionLimit
 u:A.units+16 * k+200 < cLine
theorem qo.of{k:Nat}{A:X4}(r:iK k A):qo k A:=⟨r.dp,r.un⟩
structure N1(P:X7)(w:X_)(K:PySem.W.Frag)(mg:Str->Option X9)(base:Heap)(k:Nat)(f:X3)(fd:X5)(ps:List Str)(sp:Sp):Prop where
 n:∀vs H Q E,sp vs H Q E->vs.length=ps.length
 go:∀(A:X4)(outer:List Env)(s:X8)(H:Hp)(args:Args)(us:List X9)(vs:List V)(Q:VK)(E:XK),qo k A->yA A H->Am P w K mg base A outer s H->
  BindsTo s fd args (ps.zip us)->Vals vs us->sp vs H Q E->Yc (model P w) A (.call (.ref f) args) (CR (CXJ P w) outer P w H s Q E) s
section
variable {P:X7} {w:X_} {K:PySem.W.Frag} {mg:Str->Option X9} {base:Heap}
end
section
variable {X:Cx}
end
def Ky(P:X7)(w:X_)(K:PySem.W.Frag)(mg:Str->Option X9)(base:Heap)(k:Nat)(x:Str)(n:Nat)(F:List Wv->Hs->Re Wv):Prop :=
 ∃f fd ps,N1 P w K mg base k f fd ps (spW K n F)/\mg x=some (.ref f)/\PySem.W.keepIn K (.ref f)=true/\Binds K fd ps []
section
variable {X:Cx}
end
section
variable {X:Cx}
end
abbrev Ra:=Option (Nat×List Wv)×List Wv
def BV(c:Option (Nat×List Wv))(st:Hs):Prop:=match c with
 | some (l,ws)=>ai st l=some ws
 | none=>True
structure Kz(X:Cx)(w:Ra)(m1:Mp)(H1:Hp)(J':It):Prop where
 go:∀(k:Nat)(H:Hp)(m':Mp)(st:Hs),Ext X.K m1 H1 m' H->bg X.K m' st H->BV w.1 st->k < w.2.length->J'.go k H
 stop:∀(k:Nat)(H:Hp)(m':Mp)(st:Hs),Ext X.K m1 H1 m' H->bg X.K m' st H->BV w.1 st->k=w.2.length->J'.stop k H
 sN:∀(k:Nat)(hk:k < w.2.length)(H:Hp)(v:V)(H':Hp)(m':Mp)(st:Hs),Ext X.K m1 H1 m' H->bg X.K m' st H->BV w.1 st->J'.sN k H v H'->Ext X.K m' H m' H'/\bg X.K m' st H'/\ag X.K m' H' w.2[k] v
abbrev KA:=bw->Hs->Re Ra
def N2(X:Cx)(tg iter:Expr)(gi:KA):Prop:=∃wi,PI X tg iter wi/\∀(ρ:bw)(st:Hs)(σ:St)(H:Hp)(m:Mp)(R:It->Hp->Prop),bg X.K m st H->ay X.K m H ρ σ->
 au X σ m H (gi ρ st) (λw st1=>∀(m1:Mp)(H1:Hp)(J':It),Ext X.K m H m1 H1->bg X.K m1 st1 H1->BV w.1 st1->Kz X w m1 H1 J'->R J' H1)->wi σ H R
def BW:KA:=λ_ _=> .bad
section
variable {X:Cx}
theorem Fz{tg iter:Expr}:N2 X tg iter BW:=⟨_,tO,λρ st σ H m Q S R p=>p⟩
theorem KC{tg iter:Expr}{gi:GI}(h:JI X tg iter gi):N2 X tg iter (λρ st=>(gi ρ st).bind λw st1=> .ok (w.1.map λl=>(l,w.2),w.2) st1):=by
 obtain⟨wi,hp,hw⟩:=h
 refine⟨wi,hp,λρ st σ H m R S r p=>hw ρ st σ H m R S r ((au.bind p).imp Ext.refl λw st1 q m1 H1 J' e1 S1 c1 yE=>?_)⟩
 obtain⟨o,ws⟩:=w
 have cc:∀st,BV (o.map λl=>(l,ws)) st->iI (o,ws) st:=λst c=>by cases o<;>exact c
 have VI:iI (o,ws) st1->BV (o.map λl=>(l,ws)) st1:=λc=>by cases o<;>exact c
 refine q m1 H1 J' e1 S1 (VI c1) ⟨λk H2 m' st2 e S2 c=>yE.go k H2 m' st2 e S2 (cc _ c),λk H2 m' st2 e S2 c=>yE.stop k H2 m' st2 e S2 (cc _ c),λk hk H2 v H3 m' st2 e S2 c y=>?_⟩
 obtain⟨rfl,rr⟩:=yE.sN k hk H2 v H3 m' st2 e S2 (cc _ c) y
 exact⟨Ext.refl,S2,rr⟩
end
open Classical in
def tV(is:List Nat)(gb:GS)(c:Option (Nat×List Wv)):List Wv->bw->Hs->Rs
 | [],ρ,st=> .nx ρ st
 | w::r,ρ,st=>match Hl is w ρ with
  | none=> .bad
  | some ρ1=>match gb ρ1 st with
   | .nx ρ' st'=>if BV c st' then tV is gb c r ρ' st' else .bad
   | .ct ρ' st'=>if BV c st' then tV is gb c r ρ' st' else .bad
   | .bk ρ' st'=> .nx ρ' st'
   | .rt w st'=> .rt w st'
   | .err c ρ' st'=> .err c ρ' st'
   | .bad=> .bad
def Ht(is:List Nat)(gi:KA)(gb:GS):GS:=λρ st=>(gi ρ st).aY ρ λw st1=>tV is gb w.1 w.2 ρ st1
section
variable {X:Cx}
theorem FA{es:List Expr}{is:List Nat}{k:Nat}{iter:Expr}{body:List Stmt}{gi:KA}{gb:GS}{pos pos':Pos}(hN:X.N.Nodup)(hp:PassesOwn (model X.prog X.w) X.A X.env X.xe)(hc:X.calm=true)(sl:Slots X es is)(hi:N2 X (.Tuple es k pos') iter gi)(hb:j8 X body gb)
  (hs:∀x,Yf iter X.env x=pure x):JS X (.For (.Tuple es k pos') iter body [] pos) (Ht is gi gb):=by
 obtain⟨wi,Q8,hw⟩:=hi
 refine JS.of (jX hp hc Q8 (qI hc (gL hN sl) (iX sl) (gM sl)) dE hs) λρ st σ H m D S R p=>?_
 refine hw ρ st σ H m _ S R ((aD.bW R p).imp Ext.refl λw st1 p1 m1 H1 J' e1 S1 c1 yE=>?_)
 obtain⟨cc,ws⟩:=w
 let Pv:Nat->St->Hp->Prop:=λk σ H=>∃ρ st m',Ext X.K m1 H1 m' H/\bg X.K m' st H/\ay X.K m' H ρ σ/\BV cc st/\aD X m' H (tV is gb cc (ws.drop k) ρ st) D
 refine⟨λk n σ H=>n=ws.length - k/\k<=ws.length/\Pv k σ H,⟨ws.length,by simp,bx _,ρ,st1,m1,Ext.refl,S1,R.mono e1,c1,aD.shift p1 e1⟩,?_⟩
 rintro k n σ2 H2 ⟨rfl,hk,ρ2,st2,m2,e2,S2,R2,c2,p2⟩
 by_cases hlt:k < ws.length
 ·refine .inr ⟨yE.go k H2 m2 st2 e2 S2 c2 hlt,Pv (k+1),λσ' H' p'=>⟨ws.length - (k+1),by omega,rfl,hlt,p'⟩,λx H' y=>?_⟩
  obtain⟨eY,Rb,mP⟩:=yE.sN k hlt H2 x H' m2 st2 e2 S2 c2 y
  have ed:ws.drop k=ws[k]::ws.drop (k+1):=lV hlt
  rw[ed] at p2
  unfold tV at p2
  replace p2:=aD.shift p2 eY
  have Rc:=R2.mono eY
  have DX:=e2.trans eY
  have Rf:ag X.K m2 H' ws[k] x:=mP
  cases eb:ws[k] with
  | tup us=>
   rw[eb] at p2 Rf
   dsimp only[Hl] at p2
   cases e5:rC is us ρ2 with
   | none=>rw[e5] at p2;exact aa p2
   | some ρ5=>
    rw[e5] at p2
    dsimp only at p2
    unfold ag at Rf
    obtain⟨b,ys,rfl,f1,f2⟩:=Rf
    refine⟨b,ys,rfl,cU.of f1,by rw[<-f2.length];exact iW e5,iV f2 Rc e5 λσ5 R5=>?_⟩
    refine hb _ st2 _ _ m2 _ Rb R5 ?_
    cases eg:gb ρ5 st2 with
    | nx ρ3 st3=>
     rw[eg] at p2
     by_cases c:BV cc st3
     ·simp only[if_pos c] at p2
      exact λσ3 m3 H3 e3 S3 R3=>⟨ρ3,st3,m3,DX.trans e3,S3,R3,c,aD.shift p2 e3⟩
     ·simp only[if_neg c] at p2;exact aa p2
    | ct ρ3 st3=>
     rw[eg] at p2
     by_cases c:BV cc st3
     ·simp only[if_pos c] at p2
      exact λσ3 m3 H3 e3 S3 R3=>⟨ρ3,st3,m3,DX.trans e3,S3,R3,c,aD.shift p2 e3⟩
     ·simp only[if_neg c] at p2;exact aa p2
    | bk ρ3 st3=>rw[eg] at p2;exact p2
    | rt w3 st3=>rw[eg] at p2;exact p2
    | err c3 ρ3 st3=>rw[eg] at p2;exact p2
    | bad=>rw[eg] at p2;exact p2
  | _=>rw[eb] at p2;exact aa p2
 ·have e:k=ws.length:=by omega
  subst e
  rw[og] at p2
  exact .inl ⟨yE.stop _ H2 m2 st2 e2 S2 c2 rfl,p2 σ2 m2 H2 Ext.refl S2 R2⟩
end
open Classical in
section
variable {X:Cx} {pins:List (X3×Obj)} {σ:St} {H:Hp} {s:X8} {scope:Scope} {x:Str} {xr:List Str} {cs:eK}
end
section
variable {prog:X7} {w:X_} {A:X4} {R:Result->X8->Prop} {s:X8}
end
section
variable {X:Cx}
end
section
variable {X:Cx}
end
section
open PySem.SeqAt PySem.MeetsSeq PySem.MeetsSeq2 PySem.MeetsSeq3
end
section
variable {X:Cx}
end
section
variable {X:Cx}
end
section
variable {X:Cx}
def BX(kvs:Dc)(gk gx:GE):GE:=λρ st=>(gk ρ st).bind λk st1=>(gx ρ st1).bind λx st2=>match k with
 | .str z=> .ok ((kvs.lookup z).getD x) st2
 | _=> .bad
theorem BY{e f:Expr}{gk gx:GE}{x:Str}{p apos cpos:Pos}{kvs:Dc}(he:JE X e gk)(hf:JE X f gx)(M:M2 X (.Name x p) "get" apos e f cpos)(hg:Gl X x)(hd:(x == ("__debug__":Str))=false)(D:mf X.K X.w X.mg x kvs):JE X (.Call (.Attribute (.Name x p) "get" apos) [e,f] [] cpos) (BX kvs gk gx):=by
 intro ρ st σ H m Q S R pp pins s I
 obtain⟨a,es,ep,g1,g2,g3,g4,g5⟩:=D
 have k1:=he.go (T:=λy H2=>∃k st1 m1,dD X σ m H ((gx ρ st1).bind λx st2=>match k with | .str z=> .ok ((kvs.lookup z).getD x) st2 | _=> .bad) Q/\Ext X.K m H m1 H2/\bg X.K m1 st1 H2/\ag X.K m1 H2 k y) S R (au.bind pp) λw st1 v m1 H1 p1 e1 S1 rw'=>⟨w,st1,m1,p1,e1,S1,rw'⟩
 refine wpAny_Call_method M.base M.few M.line PySem.F.plainAttrs_dict PySem.F.slot_dict_get PySem.F.type_dict_get (aY (e_ (v:=.ref a) hg g1 rfl hd pins s σ H (λv H2=>v= .ref a/\H2=H) I ⟨rfl,rfl⟩) λu s1 ⟨v,H1,I1,rv,ev,eH⟩=>?_)
 subst ev
 cases eH
 obtain rfl:u=aB a:=rv
 refine⟨⟨_,I1.uR _ _ g2,rfl⟩,λa' e=>by cases e;exact⟨_,I1.uR _ _ g2,rfl⟩,?_⟩
 rw[M.trees]
 refine qU rfl (nT (iL (aY (k1 pins s1 I1) λiv s2 ⟨y,H2,I2,ry,k,st1,m1,p1,e1,S1,rk⟩=>?_)))
 have k2:=hf.go (T:=λz H3=>∃x' st2 m2,dD X σ m H (match k with | .str z=> .ok ((kvs.lookup z).getD x') st2 | _=> .bad) Q/\Ext X.K m H m2 H3/\bg X.K m2 st2 H3/\ag X.K m2 H3 x' z) S1 (R.mono e1) ((au.bind p1).imp e1 λ_ _ q=>q) λw st2 v m2 H3 p2 e2 S2 rw'=>⟨w,st2,m2,p2,e1.trans e2,S2,rw'⟩
 refine iL (aY (k2 pins s2 I2) λfv s3 ⟨z,H3,I3,rz,x',st2,m2,p2,e2,S2,rx⟩=>nO ?_)
 cases k with
 | str zs=>
  obtain⟨rfl,_⟩:=dF rk
  obtain⟨t,rfl⟩:=(show ∃t,iv=eZ zs t from ry)
  obtain⟨vs,dd,look⟩:=nB (P:=X.prog) (w:=X.w) I3.uR g2 g4 g5
  refine call_meetsIn PySem.F.slot_dict_get dd.typeIs PySem.F.entry_dict_get (PySem.F.args_dict_get_3 _ _ _) (meets_dict_get_default (PySem.strKind X.prog X.w) a (strKind_is X.prog X.w zs t) g3 fv) ⟨_,dd.mapOf,?_⟩
  have p2':Mc X.K m H Q ((kvs.lookup zs).getD x') st2:=p2
  cases e:kvs.lookup zs with
  | none=>
   rw[e] at p2'
   have q:=(look zs).1 e
   show EP X pins σ Q ((valueAt vs zs).getD fv) _
   rw[q]
   exact⟨z,H3,I3.tok _,rz,p2' z m2 H3 e2 S2 rx⟩
  | some u=>
   rw[e] at p2'
   obtain⟨u',q1,q2⟩:=(look zs).2 u e
   show EP X pins σ Q ((valueAt vs zs).getD fv) _
   rw[q1]
   cases u with
   | int i=>exact⟨.int i,H3,I3.tok _,q2,p2' _ m2 H3 e2 S2 (by unfold ag;rfl)⟩
   | str y=>exact⟨.str y,H3,I3.tok _,q2.1,p2' _ m2 H3 e2 S2 (by unfold ag;exact⟨rfl,q2.2⟩)⟩
   | _=>exact aa q2
 | _=>exact aa p2
end
section
variable {X:Cx}
theorem BZ:dU X (Ya .Mult) (λx y H Q=>∃z n,x= .str z/\y= .int n/\(n=0\/n=1)/\Q (.str (if n=0 then PySem.Str.empty else z)) H):=by
 intro pins s σ H x y v u Q I rx ry h
 obtain⟨z,n,rfl,rfl,hn,q⟩:=h
 obtain⟨t,rfl⟩:=rx
 obtain⟨t',rfl⟩:=ry
 rcases hn with rfl | rfl
 ·exact PySem.P.mul_str_none (by omega) (by omega) ⟨.str PySem.Str.empty,H,I.tok _,⟨_,rfl⟩,q⟩
 ·refine PySem.P.mul_str (by decide) (λ_ h=>by cases h) (λ_ h=>by cases h) ?_
  rw[if_neg (by omega),if_pos (by rfl)]
  exact⟨.str z,H,I,⟨t,rfl⟩,q⟩
def fJ:ff:=λx y st=>match x,y with
 | .str z,.int n=>if n=0\/n=1 then .ok (.str (if n=0 then PySem.Str.empty else z)) st else ow (.str z) (.int n) st
 | x,y=>ow x y st
theorem B0:iP X (Ya .Mult) fJ:=by
 obtain⟨r,h1,h2⟩:=Fh (X:=X)
 refine⟨_,dU.or BZ h1,λx y a b st H m Q S rx ry p=>?_⟩
 cases x with
 | str z=>
  cases y with
  | int n=>
   have p':cq X.K m H (if n=0\/n=1 then .ok (.str (if n=0 then PySem.Str.empty else z)) st else ow (.str z) (.int n) st) Q:=p
   by_cases c:n=0\/n=1
   ·rw[if_pos c] at p'
    obtain⟨rfl,ok⟩:=dF rx
    refine .inl ⟨z,n,rfl,aO ry,c,p' _ m H Ext.refl S (mkStr ?_)⟩
    by_cases c0:n=0
    ·rw[if_pos c0];decide+kernel
    ·rw[if_neg c0];exact ok
   ·rw[if_neg c] at p'
    exact .inr (h2 _ _ _ _ st H m Q S rx ry p')
  | _=>exact .inr (h2 _ _ _ _ st H m Q S rx ry p)
 | _=>exact .inr (h2 _ _ _ _ st H m Q S rx ry p)
end
abbrev LF:=List Wv->List Wv->Hs->Re Wv
section
variable {X:Cx} {pins:List (X3×Obj)} {σ:St} {H:Hp} {s:X8}
end
def VJ(K:PySem.W.Frag)(n:Nat)(p:Lm)(L:LF):Sp:=λvs H Q E=>∃m st ws caps,bg K m st H/\ah K m H ws vs/\ah K m H caps p.xs/\H p.c=some (.ext (AJ p.c p.q))/\ws.length=n/\Hh K m H (L caps ws st) Q E
def KD(P:X7)(w:X_)(K:PySem.W.Frag)(mg:Str->Option X9)(base:Heap)(k:Nat)(p:Lm)(n:Nat)(L:LF):Prop :=
 ∃fd ps ob,FnOk P w K mg base (CXJ P w) k p.a fd ps (VJ K n p L)/\base.get? p.a=some ob/\ob.data= .func fd/\Binds K fd ps []
open Classical in
section
variable {X:Cx}
end
section
variable {P:X7} {w:X_} {K:PySem.W.Frag} {mg:Str->Option X9} {base:Heap} {p:Lm} {scope:Scope} {x1 x2 x3 y:Str} {cy:X3}
theorem KG{m:Mp}{H:Hp}{ws:List Wv}{vs:List V}(r:ah K m H ws vs)(h:ws.length=3):∃w1 w2 w3 v1 v2 v3,ws=[w1,w2,w3]/\vs=[v1,v2,v3]/\ag K m H w1 v1/\ag K m H w2 v2/\ag K m H w3 v3:=by
 match ws,h with
 | [w1,w2,w3],_=>
  unfold ah at r
  obtain⟨v1,t1,rfl,r1,r⟩:=r
  unfold ah at r
  obtain⟨v2,t2,rfl,r2,r⟩:=r
  unfold ah at r
  obtain⟨v3,t3,rfl,r3,r⟩:=r
  unfold ah at r
  subst r
  exact⟨w1,w2,w3,v1,v2,v3,rfl,rfl,r1,r2,r3⟩
end
structure Hu(X:Cx)(q:Str)(P:X3):Prop where
 code:∃c,X.env.code= .ref c/\PySem.W.CodeHd X.base c P
 qual:X.env.qual=q++".<locals>."
 tab:gZ X.K q=some P
 mem:q∈de
 uniq:∀q',q'∈de->gZ X.K q'=some P->q'=q
 bm:∃bm ob,X.mg "__builtins__"=some (.ref bm)/\bm≠builtinsNs/\bm≠Yh/\X.base.get? bm=some ob/\ob.cls= .type "module"/\ob.dict=some builtinsNs/\ob.data= .plain
section
variable {X:Cx} {pins:List (X3×Obj)} {σ:St} {H:Hp} {s:X8} {q:Str} {P:X3}
end
abbrev TX:=Lm->LF->List Wv->Hs->Re Wv
def Rg(mg:Str->Option X9)(base:Heap):Prop:=∃bm ob,mg "__builtins__"=some (.ref bm)/\bm≠builtinsNs/\bm≠Yh/\base.get? bm=some ob/\ob.cls= .type "module"/\ob.dict=some builtinsNs/\ob.data= .plain
def B1(K:PySem.W.Frag)(mg:Str->Option X9)(base:Heap):Prop:=Mod K mg base/\Rg mg base
def TY(P:X7)(w:X_)(K:PySem.W.Frag)(mg:Str->Option X9)(k j:Nat)(x:Str)(FL:TX):Prop :=
 (∃f,mg x=some (.ref f)/\PySem.W.keepIn K (.ref f)=true)/\∀(base:Heap)(p:Lm)(L:LF),B1 K mg base->KD P w K mg base (j+1) p 3 L->lP P w K mg base k x 2 (FL p L)
section
variable {X:Cx}
end
section
variable {P:X7} {w:X_} {A:X4} {E:X9->X8->Prop} {s:X8}
theorem kg{j t:X3}{i:Nat}{vs:Array X9}{u:X9}{Q:X9->X8->Prop}(hj:s.heap.IsTupleIter j t i)(ht:s.heap.IsTuple t vs)(hu:vs[i]? =some u)
  (k:∀g,g.IsTupleIter j t (i+1)->f9 j s.heap g->Q u { s with heap:=g }):Yk (model P w) A (kh (.ref j)) Q E s:=by
 obtain⟨oj,ej,cj,dj⟩:=id hj
 obtain⟨ot,et,_,nt,dt⟩:=ht
 unfold kh
 refine Yl (wpAny_callSpecial?_slot (name:=fe "__next__") hj.typeIs vA (wpAny_call_entry vA hj.typeIs KH ?_ (KI _)))
 show Yk _ _ (field (.ref j) 0 >>= _) _ _ s
 refine Yl (wpAny_field ej dj (x:=.ref t) rfl ?_)
 show Yk _ _ (if(aB t == bE)=true then _ else _) _ _ s
 rw[if_neg (by intro z;exact bV z)]
 show Yk _ _ (field (.ref j) 1 >>= _) _ _ s
 refine Yl (wpAny_field ej dj (x:=.int i 0) rfl ?_)
 show Yk _ _ (seqItems? (.ref t) >>= _) _ _ s
 refine Yl (wpAny_seqItems et dt ?_)
 simp only[vy,hu]
 refine Yl (wpAny_setField ej dj (by simp) (Yq ⟨u,rfl,Yq (k _ ?_ (ke ..))⟩))
 refine⟨_,j4 _ ej (q9 (jD dj _)),(wH ..).trans cj,?_⟩
 rw[jD dj];simp[rawInt]
theorem yN{j t:X3}{i:Nat}{vs:Array X9}{Q:X9->X8->Prop}(hh:A.handled=none)(hj:s.heap.IsTupleIter j t i)(ht:s.heap.IsTuple t vs)(hu:vs[i]? =none)
  (k:∀g e,Heap.ExtBut j s.heap g->(∃o,g.get? e=some o/\o.cls= .type "StopIteration")->E (.ref e) { s with heap:=g }):Yk (model P w) A (kh (.ref j)) Q E s:=by
 obtain⟨oj,ej,cj,dj⟩:=id hj
 obtain⟨ot,et,_,nt,dt⟩:=ht
 unfold kh
 refine Yl (wpAny_callSpecial?_slot (name:=fe "__next__") hj.typeIs vA (wpAny_call_entry vA hj.typeIs KH ?_ (KI _)))
 show Yk _ _ (field (.ref j) 0 >>= _) _ _ s
 refine Yl (wpAny_field ej dj (x:=.ref t) rfl ?_)
 show Yk _ _ (if(aB t == bE)=true then _ else _) _ _ s
 rw[if_neg (by intro z;exact bV z)]
 show Yk _ _ (field (.ref j) 1 >>= _) _ _ s
 refine Yl (wpAny_field ej dj (x:=.int i 0) rfl ?_)
 show Yk _ _ (seqItems? (.ref t) >>= _) _ _ s
 refine Yl (wpAny_seqItems et dt ?_)
 simp only[vy,hu]
 refine Yl (wpAny_rule (Yl (wpAny_setField ej dj (by simp) ?_)))
 show Yk _ _ (newExc (.type "StopIteration") [] >>= _) _ _ _
 refine Yl ?_
 simp only[newExc,newTuple]
 refine Yl (Yp ?_ (by size_fits))
 refine Yl (m:=firstArgMember _ _) (wpAny_of_eq (a:=bE) (by first | rfl | (simp only[firstArgMember];rfl)) ?_)
 refine Yp ?_ (by size_fits)
 simp only[raiseNew]
 refine Yl (wpAny_handled ?_)
 first | rw[show A.in1.handled=none from hh] | rw[hh]
 refine Yl (Yq (wpAny_throw ?_))
 exact k _ _ (((ke ..).extBut.push _).push _) ⟨_,aX _ rfl,rfl⟩
abbrev nC(h:Heap)(t:X3)(a b c:X9):Prop:=h.get? t=some { cls:=.type "tuple",data:=.seq #[a,b,c] }
theorem rN{t:X3}{a b c v:X9}{k:Nat}{Q:Unit->X8->Prop}(ht:nC s.heap t a b c)
  (q:∀g,g.get? t=some { cls:=.type "tuple",data:=.seq ((#[a,b,c]:Array X9).setIfInBounds k v) }->f9 t s.heap g->Q () { s with heap:=g }):Yk (model P w) A (updateSeq t (·.setIfInBounds k v)) Q E s:=by
 refine wpAny_updateSeq ht rfl (q _ ?_ (ke ..))
 rw[j4 _ ht rfl]
 simp[jA]
structure Zd(z T O j1 j2 j3 t1 t2 t3:X3):Prop where
 nd:[z,T,O,j1,j2,j3].Nodup
 a1:t1∉[z,O,j1,j2,j3]
 a2:t2∉[z,O,j1,j2,j3]
 a3:t3∉[z,O,j1,j2,j3]
theorem yO{z T O j1 j2 j3 t1 t2 t3:X3}{i:Nat}{v1 v2 v3:Array X9}{u1 u2 u3 a b c:X9}{Q:X9->X8->Prop}(D:Zd z T O j1 j2 j3 t1 t2 t3)(hz:IsZip s.heap z T O .none)(hT:nC s.heap T (.ref j1) (.ref j2) (.ref j3))(hO:nC s.heap O a b c)
  (h1:s.heap.IsTupleIter j1 t1 i)(h2:s.heap.IsTupleIter j2 t2 i)(h3:s.heap.IsTupleIter j3 t3 i)(w1:s.heap.IsTuple t1 v1)(w2:s.heap.IsTuple t2 v2)(w3:s.heap.IsTuple t3 v3)(e1:v1[i]? =some u1)(e2:v2[i]? =some u2)(e3:v3[i]? =some u3)
  (k:∀g,IsZip g z T O (rawInt s.heap.objs.size)->nC g O u1 u2 u3->g.IsTupleIter j1 t1 (i+1)->g.IsTupleIter j2 t2 (i+1)->g.IsTupleIter j3 t3 (i+1)->nC g s.heap.objs.size u1 u2 u3->g.objs.size=s.heap.objs.size+1->
   (∀y o,y∉[z,O,j1,j2,j3]->s.heap.get? y=some o->g.get? y=some o)->Q (.ref s.heap.objs.size) { s with heap:=g }) :
  Yk (model P w) A (Builtin.«zip.__next__» ⟨[.ref z],[]⟩) (λfin s'=>∃v,fin= .done (.ret v)/\Q v s') E s:=by
 obtain⟨nd,n1,n2,n3⟩:=D
 simp only[lr,bp,bz,or_false,not_or,jC,and_true,not_false_eq_true] at nd n1 n2 n3
 obtain⟨⟨zT,zO,z1,z2,z3⟩,⟨TO,T1,T2,T3⟩,⟨O1,O2,O3⟩,⟨Mo,Mq⟩,TZ⟩:=nd
 obtain⟨VL,Xy,Xz,XA,XB⟩:=n1
 obtain⟨VM,VN,VO,XC,XD⟩:=n2
 obtain⟨VP,T4,VQ,VR,XE⟩:=n3
 show Yk _ _ (field (.ref z) 2 >>= _) _ _ s
 refine Yl (wpAny_field hz rfl (x:=.bool false) rfl ?_)
 show Yk _ _ (field (.ref z) 3 >>= _) _ _ s
 refine Yl (wpAny_field hz rfl (x:=.ref T) rfl ?_)
 refine Yl (wpAny_seqItems hT rfl ?_)
 show Yk _ _ (vB (.ref z) >>= _) _ _ s
 refine Yl ?_
 unfold vB
 refine Yl (wpAny_field hz rfl (x:=.none) rfl (Yq ?_))
 simp only[if_true]
 refine Yl (wpAny_rule ?_)
 refine Yl (wpAny_field hz rfl (x:=.ref O) rfl ?_)
 refine Yl (wpAny_setField_rec hz (by simp) λg0 y0 b0=>?_)
 replace y0:IsZip g0 z T O .ellipsis:=y0
 refine Yl ?_
 simp only[List.zipIdx_cons,List.zipIdx_nil,rD,vC]
 refine Yl (Yl (wpAny_onRaise ?_))
 show Yk _ _ (kh (.ref j1) >>= _) _ _ _
 refine Yl (kg (h1.extBut b0.extBut (az z1)) (w1.extBut b0.extBut VL) e1 λg1 AO b1=>Yq ?_)
 have T5:nC g1 O a b c:=b1.extBut _ _ O1 (b0.extBut _ _ (az zO) hO)
 refine Yl (wpAny_seqItems T5 rfl ?_)
 refine Yl (rN T5 λg2 Rh b2=>?_)
 replace Rh:nC g2 O u1 b c:=Rh
 refine Yl (wpAny_letGo (Yq ?_))
 refine Yl (Yl (wpAny_onRaise ?_))
 show Yk _ _ (kh (.ref j2) >>= _) _ _ _
 refine Yl (kg (((h2.extBut b0.extBut (az z2)).extBut b1.extBut (az Mo)).extBut b2.extBut (az O2)) (((w2.extBut b0.extBut VM).extBut b1.extBut VO).extBut b2.extBut VN) e2 λg3 h2' b3=>Yq ?_)
 have T6:nC g3 O u1 b c:=b3.extBut _ _ O2 Rh
 refine Yl (wpAny_seqItems T6 rfl ?_)
 refine Yl (rN T6 λg4 Ri b4=>?_)
 replace Ri:nC g4 O u1 u2 c:=Ri
 refine Yl (wpAny_letGo (Yq ?_))
 refine Yl (Yl (wpAny_onRaise ?_))
 show Yk _ _ (kh (.ref j3) >>= _) _ _ _
 refine Yl (kg (((((h3.extBut b0.extBut (az z3)).extBut b1.extBut (az Mq)).extBut b2.extBut (az O3)).extBut b3.extBut (az TZ)).extBut b4.extBut (az O3))
  (((((w3.extBut b0.extBut VP).extBut b1.extBut VQ).extBut b2.extBut T4).extBut b3.extBut VR).extBut b4.extBut T4) e3 λg5 h3' b5=>Yq ?_)
 have T7:nC g5 O u1 u2 c:=b5.extBut _ _ O3 Ri
 refine Yl (wpAny_seqItems T7 rfl ?_)
 refine Yl (rN T7 λg6 Px b6=>?_)
 replace Px:nC g6 O u1 u2 u3:=Px
 refine Yl (wpAny_letGo (Yq (Yq ?_)))
 refine Yl (wpAny_seqItems Px rfl ?_)
 refine Yl (wpAny_newTuple ?_)
 have sz:g6.objs.size=s.heap.objs.size:=by rw[b6.1,b5.1,b4.1,b3.1,b2.1,b1.1,b0.1]
 have keep:∀y o,y∉[z,O,j1,j2,j3]->s.heap.get? y=some o->g6.get? y=some o:=λy o hy q=>by
  simp only[bp,bz,or_false,not_or] at hy
  obtain⟨y1,y2,y3,y4,y5⟩:=hy
  exact b6.extBut _ _ y2 (b5.extBut _ _ y5 (b4.extBut _ _ y2 (b3.extBut _ _ y4 (b2.extBut _ _ y2 (b1.extBut _ _ y3 (b0.extBut _ _ y1 q))))))
 have z6:IsZip g6 z T O .ellipsis:=b6.extBut _ _ zO (b5.extBut _ _ z3 (b4.extBut _ _ zO (b3.extBut _ _ z2 (b2.extBut _ _ zO (b1.extBut _ _ z1 y0)))))
 have k1:g6.IsTupleIter j1 t1 (i+1):=((((AO.extBut b2.extBut (az O1)).extBut b3.extBut Mo).extBut b4.extBut (az O1)).extBut b5.extBut Mq).extBut b6.extBut (az O1)
 have k2:g6.IsTupleIter j2 t2 (i+1):=((h2'.extBut b4.extBut (az O2)).extBut b5.extBut TZ).extBut b6.extBut (az O2)
 have k3:g6.IsTupleIter j3 t3 (i+1):=h3'.extBut b6.extBut (az O3)
 have Hv:z < g6.objs.size:=aC z6
 show Yk _ _ (KJ (.ref z) (.ref g6.objs.size) >>= _) _ _ _
 refine Yl ?_
 unfold KJ
 have z7:IsZip (g6.push { cls:=.type "tuple",data:=.seq #[u1,u2,u3] }) z T O .ellipsis:=aQ _ z6
 refine Yl (wpAny_setField_rec z7 (by simp) λg7 y7 b7=>?_)
 replace y7:IsZip g7 z T O (rawInt g6.objs.size):=y7
 refine wpAny_setField_rec y7 (by simp) λg8 y8 b8=>?_
 replace y8:IsZip g8 z T O (rawInt g6.objs.size):=y8
 have up:∀y o,y≠z->g6.get? y=some o->g8.get? y=some o:=λy o n q=>b8.extBut _ _ n (b7.extBut _ _ n (aQ _ q))
 have tn:nC g8 g6.objs.size u1 u2 u3:=b8.extBut _ _ (mZ Hv) (b7.extBut _ _ (mZ Hv) (aX _ rfl))
 have s8:g8.objs.size=g6.objs.size+1:=by rw[b8.1,b7.1,mi]
 rw[sz] at y8 tn s8
 refine Yq ⟨_,rfl,?_⟩
 show Q (.ref g6.objs.size) _
 rw[sz]
 have at':∀{j t:X3}{n:Nat},j≠z->g6.IsTupleIter j t n->g8.IsTupleIter j t n:=λn ⟨o,q,r⟩=>⟨o,up _ o n q,r⟩
 exact k g8 y8 (up _ _ (az zO) Px) (at' (az z1) k1) (at' (az z2) k2) (at' (az z3) k3) tn s8 λy o hy q=>up y o (λe=>hy (by simp[e])) (keep y o hy q)
theorem B2{z T O j1 j2 j3 t1 t2 t3:X3}{i:Nat}{v1:Array X9}{a b c:X9}{Q:Fin->X8->Prop}(hh:A.handled=none)(D:Zd z T O j1 j2 j3 t1 t2 t3)(hz:IsZip s.heap z T O .none)(hT:nC s.heap T (.ref j1) (.ref j2) (.ref j3))(hO:nC s.heap O a b c)
  (h1:s.heap.IsTupleIter j1 t1 i)(w1:s.heap.IsTuple t1 v1)(e1:v1[i]? =none)
  (k:∀g e,(∀y o,y∉[z,O,j1,j2,j3]->s.heap.get? y=some o->g.get? y=some o)->(∃o,g.get? e=some o/\o.cls= .type "StopIteration")->E (.ref e) { s with heap:=g }) :
  Yk (model P w) A (Builtin.«zip.__next__» ⟨[.ref z],[]⟩) Q E s:=by
 obtain⟨nd,n1,n2,n3⟩:=D
 simp only[lr,bp,bz,or_false,not_or,jC,and_true,not_false_eq_true] at nd n1
 obtain⟨⟨zT,zO,z1,z2,z3⟩,_⟩:=nd
 show Yk _ _ (field (.ref z) 2 >>= _) _ _ s
 refine Yl (wpAny_field hz rfl (x:=.bool false) rfl ?_)
 show Yk _ _ (field (.ref z) 3 >>= _) _ _ s
 refine Yl (wpAny_field hz rfl (x:=.ref T) rfl ?_)
 refine Yl (wpAny_seqItems hT rfl ?_)
 show Yk _ _ (vB (.ref z) >>= _) _ _ s
 refine Yl ?_
 unfold vB
 refine Yl (wpAny_field hz rfl (x:=.none) rfl (Yq ?_))
 simp only[if_true]
 refine Yl (wpAny_rule ?_)
 refine Yl (wpAny_field hz rfl (x:=.ref O) rfl ?_)
 refine Yl (wpAny_setField_rec hz (by simp) λg0 y0 b0=>?_)
 replace y0:IsZip g0 z T O .ellipsis:=y0
 refine Yl ?_
 simp only[List.zipIdx_cons,List.zipIdx_nil,rD,vC]
 refine Yl (Yl (wpAny_onRaise ?_))
 show Yk _ _ (kh (.ref j1) >>= _) _ _ _
 refine Yl (yN hh (h1.extBut b0.extBut (az z1)) (w1.extBut b0.extBut n1.1) e1 λg1 e b1 he=>?_)
 obtain⟨oe,qe,ce⟩:=he
 have y1:IsZip g1 z T O .ellipsis:=b1 _ _ z1 y0
 have ez:e≠z:=λq=>by subst q;rw[y1] at qe;cases qe;simp at ce
 refine wpAny_setField_rec y1 (by simp) λg2 _ b2=>k g2 e (λy o hy q=>?_) ⟨oe,b2.extBut _ _ ez qe,ce⟩
 simp only[bp,bz,or_false,not_or] at hy
 exact b2.extBut _ _ hy.1 (b1 _ _ hy.2.2.1 (b0.extBut _ _ hy.1 q))
end
theorem boot_zip:Yb "zip"=some (.type "zip"):=by decide+kernel
theorem FC(a b c:X9):checkTypeCall "zip" ⟨[a,b,c],[]⟩=pure ():=by kernel_rfl
theorem FD(a b c:X9):checkBuiltinCall "zip.__new__" ⟨[.type "zip",a,b,c],[]⟩=pure ():=by kernel_rfl
theorem N3(a b c d:X9):argsOk "object.__init__" ⟨[a,b,c,d],[]⟩:=by
 unfold argsOk;rw[signature?_of (id:="object.__init__") (n:=['_','_','t','i','n','i','_','_']) (o:=['t','c','e','j','b','o']) (by kernel_rfl) F.owner_object];kernel_rfl
abbrev zA(h:Heap)(t1:X3):Heap:=h.push { cls:=.type "tuple_iterator",data:=.fields #[.ref t1,.int 0 0] }
abbrev zB(h:Heap)(t1 t2:X3):Heap:=zA (zA h t1) t2
abbrev zC(h:Heap)(t1 t2 t3:X3):Heap:=zA (zB h t1 t2) t3
abbrev zD(h:Heap)(t1 t2 t3:X3):Heap:=(zC h t1 t2 t3).push { cls:=.type "tuple",data:=.seq #[.ref h.objs.size,.ref (zA h t1).objs.size,.ref (zB h t1 t2).objs.size] }
abbrev zE(h:Heap)(t1 t2 t3:X3):Heap:=(zD h t1 t2 t3).push { cls:=.type "tuple",data:=.seq #[.none,.none,.none] }
abbrev zF(h:Heap)(t1 t2 t3:X3):Heap:=(zE h t1 t2 t3).push { cls:=.type "zip",data:=.fields #[.none,.bool false,.bool false,.ref (zC h t1 t2 t3).objs.size,.ref (zD h t1 t2 t3).objs.size] }
theorem FE(t1 t2 t3:X3)(v1 v2 v3:Array X9):Meets (Builtin.«zip.__new__» ⟨[.type "zip",.ref t1,.ref t2,.ref t3],[]⟩) (λ_ R s=>s.heap.IsTuple t1 v1/\s.heap.IsTuple t2 v2/\s.heap.IsTuple t3 v3/\
   R (.ok (.ret (.ref (zE s.heap t1 t2 t3).objs.size))) { s with heap:=zF s.heap t1 t2 t3 }) :=
 .of_wp λprog w A R s h=>by
  obtain⟨hp,g,d,tk,os⟩:=s;obtain⟨q1,q2,q3,h⟩:=h
  have hsub:=sub_zip
  have r1:B3 (xl ⟨hp,g,d,tk,os⟩) t1 v1:=q1
  have r2:B3 (xl ⟨zA hp t1,g,d,tk,os⟩) t2 v2:=B4 q2 _
  have r3:B3 (xl ⟨zB hp t1 t2,g,d,tk,os⟩) t3 v3:=B4 (B4 q3 _) _
  wp_walk using wpAny_pyIter_tuple r1,wpAny_pyIter_tuple r2,wpAny_pyIter_tuple r3
  exact⟨_,rfl,h⟩
section
variable {P:X7} {w:X_} {A:X4} {E:X9->X8->Prop} {s:X8}
theorem yP{t1 t2 t3:X3}{v1 v2 v3:Array X9}{Q:X9->X8->Prop}(q1:s.heap.IsTuple t1 v1)(q2:s.heap.IsTuple t2 v2)(q3:s.heap.IsTuple t3 v3)
  (k:∀g,IsZip g (s.heap.objs.size+5) (s.heap.objs.size+3) (s.heap.objs.size+4) .none->nC g (s.heap.objs.size+3) (.ref s.heap.objs.size) (.ref (s.heap.objs.size+1)) (.ref (s.heap.objs.size+2))->nC g (s.heap.objs.size+4) .none .none .none->
   g.IsTupleIter s.heap.objs.size t1 0->g.IsTupleIter (s.heap.objs.size+1) t2 0->g.IsTupleIter (s.heap.objs.size+2) t3 0->(∀b o,s.heap.get? b=some o->g.get? b=some o)->Q (.ref (s.heap.objs.size+5)) { s with heap:=g }) :
  Yk (model P w) A (call (.type "zip") [.ref t1,.ref t2,.ref t3]) Q E s:=by
 refine callType_new F.called_zip (by decide) (FC _ _ _) (FD _ _ _) (λobj=>N3 obj _ _ _) F.entry_zip_new (FE t1 t2 t3 v1 v2 v3) ⟨q1,q2,q3,?_⟩
 have s1:(zA s.heap t1).objs.size=s.heap.objs.size+1:=mi ..
 have s2:(zB s.heap t1 t2).objs.size=s.heap.objs.size+2:=by rw[mi,s1]
 have s3:(zC s.heap t1 t2 t3).objs.size=s.heap.objs.size+3:=by rw[mi,s2]
 have s4:(zD s.heap t1 t2 t3).objs.size=s.heap.objs.size+4:=by rw[mi,s3]
 have s5:(zE s.heap t1 t2 t3).objs.size=s.heap.objs.size+5:=by rw[mi,s4]
 have up:∀{h:Heap}{b:X3}{o o':Obj},h.get? b=some o->(h.push o').get? b=some o:=λe=>aQ _ e
 have g6:(zF s.heap t1 t2 t3).get? (zE s.heap t1 t2 t3).objs.size=some _:=aX _ rfl
 have g5:(zF s.heap t1 t2 t3).get? (zD s.heap t1 t2 t3).objs.size=some _:=up (aX _ rfl)
 have g4:(zF s.heap t1 t2 t3).get? (zC s.heap t1 t2 t3).objs.size=some _:=up (up (aX _ rfl))
 have g3:(zF s.heap t1 t2 t3).get? (zB s.heap t1 t2).objs.size=some _:=up (up (up (aX _ rfl)))
 have g2:(zF s.heap t1 t2 t3).get? (zA s.heap t1).objs.size=some _:=up (up (up (up (aX _ rfl))))
 have g1:(zF s.heap t1 t2 t3).get? s.heap.objs.size=some _:=up (up (up (up (up (aX _ rfl)))))
 show _/\_
 rw[s3,s4,s5] at g6
 rw[s1,s2,s3] at g4
 rw[s4] at g5
 rw[s2] at g3
 rw[s1] at g2
 rw[s5]
 exact⟨⟨_,g6,rfl⟩,k _ g6 g4 g5 ⟨_,g1,rfl,rfl⟩ ⟨_,g2,rfl,rfl⟩ ⟨_,g3,rfl,rfl⟩ λb o e=>up (up (up (up (up (up e)))))⟩
end
section
variable {P:X7} {w:X_} {A:X4} {E:X9->X8->Prop} {s:X8}
theorem FF{z T O j1 j2 j3 t1 t2 t3:X3}{i:Nat}{v1 v2 v3:Array X9}{u1 u2 u3 a b c:X9}{Q:Option X9->X8->Prop}(D:Zd z T O j1 j2 j3 t1 t2 t3)(hz:IsZip s.heap z T O .none)(hT:nC s.heap T (.ref j1) (.ref j2) (.ref j3))(hO:nC s.heap O a b c)
  (h1:s.heap.IsTupleIter j1 t1 i)(h2:s.heap.IsTupleIter j2 t2 i)(h3:s.heap.IsTupleIter j3 t3 i)(w1:s.heap.IsTuple t1 v1)(w2:s.heap.IsTuple t2 v2)(w3:s.heap.IsTuple t3 v3)(e1:v1[i]? =some u1)(e2:v2[i]? =some u2)(e3:v3[i]? =some u3)
  (k:∀g,IsZip g z T O (rawInt s.heap.objs.size)->nC g O u1 u2 u3->g.IsTupleIter j1 t1 (i+1)->g.IsTupleIter j2 t2 (i+1)->g.IsTupleIter j3 t3 (i+1)->nC g s.heap.objs.size u1 u2 u3->g.objs.size=s.heap.objs.size+1->
   (∀y o,y∉[z,O,j1,j2,j3]->s.heap.get? y=some o->g.get? y=some o)->Q (some (.ref s.heap.objs.size)) { s with heap:=g }):Yk (model P w) A (pyNext (.ref z)) Q E s:=by
 have ty:s.TypeIs (.ref z) "zip":=⟨_,hz,rfl⟩
 unfold pyNext
 refine Yl (wpAny_attempt (wpAny_callSpecial?_slot (name:=fe "__next__") ty vD (wpAny_call_entry vD ty F.entry_zip_next ?_ (F.args_zip_next_1 _))))
 exact yO D hz hT hO h1 h2 h3 w1 w2 w3 e1 e2 e3 λg a1 a2 a3 a4 a5 a6 a7 a8=>Yq (k g a1 a2 a3 a4 a5 a6 a7 a8)
theorem B5{z T O j1 j2 j3 t1 t2 t3:X3}{i:Nat}{v1:Array X9}{a b c:X9}{Q:Option X9->X8->Prop}(hh:A.handled=none)(D:Zd z T O j1 j2 j3 t1 t2 t3)(hz:IsZip s.heap z T O .none)(hT:nC s.heap T (.ref j1) (.ref j2) (.ref j3))(hO:nC s.heap O a b c)
  (h1:s.heap.IsTupleIter j1 t1 i)(w1:s.heap.IsTuple t1 v1)(e1:v1[i]? =none)
  (k:∀g,(∀y o,y∉[z,O,j1,j2,j3]->s.heap.get? y=some o->g.get? y=some o)->Q none { s with heap:=g }):Yk (model P w) A (pyNext (.ref z)) Q E s:=by
 have ty:s.TypeIs (.ref z) "zip":=⟨_,hz,rfl⟩
 unfold pyNext
 refine Yl (wpAny_attempt (wpAny_callSpecial?_slot (name:=fe "__next__") ty vD (wpAny_call_entry vD ty F.entry_zip_next ?_ (F.args_zip_next_1 _))))
 refine B2 hh D hz hT hO h1 w1 e1 λg e kp he=>?_
 obtain⟨o,q,c⟩:=he
 exact Yl (wpAny_isInstance (T:="StopIteration") (b:=true) ⟨o,q,c⟩ isSubtype_stop (Yq (k g kp)))
end
def T8(t1 t2 t3:X3):It :=
 ⟨λi H=>∃xs ys zs x y z,H t1=some (.tup xs)/\H t2=some (.tup ys)/\H t3=some (.tup zs)/\xs[i]? =some x/\ys[i]? =some y/\zs[i]? =some z,
  λi H v H'=>∃p,v= .ref p/\H p=none/\∃xs ys zs x y z,H t1=some (.tup xs)/\H t2=some (.tup ys)/\H t3=some (.tup zs)/\xs[i]? =some x/\ys[i]? =some y/\zs[i]? =some z/\H'=upd H p (.tup [x,y,z]),
  λi H=>∃xs,H t1=some (.tup xs)/\xs.length<=i⟩
def Hw(z T O j1 j2 j3 t1 t2 t3:X3)(i:Nat)(h:Heap):Prop:=IsZip h z T O .none/\nC h T (.ref j1) (.ref j2) (.ref j3)/\(∃a b c,nC h O a b c)/\h.IsTupleIter j1 t1 i/\h.IsTupleIter j2 t2 i/\h.IsTupleIter j3 t3 i
theorem B6{b z T O j1 j2 j3:X3}(h:b∈[z,O,j1,j2,j3]):b∈[z,T,O,j1,j2,j3]:=(List.mem_cons.mp h).elim (λe=>e ▸ bF) λh=>aU _ (aU _ h)
theorem B7{P:X7}{w:X_}{K:PySem.W.Frag}{es:List Expr}{kt:Nat}{pt:Pos}{z T O j1 j2 j3 t1 t2 t3:X3}(nd:[z,T,O,j1,j2,j3].Nodup):Turn P w K (.Tuple es kt pt) (T8 t1 t2 t3) [z,T,O,j1,j2,j3] z (Hw z T O j1 j2 j3 t1 t2 t3) where
 mem:=by simp
 obj:=λi h st b hb=>by
  obtain⟨a1,a2,⟨a,b',c,a3⟩,⟨o1,q1,_,d1⟩,⟨o2,q2,_,d2⟩,⟨o3,q3,_,d3⟩⟩:=st
  simp only[bp,bz,or_false] at hb
  rcases hb with rfl | rfl | rfl | rfl | rfl | rfl
  ·exact⟨_,a1,λv z=>by cases z⟩
  ·exact⟨_,a2,λv z=>by cases z⟩
  ·exact⟨_,a3,λv z=>by cases z⟩
  ·exact⟨o1,q1,λv z=>by rw[d1] at z;cases z⟩
  ·exact⟨o2,q2,λv z=>by rw[d2] at z;cases z⟩
  ·exact⟨o3,q3,λv z=>by rw[d3] at z;cases z⟩
 keep:=λi h h' st k=>by
  obtain⟨a1,a2,⟨a,b,c,a3⟩,⟨o1,q1,r1⟩,⟨o2,q2,r2⟩,⟨o3,q3,r3⟩⟩:=st
  exact⟨k z (by simp) _ a1,k T (by simp) _ a2,⟨a,b,c,k O (by simp) _ a3⟩,⟨o1,k j1 (by simp) _ q1,r1⟩,⟨o2,k j2 (by simp) _ q2,r2⟩,⟨o3,k j3 (by simp) _ q3,r3⟩⟩
 item:=by
  intro X hP hw hK hc i pins s σ H E I hf st hg
  subst hP hw hK
  obtain⟨xs,ys,zs,x,y,v,H1,H2,H3,x1,x2,x3⟩:=hg
  obtain⟨i1,r1,p1,_⟩:=I.tuple (cU.of H1)
  obtain⟨i2,r2,p2,_⟩:=I.tuple (cU.of H2)
  obtain⟨i3,r3,p3,_⟩:=I.tuple (cU.of H3)
  obtain⟨u1,e1,m1⟩:=r1.get x1
  obtain⟨u2,e2,m2⟩:=r2.get x2
  obtain⟨u3,e3,m3⟩:=r3.get x3
  obtain⟨a1,a2,⟨a,b,c,a3⟩,a4,a5,a6⟩:=st
  have no:∀{t:X3}{ws:List V},H t=some (.tup ws)->t∉[z,O,j1,j2,j3]:=λ{t ws} q hb=>by
   have n:=(hf t (B6 hb)).1
   rw[q] at n;cases n
  refine FF ⟨nd,no H1,no H2,no H3⟩ a1 a2 a3 a4 a5 a6 p1 p2 p3 (by simpa using e1) (by simpa using e2) (by simpa using e3) λg b1 b2 b3 b4 b5 b6 b7 b8=>?_
  refine⟨.ref s.heap.objs.size,rfl,?_⟩
  refine wpAny_letOwnedTupleGo_zip b1 λh2 c1 sb=>?_
  have hfr:H s.heap.objs.size=none:=I.hok.fresh (ao _)
  have T9:=nd
  simp only[lr,bp,bz,or_false,not_or,jC,and_true,not_false_eq_true] at T9
  obtain⟨⟨zT,zO,z1,z2,z3⟩,⟨TO,T1,T2,T3⟩,_⟩:=T9
  have lt:∀b o,s.heap.get? b=some o->b≠s.heap.objs.size:=λb o q=>aP (aC q)
  have Hv:z≠s.heap.objs.size:=lt _ _ a1
  have kp:∀b o,b∉[z,O,j1,j2,j3]->s.heap.get? b=some o->h2.get? b=some o:=λb o hb q=>sb.extBut _ _ (λe=>hb (by simp[e])) (b8 b o hb q)
  have B8:∀b u,H b=some u->b∉[z,O,j1,j2,j3]:=λb u q hb=>by
   have n:=(hf b (B6 hb)).1
   rw[q] at n;cases n
  have kj:∀b,b∉[z,T,O,j1,j2,j3]->b∉[z,O,j1,j2,j3]:=λb h hb=>h (B6 hb)
  have kt:∀b u,H b=some u->b≠s.heap.objs.size:=λb u q=>bh q hfr
  have Tn:h2.get? s.heap.objs.size=some { cls:=.type "tuple",data:=.seq #[u1,u2,u3] }:=sb.extBut _ _ (az Hv) b6
  have Rj:∀b∈[z,T,O,j1,j2,j3],b≠s.heap.objs.size:=λb hb=>by
   simp only[bp,bz,or_false] at hb
   rcases hb with rfl | rfl | rfl | rfl | rfl | rfl
   ·exact Hv
   ·exact lt _ _ a2
   ·exact lt _ _ a3
   ·obtain⟨o,q,_⟩:=a4;exact lt _ _ q
   ·obtain⟨o,q,_⟩:=a5;exact lt _ _ q
   ·obtain⟨o,q,_⟩:=a6;exact lt _ _ q
  have at':∀{j t:X3}{n:Nat},j≠z->g.IsTupleIter j t n->h2.IsTupleIter j t n:=λn ⟨o,q,r⟩=>⟨o,sb.extBut _ _ n q,r⟩
  refine⟨.ref s.heap.objs.size,upd H s.heap.objs.size (.tup [x,y,v]),?_,rfl,⟨s.heap.objs.size,rfl,hfr,xs,ys,zs,x,y,v,H1,H2,H3,x1,x2,x3,rfl⟩,⟨c1,?_,⟨u1,u2,u3,sb.extBut _ _ (az zO) b2⟩,at' (az z1) b3,at' (az z2) b4,at' (az z3) b5⟩,λb hb=>?_⟩
  ·refine I.pL (s':={ s with heap:=h2 }) (ch:=[z,T,O,j1,j2,j3]) rfl ?_ ?_ I.bare (λb hb=>⟨(hf b hb).2.2.2.1,(hf b hb).2.1,(hf b hb).2.2.2.2.1,(hf b hb).2.2.2.2.2⟩)
   ·refine⟨λb o q _ _ hx=>kp b o (kj b hx) q,λb o q _ _ hx=>⟨o.slots,kp b o (kj b hx) q⟩,λb o q n _=>by rw[aw (lt b o q)];exact n,λb o q hx=>⟨o,kp b o (kj b hx) q⟩,λb ys q=>by rw[aw (kt b _ q)];exact q,λb o y q=>by rw[aw (kt b _ q)];exact q,λb ps q=>⟨#[],by rw[aw (kt b _ q),q];simp⟩⟩
   ·intro b o q
    by_cases hb:b=s.heap.objs.size
    ·subst hb
     rw[aM] at q
     cases q
     exact⟨by show 3<=Yi;decide,[u1,u2,u3],.cons m1 (.cons m2 (.cons m3 .nil)),⟨_,Tn,rfl,0,rfl⟩,λo q=>by rw[Tn] at q;cases q;rfl⟩
    ·rw[aw hb] at q
     refine(I.hok b o q).stay (λc v hc g=>?_) (λc g=>by rw[aw (kt c _ g)];exact g) λc ys g=>by rw[aw (kt c _ g)];exact g
     rcases hc with e | e
     ·subst e;exact kp _ _ (B8 _ _ q) g
     ·exact kp _ _ (B8 _ _ e) g
  ·refine kp T _ ?_ a2
   simp only[bp,bz,or_false,not_or]
   exact⟨az zT,TO,T1,T2,T3⟩
  ·rw[aw (Rj b hb)];exact(hf b hb).1
 done:=by
  intro X hP hw hK hc i pins s σ H E I hf st hg
  subst hP hw hK
  obtain⟨xs,H1,hl⟩:=hg
  obtain⟨i1,r1,p1,_⟩:=I.tuple (cU.of H1)
  obtain⟨a1,a2,⟨a,b,c,a3⟩,a4,a5,a6⟩:=st
  have no:t1∉[z,O,j1,j2,j3]:=λhb=>by
   have n:=(hf t1 (by simp only[bp,bz,or_false] at hb ⊢;rcases hb with h | h | h | h | h<;>simp[h])).1
   rw[H1] at n;cases n
  have hlen:=r1.length
  have B8:∀b u,H b=some u->b∉[z,O,j1,j2,j3]:=λb u q hb=>by
   have n:=(hf b (B6 hb)).1
   rw[q] at n;cases n
  have kj:∀b,b∉[z,T,O,j1,j2,j3]->b∉[z,O,j1,j2,j3]:=λb h hb=>h (B6 hb)
  refine B5 (I.ok.hd hc) (t2:=t1) (t3:=t1) ⟨nd,no,no,no⟩ a1 a2 a3 a4 p1 (by simp;omega) λg kp=>⟨rfl,?_⟩
  refine I.pL (s':={ s with heap:=g }) (ch:=[z,T,O,j1,j2,j3]) rfl ?_ ?_ I.bare (λb hb=>⟨(hf b hb).2.2.2.1,(hf b hb).2.1,(hf b hb).2.2.2.2.1,(hf b hb).2.2.2.2.2⟩)
  ·exact⟨λb o q _ _ hx=>kp b o (kj b hx) q,λb o q _ _ hx=>⟨o.slots,kp b o (kj b hx) q⟩,λb o q n _=>n,λb o q hx=>⟨o,kp b o (kj b hx) q⟩,λb ys q=>q,λb o y q=>q,λb ps q=>⟨#[],by rw[q];simp⟩⟩
  ·intro b o q
   refine(I.hok b o q).stay (λc v hc g=>?_) (λc g=>g) λc ys g=>g
   rcases hc with e | e
   ·subst e;exact kp _ _ (B8 _ _ q) g
   ·exact kp _ _ (B8 _ _ e) g
 self:=λ_ _ _ _ _ st h=>wpAny_pyIter_zip st.1 h
section
variable {X:Cx}
def Rk(ta:TA):TI:=λσ H R=>ta σ H λvs H1=>∃t1 t2 t3 xs ys zs,vs=[.ref t1,.ref t2,.ref t3]/\H1 t1=some (.tup xs)/\H1 t2=some (.tup ys)/\H1 t3=some (.tup zs)/\R (T8 t1 t2 t3) H1
theorem N4{a b c:X3}{us:List X9}(r:Vals [.ref a,.ref b,.ref c] us):∃u v w,us=[u,v,w]/\u= .ref a/\v= .ref b/\w= .ref c:=by
 cases r with
 | cons r1 r=>
  cases r with
  | cons r2 r=>
   cases r with
   | cons r3 r=>
    cases r
    exact⟨_,_,_,rfl,r1,r2,r3⟩
theorem KL{es:List Expr}{kt:Nat}{pt p q:Pos}{l:Expr}{ls:List Expr}{ta:TA}(hg:Gl X "zip")(hm:X.mg "zip"=none)(ha:PA X (l::ls) ta)(hst:Yj (l::ls) X.env=(false,eval l X.env)::Yj ls X.env)(hpl:(backTo q (Yj ls X.env)).any (·.1)=false) :
  PI X (.Tuple es kt pt) (.Call (.Name "zip" p) (l::ls) [] q) (Rk ta):=by
 intro pins s σ H R I h
 refine wpAny_Call_Name_kw (f_ I hg hm boot_zip ?_)
 refine jz (aY (ha q pins s σ H _ I h) λus s1 ⟨vs,H1,I1,r1,q1⟩=>?_) hst hpl
 obtain⟨t1,t2,t3,xs,ys,zs,e,h1,h2,h3,k⟩:=q1
 subst e
 obtain⟨v1,v2,v3,rfl,rfl,rfl,rfl⟩:=N4 r1
 ·
  obtain⟨i1,_,p1,_⟩:=I1.tuple (cU.of h1)
  obtain⟨i2,_,p2,_⟩:=I1.tuple (cU.of h2)
  obtain⟨i3,_,p3,_⟩:=I1.tuple (cU.of h3)
  refine yP p1 p2 p3 λg b1 b2 b3 b4 b5 b6 kp=>wpAny_pyIter_zip b1 ?_
  have nd:[s1.heap.objs.size+5,s1.heap.objs.size+3,s1.heap.objs.size+4,s1.heap.objs.size,s1.heap.objs.size+1,s1.heap.objs.size+2].Nodup:=by
   simp only[lr,bp,bz,or_false,not_or,jC,and_true,not_false_eq_true]
   refine⟨⟨?_,?_,?_,?_,?_⟩,⟨?_,?_,?_,?_⟩,⟨?_,?_,?_⟩,⟨?_,?_⟩,?_⟩<;>omega
  have zs:Hw (s1.heap.objs.size+5) (s1.heap.objs.size+3) (s1.heap.objs.size+4) s1.heap.objs.size (s1.heap.objs.size+1) (s1.heap.objs.size+2) t1 t2 t3 0 g:=⟨b1,b2,⟨_,_,_,b3⟩,b4,b5,b6⟩
  have tz:=B7 (P:=X.prog) (w:=X.w) (K:=X.K) (es:=es) (kt:=kt) (pt:=pt) (t1:=t1) (t2:=t2) (t3:=t3) nd
  refine⟨s1.heap.objs.size+5,_,_,_,H1,rfl,I1.kept (t':=s1.toks) kp,tz,zs,λb hb=>?_,k⟩
  have ge:s1.heap.objs.size<=b:=by
   simp only[bp,bz,or_false] at hb
   rcases hb with rfl | rfl | rfl | rfl | rfl | rfl<;>omega
  exact I1.sO (pins:=pins) (H':=H1) (b:=b) ge (I1.hok.fresh ge)
def rO:List Wv->List Wv->List Wv->List Wv
 | a::as,b::bs,c::cs=> .tup [a,b,c]::rO as bs cs
 | _,_,_=>[]
theorem oF:∀{as bs cs:List Wv}{i:Nat},as.length<=bs.length->as.length<=cs.length->(h:i < as.length)->∃a b c,as[i]? =some a/\bs[i]? =some b/\cs[i]? =some c/\(rO as bs cs)[i]? =some (.tup [a,b,c])
 | a::as,b::bs,c::cs,0,_,_,_=>⟨a,b,c,rfl,rfl,rfl,rfl⟩
 | a::as,b::bs,c::cs,i+1,h1,h2,h=>by
  obtain⟨x,y,z,e⟩:=oF (as:=as) (bs:=bs) (cs:=cs) (i:=i) (by simpa using h1) (by simpa using h2) (by simpa using h)
  exact⟨x,y,z,by simpa [rO] using e⟩
 | [],_,_,_,_,_,h=>by simp at h
 | _::_,[],_,_,h,_,_=>by simp at h
 | _::_,_::_,[],_,_,h,_=>by simp at h
theorem tW:∀{as bs cs:List Wv},as.length<=bs.length->as.length<=cs.length->(rO as bs cs).length=as.length
 | a::as,b::bs,c::cs,h1,h2=>by simp only[rO,ng];rw[tW (by simpa using h1) (by simpa using h2)]
 | [],_,_,_,_=>by simp[rO]
 | _::_,[],_,h,_=>by simp at h
 | _::_,_::_,[],_,h=>by simp at h
def N5(ws:List Wv)(st:Hs):Re Ra:=match ws with
 | [.tup as,.tup bs,.tup cs]=>if as.length<=bs.length/\as.length<=cs.length then .ok (none,rO as bs cs) st else .bad
 | _=> .bad
def Hx(g:GA):KA:=λρ st=>(g ρ st).bind N5
theorem FG{es:List Expr}{kt:Nat}{pt p q:Pos}{l:Expr}{ls:List Expr}{ga:GA}(hg:Gl X "zip")(hm:X.mg "zip"=none)(ha:JA X (l::ls) ga)(hst:Yj (l::ls) X.env=(false,eval l X.env)::Yj ls X.env)(hpl:(backTo q (Yj ls X.env)).any (·.1)=false) :
  N2 X (.Tuple es kt pt) (.Call (.Name "zip" p) (l::ls) [] q) (Hx ga):=by
 refine⟨_,KL hg hm fo hst hpl,λρ st σ H m Q S R p=>?_⟩
 refine ha.go S R (au.bind p) λws st1 vs m1 H1 p1 e1 S1 rs=>?_
 unfold N5 at p1
 split at p1
 ·rename_i as bs cs
  by_cases c:as.length<=bs.length/\as.length<=cs.length
  ·rw[if_pos c] at p1
   obtain⟨w1,w2,w3,v1,v2,v3,e,rfl,r1,r2,r3⟩:=KG rs rfl
   cases e
   unfold ag at r1 r2 r3
   obtain⟨t1,xs,rfl,f1,g1⟩:=r1
   obtain⟨t2,ys,rfl,f2,g2⟩:=r2
   obtain⟨t3,zs,rfl,f3,g3⟩:=r3
   have len:=tW c.1 c.2
   refine⟨t1,t2,t3,xs,ys,zs,rfl,f1,f2,f3,p1 m1 H1 _ e1 S1 trivial ⟨λk H' m' st' e S' _ hk=>?_,λk H' m' st' e S' _ hk=>?_,λk hk H' v Q7 m' st' e S' _ y=>?_⟩⟩
   ·have hk':k < as.length:=by rw[<-len];exact hk
    obtain⟨a,b,c',q1,q2,q3,_⟩:=oF c.1 c.2 hk'
    obtain⟨x,y1,_⟩:=g1.get q1
    obtain⟨y,y2,_⟩:=g2.get q2
    obtain⟨z,y3,_⟩:=g3.get q3
    exact⟨xs,ys,zs,x,y,z,e.tup _ _ f1,e.tup _ _ f2,e.tup _ _ f3,y1,y2,y3⟩
   ·exact⟨xs,e.tup _ _ f1,by rw[<-g1.length,hk];exact jB len.symm⟩
   ·have hk':k < as.length:=by rw[<-len];exact hk
    obtain⟨a,b,c',q1,q2,q3,q4⟩:=oF c.1 c.2 hk'
    obtain⟨x,y1,z1⟩:=(ah.mono e _ _ g1).get q1
    obtain⟨x',y2,z2⟩:=(ah.mono e _ _ g2).get q2
    obtain⟨x'',y3,z3⟩:=(ah.mono e _ _ g3).get q3
    obtain⟨p',rfl,fr,xs',ys',zs',a1,a2,a3,d1,d2,d3,d4,d5,d6,rfl⟩:=y
    rw[e.tup _ _ f1] at d1
    rw[e.tup _ _ f2] at d2
    rw[e.tup _ _ f3] at d3
    cases d1
    cases d2
    cases d3
    rw[y1] at d4
    rw[y2] at d5
    rw[y3] at d6
    cases d4
    cases d5
    cases d6
    have eU:Ext X.K m' H' m' (upd H' p' (.tup [x,x',x''])):=Ext.g_ (.inl fr)
    refine⟨eU,S'.fresh fr,?_⟩
    have q5:(rO as bs cs)[k]'hk= .tup [a,b,c']:=by
     have:=cW hk
     rw[q4] at this
     exact(Option.some.inj this).symm
    show ag X.K m' (upd H' p' (.tup [x,x',x''])) ((rO as bs cs)[k]'hk) (.ref p')
    rw[q5]
    unfold ag
    exact⟨p',[x,x',x''],rfl,aM,ah.cons (ag.mono eU _ _ z1) (ah.cons (ag.mono eU _ _ z2) (ah.cons (ag.mono eU _ _ z3) ah.nil))⟩
  ·rw[if_neg c] at p1;exact aa p1
 ·exact aa p1
end
def Py(lo c:Int)(n:Nat):It:=⟨λi _=>i < n,λi H v H'=>H'=H/\v= .int (lo+i * c),λi _=>n<=i⟩
theorem tX{P:X7}{w:X_}{K:PySem.W.Frag}{tg:Expr}(it:X3)(lo c:Int)(n:Nat):Turn P w K tg (Py lo c n) [it] it (λi h=>IsRangeIter h it (lo+(i:Nat) * c) ((n:Int) - (i:Nat)) c) where
 mem:=by simp
 obj:=λi h st b hb=>by
  have e:b=it:=by simpa using hb
  subst e
  exact⟨_,st,λv z=>by cases z⟩
 keep:=λi h h' st k=>k it (by simp) _ st
 item:=by
  intro X hP hw hK hc i pins s σ H E I hf st hg
  subst hP hw hK
  obtain⟨f0,f1,f2,f3,f4,f5⟩:=hf it (by simp)
  have W:=Walks.range (prog:=X.prog) (w:=X.w) (I.ok.hd hc) it lo c n
  refine W.item i s _ _ hg st λv h' tk hv st' kk=>?_
  obtain⟨t,rfl⟩:=hv
  have I1:Inv X pins σ H { s with heap:=h',toks:=tk }:=I.turned (λb o hb e=>kk b o (by simpa using hb) e) f0 f1 f3 f4 f5
  exact⟨_,rfl,pM (s:={ s with heap:=h',toks:=tk }) (n:="range_iterator") st' rfl rfl (by decide) ⟨.int (lo+i * c),H,I1,⟨t,rfl⟩,⟨rfl,rfl⟩,st',λb hb=>(hf b hb).1⟩⟩
 done:=by
  intro X hP hw hK hc i pins s σ H E I hf st hg
  subst hP hw hK
  obtain⟨f0,f1,f2,f3,f4,f5⟩:=hf it (by simp)
  exact wpAny_pyNext_range_end (I.ok.hd hc) st (by have:n<=i:=hg;omega) λh' eb=>⟨rfl,I.turned (t':=s.toks) (λb o hb e=>eb b o hb e) f0 f1 f3 f4 f5⟩
 self:=λ_ _ _ _ _ st h=>wpAny_pyIter_rangeiter st h
theorem yQ(a b c:X9):checkTypeCall "range" ⟨[a,b,c],[]⟩=pure ():=by kernel_rfl
theorem yR(a b c:X9):checkBuiltinCall "range.__new__" ⟨[.type "range",a,b,c],[]⟩=pure ():=by kernel_rfl
def zS(a b c:Int):Prop:=0<=a/\a < 2 ^ 30/\0<=b/\b < 2 ^ 30/\1<=c/\c < 2 ^ 30
instance {a b c}:Decidable (zS a b c):=Bj _
def gO(a b c:Int):Nat:=(if a < b then(b - a - 1) / c+1 else 0).toNat
theorem yS{a b c:Int}(h:zS a b c):qJ a b c=gO a b c:=by
 obtain⟨h1,h2,h3,h4,h5,h6⟩:=h
 unfold qJ gO
 rw[if_pos (by omega)]
 by_cases e:a < b
 ·rw[if_pos e]
  have:0<=(b - a - 1) / c:=Int.ediv_nonneg (by omega) (by omega)
  omega
 ·rw[if_neg e];rfl
theorem vE{a b c:Int}(h:zS a b c):KN a b c=true:=by
 obtain⟨h1,h2,h3,h4,h5,h6⟩:=h
 unfold KN qJ
 have d1:0<=(b - a - 1) / c\/¬a < b:=by
  by_cases e:a < b
  ·exact .inl (Int.ediv_nonneg (by omega) (by omega))
  ·exact .inr e
 have d2:a < b->(b - a - 1) / c<=b - a - 1:=λe=>Int.ediv_le_self _ (by omega)
 simp only[Builtin.Range.rangeFitsLong,cz,A7,decide_eq_true_eq,beq_iff_eq,show c > 0 by omega,if_true]
 split<;>omega
theorem N6{a b c:Int}(h:zS a b c):KO (b - a) c=false:=by
 obtain⟨h1,h2,h3,h4,h5,h6⟩:=h
 have e0:(c == 0)=false:=by rw[beq_eq_false_iff_ne];omega
 have e1:c.natAbs.log2 < 30:=(Nat.log2_lt (by omega)).mpr (by omega)
 have e2:c.natAbs.log2 / 30=0:=Nat.div_eq_of_lt e1
 simp[KO,e0,e2]
theorem tY{P:X7}{w:X_}{A:X4}{E:X9->X8->Prop}{s:X8}{a b c:Int}{t u v:Tok}{Q:X9->X8->Prop}(h:zS a b c)
  (k:Q (.ref s.heap.objs.size) { s with heap:=s.heap.push { cls:=.type "range",data:=.fields #[.int a t,.int b u,.int c v] } }):Yk (model P w) A (call (.type "range") [.int a t,.int b u,.int c v]) Q E s:=by
 refine callType_new F.called_range (by decide) (yQ _ _ _) (yR _ _ _) (λobj=>N3 obj _ _ _) F.entry_range_new (AutoRange.range___new___type_int_int_int_1 a b c t u v F.called_range.sub ?_) ⟨N6 h,⟨_,aX _ rfl,rfl⟩,k⟩
 have:c≠0:=by have:=h.2.2.2.2.1;omega
 simpa using this
section
variable {X:Cx} {tg:Expr}
def N7(ta:TA):TI:=λσ H R=>ta σ H λvs H1=>∃a b c:Int,vs=[.int a,.int b,.int c]/\zS a b c/\R (Py a c (gO a b c)) H1
theorem ints3{a b c:Int}{us:List X9}(r:Vals [.int a,.int b,.int c] us):∃t u v,us=[.int a t,.int b u,.int c v]:=by
 cases r with
 | cons r1 r=>
  cases r with
  | cons r2 r=>
   cases r with
   | cons r3 r=>
    cases r
    obtain⟨t,rfl⟩:=r1
    obtain⟨u,rfl⟩:=r2
    obtain⟨v,rfl⟩:=r3
    exact⟨t,u,v,rfl⟩
theorem qp{l:Expr}{ls:List Expr}{ta:TA}{p pos:Pos}(hg:Gl X "range")(hm:X.mg "range"=none)(ha:PA X (l::ls) ta)(hst:Yj (l::ls) X.env=(false,eval l X.env)::Yj ls X.env)(hpl:(backTo pos (Yj ls X.env)).any (·.1)=false) :
  PI X tg (.Call (.Name "range" p) (l::ls) [] pos) (N7 ta):=by
 intro pins s σ H R I h
 refine wpAny_Call_Name_kw (f_ I hg hm boot_range ?_)
 refine jz (aY (ha pos pins s σ H _ I h) λus s1 ⟨vs,H1,I1,r1,q1⟩=>?_) hst hpl
 obtain⟨a,b,c,rfl,hc,q⟩:=q1
 obtain⟨t,u,v,rfl⟩:=ints3 r1
 refine tY hc ?_
 refine wpAny_pyIter_range (IsRange.new ..) (vE hc) ?_
 have I2:Inv X pins σ H1 { s1 with heap:=s1.heap.push { cls:=.type "range",data:=.fields #[.int a t,.int b u,.int c v] } }:=I1.kept (t':=s1.toks) λb o e=>aQ _ e
 refine⟨(s1.heap.push { cls:=.type "range",data:=.fields #[.int a t,.int b u,.int c v] }).objs.size,[(s1.heap.push { cls:=.type "range",data:=.fields #[.int a t,.int b u,.int c v] }).objs.size],_,_,H1,rfl,I2.kept (t':=s1.toks) λb o e=>aQ _ e,tX _ a c (gO a b c),?_,λy hy=>?_,q⟩
 ·have e1:a+((0:Nat):Int) * c=a:=by simp
  have e2:((gO a b c:Nat):Int) - ((0:Nat):Int)=qJ a b c:=by rw[yS hc];simp
  show IsRangeIter _ _ (a+((0:Nat):Int) * c) (((gO a b c:Nat):Int) - ((0:Nat):Int)) c
  rw[e1,e2]
  exact aX _ rfl
 ·have e:y=(s1.heap.push { cls:=.type "range",data:=.fields #[.int a t,.int b u,.int c v] }).objs.size:=by simpa using hy
  subst e
  exact I2.sO (ao _) (I2.hok.fresh (ao _))
def hJ(lo c:Int)(n:Nat):List Wv:=(a9 n).map λk:Nat=>Wv.int (lo+k * c)
theorem iY{lo c:Int}{n:Nat}:(hJ lo c n).length=n:=by unfold hJ;simp
theorem yT{lo c:Int}{n k:Nat}(h:k < n):(hJ lo c n)[k]? =some (.int (lo+k * c)):=by
 unfold hJ
 rw[dA,Bi h]
 rfl
theorem tZ{lo c:Int}{n k:Nat}(h:k < (hJ lo c n).length):(hJ lo c n)[k]= .int (lo+k * c):=by
 have q:=yT (lo:=lo) (c:=c) (n:=n) (k:=k) (by rw[iY] at h;exact h)
 rw[cW h] at q
 exact Option.some.inj q
def B9(i:Nat)(ga:GA)(gb:GS):GS:=λρ st=>(ga ρ st).aY ρ λws st1=>match ws with
 | [.int a,.int b,.int c]=>if zS a b c then dz i gb (hJ a c (gO a b c)) ρ st1 else .bad
 | _=> .bad
theorem B_(i:Nat){x:Str}{l:Expr}{ls:List Expr}{body:List Stmt}{ga:GA}{gb:GS}{pos pos' p q:Pos}(hN:X.N.Nodup)(hp:PassesOwn (model X.prog X.w) X.A X.env X.xe)(hc:X.calm=true)(hg:Gl X "range")(hm:X.mg "range"=none)(ha:JA X (l::ls) ga)(hb:j8 X body gb)
  (hx:X.N[i]? =some x)(hlo:Loc X.env.scope x)(J2:X.fn x=true\/X.env.scope.names.lookup x=some .local)(hst:Yj (l::ls) X.env=(false,eval l X.env)::Yj ls X.env)(hpl:(backTo q (Yj ls X.env)).any (·.1)=false) :
  JS X (.For (.Name x pos') (.Call (.Name "range" p) (l::ls) [] q) body [] pos) (B9 i ga gb):=by
 refine JS.of (jX hp hc (qp hg hm fo hst hpl) (kM hN hx hlo J2) dE (λ_=>rfl)) λρ st σ H m D S R p=>?_
 refine ha.go S R (aD.bW R p) λws st1 vs m1 H1 p1 e1 S1 rs=>?_
 split at p1
 ·rename_i a b c
  by_cases cc:zS a b c
  ·rw[if_pos cc] at p1
   obtain⟨w1,w2,w3,v1,v2,v3,e,rfl,r1,r2,r3⟩:=KG rs rfl
   cases e
   cases aO r1
   cases aO r2
   cases aO r3
   refine⟨a,b,c,rfl,cc,k9 (J':=Py a c (gO a b c)) i hb S1 (R.mono e1) (aD.shift p1 e1) (λk H m' e hk=>by rw[iY] at hk;exact hk) (λk H m' e hk=>by rw[iY] at hk;exact jB hk.symm) λk hk H x H' m' e y=>?_⟩
   obtain⟨y1,y2⟩:=y
   refine⟨y1,?_⟩
   rw[tZ,y2]
   exact mkInt
  ·rw[if_neg cc] at p1;exact aa p1
 ·exact aa p1
end
section
variable {X:Cx}
end
section
variable {X:Cx}
end
theorem FH(l:X3)(items:Array X9)(n:Nat)(b:X3)(items2:Array X9)(n2:Nat)(dd:Option X3)(sl:Array (Option X9))(hs0:¬(!items.isEmpty&&nW (items.size+items2.size))=true)(hs1:items.size<=Yi)(hs2:items.size+items2.size<=Yi+1) :
  Meets (Builtin.«list.extend» ⟨[.ref l,.ref b],[]⟩) (λ_ R s=>s.heap.get? l=some { cls:=.type "list",dict:=none,data:=.seq items n,slots:=#[] }/\s.heap.get? b=some ⟨.type "tuple",dd,.seq items2 n2,sl⟩/\R (.ok (.ret bE)) { s with heap:=s.heap.update l (jA λx=>x++items2),toks:=s.toks }) :=
 .of_wp λprog w A R s h=>by
  obtain⟨hp,g,d,tk,os⟩:=s;obtain⟨hl,hb,h⟩:=h;have f1:=AutoSeq1.idx_int;have f2:=AutoSeq1.sub_tuple_tuple;have f3:=AutoSeq1.sub_list_list;have f4:=AutoSeq1.sub_tuple_list;have f5:=AutoSeq1.sub_list_tuple;
  have hz':(items++items2).size<=Yi+1:=by rw[Array.size_append];exact hs2
  wp_walk using (wpAny_updateSeq hl rfl (hz:=hs1) (_hz':=hz')),wpAny_loadPart' hl,wpAny_loadPart' hb;exact⟨_,rfl,h⟩
def t5(K:PySem.W.Frag):V->List V->Hp->VK->Prop:=λx vs H Q=>∃l b xs zs,x= .ref l/\vs=[.ref b]/\H l=some (.lst xs)/\cU K H b zs/\xs.length+zs.length<=Yi/\Q .aR (upd H l (.lst (xs++zs)))
section
variable {X:Cx}
theorem vF:QE X "list.extend" (t5 X.K):=by
 intro pins s σ H x vs v us Q I rx rv h
 obtain⟨l,b,xs,zs,rfl,rfl,hH,hB,hz,q⟩:=h
 cases rx
 obtain⟨u,rfl,ru⟩:=rv.one
 cases ru
 obtain⟨z,its,n,r,hl,e⟩:=I.Av hH
 obtain⟨its2,r2,⟨o,e2,oc,n2,od⟩,z2⟩:=I.tuple hB
 obtain⟨XF,dd,od',sl⟩:=o
 dsimp only at oc od
 subst oc od
 have l1:xs.length=its.length:=r.length
 have l2:zs.length=its2.length:=r2.length
 have hsz:its.toArray.size+its2.toArray.size<=Yi:=by rw[aN,aN];omega
 have sS:¬(!its.toArray.isEmpty&&nW (its.toArray.size+its2.toArray.size))=true:=by
  rw[nV hsz,Bool.and_false]
  exact bV
 refine call_meets F.slot_list_extend ⟨_,e,rfl⟩ F.entry_list_extend (F.args_list_extend_2 _ _)
  (FH l its.toArray n b its2.toArray n2 dd sl sS (by rw[aN];omega) (by omega)) ⟨e,e2,?_⟩
 refine⟨.aR,_,I.Ja (its':=its++its2) hH e (by simp) (r.append r2) ?_,rfl,q⟩
 rw[dB]
 omega
def t6(o v:Wv)(st:Hs):Re Wv:=match v with
 | .tup zs=>(match o with
  | .ref l=>(match st[l]? with
   | some (.lst ws)=>if ws.length+zs.length<=lim then .ok .aR (st.set l (.lst (ws++zs))) else .bad
   | _=> .bad)
  | _=> .bad)
 | v=>Ka o v st
theorem FI:Pk X "list.extend" t6:=by
 obtain⟨r0,m0,h0⟩:=Kb (X:=X)
 refine⟨λx vs H Q=>r0 x vs H Q\/t5 X.K x vs H Q,?_,λo w x v st H m Q S ro rw' p=>?_⟩
 ·intro pins s σ H x vs v us Q I rx rv h
  rcases h with h | h
  ·exact m0 pins s σ H x vs v us Q I rx rv h
  ·exact vF pins s σ H x vs v us Q I rx rv h
 ·cases w with
  | tup zs=>
   refine .inr ?_
   cases o with
   | ref l=>
    unfold ag at ro rw'
    obtain⟨a,rfl,ha⟩:=ro
    obtain⟨b,ys,rfl,hb,g2⟩:=rw'
    have p':cq X.K m H (match st[l]? with | some (.lst ws)=>if ws.length+zs.length<=lim then .ok .aR (st.set l (.lst (ws++zs))) else .bad | _=> .bad) Q:=p
    cases e:st[l]? with
    | none=>rw[e] at p';exact aa p'
    | some ob=>
     cases ob with
     | dct kvs=>rw[e] at p';exact aa p'
     | dP kvs=>rw[e] at p';exact aa p'
     | wI kvs=>rw[e] at p';exact aa p'
     | pk ns=>rw[e] at p';exact aa p'
     | lst ws=>
      rw[e] at p'
      dsimp only at p'
      by_cases c:ws.length+zs.length<=lim
      ·rw[if_pos c] at p'
       obtain⟨xs,h1,h2⟩:=S.kT ha e
       have e4:Ext X.K m H m (upd H a (.lst (xs++ys))):=Ext.upd (.inr ⟨xs,h1⟩)
       exact⟨a,b,xs,ys,rfl,rfl,h1,cU.of hb,by rw[<-h2.length,<-g2.length];exact dg c,p' _ m _ e4 (S.write ha e (h2.append g2)) wN⟩
      ·rw[if_neg c] at p';exact aa p'
   | _=>exact aa p
  | _=>exact .inl (h0 o _ x v st H m Q S ro rw' p)
end
def iZ(neg:Bool):ff:=λx y st=>match aA st 20 y,aA st 20 x with
 | some (.list ds),some d=> .ok (.bl ((ds.any λz=>aF z d) != neg)) st
 | some (.tuple ds),some d=> .ok (.bl ((ds.any λz=>aF z d) != neg)) st
 | _,_=> .bad
section
variable {X:Cx}
def KP(K:PySem.W.Frag)(neg:Bool):R2:=λa b H Q=>∃m st x y d ds c,bg K m st H/\ag K m H x a/\ag K m H y b/\aA st 20 y=some c/\(c= .list ds\/c= .tuple ds)/\aA st 20 x=some d/\Q (.bl ((ds.any λz=>aF z d) != neg)) H
theorem xm{ds:List PyData}{c:PyData}(h:c= .list ds\/c= .tuple ds)(k:c.canLay0=true):wO ds=true:=by
 rcases h with rfl | rfl<;>exact k
theorem KQ(hu:X.A.units+64 < cLine):dU X (Ye .In) (KP X.K false):=by
 intro pins s σ H a b v u Q I rx ry h
 obtain⟨m,st,x,y,d,ds,c,S,h1,h2,e1,hc,e2,q⟩:=h
 obtain⟨as,q1,q2,q3⟩:=bY I S 20 x a v d h1 rx e2
 obtain⟨bs,p1,p2,p3⟩:=bY I S 20 y b u c h2 ry e1
 have hd:X.A.units+1+min (kX ds) d.depth < cLine:=by
  have:=wx (kX ds) d.depth
  omega
 have e:∀t:Bool,(t != false)=t:=by decide
 rw[e] at q
 have ca:=xm hc p2
 rcases hc with rfl | rfl
 ·exact SeqAt.in_list_reads p1 q1 ca q2 hd ⟨.bl _,H,I,rfl,q⟩
 ·exact SeqAt.in_tuple_reads p1 q1 ca q2 hd ⟨.bl _,H,I,rfl,q⟩
theorem yU(hu:X.A.units+64 < cLine):dU X (Ye .NotIn) (KP X.K true):=by
 intro pins s σ H a b v u Q I rx ry h
 obtain⟨m,st,x,y,d,ds,c,S,h1,h2,e1,hc,e2,q⟩:=h
 obtain⟨as,q1,q2,q3⟩:=bY I S 20 x a v d h1 rx e2
 obtain⟨bs,p1,p2,p3⟩:=bY I S 20 y b u c h2 ry e1
 have hd:X.A.units+1+min (kX ds) d.depth < cLine:=by
  have:=wx (kX ds) d.depth
  omega
 have e:∀t:Bool,(t != true)= !t:=by decide
 rw[e] at q
 have ca:=xm hc p2
 rcases hc with rfl | rfl
 ·exact SeqAt.notIn_list_reads p1 q1 ca q2 hd ⟨.bl _,H,I,rfl,q⟩
 ·exact SeqAt.notIn_tuple_reads p1 q1 ca q2 hd ⟨.bl _,H,I,rfl,q⟩
theorem B'{neg:Bool}{x y:Wv}{a b:V}{st:Hs}{H:Hp}{m:Mp}{Q:VK}(S:bg X.K m st H)(rx:ag X.K m H x a)(ry:ag X.K m H y b)(p:cq X.K m H (iZ neg x y st) Q):KP X.K neg a b H Q:=by
 unfold iZ at p
 split at p
 ·rename_i ds d e1 e2
  exact⟨m,st,x,y,d,ds,_,S,rx,ry,e1,.inl rfl,e2,p _ m H Ext.refl S fB⟩
 ·rename_i ds d e1 e2
  exact⟨m,st,x,y,d,ds,_,S,rx,ry,e1,.inr rfl,e2,p _ m H Ext.refl S fB⟩
 ·exact aa p
theorem Ca(hu:X.A.units+64 < cLine):iP X (Ye .In) (iZ false):=⟨_,KQ hu,λx y a b st H m Q S rx ry p=>B' S rx ry p⟩
theorem qr(hu:X.A.units+64 < cLine):iP X (Ye .NotIn) (iZ true):=⟨_,yU hu,λx y a b st H m Q S rx ry p=>B' S rx ry p⟩
end
section
variable {prog:X7} {w:X_} {A:X4} {E:X9->X8->Prop} {s:X8}
end
section
variable {X:Cx} {tg:Expr}
end
section
variable {X:Cx} {a b c d:Expr} {pos:Pos}
end
section
variable {X:Cx} {pins:List (X3×Obj)} {σ:St} {E:X9->X8->Prop} {p:X3}
end
section
variable {X:Cx} {pos:Pos}
abbrev xn(K:PySem.W.Frag)(m:Mp)(H:Hp):List (Wv×Wv)->List (V×V)->Prop:=Paired λp q=>ag K m H p.1 q.1/\ag K m H p.2 q.2
theorem xn.mono{K:PySem.W.Frag}{m m1:Mp}{H H1:Hp}(e:Ext K m H m1 H1):∀{a:List (Wv×Wv)}{b:List (V×V)},xn K m H a b->xn K m1 H1 a b
 | _,_,.nil=> .nil
 | _,_,.cons h t=> .cons ⟨ag.mono e _ _ h.1,ag.mono e _ _ h.2⟩ (xn.mono e t)
end
def getD(d k:Wv)(st:Hs):Option Wv:=match d with
 | .ref l=>(match st[l]? with
  | some (.dct kvs)=>(match keyOf k with | some kk=>cJ kvs kk | none=>none)
  | some (.dP kvs)=>(match mR k with | some kk=>cJ kvs kk | none=>none)
  | some (.wI kvs)=>(match mR k with | some kk=>cJ kvs kk | none=>none)
  | _=>none)
 | _=>none
section
variable {X:Cx}
end
section
variable {X:Cx} {pins:List (X3×Obj)} {σ:St} {H:Hp} {s:X8} {a:X3} {xs:List (List L2.Key×V)}
end
section
variable {K:PySem.W.Frag} {m:Mp} {st:Hs} {H:Hp}
theorem RelK.iy{κ:Type}{m1:Mp}{H1:Hp}{kvs:List (κ×Wv)}{xs:List (κ×V)}(e:AK K m H m1 H1)(h:RelK K m H kvs xs):RelK K m1 H1 kvs xs:=⟨h.1,ah.iy e _ _ h.2⟩
theorem ay.iy{m1:Mp}{H1:Hp}{ρ:bw}{σ:St}(R:ay K m H ρ σ)(e:AK K m H m1 H1):ay K m1 H1 ρ σ:=⟨R.len,λi w h=>let ⟨v,h1,h2⟩:=R.get i w h;⟨v,h1,ag.iy e _ _ h2⟩⟩
end
section
variable {X:Cx}
end
theorem Cb{H:Hp}:∀{xs:List (List L2.Key×V)}{ys:List (List L2.Key×X3×X9)},KT H xs ys->∀{i:Nat}{y:List L2.Key×X3×X9},ys[i]? =some y->∃x,xs[i]? =some x/\x.1=y.1/\H y.2.1=some (.tup (x.1.map kV))/\RelV x.2 y.2.2
 | _,_,.nil,i,y,h=>by cases h
 | _,_,.cons h t,0,y,e=>by cases e;exact⟨_,rfl,h⟩
 | _,_,.cons h t,i+1,y,e=>Cb t (i:=i) e
section
variable {X:Cx} {tg:Expr}
end
section
variable {prog:X7} {w:X_} {A:X4} {E:X9->X8->Prop} {s:X8} {d:X3} {es:Array DictEntry} {ep:Nat}
theorem FJ{Q:X9->X8->Prop}(lo:(d == sysModules)=false)(x:mS s.heap d es ep)(hz:es.size<=Yi)(h:Q (.int es.size (s.toks+1)) { s with toks:=s.toks+1+1 }):Yk (model prog w) A (call (.builtin "len") [.ref d]) Q E s:=by
 have ty:=x.ty
 obtain⟨o,g1,g2,g3⟩:=x
 refine Calls.call_function_entry kind_len plain_len entry_len (args_len1 _) ?_
 have n0:¬((es.size:Int) < 0):=by omega
 have n1:¬((es.size:Int) >= 2 ^ 63):=by rw[sizeLine_eq] at hz;omega
 have M:MeetsIn prog w (Builtin.«dict.__len__» ⟨[.ref d],[]⟩) (λ_ R s'=>s'=s/\R (.ok (.ret (.int es.size s.toks))) { s with toks:=s.toks+1 }):=.of_wp λA R s' ⟨e,h⟩=>by
  subst e
  refine(show Yk _ _ (dictSize d >>= _) _ _ s' from ?_)
  unfold dictSize
  refine Yl (Yl (Ym g1 g3 (Yq ?_)))
  exact(show Yk _ _ (Builtin.Dict.pendingCount d >>= _) _ _ s' from Yl (wpAny_pendingCount_other lo (wpAny_ret_mkInt (by rw[Nat.add_zero];exact h))))
 unfold Builtin.«len»
 refine Yl (m:=oneArg "len" _) (Yq (Yl (m:=callSpecial? (.ref d) (fe "__len__")) (wpAny_callSpecial?_slot (name:=fe "__len__") ty PySem.F.slot_dict_len
  (call_meetsIn PySem.F.slot_dict_len ty PySem.F.entry_dict_len (PySem.F.args_dict_len_1 _) M ⟨rfl,?_⟩))))
 refine(show Yk _ _ _ _ _ { s with toks:=s.toks+1 } from Yl (Yn (Yq (Yl (wpAny_letGo ?_)))))
 refine(show Yk _ _ (if((es.size:Nat):Int) < 0 then _ else _) _ _ _ from ?_);rw[if_neg n0]
 refine(show Yk _ _ (if((es.size:Nat):Int) >= 2 ^ 63 then _ else _) _ _ _ from ?_);rw[if_neg n1]
 exact Yl (wpAny_mkInt (Yq ⟨_,rfl,h⟩))
end
section
variable {prog:X7} {w:X_} {K:Type} [DecidableEq K] {knd:HeapKind prog w K} {A:X4} {E:X9->X8->Prop} {s:X8} {d a:X3} {xs:List (K×X3×X9)} {k:K}
theorem t7:∀{xs:List (K×X3×X9)}{j:Nat}{k:K}{p:X3×X9},(xs.map (·.1)).Nodup->xs[j]? =some (k,p)->xs.eraseIdx j=xs.filter λx=>decide (x.1≠k)
 | [],j,k,p,n,h=>by cases h
 | x::r,0,k,p,n,h=>by
  cases h
  have n1:=(List.nodup_cons.mp (show(k::r.map (·.1)).Nodup from n)).1
  rw[eQ,if_neg (by simp),List.eraseIdx_zero,List.tail_cons]
  refine(List.filter_eq_self.mpr λy hy=>?_).symm
  simp only[decide_eq_true_eq]
  exact λe=>n1 (List.mem_map.mpr ⟨y,hy,e⟩)
 | x::r,j+1,k,p,n,h=>by
  have n0:=List.nodup_cons.mp (show(x.1::r.map (·.1)).Nodup from n)
  have h':r[j]? =some (k,p):=h
  have ne:x.1≠k:=λe=>n0.1 (List.mem_map.mpr ⟨_,m6 h',e.symm⟩)
  rw[eQ,if_pos (by simp[ne]),Cc,t7 n0.2 h']
theorem qt{α β:Type}(f:α->β):∀(l:List α)(j:Nat),(l.eraseIdx j).map f=(l.map f).eraseIdx j
 | [],j=>rfl
 | x::r,0=>rfl
 | x::r,j+1=>by rw[Cc,av,av,Cc,qt f r j]
theorem Cd{x:X9}{Q:X9->X8->Prop}(hu:knd.room A.in1)(lo:(d == sysModules)=false)(hkey:knd.is s.heap k a)(hm:s.heap.DictOfH knd d xs)(hsz:xs.length<=Yi)
  (hn:(∀(j:Nat)(p:X3×X9),xs[j]?≠some (k,p))->∀t,Q x { s with toks:=t })
  (hs:∀(j:Nat)(p:X3×X9),xs[j]? =some (k,p)->∀h' t,h'.DictOfH knd d (xs.filter λx=>decide (x.1≠k))->f9 d s.heap h'->Q p.2 { s with heap:=h',toks:=t }) :
  Yk (model prog w) A (call (.builtin "dict.pop") [.ref d,.ref a,x]) Q E s:=by
 have ty:s.TypeIs (.ref d) "dict":=hm.typeIs
 obtain⟨o,es,ep,ho,hc,hd,he,his,hnd⟩:=id hm
 have hes:es.size<=Yi:=by have e:=size_of_entries he;omega
 have M:MeetsIn prog w (Builtin.«dict.pop» ⟨[.ref d,.ref a,x],[]⟩) (λA' R s'=>A'=A/\s'=s/\((∀(j:Nat)(p:X3×X9),xs[j]?≠some (k,p))->∀t,R (.ok (.ret x)) { s with toks:=t })/\
   ∀(j:Nat)(p:X3×X9),xs[j]? =some (k,p)->∀h' t,h'.DictOfH knd d (xs.filter λx=>decide (x.1≠k))->f9 d s.heap h'->R (.ok (.ret p.2)) { s with heap:=h',toks:=t }):=.of_wp λA' R s' ⟨eA,e,h1,h2⟩=>by
  subst e eA
  unfold Builtin.«dict.pop»
  refine Yl ?_
  unfold Builtin.Dict.keyAndDefault
  refine Yl (wpAny_notOrdered_dict ty (show Yk _ _ (pure (d,aB a,some x)) _ _ s' from Yq ?_))
  have kp:(keyPart (aB a)).isSome=false:=rfl
  simp only[kp,gN,if_false]
  refine Yl (Ym ho hd (Yl (Yq ?_)))
  have N8:xs=[]->∀(j:Nat)(p:X3×X9),xs[j]?≠some (k,p):=λz j p q=>by rw[z] at q;cases q
  by_cases em:es.isEmpty=true
  ·have xe:xs=[]:=by
    have:=size_of_entries he
    have e0:es.size=0:=by simpa [Array.isEmpty] using em
    exact List.length_eq_zero_iff.mp (by omega)
   rw[if_pos em]
   refine Yl (wpAny_rule (Yl (Yq ?_)))
   simp only[FK,if_true]
   refine Yl (wpAny_missedRemoval_other lo (Yl (wpAny_rule (Yq ⟨x,rfl,h1 (N8 xe) _⟩))))
  ·rw[if_neg em]
   refine Yl ?_
   unfold Builtin.Dict.takeOut
   refine Yn ?_
   refine Yl (knd.pyHash hu hkey (Yl (wpAny_dictFind_heap (s:={ s' with toks:=s'.toks+knd.draws k }) hu hkey ho hd he his hnd (λno=>Yq ?_) λj p hj=>?_)))
   ·simp only[FK,if_true]
    exact Yl (wpAny_missedRemoval_other lo (Yl (wpAny_rule (Yq ⟨x,rfl,h1 no _⟩))))
   ·refine Yl (Ym (s:={ s' with toks:=s'.toks+knd.draws k }) ho hd ?_)
    rw[entry_at he j,hj]
    refine Yl (wpAny_updateDictKeys (hz:=hes) (s:={ s' with toks:=s'.toks+knd.draws k }) ho hd (Yq ?_))
    simp only[Option.isNone_some,gN,if_false]
    refine Yl (wpAny_letGo (Yq ⟨p.2,rfl,h2 j p hj _ _ ?_ (ke ..)⟩))
    refine⟨_,_,ep+1,j4 _ ho (Obj.isFreed_of_dict (xo hd _)),hc.mapDictKeys _,xo hd _,?_,λy hy=>?_,?_⟩
    ·rw[<-t7 hnd hj,qt,<-he]
     obtain⟨l⟩:=es
     simp
    ·exact knd.keeps (his y (List.mem_filter.mp hy).1) ho hd (ke ..)
    ·exact hnd.sublist (List.filter_sublist.map _)
 exact call_meetsIn PySem.F.slot_dict_pop ty PySem.F.entry_dict_pop (PySem.F.args_dict_pop_3 _ _ _) M ⟨rfl,rfl,hn,hs⟩
end
section
variable {prog:X7} {w:X_} {A:X4} {E:X9->X8->Prop} {s:X8}
theorem xp{b:DictEntry->PUnit->Sem (ForInStep PUnit)}{Q:PUnit->X8->Prop}:∀{l:List DictEntry},(∀e∈l,∀Q':ForInStep PUnit->X8->Prop,Q' (.yield nD) s->Yk (model prog w) A (b e nD) Q' E s)->Q nD s->Yk (model prog w) A (forIn l nD b) Q E s
 | [],_,q=>by rw[vC];exact Yq q
 | e::r,h,q=>by
  rw[rD]
  exact Yl (h e (.head _) _ (xp (λe' he'=>h e' (.tail _ he')) q))
theorem Ce{es:List DictEntry}(n:(es.map (·.hash)).Nodup)(c:Int):(es.filter λe=>e.hash == c).length<=1:=by
 induction es with
 | nil=>simp
 | cons e r ih=>
  have n:=List.nodup_cons.mp (show(e.hash::r.map (·.hash)).Nodup from n)
  rw[eQ]
  by_cases h:(e.hash == c)=true
  ·rw[if_pos h]
   have:(r.filter λe=>e.hash == c)=[]:=List.filter_eq_nil_iff.mpr λy hy q=>n.1 (List.mem_map.mpr ⟨y,hy,by rw[eq_of_beq q,eq_of_beq h]⟩)
   rw[this]
   exact ao 1
  ·rw[if_neg h];exact ih n.2
theorem mV:typeLookup (.type "tuple") "__eq__"=pure (some (.builtin "tuple.__eq__")):=PySem.F.slot_tuple_eq.lookup
theorem Cf{o:X3}{es:Array DictEntry}{ep:Nat}{Q:X9->X8->Prop}(lo:(o == sysModules)=false)(x:mS s.heap o es ep)(hz:es.size<=Yi)(he:es.size≠0)(hn:(es.toList.map (·.hash)).Nodup)(ht:∀e∈es,∃b,e.key= .ref b/\s.TypeIs (.ref b) "tuple")
  (h:∀h',(∃q,h'.get? s.heap.objs.size=some q/\q.cls= .type "dict"/\q.dict=none/\q.slots=#[]/\∃e',q.data= .dict es e')->f9 s.heap.objs.size (s.heap.push { cls:=.type "dict",data:=.dict #[] }) h'->Q (.ref s.heap.objs.size) { s with heap:=h' }) :
  Yk (model prog w) A (call (.type "dict") [.ref o]) Q E s:=by
 refine callType_codes (Q₁:=λobj s₁=>obj= .ref s.heap.objs.size/\s₁={ s with heap:=s.heap.push { cls:=.type "dict",data:=.dict #[] } }) F.kt_called_dict (F.kt_typeCall_dict_1 _) F.entry_dict_init (kt_code_dict_new _ ⟨rfl,rfl⟩) ?_
 rintro obj s₁ ⟨rfl,rfl⟩
 obtain⟨q,g1,g2,g3⟩:=x
 have hne:s.heap.objs.size≠o:=λe=>absurd (aC g1) (by rw[e];exact c_ _)
 have n1:(s.heap.push { cls:=.type "dict",data:=.dict #[] }).get? s.heap.objs.size=some { cls:=.type "dict",data:=.dict #[] }:=aX _ rfl
 have o1:(s.heap.push { cls:=.type "dict",data:=.dict #[] }).get? o=some q:=aQ _ g1
 have tn:lu { s with heap:=s.heap.push { cls:=.type "dict",data:=.dict #[] } } (.ref s.heap.objs.size) "dict":=⟨_,n1,rfl⟩
 have to:lu { s with heap:=s.heap.push { cls:=.type "dict",data:=.dict #[] } } (.ref o) "dict":=⟨_,o1,g2⟩
 refine⟨tn,F.args_dict_init_2 _ _,?_⟩
 unfold Builtin.«dict.__init__»
 refine Yl ?_
 unfold KR
 refine Yl (wpAny_notOrdered_dict tn (show Yk _ _ (pure (s.heap.objs.size,[aB o])) _ _ _ from Yq ?_))
 refine(show Yk _ _ (vG "dict.__init__" s.heap.objs.size (.ref o) [] .none) _ _ _ from ?_)
 unfold vG
 refine Yl (wpAny_typeOf to ?_)
 rw[if_neg (by decide)]
 refine Yl ?_
 unfold KS
 refine Yl ?_
 unfold KU
 refine Yl (wpAny_isInstance to isSubtype_dict_dict ?_)
 simp only[kl,gN,if_false]
 refine Yl (wpAny_specialOf to F.slot_dict_iter.lookup (Yq ?_))
 simp only[beq_self_eq_true,if_true]
 refine Yl (Yq ?_)
 unfold KW
 rw[if_neg (by simpa using hne)]
 unfold vx
 rw[if_neg (by rw[lo];exact bV)]
 refine Yl (Yq (Yl (Ym o1 g3 ?_)))
 have few:(decide (es.size<=8)&&es.all λe=>(keyPart e.key).isSome)=false:=by
  rw[Bool.and_eq_false_iff]
  refine .inr ?_
  rw[<-Bool.not_eq_true,Array.all_eq_true]
  intro al
  have:=al 0 (by omega)
  obtain⟨b,e1,_⟩:=ht es[0] (by simp)
  rw[e1] at this
  cases this
 simp only[few,mj,if_true]
 refine Yl (Ym n1 rfl ?_)
 simp only[show(#[]:Array DictEntry).isEmpty=true from rfl,if_true]
 refine Yl ?_
 unfold Builtin.Dict.entriesForEmpty
 refine Yl (Ym o1 g3 ?_)
 rw[<-Array.forIn_toList]
 refine Yl (xp (λe hm Q' q'=>?_) (Yq ?_))
 ·obtain⟨b,e1,e2⟩:=ht e (Array.mem_toList_iff.mp hm)
  rw[e1]
  obtain⟨ob,f1,f2⟩:=e2
  have tb:lu { s with heap:=s.heap.push { cls:=.type "dict",data:=.dict #[] } } (.ref b) "tuple":=⟨_,aQ _ f1,f2⟩
  unfold Builtin.Dict.quietEq
  refine Yl (Yl (wpAny_specialOf tb mV (Yq ?_)))
  have nq:(some (jH "tuple.__eq__") == some (jH "object.__eq__"))=false:=by decide
  have sz:¬(es.filter (λx=>x.hash == e.hash)).size > 1:=by
   have q1:=Ce hn e.hash
   have q2:(es.filter (λx=>x.hash == e.hash)).size=(es.toList.filter (λx=>x.hash == e.hash)).length:=by rw[<-Ac,Array.toList_filter]
   rw[q2]
   omega
  simp only[nq,mj,if_true,if_neg sz]
  exact Yq q'
 ·have ne:es.isEmpty=false:=by simpa [Array.isEmpty] using he
  simp only[ne,mj,if_true]
  refine Yl (wpAny_updateDictKeysTo (hz':=by show es.size<=Yi+1;omega) n1 rfl (Yq ?_))
  refine(show Yk _ _ (KY s.heap.objs.size [] >>= _) _ _ _ from Yl (Yq (Yq ⟨rfl,h _ ?_ (ke ..)⟩)))
  exact⟨_,j4 _ n1 (Obj.isFreed_of_dict (xo rfl _)),rfl,rfl,rfl,_,rfl⟩
end
section
variable {prog:X7} {w:X_} {A:X4} {E:X9->X8->Prop} {s:X8} {d it:X3} {i:Nat} {es:Array DictEntry} {ep:Nat} {ok ov:X9}
end
section
variable {X:Cx}
theorem Cg{P:X7}{w:X_}{H:Hp}{h:Heap}{a:X3}{xs:List (List L2.Key×V)}(ok:iE P w H h)(e:Rd H a (.dT xs)) :
  ∃es ep ys,xs.length<=Yi/\(a == sysModules)=false/\mS h a es ep/\es.size=xs.length/\KT H xs ys/\es.toList=ys.map (entryOfKey (tupleKind (aV P w)))/\(ys.map (·.1)).Nodup:=by
 obtain⟨z,lo,ys,kt,o,es,ep,g1,g2,g3,g4,g5⟩:=(show cp P w H h a (.dT xs) from Ay ok e)
 have len:es.size=ys.length:=by have:=congrArg gU g4;simpa using this
 exact⟨es,ep,ys,z,lo,⟨o,g1,g2.1,g3⟩,by rw[len];exact(Paired.length kt).symm,kt,g4,g5⟩
theorem yV:cR X (.builtin "len") (λxs H Q=>∃a kvs,xs=[.ref a]/\Rd H a (.dT kvs)/\Q (.int kvs.length) H):=by
 intro pins s σ H xs us Q I rs q
 obtain⟨a,kvs,rfl,e,q⟩:=q
 cases rs with
 | cons r rr=>
  cases rr
  cases r
  obtain⟨es,ep,ys,z,lo,raw,sz,_⟩:=Cg I.hok e
  refine FJ lo raw (by rw[sz];exact z) ⟨.int kvs.length,H,I.tok _,⟨_,by rw[sz]⟩,q⟩
def eT:Option Ob->Option (List (List L2.Key×Wv))
 | some (.dP kvs)=>some kvs
 | some (.wI kvs)=>some kvs
 | _=>none
theorem fK{m:Mp}{st:Hs}{H:Hp}{l:Nat}{a:X3}{kvs:List (List L2.Key×Wv)}(S:bg X.K m st H)(ha:m[l]? =some a)(h:eT st[l]? =some kvs):∃xs,Rd H a (.dT xs)/\RelK X.K m H kvs xs:=by
 unfold eT at h
 split at h
 ·rename_i k' e
  cases h
  obtain⟨xs,h1,h2⟩:=(show ∃ys,H a=some (.dT ys)/\RelK X.K m H kvs ys from S.obj _ _ _ ha e)
  exact⟨xs,.inl h1,h2⟩
 ·rename_i k' e
  cases h
  obtain⟨o,xs,h1,h2⟩:=(show ∃o ys,H a=some (.fD o (.dT ys))/\RelK X.K m H kvs ys from S.obj _ _ _ ha e)
  exact⟨xs,.inr ⟨o,h1⟩,h2⟩
 ·cases h
def fL:List Wv->Hs->Re Wv
 | [.ref l],st=>(match eT st[l]? with | some kvs=> .ok (.int kvs.length) st | none=>ka [.ref l] st)
 | ws,st=>ka ws st
theorem FO:cX X (.builtin "len") fL:=by
 obtain⟨r0,c0,k0⟩:=A4 (X:=X)
 refine⟨_,yV.or c0,λws vs st H m Q S r p=>?_⟩
 have old:cq X.K m H (ka ws st) Q->r0 vs H Q:=λp=>k0 ws vs st H m Q S r p
 unfold fL at p
 split at p
 ·rename_i l
  cases e:eT st[l]? with
  | none=>rw[e] at p;exact .inr (old p)
  | some kvs=>
   rw[e] at p
   obtain⟨v,rfl,rx⟩:=kY r
   unfold ag at rx
   obtain⟨a,rfl,ha⟩:=rx
   obtain⟨xs,h1,h2⟩:=fK (X:=X) S ha e
   refine .inl ⟨a,xs,rfl,h1,?_⟩
   rw[<-h2.length]
   exact p _ m H Ext.refl S mkInt
 ·exact .inr (old p)
def xq(ns:List Int):Int:=reduceHash (KZ (ns.map hashInt))
def mI:List (List L2.Key)->Option (List (List Int))
 | []=>some []
 | k::r=>(match mU k,mI r with | some ns,some l=>some (ns::l) | _,_=>none)
theorem t8:∀{ks:List L2.Key}{ns:List Int},mU ks=some ns->ks=ns.map eh
 | [],ns,e=>by cases e;rfl
 | .inl i::r,ns,e=>by
  unfold mU at e
  cases q:mU r with
  | none=>rw[q] at e;cases e
  | some l=>rw[q] at e;cases e;rw[av,<-t8 q]
theorem Ci{P:X7}{w:X_}{ks:List L2.Key}{ns:List Int}(h:mU ks=some ns):(tupleKind (aV P w)).hash ks=xq ns:=by
 rw[t8 h]
 show reduceHash (KZ ((ns.map eh).map (aV P w).hash))=_
 rw[aL]
 rfl
theorem oG{P:X7}{w:X_}:∀{T_:List (List L2.Key)}{nss:List (List Int)},mI T_=some nss->T_.map (tupleKind (aV P w)).hash=nss.map xq
 | [],nss,e=>by cases e;rfl
 | k::r,nss,e=>by
  unfold mI at e
  cases q1:mU k with
  | none=>rw[q1] at e;cases e
  | some ns=>
   cases q2:mI r with
   | none=>rw[q1,q2] at e;cases e
   | some l=>rw[q1,q2] at e;cases e;rw[av,av,Ci q1,oG q2]
def ko(ks:List (List L2.Key)):Bool:=match mI ks with
 | some nss=>decide ((nss.map xq).Nodup)
 | none=>false
theorem yW{prog:X7}{w:X_}{A:X4}{E:X9->X8->Prop}{s:X8}{o:X3}{ep:Nat}{Q:X9->X8->Prop}(lo:(o == sysModules)=false)(x:mS s.heap o #[] ep)(h:Q (.ref s.heap.objs.size) { s with heap:=s.heap.push { cls:=.type "dict",data:=.dict #[] } }) :
  Yk (model prog w) A (call (.type "dict") [.ref o]) Q E s:=by
 refine callType_codes (Q₁:=λobj s₁=>obj= .ref s.heap.objs.size/\s₁={ s with heap:=s.heap.push { cls:=.type "dict",data:=.dict #[] } }) F.kt_called_dict (F.kt_typeCall_dict_1 _) F.entry_dict_init (kt_code_dict_new _ ⟨rfl,rfl⟩) ?_
 rintro obj s₁ ⟨rfl,rfl⟩
 obtain⟨q,g1,g2,g3⟩:=x
 have hne:s.heap.objs.size≠o:=λe=>absurd (aC g1) (by rw[e];exact c_ _)
 have n1:(s.heap.push { cls:=.type "dict",data:=.dict #[] }).get? s.heap.objs.size=some { cls:=.type "dict",data:=.dict #[] }:=aX _ rfl
 have o1:(s.heap.push { cls:=.type "dict",data:=.dict #[] }).get? o=some q:=aQ _ g1
 have tn:lu { s with heap:=s.heap.push { cls:=.type "dict",data:=.dict #[] } } (.ref s.heap.objs.size) "dict":=⟨_,n1,rfl⟩
 have to:lu { s with heap:=s.heap.push { cls:=.type "dict",data:=.dict #[] } } (.ref o) "dict":=⟨_,o1,g2⟩
 refine⟨tn,F.args_dict_init_2 _ _,?_⟩
 unfold Builtin.«dict.__init__»
 refine Yl ?_
 unfold KR
 refine Yl (wpAny_notOrdered_dict tn (show Yk _ _ (pure (s.heap.objs.size,[aB o])) _ _ _ from Yq ?_))
 refine(show Yk _ _ (vG "dict.__init__" s.heap.objs.size (.ref o) [] .none) _ _ _ from ?_)
 unfold vG
 refine Yl (wpAny_typeOf to ?_)
 rw[if_neg (by decide)]
 refine Yl ?_
 unfold KS
 refine Yl ?_
 unfold KU
 refine Yl (wpAny_isInstance to isSubtype_dict_dict ?_)
 simp only[kl,gN,if_false]
 refine Yl (wpAny_specialOf to F.slot_dict_iter.lookup (Yq ?_))
 simp only[beq_self_eq_true,if_true]
 refine Yl (Yq ?_)
 unfold KW
 rw[if_neg (by simpa using hne)]
 unfold vx
 rw[if_neg (by rw[lo];exact bV)]
 refine Yl (Yq (Yl (Ym o1 g3 ?_)))
 have few:(decide ((#[]:Array DictEntry).size<=8)&&(#[]:Array DictEntry).all λe=>(keyPart e.key).isSome)=true:=by simp
 simp only[few,kl,gN,if_false]
 refine Yl (wpAny_dictEpoch o1 g3 (Yl (Ym o1 g3 (Yl ?_))))
 rw[FP]
 refine(show Yk _ _ (pure nD) _ _ _ from Yq (Yq ?_))
 exact(show Yk _ _ (KY s.heap.objs.size [] >>= _) _ _ _ from Yl (Yq (Yq ⟨rfl,h⟩)))
theorem vH:cR X (.type "dict") (λxs H Q=>∃a kvs,xs=[.ref a]/\Rd H a (.dT kvs)/\((kvs.map (·.1)).map (tupleKind (aV X.prog X.w)).hash).Nodup/\∀p,H p=none->Q (.ref p) (upd H p (.dT kvs))):=by
 intro pins s σ H xs us Q I rs q
 obtain⟨a,kvs,rfl,e,hn,q⟩:=q
 cases rs with
 | cons r rr=>
  cases rr
  cases r
  obtain⟨es,ep,ys,z,lo,raw,sz,kt,g4,g5⟩:=Cg I.hok e
  by_cases ne:kvs=[]
  ·subst ne
   cases kt
   have l0:es=#[]:=Array.eq_empty_of_size_eq_zero (by rw[sz];rfl)
   subst l0
   have fr:H s.heap.objs.size=none:=I.hok.fresh (ao _)
   refine yW lo raw ⟨.ref s.heap.objs.size,_,I.laid (a:=s.heap.objs.size) (o:=.dT []) (t':=s.toks) (λb ob hq=>aQ _ hq) (ao _) ?_,rfl,q _ fr⟩
   exact⟨z,beq_eq_false_iff_ne.mpr (az (aP I.big)),[],.nil,_,#[],_,aX _ rfl,⟨rfl,rfl,rfl⟩,rfl,g4,g5⟩
  have keys:kvs.map (·.1)=ys.map (·.1):=by
   clear q hn ne g5 g4 e sz z
   induction kt with
   | nil=>rfl
   | cons h t ih=>rw[av,av,ih,h.1]
  have hs:es.toList.map (·.hash)=(kvs.map (·.1)).map (tupleKind (aV X.prog X.w)).hash:=by
   rw[g4,keys,aL,aL]
   rfl
  have ht:∀e∈es,∃b,e.key= .ref b/\s.TypeIs (.ref b) "tuple":=λe' he=>by
   have:e'∈ys.map (entryOfKey (tupleKind (aV X.prog X.w))):=by rw[<-g4];exact Array.mem_toList_iff.mpr he
   obtain⟨y,hy,rfl⟩:=List.mem_map.mp this
   obtain⟨j,hj⟩:=List.mem_iff_getElem?.mp hy
   obtain⟨x,_,_,hx,_⟩:=Cb kt hj
   have kk:=lT (P:=X.prog) (w:=X.w) I.hok hx
   obtain⟨ob,its,n,f1,f2,_⟩:=kk
   exact⟨y.2.1,rfl,ob,f1,f2⟩
  have l0:es.size≠0:=by rw[sz];exact λz0=>ne (List.length_eq_zero_iff.mp z0)
  refine Cf lo raw (by rw[sz];exact z) l0 (by rw[hs];exact hn) ht λh' nw sb=>?_
  obtain⟨o',f1,f2,f3,f4,GP,f5⟩:=nw
  have fr:H s.heap.objs.size=none:=I.hok.fresh (ao _)
  refine⟨.ref s.heap.objs.size,_,I.laid (a:=s.heap.objs.size) (o:=.dT kvs) (t':=s.toks) (λb ob hq=>(sb.2 b (aP (aC hq))).trans (aQ _ hq)) (ao _) ?_,rfl,q _ fr⟩
  refine⟨z,beq_eq_false_iff_ne.mpr (az (aP I.big)),ys,kt.keeps λc zs ec=>?_,o',es,GP,f1,⟨f2,f3,f4⟩,f5,g4,g5⟩
  rw[aw (bh ec fr)]
  exact ec
def qu:List Wv->Hs->Re Wv
 | [.ref l],st=>(match eT st[l]? with | some kvs=>if ko (kvs.map (·.1))=true then .ok (.ref st.length) (st++[.dP kvs]) else .bad | none=> .bad)
 | _,_=> .bad
theorem FQ:cX X (.type "dict") qu:=⟨_,vH,λws vs st H m Q S r p=>by
 unfold qu at p
 split at p
 ·rename_i l
  cases e:eT st[l]? with
  | none=>rw[e] at p;exact aa p
  | some kvs=>
   rw[e] at p
   dsimp only at p
   by_cases c:ko (kvs.map (·.1))=true
   ·rw[if_pos c] at p
    obtain⟨v,rfl,rx⟩:=kY r
    unfold ag at rx
    obtain⟨a,rfl,ha⟩:=rx
    obtain⟨xs,h1,h2⟩:=fK (X:=X) S ha e
    refine⟨a,xs,rfl,h1,?_,λq hq=>?_⟩
    ·have c2:=c
     unfold ko at c2
     rw[<-h2.1]
     cases ek:mI (kvs.map (·.1)) with
     | none=>rw[ek] at c2;cases c2
     | some nss=>rw[ek] at c2;rw[oG ek];exact of_decide_eq_true c2
    ·have ex:Ext X.K m H (m++[q]) (upd H q (.dT xs)):=Ext.more.trans (Ext.g_ (.inl hq))
     exact p (.ref q) (m++[q]) _ ex (S.ra hq ⟨xs,aM,h2.mono ex⟩) (by unfold ag;exact⟨q,rfl,by rw[<-S.len,jZ (ao _),ni];rfl⟩)
   ·rw[if_neg c] at p;exact aa p
 ·exact aa p⟩
end
theorem yX{o:Option V}(r:pe o none):o=none:=by
 cases o with
 | none=>rfl
 | some u=>exact(show False from r).elim
theorem qv{o:Option V}{u:X9}(r:pe o (some u)):∃v,o=some v/\RelV v u:=by
 cases o with
 | none=>exact(show False from r).elim
 | some v=>exact⟨v,rfl,r⟩
def K1(td ty tx:TE):TE:=λσ H Q=>td σ H λx H1=>∃a,x= .ref a/\Nb H1 a/\ty σ H1 λy H2=>tx σ H2 λz H3=>∃kvs k b,H3 a=some (.dT kvs)/\y= .ref b/\H3 b=some (.tup (k.map kV))/\
 (∀v,j6 kvs k=some v->Q v (upd H3 a (.dT (iw kvs k))))/\(j6 kvs k=none->Q z H3)
theorem rP{H:Hp}{k:List L2.Key}:∀{xs:List (List L2.Key×V)}{ys:List (List L2.Key×X3×X9)},KT H xs ys->KT H (iw xs k) (ys.filter λy=>decide (y.1≠k))
 | _,_,.nil=> .nil
 | _,_,.cons (a:=x) (b:=y) h t=>by
  by_cases e:x.1=k
  ·rw[pY e,eQ,if_neg (by rw[<-h.1];simp[e])];exact rP t
  ·rw[pZ e,eQ,if_pos (by rw[<-h.1];simp[e])];exact .cons h (rP t)
section
variable {X:Cx} {o e f:Expr} {apos cpos:Pos} {td ty tx:TE}
theorem Cj(hu:X.A.units+1 < cLine)(ho:PE X o td)(he:PE X e ty)(hf:PE X f tx)(m:M2 X o "pop" apos e f cpos):PE X (.Call (.Attribute o "pop" apos) [e,f] [] cpos) (K1 td ty tx):=by
 intro pins s σ H Q I h
 refine wpAny_Call_method m.base m.few m.line PySem.F.plainAttrs_dict PySem.F.slot_dict_pop PySem.F.type_dict_pop (aY (ho pins s σ H _ I h) λu s1 ⟨x,H1,I1,rx,a,ex,d,q1⟩=>?_)
 subst ex
 obtain rfl:u=aB a:=rx
 obtain⟨t1,t2,_⟩:=qY I1 d
 refine⟨t1,t2,?_⟩
 rw[m.trees]
 refine qU rfl (nT (iL (aY (he pins s1 σ H1 _ I1 q1) λiv s2 ⟨y,H2,I2,ry,q2⟩=>
  iL (aY (hf pins s2 σ H2 _ I2 q2) λfv s3 ⟨z,H3,I3,rz,kvs,k,b,ea,ey,eb,q3,q4⟩=>nO ?_))))
 subst ey
 cases (show iv=aB b from ry)
 obtain⟨zz,hd,xs,rel,dd⟩:=Az I3.hok ea
 have vl:=rel.val k
 refine Cd (tupleKind_room_in1 hu) hd (lT I3.hok eb) dd (by rw[<-Paired.length rel];exact zz) (λno t=>?_) λj p hj h' t GX hs=>?_
 ·rw[atKey_none_of_get no] at vl
  exact⟨z,H3,I3.tok _,rz,q4 (yX vl)⟩
 ·have hnd:(xs.map (·.1)).Nodup:=let ⟨_,_,_,_,_,_,_,_,n⟩:=dd;n
  rw[atKey_of_get hnd hj] at vl
  obtain⟨v,ev,rv⟩:=qv vl
  obtain⟨q,es,ep,hq,h2,h3,h4,_,h5⟩:=GX
  refine⟨v,_,qX (ob:=.dT (iw kvs k)) I3 (by rw[ea];exact nh) hs ⟨q,hq⟩ ⟨bo (Ax kvs k) zz,hd,_,(rP rel).keeps λc ys ec=>?_,q,es,ep,hq,h2,h3,h4,h5⟩,rv,q3 v ev⟩
  rw[aw (GL ec ea (λz=>nomatch z))]
  exact ec
def fM{κ:Type}[DecidableEq κ](kvs:List (κ×Wv))(k:κ):List (κ×Wv):=kvs.filter λkv=>decide (kv.1≠k)
theorem RelK.drop{κ:Type}[DecidableEq κ]{K:PySem.W.Frag}{m:Mp}{H:Hp}(k:κ):∀{kvs:List (κ×Wv)}{xs:List (κ×V)},RelK K m H kvs xs->RelK K m H (fM kvs k) (iw xs k)
 | [],xs,h=>by rw[h.nil_inv];exact RelK.nil
 | p::r,xs,h=>by
  obtain⟨v,t,rfl,h1,h2⟩:=h.cons_inv
  by_cases e:p.1=k
  ·rw[pY e]
   unfold fM
   rw[eQ,if_neg (by simp[e])]
   exact h2.drop k
  ·rw[pZ e]
   unfold fM
   rw[eQ,if_pos (by simp[e])]
   exact RelK.cons h1 (h2.drop k)
def Ck(d k x:Wv)(st:Hs):Re Wv:=match d with
 | .ref l=>(match mR k,st[l]? with
  | some kk,some (.dP kvs)=>(match cJ kvs kk with | some w=> .ok w (st.set l (.dP (fM kvs kk))) | none=> .ok x st)
  | _,_=> .bad)
 | _=> .bad
def K2(st:Hs):Wv->Bool
 | .ref l=>(eT st[l]?).isSome
 | _=>false
def t9(gd gk gx:GE):GE:=λρ st=>(gd ρ st).bind λd st1=>if K2 st1 d=true then(gk ρ st1).bind λk st2=>(gx ρ st2).bind λx st3=>Ck d k x st3 else .bad
theorem FR{gd gk gx:GE}(hu:X.A.units+1 < cLine)(ho:JE X o gd)(he:JE X e gk)(hf:JE X f gx)(M:M2 X o "pop" apos e f cpos):JE X (.Call (.Attribute o "pop" apos) [e,f] [] cpos) (t9 gd gk gx) :=
 JE.of (Cj hu aJ aJ aJ M) λρ st σ H m Q S R p=>by
  refine ho.go S R (au.bind p) λd st1 v m1 H1 p1 e1 S1 r1=>?_
  by_cases hd:K2 st1 d=true
  ·rw[if_pos hd] at p1
   cases d with
   | ref l=>
    unfold ag at r1
    obtain⟨a,rfl,ha⟩:=r1
    obtain⟨XG,ek⟩:=Option.isSome_iff_exists.mp (show(eT st1[l]?).isSome=true from hd)
    obtain⟨J3,h0,_⟩:=fK (X:=X) S1 ha ek
    refine⟨a,rfl,.inr ⟨J3,h0⟩,?_⟩
    refine he.go S1 (R.mono e1) ((au.bind p1).imp e1 λ_ _ q=>q) λk st2 y m2 H2 p2 e2 S2 r2=>?_
    refine hf.go S2 (R.mono (e1.trans e2)) ((au.bind p2).imp (e1.trans e2) λ_ _ q=>q) λx st3 z m3 H3 p3 e3 S3 r3=>?_
    unfold Ck at p3
    dsimp only at p3
    cases q1:mR k with
    | none=>rw[q1] at p3;exact aa p3
    | some kk=>
     cases q2:st3[l]? with
     | none=>rw[q1,q2] at p3;exact aa p3
     | some ob=>
      rw[q1,q2] at p3
      cases ob with
      | dP kvs=>
       dsimp only at p3
       have Pu:m3[l]? =some a:=(e2.trans e3).pre _ _ ha
       obtain⟨xs,y1,y2⟩:=(show ∃ys,H3 a=some (.dT ys)/\RelK X.K m3 H3 kvs ys from S3.obj _ _ _ Pu q2)
       obtain⟨b,rfl,hb⟩:=oE (ag.mono e3 _ _ r2) q1
       obtain⟨i1,i2⟩:=y2.val kk
       refine⟨xs,kk,b,y1,rfl,hb,λu Rl=>?_,λhn=>?_⟩
       ·cases q3:cJ kvs kk with
        | none=>rw[i1 q3] at Rl;cases Rl
        | some w=>
         rw[q3] at p3
         obtain⟨u',j1,j2⟩:=i2 w q3
         rw[Rl] at j1
         cases j1
         have ex:Ext X.K m3 H3 m3 (upd H3 a (.dT (iw xs kk))):=Ext.g_ (.inr (.inr (.inr ⟨_,y1⟩)))
         exact p3 u m3 _ (e1.trans (e2.trans (e3.trans ex))) (S3.rb Pu q2 rfl ⟨_,aM,(y2.drop kk).mono ex⟩) (ag.mono ex _ _ j2)
       ·cases q3:cJ kvs kk with
        | none=>rw[q3] at p3;exact p3 z m3 H3 (e1.trans (e2.trans e3)) S3 r3
        | some w=>
         obtain⟨u',j1,_⟩:=i2 w q3
         rw[hn] at j1
         cases j1
      | _=>exact aa p3
   | _=>cases hd
  ·rw[if_neg hd] at p1;exact aa p1
end
section
variable {X:Cx} {es':List Expr} {kt:Nat} {pt:Pos}
end
section
variable {X:Cx}
end
section
variable {prog:X7} {w:X_} {K:Type} [DecidableEq K] {knd:HeapKind prog w K} {A:X4} {E:X9->X8->Prop} {s:X8} {a b:X3} {xs ys:List (K×X3×X9)}
theorem yY{id:String}{f:K->Bool}{Q:Bool->X8->Prop}(hu:knd.room A)(la:(a == sysModules)=false)(lb:(b == sysModules)=false)(hA:s.heap.DictOfH knd a xs)(hB:s.heap.DictOfH knd b ys)
  (hf:∀x∈xs,∀y∈ys,x.1=y.1->∀Q:Bool->X8->Prop,Q (f x.1) s->Yk (model prog w) A (eqBool x.2.2 y.2.2) Q E s)
  (hQ:Q (decide (xs.length=ys.length)&&xs.all λx=>(atKey ys x.1).isSome&&f x.1) s):Yk (model prog w) A (K3 id a b) Q E s:=by
 obtain⟨oa,ea,VS,a1,a2,a3,a4,a5,a6⟩:=hA
 obtain⟨ob,eb,XH,b1,b2,b3,b4,b5,b6⟩:=hB
 have za:ea.size=xs.length:=size_of_entries a4
 have zb:eb.size=ys.length:=size_of_entries b4
 unfold K3 vx
 rw[if_neg (by rw[la];exact bV),if_neg (by rw[lb];exact bV)]
 refine Yl (Yq (Yl (Yq (Yl (Ym a1 a3 (Yl (Ym b1 b3 ?_)))))))
 by_cases hl:xs.length=ys.length
 ·rw[if_neg (by rw[za,zb,hl];simp)]
  rw[decide_eq_true hl,Cm] at hQ
  refine Yl (wpAny_dictEpoch a1 a3 (Yl ?_))
  rw[FP]
  simp only[Std.Legacy.Range.size,rQ,Nat.add_sub_cancel,Nat.div_one]
  generalize hg:(λx:K×X3×X9=>(atKey ys x.1).isSome&&f x.1)=g at hQ
  refine wpAny_forIn_list _ (λrest st s'=>s'=s/\st=(none,())/\∃i,rest=List.range' i (xs.length - i)/\i<=xs.length/\xs.all g=(xs.drop i).all g) _ ?_ ?_ _ _ ⟨rfl,rfl,0,by rw[za,rQ],bx _,rfl⟩
  ·rintro x rest st s' ⟨rfl,rfl,i,hr,hi,hall⟩
   have hlt:i < xs.length:=by
    rcases Nat.lt_or_ge i xs.length with h | h
    ·exact h
    ·rw[Fl h] at hr;simp at hr
   obtain⟨rfl,hrest⟩:x=i/\rest=List.range' (i+1) (xs.length - (i+1)):=by
    have e:xs.length - i=(xs.length - (i+1))+1:=by omega
    rw[e,List.range'_succ] at hr
    injection hr with h1 h2
    exact⟨h1,h2⟩
   rw[lV hlt,cg] at hall
   have hm:xs[x]∈xs:=List.getElem_mem hlt
   refine Yl (Ym a1 a3 ?_)
   rw[entry_at a4 x,cW hlt]
   refine Yl (Yn ?_)
   have next:xs.all g=(xs.drop (x+1)).all g->∀Q':ForInStep (Option Bool×Unit)->X8->Prop,Q' (.yield (none,())) s'->Yk (model prog w) A (do
     let GP <-dictEpoch a
     if(GP != VS)=true then do
       (unsupported (toString id++toString ":changed-during-callback"):Sem PUnit)
       pure (om (none,()))
      else pure (om (none,()))) Q' E s':=λ_ Q' q'=>by
    refine Yl (wpAny_dictEpoch a1 a3 ?_)
    rw[if_neg (by simp)]
    exact Yq q'
   refine Yl (wpAny_dictFind_heap (k:=xs[x].1) hu (a5 _ hm) b1 b3 b4 b5 b6 (λno=>Yq ?_) λj p hj=>?_)
   ·simp only[mj,if_true]
    have gf:g xs[x]=false:=by rw[<-hg];simp only[atKey_none_of_get no];rfl
    rw[gf,wk] at hall
    rw[hall] at hQ
    exact Yq (Yq hQ)
   ·refine Yl (Ym b1 b3 ?_)
    rw[entry_at b4 j,hj]
    refine Yn (hf _ hm _ (m6 hj) rfl _ ?_)
    have gf:g xs[x]=f xs[x].1:=by rw[<-hg];simp only[atKey_of_get b6 hj];rfl
    cases hv:f xs[x].1 with
    | false=>
     simp only[mj,if_true]
     rw[gf,hv,wk] at hall
     rw[hall] at hQ
     exact Yq (Yq hQ)
    | true=>
     simp only[kl,gN,if_false]
     rw[gf,hv,Cm] at hall
     exact next hall _ ⟨rfl,rfl,x+1,hrest,hlt,hall⟩
  ·rintro st s' ⟨rfl,rfl,i,hr,hi,hall⟩
   have h0:xs.length - i=0:=by
    have:=congrArg gU hr
    simpa using this.symm
   rw[BJ (by omega),List.all_nil] at hall
   rw[hall] at hQ
   exact Yq hQ
 ·rw[if_pos (by rw[za,zb];simpa using hl)]
  rw[decide_eq_false hl,wk] at hQ
  exact Yl (wpAny_rule (Yq hQ))
end
section
variable {prog:X7} {w:X_} {K:Type} [DecidableEq K] {knd:HeapKind prog w K} {A:X4} {E:X9->X8->Prop} {s:X8} {a b:X3} {xs ys:List (K×X3×X9)}
theorem FT{f:K->Bool}{Q:X9->X8->Prop}(hr:A.units < cLine)(hu:knd.room A.in1)(la:(a == sysModules)=false)(lb:(b == sysModules)=false)(hA:s.heap.DictOfH knd a xs)(hB:s.heap.DictOfH knd b ys)
  (hf:∀E:X9->X8->Prop,∀x∈xs,∀y∈ys,x.1=y.1->∀Q:Bool->X8->Prop,Q (f x.1) s->Yk (model prog w) A.in1 (eqBool x.2.2 y.2.2) Q E s)
  (hQ:Q (.bool (decide (xs.length=ys.length)&&xs.all λx=>(atKey ys x.1).isSome&&f x.1)) s):Yk (model prog w) A (Ye .Eq (.ref a) (.ref b)) Q E s:=by
 have tA:s.TypeIs (.ref a) "dict":=hA.typeIs
 have tB:s.TypeIs (.ref b) "dict":=hB.typeIs
 refine(show Yk (model prog w) A (richCompare .Eq (.ref a) (.ref b)) Q E s from wpAny_richCompare_same_room tA tB PySem.F.slot_dict_eq (wpAny_call_entry PySem.F.slot_dict_eq tA PySem.F.entry_dict_eq ?_ (PySem.F.args_dict_eq_2 _ _)) hr)
 refine(show Yk _ _ (K4 "__eq__" ⟨[.ref a,.ref b],[]⟩ >>= _) _ _ s from Yl ?_)
 unfold K4
 refine Yl (wpAny_notOrdered_dict tA (show Yk _ _ (pure (aB a,aB b)) _ _ s from Yq ?_))
 refine Yl (wpAny_isInstance tB isSubtype_dict_dict ?_)
 simp only[kl,gN,if_false]
 refine Yl (Yq (Yl (Yq (Yl (yY hu la lb hA hB (hf _) ?_)))))
 refine Yq ⟨_,rfl,(λz=>nomatch z),?_⟩
 rw[show ∀c:Bool,(c == true)=c from by decide]
 exact hQ
end
abbrev K5:=List (List L2.Key×Wv)
def oH(st:Hs)(kvs:K5):Bool:=kvs.all λkv=>(aA st 20 kv.2).isSome
def Hy(st:Hs)(k1 k2:K5)(k:List L2.Key):Bool:=match cJ k1 k,cJ k2 k with
 | some v,some w=>(match aA st 20 v,aA st 20 w with | some a,some b=>aF a b | _,_=>false)
 | _,_=>false
def mJ(st:Hs)(k1 k2:K5):Bool:=decide (k1.length=k2.length)&&(k1.map (·.1)).all λk=>(cJ k2 k).isSome&&Hy st k1 k2 k
theorem Cp{H:Hp}:∀{xs:List (List L2.Key×V)}{ys:List (List L2.Key×X3×X9)},KT H xs ys->xs.map (·.1)=ys.map (·.1)
 | _,_,.nil=>rfl
 | _,_,.cons h t=>by rw[av,av,Cp t,h.1]
theorem lx{κ:Type}[DecidableEq κ]{k:κ}{w:Wv}:∀{kvs:List (κ×Wv)},cJ kvs k=some w->(k,w)∈kvs
 | [],e=>by cases e
 | p::r,e=>by
  unfold cJ at e
  by_cases h:p.1=k
  ·rw[if_pos h] at e
   cases e
   rw[<-h]
   exact bF
  ·rw[if_neg h] at e
   exact aU _ (lx e)
section
variable {X:Cx}
theorem xt{m:Mp}{st:Hs}{H:Hp}{kvs:K5}{xs:List (List L2.Key×V)}{ys:List (List L2.Key×X3×X9)}{k:List L2.Key}{p:X3×X9}(r:RelK X.K m H kvs xs)(kt:KT H xs ys)(nd:(ys.map (·.1)).Nodup)(hd:oH st kvs=true)(h:(k,p)∈ys) :
  ∃w v d,cJ kvs k=some w/\ag X.K m H w v/\RelV v p.2/\aA st 20 w=some d:=by
 obtain⟨j,hj⟩:=List.mem_iff_getElem?.mp h
 have ak:=atKey_of_get nd hj
 have vl:=kt.val k
 rw[ak] at vl
 obtain⟨v,ev,rv⟩:=qv vl
 obtain⟨i1,i2⟩:=r.val k
 cases e:cJ kvs k with
 | none=>rw[i1 e] at ev;cases ev
 | some w=>
  obtain⟨u,j1,j2⟩:=i2 w e
  rw[ev] at j1
  cases j1
  obtain⟨d,e2⟩:=Option.isSome_iff_exists.mp (List.all_eq_true.mp hd _ (lx e))
  exact⟨w,v,d,rfl,j2,rv,e2⟩
theorem Cq{m:Mp}{st:Hs}{H:Hp}{k1 k2:K5}{l1 l2:List (List L2.Key×V)}{y1 y2:List (List L2.Key×X3×X9)}(r1:RelK X.K m H k1 l1)(r2:RelK X.K m H k2 l2)(t1:KT H l1 y1)(t2:KT H l2 y2) :
  (decide (y1.length=y2.length)&&y1.all λx=>(atKey y2 x.1).isSome&&Hy st k1 k2 x.1)=mJ st k1 k2:=by
 have e1:y1.length=k1.length:=by rw[<-Paired.length t1,r1.length]
 have e2:y2.length=k2.length:=by rw[<-Paired.length t2,r2.length]
 have ks:k1.map (·.1)=y1.map (·.1):=by rw[r1.1,Cp t1]
 have at2:∀k,(atKey y2 k).isSome=(cJ k2 k).isSome:=λk=>by
  have q:=(t2.val k).pV
  rw[Option.isSome_map] at q
  rw[<-q]
  obtain⟨i1,i2⟩:=r2.val k
  cases e:cJ k2 k with
  | none=>rw[i1 e];rfl
  | some w=>obtain⟨u,j1,_⟩:=i2 w e;rw[j1];rfl
 unfold mJ
 rw[e1,e2,ks,BF]
 congr 1
 refine List.all_congr rfl λx=>?_
 show((atKey y2 x.1).isSome&&Hy st k1 k2 x.1)=((cJ k2 x.1).isSome&&Hy st k1 k2 x.1)
 rw[at2]
end
section
variable {X:Cx}
end
section
variable {prog:X7} {w:X_} {K:Type} [DecidableEq K] {knd:HeapKind prog w K} {A:X4} {E:X9->X8->Prop} {s:X8} {d:X3} {xs:List (K×X3×X9)}
end
section
variable {X:Cx}
def oI(tb:Tab)(tt:pB):List Wv->Hs->Re Wv
 | [.ref l,.ty T],st=>if T="dict"/\(eT st[l]?).isSome=true then .ok (.bl true) st else dZ tb tt [.ref l,.ty T] st
 | ws,st=>dZ tb tt ws st
theorem Cr:cR X (.builtin "isinstance") (λvs H Q=>∃a kvs,vs=[.ref a,.ty "dict"]/\Rd H a (.dT kvs)/\Q (.bl true) H):=by
 intro pins s σ H xs us Q I r h
 obtain⟨a,kvs,rfl,e,q⟩:=h
 obtain⟨u,u',rfl,r1,r2⟩:=vals2 r
 cases r1
 cases r2
 obtain⟨t1,_,_⟩:=qY I (.inr ⟨kvs,e⟩)
 exact call_isinstance_yes (Tx:="dict") t1 (by kernel_rfl) (by rw[Yg];kernel_rfl) ⟨.bl true,H,I,rfl,q⟩
theorem K6{tb:Tab}{tt:pB}{tc:Tab}(O:TabOk X.K tb tt tc):cX X (.builtin "isinstance") (oI tb tt):=by
 obtain⟨r0,c0,k0⟩:=Br (X:=X) O
 refine⟨_,Cr.or c0,λws vs st H m Q S r p=>?_⟩
 have old:cq X.K m H (dZ tb tt ws st) Q->r0 vs H Q:=λp=>k0 ws vs st H m Q S r p
 unfold oI at p
 split at p
 ·rename_i l T
  by_cases c:T="dict"/\(eT st[l]?).isSome=true
  ·rw[if_pos c] at p
   obtain⟨rfl,c2⟩:=c
   obtain⟨kvs,e⟩:=Option.isSome_iff_exists.mp c2
   obtain⟨v,v',rfl,r1,r2⟩:=pA r
   unfold ag at r1 r2
   obtain⟨a,rfl,ha⟩:=r1
   subst r2
   obtain⟨xs,h1,_⟩:=fK (X:=X) S ha e
   exact .inl ⟨a,xs,rfl,h1,p _ m H Ext.refl S (by unfold ag;rfl)⟩
  ·rw[if_neg c] at p
   exact .inr (old p)
 ·exact .inr (old p)
end
def mq(gd gk:GE):GE:=λρ st=>(gd ρ st).bind λd st1=>match d with
 | .ref l=>if(eT st1[l]?).isSome=true then(gk ρ st1).bind λk st2=>(match mR k,eT st2[l]? with
  | some kk,some kvs=> .ok ((cJ kvs kk).getD .aR) st2
  | _,_=> .bad) else .bad
 | _=> .bad
section
variable {X:Cx}
theorem Cs{o e:Expr}{gd gk:GE}{apos cpos:Pos}(hu:X.A.units+1 < cLine)(ho:JE X o gd)(he:JE X e gk)(M:M1 X o "get" apos e cpos):JE X (.Call (.Attribute o "get" apos) [e] [] cpos) (mq gd gk) :=
 JE.of (AF hu aJ aJ M) λρ st σ H m Q S R p=>by
  refine ho.go S R (au.bind p) λd st1 v m1 H1 p1 e1 S1 r1=>?_
  cases d with
  | ref l=>
   dsimp only at p1
   by_cases hd:(eT st1[l]?).isSome=true
   ·rw[if_pos hd] at p1
    unfold ag at r1
    obtain⟨a,rfl,ha⟩:=r1
    obtain⟨XI,hk1⟩:=Option.isSome_iff_exists.mp hd
    obtain⟨VT,VU,_⟩:=fK S1 ha hk1
    refine⟨a,rfl,.inr ⟨VT,VU⟩,?_⟩
    refine he.go S1 (R.mono e1) ((au.bind p1).imp e1 λ_ _ q=>q) λk st2 y m2 H2 p2 e2 S2 r2=>?_
    cases q1:mR k with
    | none=>rw[q1] at p2;exact aa p2
    | some kk=>
     cases q2:eT st2[l]? with
     | none=>rw[q1,q2] at p2;exact aa p2
     | some kvs=>
      rw[q1,q2] at p2
      have ha2:m2[l]? =some a:=e2.pre _ _ ha
      obtain⟨xs,y1,y2⟩:=fK S2 ha2 q2
      obtain⟨b,rfl,hb⟩:=oE r2 q1
      dsimp only at p2
      refine⟨_,.inr ⟨xs,kk,b,y1,rfl,hb,rfl⟩,?_⟩
      obtain⟨i1,i2⟩:=y2.val kk
      cases q3:cJ kvs kk with
      | none=>
       rw[i1 q3]
       rw[q3] at p2
       exact p2 .aR m2 H2 (e1.trans e2) S2 (by unfold ag;rfl)
      | some w=>
       obtain⟨u,j1,j2⟩:=i2 w q3
       rw[j1]
       rw[q3] at p2
       exact p2 u m2 H2 (e1.trans e2) S2 j2
   ·rw[if_neg hd] at p1;exact aa p1
  | _=>exact aa p1
end
def N9(K:PySem.W.Frag)(l1 l2:X3):It :=
 ⟨λi H=>∃xs ys x y,iu K H l1 xs/\iu K H l2 ys/\xs[i]? =some x/\ys[i]? =some y,
  λi H v H'=>∃p,v= .ref p/\H p=none/\∀xs ys,iu K H l1 xs->iu K H l2 ys->∃x y,xs[i]? =some x/\ys[i]? =some y/\H'=upd H p (.tup [x,y]),
  λi H=>∃xs ys,iu K H l1 xs/\iu K H l2 ys/\(xs.length<=i\/ys.length<=i)⟩
def K7(z T O j1 j2 l1 l2:X3)(i:Nat)(h:Heap):Prop:=IsZip h z T O .none/\IsPair h T (.ref j1) (.ref j2)/\(∃a b,IsPair h O a b)/\h.IsListIter j1 l1 i/\h.IsListIter j2 l2 i
theorem yZ{P:X7}{w:X_}{K:PySem.W.Frag}{es:List Expr}{kt:Nat}{pt:Pos}{z T O j1 j2 l1 l2:X3}(D:ZipApart z T O j1 j2 l1 l2):Turn P w K (.Tuple es kt pt) (N9 K l1 l2) [z,T,O,j1,j2] z (K7 z T O j1 j2 l1 l2) where
 mem:=by simp
 obj:=λi h st b hb=>by
  obtain⟨a1,a2,⟨a,b',a3⟩,⟨o1,q1,_,d1⟩,⟨o2,q2,_,d2⟩⟩:=st
  simp only[bp,bz,or_false] at hb
  rcases hb with rfl | rfl | rfl | rfl | rfl
  ·exact⟨_,a1,λv z=>by cases z⟩
  ·exact⟨_,a2,λv z=>by cases z⟩
  ·exact⟨_,a3,λv z=>by cases z⟩
  ·exact⟨o1,q1,λv z=>by rw[d1] at z;cases z⟩
  ·exact⟨o2,q2,λv z=>by rw[d2] at z;cases z⟩
 keep:=λi h h' st k=>by
  obtain⟨a1,a2,⟨a,b,a3⟩,⟨o1,q1,r1⟩,⟨o2,q2,r2⟩⟩:=st
  exact⟨k z (by simp) _ a1,k T (by simp) _ a2,⟨a,b,k O (by simp) _ a3⟩,⟨o1,k j1 (by simp) _ q1,r1⟩,⟨o2,k j2 (by simp) _ q2,r2⟩⟩
 item:=by
  intro X hP hw hK hc i pins s σ H E I hf st hg
  subst hP hw hK
  obtain⟨xs,ys,x,y,H1,H2,x1,x2⟩:=hg
  obtain⟨i1,r1,p1,_⟩:=I.list H1
  obtain⟨i2,r2,p2,_⟩:=I.list H2
  obtain⟨u1,e1,m1⟩:=r1.get x1
  obtain⟨u2,e2,m2⟩:=r2.get x2
  obtain⟨a1,a2,⟨a,b,a3⟩,a4,a5⟩:=st
  refine wpAny_pyNext_zip_item D a1 a2 a3 a4 a5 p1.isList p2.isList (x:=u1) (y:=u2) (by simpa using e1) (by simpa using e2) λg b1 b2 b3 b4 b6 b7 b8=>?_
  refine⟨.ref s.heap.objs.size,rfl,?_⟩
  refine wpAny_letOwnedTupleGo_zip b1 λh2 c1 sb=>?_
  have hfr:H s.heap.objs.size=none:=I.hok.fresh (ao _)
  have lt:∀b o,s.heap.get? b=some o->b≠s.heap.objs.size:=λb o q=>aP (aC q)
  have Hv:z≠s.heap.objs.size:=lt _ _ a1
  have kp:∀b o,b∉[z,O,j1,j2]->s.heap.get? b=some o->h2.get? b=some o:=λb o hb q=>by
   simp only[bp,bz,or_false,not_or] at hb
   exact sb.extBut _ _ hb.1 (b8 b o hb.1 hb.2.1 hb.2.2.1 hb.2.2.2 q)
  have sub:∀b,b∈[z,O,j1,j2]->b∈[z,T,O,j1,j2]:=λb h=>(List.mem_cons.mp h).elim (λe=>e ▸ bF) λh=>aU _ (aU _ h)
  have B8:∀b u,H b=some u->b∉[z,O,j1,j2]:=λb u q hb=>by
   have n:=(hf b (sub b hb)).1
   rw[q] at n;cases n
  have kj:∀b,b∉[z,T,O,j1,j2]->b∉[z,O,j1,j2]:=λb h hb=>h (sub b hb)
  have kt:∀b u,H b=some u->b≠s.heap.objs.size:=λb u q=>bh q hfr
  have Tn:h2.get? s.heap.objs.size=some { cls:=.type "tuple",data:=.seq #[u1,u2] }:=sb.extBut _ _ (az Hv) b6
  have Rj:∀b∈[z,T,O,j1,j2],b≠s.heap.objs.size:=λb hb=>by
   simp only[bp,bz,or_false] at hb
   rcases hb with rfl | rfl | rfl | rfl | rfl
   ·exact Hv
   ·exact lt _ _ a2
   ·exact lt _ _ a3
   ·obtain⟨o,q,_⟩:=a4;exact lt _ _ q
   ·obtain⟨o,q,_⟩:=a5;exact lt _ _ q
  have at':∀{j t:X3}{n:Nat},j≠z->g.IsListIter j t n->h2.IsListIter j t n:=λn ⟨o,q,r⟩=>⟨o,sb.extBut _ _ n q,r⟩
  refine⟨.ref s.heap.objs.size,upd H s.heap.objs.size (.tup [x,y]),?_,rfl,⟨s.heap.objs.size,rfl,hfr,λxs' ys' hx' hy'=>⟨x,y,by rw[I.nM hx' H1];exact x1,by rw[I.nM hy' H2];exact x2,rfl⟩⟩,⟨c1,?_,⟨u1,u2,sb.extBut _ _ D.TOz b2⟩,at' D.i1z b3,at' D.i2z b4⟩,λb hb=>?_⟩
  ·refine I.pL (s':={ s with heap:=h2 }) (ch:=[z,T,O,j1,j2]) rfl ?_ ?_ I.bare (λb hb=>⟨(hf b hb).2.2.2.1,(hf b hb).2.1,(hf b hb).2.2.2.2.1,(hf b hb).2.2.2.2.2⟩)
   ·refine⟨λb o q _ _ hx=>kp b o (kj b hx) q,λb o q _ _ hx=>⟨o.slots,kp b o (kj b hx) q⟩,λb o q n _=>by rw[aw (lt b o q)];exact n,λb o q hx=>⟨o,kp b o (kj b hx) q⟩,λb ys q=>by rw[aw (kt b _ q)];exact q,λb o y q=>by rw[aw (kt b _ q)];exact q,λb ps q=>⟨#[],by rw[aw (kt b _ q),q];simp⟩⟩
   ·intro b o q
    by_cases hb:b=s.heap.objs.size
    ·subst hb
     rw[aM] at q
     cases q
     exact⟨by show 2<=Yi;decide,[u1,u2],.cons m1 (.cons m2 .nil),⟨_,Tn,rfl,0,rfl⟩,λo q=>by rw[Tn] at q;cases q;rfl⟩
    ·rw[aw hb] at q
     refine(I.hok b o q).stay (λc v hc g=>?_) (λc g=>by rw[aw (kt c _ g)];exact g) λc ys g=>by rw[aw (kt c _ g)];exact g
     rcases hc with e | e
     ·subst e;exact kp _ _ (B8 _ _ q) g
     ·exact kp _ _ (B8 _ _ e) g
  ·refine kp T _ ?_ a2
   simp only[bp,bz,or_false,not_or]
   exact⟨D.TIz,D.TITO,D.TIi1,D.TIi2⟩
  ·rw[aw (Rj b hb)];exact(hf b hb).1
 done:=by
  intro X hP hw hK hc i pins s σ H E I hf st hg
  subst hP hw hK
  obtain⟨xs,ys,H1,H2,hl⟩:=hg
  obtain⟨i1,r1,p1,_⟩:=I.list H1
  obtain⟨i2,r2,p2,_⟩:=I.list H2
  obtain⟨a1,a2,⟨a,b,a3⟩,a4,a5⟩:=st
  have q1:=r1.length
  have q2:=r2.length
  have sub:∀b,b∈[z,O,j1,j2]->b∈[z,T,O,j1,j2]:=λb h=>(List.mem_cons.mp h).elim (λe=>e ▸ bF) λh=>aU _ (aU _ h)
  have B8:∀b u,H b=some u->b∉[z,O,j1,j2]:=λb u q hb=>by
   have n:=(hf b (sub b hb)).1
   rw[q] at n;cases n
  have kj:∀b,b∉[z,T,O,j1,j2]->b∉[z,O,j1,j2]:=λb h hb=>h (sub b hb)
  refine wpAny_pyNext_zip_end (I.ok.hd hc) D a1 a2 a3 a4 a5 p1.isList p2.isList (by
   rcases hl with hl | hl
   ·exact .inl (by simp;omega)
   ·exact .inr (by simp;omega)) λg k8=>⟨rfl,?_⟩
  have kp:∀b o,b∉[z,O,j1,j2]->s.heap.get? b=some o->g.get? b=some o:=λb o hb q=>by
   simp only[bp,bz,or_false,not_or] at hb
   exact k8 b o hb.1 hb.2.1 hb.2.2.1 hb.2.2.2 q
  refine I.pL (s':={ s with heap:=g }) (ch:=[z,T,O,j1,j2]) rfl ?_ ?_ I.bare (λb hb=>⟨(hf b hb).2.2.2.1,(hf b hb).2.1,(hf b hb).2.2.2.2.1,(hf b hb).2.2.2.2.2⟩)
  ·exact⟨λb o q _ _ hx=>kp b o (kj b hx) q,λb o q _ _ hx=>⟨o.slots,kp b o (kj b hx) q⟩,λb o q n _=>n,λb o q hx=>⟨o,kp b o (kj b hx) q⟩,λb ys q=>q,λb o y q=>q,λb ps q=>⟨#[],by rw[q];simp⟩⟩
  ·intro b o q
   refine(I.hok b o q).stay (λc v hc g=>?_) (λc g=>g) λc ys g=>g
   rcases hc with e | e
   ·subst e;exact kp _ _ (B8 _ _ q) g
   ·exact kp _ _ (B8 _ _ e) g
 self:=λ_ _ _ _ _ st h=>wpAny_pyIter_zip st.1 h
theorem Cu{I l1 l2:Nat}(h1:l1 < I)(h2:l2 < I):ZipApart (I+4) (I+2) (I+3) I (I+1) l1 l2:=by
 constructor<;>first | exact aP (by omega) | exact mZ (by omega)
section
variable {X:Cx}
def N_(K:PySem.W.Frag)(ta:TA):TI:=λσ H R=>ta σ H λvs H1=>∃a b,vs=[.ref a,.ref b]/\(∃xs,H1 a=some (.lst xs))/\(∃ys,H1 b=some (.lst ys))/\R (N9 K a b) H1
theorem FU{es:List Expr}{kt:Nat}{pt p q:Pos}{l:Expr}{ls:List Expr}{ta:TA}(hg:Gl X "zip")(hm:X.mg "zip"=none)(ha:PA X (l::ls) ta)(hst:Yj (l::ls) X.env=(false,eval l X.env)::Yj ls X.env)(hpl:(backTo q (Yj ls X.env)).any (·.1)=false) :
  PI X (.Tuple es kt pt) (.Call (.Name "zip" p) (l::ls) [] q) (N_ X.K ta):=by
 intro pins s σ H R I h
 refine wpAny_Call_Name_kw (f_ I hg hm boot_zip ?_)
 refine jz (aY (ha q pins s σ H _ I h) λus s1 ⟨vs,H1,I1,r1,q1⟩=>?_) hst hpl
 obtain⟨l1,l2,e,⟨xs,h1⟩,⟨ys,h2⟩,k⟩:=q1
 subst e
 cases r1 with
 | cons r rr=>
  cases rr with
  | cons r' rr=>
   cases rr
   cases r
   cases r'
   obtain⟨_,i1,n1,_,p1⟩:=I1.hok l1 _ h1
   obtain⟨_,i2,n2,_,p2⟩:=I1.hok l2 _ h2
   have Oa:l1 < s1.heap.objs.size:=aC p1
   have QY:l2 < s1.heap.objs.size:=aC p2
   refine call_zip_2 (xs:=i1.toArray) (ys:=i2.toArray) ⟨_,p1,rfl,_,rfl⟩ ⟨_,p2,rfl,_,rfl⟩ λg b1 b2 b3 b4 b5 b6 kp=>wpAny_pyIter_zip b1 ?_
   have D:ZipApart (s1.heap.objs.size+4) (s1.heap.objs.size+2) (s1.heap.objs.size+3) s1.heap.objs.size (s1.heap.objs.size+1) l1 l2:=by
    exact Cu Oa QY
   have tz:=yZ (P:=X.prog) (w:=X.w) (K:=X.K) (es:=es) (kt:=kt) (pt:=pt) D
   refine⟨s1.heap.objs.size+4,_,_,_,H1,rfl,I1.kept (t':=s1.toks) kp,tz,⟨b1,b2,⟨_,_,b3⟩,b4,b5⟩,λb hb=>?_,k⟩
   have ge:s1.heap.objs.size<=b:=by
    simp only[bp,bz,or_false] at hb
    rcases hb with rfl | rfl | rfl | rfl | rfl<;>omega
   exact I1.sO (pins:=pins) (H':=H1) (b:=b) ge (I1.hok.fresh ge)
def gP(as bs:List Wv):List Wv:=List.zipWith (λa b=> .tup [a,b]) as bs
def K8(i:Nat)(as:List Wv)(j:Nat)(bs:List Wv)(st:Hs):Prop:=ai st i=some as/\ai st j=some bs
open Classical in
def vI(is:List Nat)(gb:GS)(ck:Hs->Prop):List Wv->bw->Hs->Rs
 | [],ρ,st=> .nx ρ st
 | w::r,ρ,st=>match Hl is w ρ with
  | none=> .bad
  | some ρ1=>match gb ρ1 st with
   | .nx ρ' st'=>if ck st' then vI is gb ck r ρ' st' else .bad
   | .ct ρ' st'=>if ck st' then vI is gb ck r ρ' st' else .bad
   | .bk ρ' st'=> .nx ρ' st'
   | .rt w st'=> .rt w st'
   | .err c ρ' st'=> .err c ρ' st'
   | .bad=> .bad
def FV(is:List Nat)(gb:GS)(ρ:bw)(ws:List Wv)(st:Hs):Rs:=match ws with
 | [.ref i,.ref j]=>(match st[i]?,st[j]? with
  | some (.lst as),some (.lst bs)=>vI is gb (K8 i as j bs) (gP as bs) ρ st
  | _,_=> .bad)
 | _=> .bad
def t_(is:List Nat)(ga:GA)(gb:GS):GS:=λρ st=>(ga ρ st).aY ρ λws st1=>FV is gb ρ ws st1
theorem FW{es:List Expr}{is:List Nat}{k:Nat}{p q:Pos}{l:Expr}{ls:List Expr}{ga:GA}{body:List Stmt}{gb:GS}{pos pos':Pos}(hN:X.N.Nodup)(hp:PassesOwn (model X.prog X.w) X.A X.env X.xe)(hc:X.calm=true)(sl:Slots X es is)
  (hg:Gl X "zip")(hm:X.mg "zip"=none)(ha:JA X (l::ls) ga)(hst:Yj (l::ls) X.env=(false,eval l X.env)::Yj ls X.env)(hpl:(backTo q (Yj ls X.env)).any (·.1)=false)(hb:j8 X body gb)
  (hs:∀x,Yf (.Call (.Name "zip" p) (l::ls) [] q) X.env x=pure x):JS X (.For (.Tuple es k pos') (.Call (.Name "zip" p) (l::ls) [] q) body [] pos) (t_ is ga gb):=by
 refine JS.of (jX hp hc (FU hg hm fo hst hpl) (qI hc (gL hN sl) (iX sl) (gM sl)) dE hs) λρ st σ H m D S R p=>?_
 refine ha.go S R (aD.bW R p) λwz st1 vs m1 H1 p1 e1 S1 rs=>?_
 unfold FV at p1
 split at p1
 case h_2=>exact aa p1
 rename_i i j
 split at p1
 case h_2=>exact aa p1
 rename_i as bs Ua Ub
 have la:ai st1 i=some as:=by unfold ai;rw[Ua]
 have lb:ai st1 j=some bs:=by unfold ai;rw[Ub]
 obtain⟨v1,v2,rfl,r1,r2⟩:=pA rs
 unfold ag at r1 r2
 obtain⟨a,rfl,hi⟩:=r1
 obtain⟨b,rfl,hj⟩:=r2
 obtain⟨_,f1,_⟩:=S1.kT hi Ua
 obtain⟨_,f2,_⟩:=S1.kT hj Ub
 refine⟨a,b,rfl,⟨_,f1⟩,⟨_,f2⟩,?_⟩
 have len:(gP as bs).length=min as.length bs.length:=by unfold gP;simp
 let ws:=gP as bs
 have get:∀k (hk:k < ws.length),∃x y,as[k]? =some x/\bs[k]? =some y/\ws[k]= .tup [x,y]:=λk hk=>by
  have hk':k < min as.length bs.length:=by rw[<-len];exact hk
  refine⟨as[k]'(by omega),bs[k]'(by omega),by simp,by simp,?_⟩
  exact List.getElem_zipWith
 let Pv:Nat->St->Hp->Prop:=λk σ H=>∃ρ st m',Ext X.K m1 H1 m' H/\bg X.K m' st H/\ay X.K m' H ρ σ/\K8 i as j bs st/\aD X m' H (vI is gb (K8 i as j bs) (ws.drop k) ρ st) D
 refine⟨λk n σ H=>n=ws.length - k/\k<=ws.length/\Pv k σ H,⟨ws.length,by simp,bx _,ρ,st1,m1,Ext.refl,S1,R.mono e1,⟨la,lb⟩,aD.shift p1 e1⟩,?_⟩
 rintro k n σ2 H2 ⟨rfl,hk,ρ2,st2,m2,e2,S2,R2,c2,p2⟩
 obtain⟨xs,hq1,Pz⟩:=S2.read (e2.pre _ _ hi) c2.1
 obtain⟨ys,hq2,Mj⟩:=S2.read (e2.pre _ _ hj) c2.2
 by_cases hlt:k < ws.length
 ·obtain⟨x,y,gx,gy,gw⟩:=get k hlt
  obtain⟨x',Uc,rx⟩:=Pz.get gx
  obtain⟨y',Ud,ry⟩:=Mj.get gy
  refine .inr ⟨⟨xs,ys,x',y',hq1,hq2,Uc,Ud⟩,Pv (k+1),λσ' H' p'=>⟨ws.length - (k+1),by omega,rfl,hlt,p'⟩,λv H' yy=>?_⟩
  obtain⟨p',rfl,fr,yy⟩:=yy
  obtain⟨x'',XJ,Oc,Od,rfl⟩:=yy xs ys hq1 hq2
  rw[Uc] at Oc
  rw[Ud] at Od
  cases Oc
  cases Od
  have eY:Ext X.K m2 H2 m2 (upd H2 p' (.tup [x',y'])):=Ext.g_ (.inl fr)
  have Rb:=S2.fresh (o:=.tup [x',y']) fr
  have ed:ws.drop k=ws[k]::ws.drop (k+1):=lV hlt
  rw[ed,gw] at p2
  unfold vI at p2
  replace p2:=aD.shift p2 eY
  have Rc:=R2.mono eY
  have DX:=e2.trans eY
  dsimp only[Hl] at p2
  cases e5:rC is [x,y] ρ2 with
  | none=>rw[e5] at p2;exact aa p2
  | some ρ5=>
   rw[e5] at p2
   dsimp only at p2
   have f2:ah X.K m2 (upd H2 p' (.tup [x',y'])) [x,y] [x',y']:=ah.cons (ag.mono eY _ _ rx) (ah.cons (ag.mono eY _ _ ry) ah.nil)
   refine⟨p',[x',y'],rfl,cU.of aM,by rw[<-f2.length];exact iW e5,iV f2 Rc e5 λσ5 R5=>?_⟩
   refine hb _ st2 _ _ m2 _ Rb R5 ?_
   cases eg:gb ρ5 st2 with
   | nx ρ3 st3=>
    rw[eg] at p2
    by_cases c:K8 i as j bs st3
    ·simp only[if_pos c] at p2
     exact λσ3 m3 H3 e3 S3 R3=>⟨ρ3,st3,m3,DX.trans e3,S3,R3,c,aD.shift p2 e3⟩
    ·simp only[if_neg c] at p2;exact aa p2
   | ct ρ3 st3=>
    rw[eg] at p2
    by_cases c:K8 i as j bs st3
    ·simp only[if_pos c] at p2
     exact λσ3 m3 H3 e3 S3 R3=>⟨ρ3,st3,m3,DX.trans e3,S3,R3,c,aD.shift p2 e3⟩
    ·simp only[if_neg c] at p2;exact aa p2
   | bk ρ3 st3=>rw[eg] at p2;exact p2
   | rt w3 st3=>rw[eg] at p2;exact p2
   | err c3 ρ3 st3=>rw[eg] at p2;exact p2
   | bad=>rw[eg] at p2;exact p2
 ·have e:k=ws.length:=by omega
  subst e
  rw[og] at p2
  refine .inl ⟨⟨xs,ys,hq1,hq2,?_⟩,p2 σ2 m2 H2 Ext.refl S2 R2⟩
  have z1:=Pz.length
  have z2:=Mj.length
  have z3:ws.length=min as.length bs.length:=len
  omega
end
section
variable {X:Cx}
end
section
variable {prog:X7} {w:X_} {K:Type} [DecidableEq K] {knd:HeapKind prog w K} {A:X4} {E:X9->X8->Prop} {s:X8} {d a:X3} {k:K} {xs:List (K×X3×X9)}
end
section
variable {X:Cx} {o e:Expr} {apos cpos:Pos} {td ty:TE}
end
section
variable {X:Cx} {o e f:Expr} {apos cpos:Pos} {to te tf:TE}
end
section
variable {X:Cx}
abbrev kP(p:Int×Int):List L2.Key:=[eh p.1,eh p.2]
end
section
variable {prog:X7} {w:X_} {A:X4} {E:X9->X8->Prop} {s:X8}
theorem rR{a b:X3}{r:Bool}{Q:Bool->X8->Prop}(n:a≠b)(h:∀Q':X9->X8->Prop,Q' (.bool r) s->Yk (model prog w) A (Ye .Eq (.ref a) (.ref b)) Q' E s)(hQ:Q r s):Yk (model prog w) A (eqBool (.ref a) (.ref b)) Q E s:=by
 unfold eqBool
 refine Yn ?_
 show Yk _ _ (if(aB a == aB b)=true then _ else _) Q E s
 rw[if_neg (by simpa using n)]
 exact Yl (h _ (Yr hQ))
theorem FX{a b:X3}{x1 x2 y1 y2:X9}{e1 e2:Bool}{Q:X9->X8->Prop}(hr:A.units < cLine)(ha:s.heap.IsTuple a #[x1,x2])(hb:s.heap.IsTuple b #[y1,y2])
  (h1:∀(E:X9->X8->Prop)(Q:Bool->X8->Prop),Q e1 s->Yk (model prog w) A.in1 (eqBool x1 y1) Q E s)(h2:∀(E:X9->X8->Prop)(Q:Bool->X8->Prop),Q e2 s->Yk (model prog w) A.in1 (eqBool x2 y2) Q E s)
  (hQ:Q (.bool (!(e1&&e2))) s):Yk (model prog w) A (Ye .NotEq (.ref a) (.ref b)) Q E s:=by
 have tA:=ha.typeIs
 have tB:=hb.typeIs
 obtain⟨oa,ga,_,na,da⟩:=ha
 obtain⟨ob,gb,_,nb,db⟩:=hb
 refine(show Yk (model prog w) A (richCompare .NotEq (.ref a) (.ref b)) Q E s from wpAny_richCompare_same_room tA tB PySem.F.slot_tuple_ne (wpAny_call_entry PySem.F.slot_tuple_ne tA PySem.F.entry_tuple_ne ?_ (PySem.F.args_tuple_ne_2 _ _)) hr)
 refine(show Yk _ _ (isInstance (.ref b) (.type "tuple") >>= _) _ _ s from Yl (wpAny_isInstance tB isSubtype_tuple_tuple ?_))
 simp only[kl,gN,if_false]
 refine Yl (wpAny_tupleItemsOf ga da (Yl (wpAny_tupleItemsOf gb db (Yl ?_))))
 simp only[List.zip_cons_cons,List.zip_nil_right,rD,vC]
 have fin:∀b:Bool,Q (.bool b) s->Yk (model prog w) A.in1 (ret (gR b)) (λfin s'=>∃v,fin=Fin.done (Flow.ret v)/\v≠Value.notImplemented/\Q v s') E s:=λb q=>Yq ⟨_,rfl,(λz=>nomatch z),q⟩
 refine Yl (Yl (h1 _ _ ?_))
 cases e1 with
 | false=>
  simp only[mj,if_true]
  exact Yl (Yq (Yq (Yq (Yq ⟨_,rfl,(λz=>nomatch z),hQ⟩))))
 | true=>
  simp only[kl,gN,if_false]
  refine Yq (Yl (Yl (h2 _ _ ?_)))
  cases e2 with
  | false=>
   simp only[mj,if_true]
   exact Yl (Yq (Yq (Yq (Yq ⟨_,rfl,(λz=>nomatch z),hQ⟩))))
  | true=>
   simp only[kl,gN,if_false]
   exact Yq (Yq (fin false hQ))
end
section
variable {X:Cx}
def Oe(K:PySem.W.Frag):R2:=λa b H Q=>∃(m:Mp)(st:Hs)(pa pb p q:X3)(x2 y2:V)(k1 k2:K5)(l1 l2:List (List L2.Key×V))(w w':Wv)(d1 d2:PyData),bg K m st H/\a= .ref pa/\b= .ref pb/\cU K H pa [.ref p,x2]/\cU K H pb [.ref q,y2]/\p≠q/\Rd H p (.dT l1)/\Rd H q (.dT l2)/\RelK K m H k1 l1/\RelK K m H k2 l2/\oH st k1=true/\oH st k2=true/\ag K m H w x2/\ag K m H w' y2/\aA st 20 w=some d1/\aA st 20 w'=some d2/\Q (.bl (!(mJ st k1 k2&&aF d1 d2))) H
theorem FY(hu:X.A.units+64 < cLine):dU X (Ye .NotEq) (Oe X.K):=by
 intro pins s σ H a b v u Q I rx ry h
 obtain⟨m,st,pa,pb,p,q,x2,y2,k1,k2,l1,l2,w,w',dw,FZ,S,rfl,rfl,t1,t2,ne,d1,d2,r1,r2,h1,h2,Pz,Mj,e1,e2,hq⟩:=h
 cases rx
 cases ry
 obtain⟨VV,v1,ta,_⟩:=I.tuple t1
 obtain⟨VW,v2,tb,_⟩:=I.tuple t2
 obtain⟨u2,rfl,VX⟩:∃u,VV=[aB p,u]/\RelV x2 u:=by
  cases v1 with
  | cons a b=>
   cases a
   cases b with
   | cons c d=>cases d;exact⟨_,rfl,c⟩
 obtain⟨XM,rfl,VY⟩:∃u,VW=[aB q,u]/\RelV y2 u:=by
  cases v2 with
  | cons a b=>
   cases a
   cases b with
   | cons c d=>cases d;exact⟨_,rfl,c⟩
 obtain⟨z1,lo1,y1,Ue,D1⟩:=pX I.hok d1
 obtain⟨z2,lo2,Ug,Uh,D2⟩:=pX I.hok d2
 have n1:(y1.map (·.1)).Nodup:=let ⟨_,_,_,_,_,_,_,_,n⟩:=D1;n
 have n2:(Ug.map (·.1)).Nodup:=let ⟨_,_,_,_,_,_,_,_,n⟩:=D2;n
 have un:X.A.in1.units=X.A.units+1:=rfl
 have XN:X.A.in1.in1.units=X.A.units+2:=rfl
 have hf:∀E:X9->X8->Prop,∀x∈y1,∀y∈Ug,x.1=y.1->∀Q:Bool->X8->Prop,Q (Hy st k1 k2 x.1) s->Yk (model X.prog X.w) X.A.in1.in1 (eqBool x.2.2 y.2.2) Q E s:=λE x hx y hy e Q' q'=>by
  obtain⟨w,v,dw,a1,a2,a3,a4⟩:=xt (k:=x.1) (p:=x.2) (st:=st) r1 Ue n1 h1 hx
  obtain⟨w',v',FZ,b1,b2,b3,b4⟩:=xt (k:=y.1) (p:=y.2) (st:=st) r2 Uh n2 h2 hy
  rw[<-e] at b1
  obtain⟨as,q1,q2,q3⟩:=bY I S 20 w v _ dw a2 a3 a4
  obtain⟨bs,p1,p2,p3⟩:=bY I S 20 w' v' _ FZ b2 b3 b4
  have ee:Hy st k1 k2 x.1=aF dw FZ:=by unfold Hy;rw[a1,b1];dsimp only;rw[a4,b4]
  rw[ee] at q'
  have:min dw.depth FZ.depth<=dw.depth:=Nat.min_le_left _ _
  exact F0 X.prog X.w X.A.in1.in1 E s _ _ dw FZ as bs Q' q1 p1 q2 p2 (by omega) q'
 refine FX (e1:=mJ st k1 k2) (e2:=aF dw FZ) (by omega) ta tb (λE Q' q'=>rR ne (λQ2 q2=>FT (by omega) (tupleKind_room_in1 (by omega)) lo1 lo2 D1 D2 hf (by rw[Cq r1 r2 Ue Uh];exact q2)) q') (λE Q' q'=>?_) ⟨.bl _,H,I,rfl,hq⟩
 obtain⟨as,q1,q2,q3⟩:=bY I S 20 w x2 _ dw Pz VX e1
 obtain⟨bs,p1,p2,p3⟩:=bY I S 20 w' y2 _ FZ Mj VY e2
 have:min dw.depth FZ.depth<=dw.depth:=Nat.min_le_left _ _
 exact F0 X.prog X.w X.A.in1 E s _ _ dw FZ as bs Q' q1 p1 q2 p2 (by omega) q'
def y6:ff:=λx y st=>match x,y with
 | .tup [.ref l,w],.tup [.ref l',w']=>(match eT st[l]?,eT st[l']? with
  | some k1,some k2=>if l≠l'/\oH st k1=true/\oH st k2=true then(match aA st 20 w,aA st 20 w' with | some d1,some d2=> .ok (.bl (!(mJ st k1 k2&&aF d1 d2))) st | _,_=> .bad) else .bad
  | _,_=> .bad)
 | _,_=>rp x y st
theorem xu{o:Option Ob}{k:K5}(h:eT o=some k):∃x,o=some x/\x.mu=true:=by
 cases o with
 | none=>cases h
 | some x=>cases x<;>first | exact⟨_,rfl,rfl⟩ | cases h
theorem K9(hu:X.A.units+64 < cLine):iP X (Ye .NotEq) y6:=by
 obtain⟨r0,c0,k0⟩:=Hg (X:=X) hu
 refine⟨_,dU.or (FY hu) c0,λx y a b st H m Q S rx ry p=>?_⟩
 unfold y6 at p
 split at p
 ·rename_i l w l' w'
  cases e1:eT st[l]? with
  | none=>rw[e1] at p;exact aa p
  | some k1=>
   cases e2:eT st[l']? with
   | none=>rw[e1,e2] at p;exact aa p
   | some k2=>
    rw[e1,e2] at p
    dsimp only at p
    by_cases c:l≠l'/\oH st k1=true/\oH st k2=true
    ·rw[if_pos c] at p
     cases f1:aA st 20 w with
     | none=>rw[f1] at p;exact aa p
     | some d1=>
      cases f2:aA st 20 w' with
      | none=>rw[f1,f2] at p;exact aa p
      | some d2=>
       rw[f1,f2] at p
       unfold ag at rx ry
       obtain⟨pa,xs,rfl,hT,rs⟩:=rx
       obtain⟨pb,ys,rfl,VZ,rs'⟩:=ry
       obtain⟨v1,v2,rfl,g1,g2⟩:=pA (X:=X) rs
       obtain⟨u1,u2,rfl,DW,QL⟩:=pA (X:=X) rs'
       have g0:=g1
       have XO:=DW
       unfold ag at g1 DW
       obtain⟨pp,rfl,ml⟩:=g1
       obtain⟨qq,rfl,Ui⟩:=DW
       obtain⟨l1,a1,a2⟩:=fK (X:=X) S ml e1
       obtain⟨l2,b1,b2⟩:=fK (X:=X) S Ui e2
       obtain⟨o1,s1,m1⟩:=xu e1
       obtain⟨o2,s2,m2⟩:=xu e2
       have ne:pp≠qq:=λz=>c.1 (S.inj l l' pp o1 o2 ml (z ▸ Ui) s1 s2 m1 m2)
       exact .inl ⟨m,st,pa,pb,pp,qq,v2,u2,k1,k2,l1,l2,w,w',d1,d2,S,rfl,rfl,cU.of hT,cU.of VZ,ne,a1,b1,a2,b2,c.2.1,c.2.2,g2,QL,f1,f2,p _ m H Ext.refl S fB⟩
    ·rw[if_neg c] at p;exact aa p
 ·exact .inr (k0 x y a b st H m Q S rx ry p)
end
section
variable {X:Cx}
def y9:List Wv->Hs->Re Wv
 | [.ref l],st=>match ai st l with
  | some ws=>(match iB ws with | some bs=> .ok (.bl (bs.any id)) st | none=> .bad)
  | none=> .bad
 | _,_=> .bad
theorem any_range:∀(bs:List Bool),(a9 bs.length).any (λi=>bs.getD i false)=bs.any id
 | []=>rfl
 | b::bs=>by
  rw[ng,w8,dW,List.any_map,dW,<-any_range bs]
  rfl
theorem y_(hc:X.calm=true):cR X (.builtin "any") (λxs H Q=>∃(p:X3)(bs:List Bool),xs=[.ref p]/\iu X.K H p (bs.map V.bl)/\Q (.bl (bs.any id)) H):=by
 intro pins s σ H xs us Q I r h
 obtain⟨p,bs,rfl,hq,q⟩:=h
 obtain⟨u,rfl,rx⟩:=vals1 r
 cases rx
 obtain⟨its,r',pl,hz⟩:=I.list hq
 have hb:=rH r'
 subst hb
 have hl:=pl.isList
 have hlt:p < s.heap.objs.size:=by obtain⟨_,e,_⟩:=hl;exact aC e
 refine call_any_walk (wpAny_pyIter_list hl ?_)
 refine⟨_,_,_,_,_,_,λi=>bs.getD i false,rfl,Walks.list (A:=X.A.in1) (I.ok.hd hc) _ p (aP hlt) (bs.map gR).toArray,⟨⟨_,aX _ rfl,rfl,rfl⟩,hl.push _⟩,?_,λh' tk hk=>?_⟩
 ·intro i v s' Q' E' hP hQ
  have BG:(bs.map gR).toArray[i]? =some v:=hP
  rw[w9,dA] at BG
  cases e:bs[i]? with
  | none=>rw[e] at BG;cases BG
  | some b=>
   rw[e] at BG
   cases BG
   have:(bs.getD i false)=b:=by rw[rJ,e];rfl
   dsimp only at hQ
   rw[this] at hQ
   exact Yr hQ
 ·have hk':∀b o,s.heap.get? b=some o->h'.get? b=some o:=old_kept hk
  refine⟨.bl _,H,I.kept (t':=tk) hk',?_,q⟩
  rw[<-any_range bs]
  simp only[aN,aH]
  rfl
theorem K_(hc:X.calm=true):cX X (.builtin "any") y9:=⟨_,y_ hc,λws vs st H m Q S rs p=>by
 match ws,rs,p with
 | [],rs,p=>exact aa p
 | x::y::t,rs,p=>cases x<;>exact aa p
 | [x],rs,p=>
  obtain⟨v,rfl,r1⟩:=kY rs
  cases x with
  | ref l=>
   unfold y9 at p
   unfold ag at r1
   obtain⟨a,rfl,hl⟩:=r1
   cases e:ai st l with
   | none=>simp only[e] at p;exact aa p
   | some ws=>
    simp only[e] at p
    cases e2:iB ws with
    | none=>simp only[e2] at p;exact aa p
    | some bs=>
     simp only[e2] at p
     obtain⟨xs,q1,q2⟩:=S.read hl e
     have q3:=ma q2 e2
     subst q3
     exact⟨a,bs,rfl,q1,p _ m H Ext.refl S fB⟩
  | _=>exact aa p⟩
theorem zc:Yb "any"=some (.builtin "any"):=by decide+kernel
theorem F1{lo c:Int}{n:Nat}{m1:Mp}{H1:Hp}:qg X (none,hJ lo c n) m1 H1 (Py lo c n) where
 go:=λk H m' st e S cc hk=>by
  have hk':k < (hJ lo c n).length:=hk
  rw[iY] at hk';exact hk'
 stop:=λk H m' st e S cc hk=>by
  have hk':k=(hJ lo c n).length:=hk
  rw[iY] at hk';exact jB hk'.symm
 sN:=λk hk H v H' m' st e S cc y=>by
  obtain⟨y1,y2⟩:=y
  refine⟨y1,?_⟩
  have q:(hJ lo c n)[k]'hk= .int (lo+k * c):=tZ hk
  show ag X.K m' H ((hJ lo c n)[k]'hk) v
  rw[q,y2]
  exact mkInt
def xv(ws:List Wv)(st:Hs):Re Wk:=match ws with
 | [.int a,.int b,.int c]=>if zS a b c then .ok (none,hJ a c (gO a b c)) st else .bad
 | _=> .bad
def Cw(g:GA):GI:=λρ st=>(g ρ st).bind xv
theorem Of{tg l:Expr}{ls:List Expr}{ga:GA}{p q:Pos}(hg:Gl X "range")(hm:X.mg "range"=none)(ha:JA X (l::ls) ga)(hst:Yj (l::ls) X.env=(false,eval l X.env)::Yj ls X.env)(hpl:(backTo q (Yj ls X.env)).any (·.1)=false):JI X tg (.Call (.Name "range" p) (l::ls) [] q) (Cw ga):=by
 refine⟨_,qp hg hm fo hst hpl,λρ st σ H m Q S R p=>?_⟩
 refine ha.go S R (au.bind p) λws st1 vs m1 H1 p1 e1 S1 rs=>?_
 unfold xv at p1
 split at p1
 ·rename_i a b c
  by_cases cc:zS a b c
  ·rw[if_pos cc] at p1
   obtain⟨w1,w2,w3,v1,v2,v3,e,rfl,r1,r2,r3⟩:=KG rs rfl
   cases e
   cases aO r1
   cases aO r2
   cases aO r3
   exact⟨a,b,c,rfl,cc,p1 m1 H1 _ e1 S1 trivial F1⟩
  ·rw[if_neg cc] at p1;exact aa p1
 ·exact aa p1
end
def xw:List Str->Nat
 | []=>0
 | x::r=>if x∈r then xw r else xw r+1
theorem vJ:∀l:List Str,xw l<=l.length
 | []=>ao _
 | x::r=>by
  have:=vJ r
  unfold xw
  split<;>simp<;>omega
section
variable {prog:X7} {w:X_} {A:X4} {R:Result->X8->Prop} {I:X3} {fp wr:List X3} {n:Nat} {P:Nat->X9->Prop} {St:Nat->Heap->Prop}
abbrev rS(prog:X7)(w:X_)(h:Heap)(S:X3)(l:List Str):Prop:=h.SetOf (PySem.strKind prog w) S (λq=>decide (q∈l)) (xw l)
theorem rS.keep{h h':Heap}{S:X3}{l:List Str}(z:rS prog w h S l)(k:∀o,h.get? S=some o->h'.get? S=some o):rS prog w h' S l:=by
 obtain⟨o,es,ep,t,ho,rest⟩:=z
 exact⟨o,es,ep,t,k o ho,rest⟩
theorem ua(W:Walks prog w A.in1 I fp wr n P St)(S:X3)(hf:S∉fp){xs:List Str}(hn:xs.length=n)(hv:∀i v,P i v->∃x t,xs[i]? =some x/\v= .str x t)(hb:n+1 < scanBound) :
  ∀(k i:Nat)(s:X8),n - i=k->i<=n->St i s.heap->rS prog w s.heap S (xs.take i).reverse->
   (∀h' tk,(∀b o,b∉S::wr->s.heap.get? b=some o->h'.get? b=some o)->rS prog w h' S xs.reverse->R (.ok (.ret .none)) { s with heap:=h',toks:=tk })->
   Yc (model prog w) A (.builtin "set.update.loop" ⟨[.ref S,.ref I],[]⟩) R s
 | 0,i,s,hk,hi,st,z,q=>by
  have e:i=n:=by omega
  subst e
  refine codeAny_builtin K' ?_
  rw[Og Cy _]
  refine Yl (m:=pyNext (.ref I)) (W.done s _ _ st λh' tk kp=>?_)
  refine Yq (q h' tk (λb o nb eo=>kp b o (λm=>nb (aU _ m)) eo) ?_)
  rw[<-hn,List.take_length] at z
  exact z.keep λo eo=>kp S o (λm=>hf (W.sub _ m)) eo
 | k+1,i,s,hk,hi,st,z,q=>by
  refine codeAny_builtin K' ?_
  rw[Og Cy _]
  refine Yl (m:=pyNext (.ref I)) (W.item i s _ _ (by omega) st λv h1 tk hP st1 kp=>?_)
  obtain⟨x,t,hx,rfl⟩:=hv i v hP
  have z1:rS prog w h1 S (xs.take i).reverse:=z.keep λo eo=>kp S o (λm=>hf (W.sub _ m)) eo
  refine Yl (m:=holding [eZ x t] (setAdd S (.str x t))) (Yn ?_)
  unfold setAdd
  have room:xw (xs.take i).reverse+1 < scanBound:=by
   have:=vJ (xs.take i).reverse
   simp only[List.length_reverse,fF] at this
   omega
  have hk1:(PySem.strKind prog w).is x (.str x t)=true:=by
   show qD x (.str x t)=true
   simp[qD]
  refine Yn (Yl ((PySem.strKind prog w).pyHash (k:=x) hk1 ?_))
  refine wpAny_setAddHashed_of (knd:=PySem.strKind prog w) hk1 rfl z1 room λh2 sb z2=>?_
  have e:(xs.take (i+1)).reverse=x::(xs.take i).reverse:=by
   rw[List.take_add_one,hx,Option.toList_some,List.reverse_append]
   rfl
  have z3:rS prog w h2 S (xs.take (i+1)).reverse:=by
   refine SetOf_congr z2 (λy=>?_) ?_
   ·rw[e];simp[Bool.or_comm]
   ·rw[e]
    show _=if x∈(xs.take i).reverse then xw (xs.take i).reverse else xw (xs.take i).reverse+1
    simp only[decide_eq_true_eq]
  refine Yq ⟨plainId_quiet Cy _,ua W S hf hn hv hb k (i+1) _ (by omega) (by omega) (W.frame _ h1 _ st1 λb hb o eo=>?_) z3 λh' tk' V3 z'=>?_⟩
  ·rw[sb.2 b (λy:b=S=>hf (y ▸ hb))];exact eo
  ·refine q h' tk' (λb o nb eo=>V3 b o nb ?_) z'
   have nS:b≠S:=λy=>nb (by rw[y];exact bF)
   show h2.get? b=some o
   rw[sb.2 b nS]
   exact kp b o (λm=>nb (aU _ m)) eo
end
theorem ub:isSubtype (.type "tuple") (.type "set")=pure false:=by rw[Yg];kernel_rfl
theorem rT:isSubtype (.type "tuple") (.type "frozenset")=pure false:=by rw[Yg];kernel_rfl
section
variable {prog:X7} {w:X_} {A:X4} {E:X9->X8->Prop} {s:X8}
abbrev hR(led:Bool):Obj:={ cls:=.type "set",dict:=none,data:=.set #[] 0 (.fresh 0 0 led) }
theorem zd{l:X3}{items:Array X9}{xs:List Str}{Q:X9->X8->Prop}(hh:A.handled=none)(hl:s.heap.IsTuple l items)(hn:xs.length=items.size)(hi:∀(i:Nat)(v:X9),items[i]? =some v->∃x t,xs[i]? =some x/\v=eZ x t)(hb:items.size+1 < scanBound)
  (h:∀h' tk,rS prog w h' s.heap.objs.size xs.reverse->(∀b o,b < s.heap.objs.size->s.heap.get? b=some o->h'.get? b=some o)->Q (.ref s.heap.objs.size) { s with heap:=h',toks:=tk }) :
  Yk (model prog w) A (call (.type "set") [.ref l]) Q E s:=by
 have hmade:=F.called_set.made
 have hsub:=F.called_set.sub
 have h1:=F.called_set.notType
 have h2:=F.called_set.canCreate
 have hct:=F.typeCall_set_1 (.ref l)
 obtain⟨c,tl,NL⟩:=F.called_set.mro
 refine wpAny_call (codeAny_of_tree (show Yk _ _ (callAny (.type "set") _) _ _ _ from Yq ⟨Code.quiet_builtin _ (by decide+kernel),codeAny_builtin F.entry_type_call ?_⟩))
 rw[Around.under_plain (weight_type_call_type "set" [aB l] []) rfl]
 repeat (any_goals (first | assumption | wp_step))
 refine codeAny_mono (code_set_new_1 (aB l) (E:=E) (Q₁:=λv t=>∃led,v= .ref s.heap.objs.size/\t={ s with heap:=s.heap.push (hR led) }) λled=>⟨led,rfl,rfl⟩) λr t hr=>?_
 cases r with
 | error e=>exact hr
 | ok fl=>
  cases fl with
  | ret obj=>
   obtain⟨led,rfl,rfl⟩:=hr
   have hS:(s.heap.push (hR led)).get? s.heap.objs.size=some (hR led):=aX _ rfl
   have hT:lu { s with heap:=s.heap.push (hR led) } (.ref s.heap.objs.size) "set":=⟨_,hS,rfl⟩
   have hli:=F.called_set.init.lookup
   have hbi:=F.called_set.init.bind (aB s.heap.objs.size)
   repeat (any_goals (first | assumption | wp_step))
   refine codeAny_mono (codeAny_call_builtin (R:=wants (λr t=>r= .none/\∃h' tk,t={ s with heap:=h',toks:=tk }/\rS prog w h' s.heap.objs.size xs.reverse/\∀b o,b < s.heap.objs.size->s.heap.get? b=some o->h'.get? b=some o) E) F.called_set.init.plain F.entry_set_init (check_set_init_1 hT ?_)) λr₂ s₂ Cz=>?_
   ·obtain⟨ol,Uj,hcl,nl,hdl⟩:=hl
    obtain⟨V4,Oh,Uk,La⟩:=ol
    simp only at hcl hdl
    subst hcl;subst hdl
    have Rm:(s.heap.push (hR led)).get? l=some { cls:=.type "tuple",dict:=Oh,data:=.seq items nl,slots:=La }:=aQ _ Uj
    have n1:=ub
    have n2:=rT
    have n3:(mX "tuple" == mX "dict")=false:=by decide
    have ht:(s.heap.push (hR led)).IsTuple l items:=⟨_,Rm,rfl,nl,rfl⟩
    unfold Builtin.«set.__init__» noKeywords Builtin.Frozenset.updateFrom
    generalize V5:pyIter=PI
    wp_walk
    subst V5
    refine wpAny_pyIter_tuple ht (Yl (wpAny_runValue ?_))
    have lt:l < s.heap.objs.size:=aC Uj
    have zp:(s.heap.push (hR led)).objs.size=s.heap.objs.size+1:=mi ..
    refine ua (Walks.tuple (by simp[hh]) _ l (by rw[zp];exact aP (Nat.lt_succ_of_lt lt)) items) s.heap.objs.size ?nf hn (λi v e=>hi i v e) hb (items.size - 0) 0 _ rfl (bx _) ⟨⟨_,aX _ rfl,rfl,rfl⟩,ht.push _⟩ ?z0 ?fin
    case nf=>
     rw[zp]
     simp only[bp,bz,or_false,not_or]
     exact⟨aP (Nat.lt_succ_self _),mZ lt⟩
    case z0=>
     have hget:((s.heap.push (hR led)).push { cls:=.type "tuple_iterator",data:=.fields #[.ref l,.int 0 0] }).get? s.heap.objs.size=some (hR led):=aQ _ hS
     exact SetOf_congr ((setObjOf_fresh (knd:=PySem.strKind prog w) led).setOf hget (by unfold scanBound;omega)) (λ_=>by simp) rfl
    case fin=>
     intro h' tk kp z
     refine Yq (Yq ⟨rfl,h',tk,rfl,z,λb o b1 e=>kp b o ?_ (aQ _ (aQ _ e))⟩)
     rw[zp]
     simp only[bp,bz,or_false,not_or]
     exact⟨aP b1,aP (Nat.lt_succ_of_lt b1)⟩
   ·cases r₂ with
    | error e=>exact Cz
    | ok Oi=>
     cases Oi with
     | ret r=>
      obtain⟨rfl,h',tk,rfl,z,kp⟩:=Cz
      repeat (any_goals (first | assumption | wp_step))
      exact h _ _ z kp
     | _=>exact aa Cz
  | _=>exact aa hr
end
section
variable {X:Cx}
theorem ze:Yb "set"=some (.type "set"):=by decide+kernel
def Oj(X:Cx)(t:TA):TE:=λσ H Q=>t σ H λvs H1=>∃(p:X3)(zs:List Str),vs=[.ref p]/\cU X.K H1 p (zs.map V.str)/\zs.length < 1000/\Q (.int (xw zs.reverse:Nat)) H1
theorem F2{zs:List Str}{its:List X9}(r:Vals (zs.map V.str) its)(i:Nat)(v:X9)(h:its.toArray[i]? =some v):∃x t,zs[i]? =some x/\v=eZ x t:=by
 induction zs generalizing its i with
 | nil=>cases r;simp at h
 | cons z zs ih=>
  cases r with
  | cons a b=>
   cases i with
   | zero=>
    obtain⟨t,rfl⟩:=a
    simp at h
    exact⟨z,t,rfl,h.symm⟩
   | succ i=>
    have:=ih b i (by simpa using h)
    simpa using this
theorem F3{e:Expr}{t:TA}{p1 q1 p2 q2:Pos}(hc:X.calm=true)(Ro:Gl X "len")(hm1:X.mg "len"=none)(Rp:Gl X "set")(hm2:X.mg "set"=none)(ha:PA X [e] t)(he:Yj [e] X.env=[(false,eval e X.env)]) :
  PE X (.Call (.Name "len" p1) [.Call (.Name "set" p2) [e] [] q2] [] q1) (Oj X t):=by
 intro pins s σ H Q I h
 refine wpAny_Call_Name_kw (f_ I Ro hm1 p8 ?_ (by decide) (by decide))
 refine En ?_ rfl rfl
 show Yk _ _ (spliced ((false,eval (.Call (.Name "set" p2) [e] [] q2) X.env)::[])) _ _ s
 refine iL (wpAny_Call_Name_kw (f_ I Rp hm2 ze ?_ (by decide) (by decide)))
 refine jz (aY (ha q2 pins s σ H _ I h) λus s1 ⟨vs,H1,I1,r1,p,zs,ev,hq,hl,q⟩=>?_) he rfl
 subst ev
 obtain⟨u,rfl,rx⟩:=vals1 r1
 cases rx
 obtain⟨its,r',pl,hz⟩:=I1.tuple hq
 have hn:zs.length=its.toArray.size:=by have:=r'.length;simpa using this
 refine zd (I1.ok.hd hc) pl hn (F2 r') (by rw[<-hn];unfold scanBound;omega) λh' tk z kp=>?_
 refine nO ?_
 obtain⟨o,es,ep,tb,ho,hex,hd,hel,hmem,hb,hf,hN⟩:=z
 refine call_len_set ho hex hd hf (by unfold scanBound at hb;omega) ?_
 rw[hN]
 exact⟨.int _,H1,I1.kept (t':=tk+1+1) (λb o e=>kp b o (aC e) e),⟨_,rfl⟩,q⟩
def ly:List Wv->Option (List Str)
 | []=>some []
 | .str x::r=>(match ly r with | some l=>some (x::l) | none=>none)
 | _=>none
theorem qw{K:PySem.W.Frag}{m:Mp}{H:Hp}:∀{ws:List Wv}{xs:List V}{zs:List Str},ah K m H ws xs->ly ws=some zs->xs=zs.map V.str
 | [],xs,zs,r,h=>by
  unfold ah at r
  cases h
  exact r
 | w::ws,xs,zs,r,h=>by
  unfold ah at r
  obtain⟨x,t,rfl,r1,r2⟩:=r
  cases w with
  | str b=>
   unfold ly at h
   cases e:ly ws with
   | none=>rw[e] at h;cases h
   | some l=>
    rw[e] at h
    cases h
    unfold ag at r1
    rw[r1.1,qw r2 e]
    rfl
  | _=>cases h
def qx:List Wv->Hs->Re Wv
 | [.tup ws],st=>(match ly ws with | some zs=>if zs.length < 1000 then .ok (.int (xw zs.reverse:Nat)) st else .bad | none=> .bad)
 | _,_=> .bad
theorem F4{e:Expr}{g:GA}{p1 q1 p2 q2:Pos}(hc:X.calm=true)(Ro:Gl X "len")(hm1:X.mg "len"=none)(Rp:Gl X "set")(hm2:X.mg "set"=none)(ha:JA X [e] g)(he:Yj [e] X.env=[(false,eval e X.env)]) :
  JE X (.Call (.Name "len" p1) [.Call (.Name "set" p2) [e] [] q2] [] q1) (aG qx g):=by
 refine JE.of (F3 hc Ro hm1 Rp hm2 fo he) λρ st σ H m Q S R p=>?_
 refine ha.go S R (au.bind p) λws st1 vs m1 H1 p1 e1 S1 rs=>?_
 have p2:=cq.shift (au.kL p1) e1
 unfold qx at p2
 split at p2
 ·rename_i ws
  obtain⟨v,rfl,r1⟩:=kY rs
  unfold ag at r1
  obtain⟨a,xs,rfl,hT,rx⟩:=r1
  cases e2:ly ws with
  | none=>rw[e2] at p2;exact aa p2
  | some zs=>
   rw[e2] at p2
   dsimp only at p2
   by_cases c:zs.length < 1000
   ·rw[if_pos c] at p2
    have ex:=qw rx e2
    subst ex
    exact⟨a,zs,rfl,cU.of hT,c,p2 _ m1 H1 Ext.refl S1 mkInt⟩
   ·rw[if_neg c] at p2;exact aa p2
 ·exact aa p2
end
structure Ct where
 N:List Str
 names:List (Str×X6)
 consts:List (Str×Wv)
 bl:List Str
 fns:List (Str×Nat×(List Wv->Hs->Re Wv))
 tb:Tab:=[]
 tt:pB:=[]
 clss:List Str:=[]
 xx:List Str:=[]
 tc:Tab:=[]
 zU:List (Str×Dc):=[]
 ud:List Str:=[]
 V6:List Str:=[]
 DY:List Str:=[]
 DZ:List Str:=[]
 loop:Bool:=true
 free:Bool:=true
 top:Bool:=true
 lam:Option (Lm×LF):=none
 D0:List (Str×TX):=[]
 Rq:List Str:=[]
 lj:Nat:=0
 self:Str:=""
def lA(x:Str):List Str->Option Nat
 | []=>none
 | y::r=>if x=y then some 0 else match lA x r with
  | some i=>some (i+1)
  | none=>none
theorem fq{x:Str}:∀{N:List Str}{i:Nat},lA x N=some i->N[i]? =some x
 | [],i,h=>by cases h
 | y::r,i,h=>by
  unfold lA at h
  by_cases e:x=y
  ·rw[if_pos e] at h;cases h;subst e;rfl
  ·rw[if_neg e] at h
   cases q:lA x r with
   | none=>rw[q] at h;cases h
   | some j=>rw[q] at h;cases h;simpa using fq q
def okN(x:Str):Bool:=!(x == ("__debug__":Str))&& !(x == ("__classdict__":Str))&& !(decide (x="__name__"))
theorem ft{x:Str}(h:okN x=true):(x == ("__debug__":Str))=false:=by unfold okN at h;revert h;cases (x == ("__debug__":Str))<;>simp
theorem CA{x:Str}(h:okN x=true):(x == ("__classdict__":Str))=false:=by unfold okN at h;revert h;cases (x == ("__classdict__":Str))<;>simp
theorem CB{x:Str}(h:okN x=true):x≠"__name__":=by
 intro e
 subst e
 unfold okN at h
 simp at h
def ue:List Wv->List V->Prop
 | [],[]=>True
 | .int i::r,.int j::t=>i=j/\ue r t
 | .str x::r,.str y::t=>(x=y/\aW x=true)/\ue r t
 | _,_=>False
theorem ue.rel{K:PySem.W.Frag}{m:Mp}{H:Hp}:∀{ws:List Wv}{vs:List V},ue ws vs->ah K m H ws vs
 | [],[],_=>ah.nil
 | .int i::r,.int j::t,h=>by
  obtain⟨rfl,h⟩:=h
  exact ah.cons (by unfold ag;rfl) h.rel
 | .str x::r,.str y::t,h=>by
  obtain⟨⟨rfl,hx⟩,h⟩:=h
  exact ah.cons (by unfold ag;exact⟨rfl,hx⟩) h.rel
 | [],_::_,h=>aa h
 | .int i::r,[],h=>aa h
 | .str i::r,[],h=>aa h
 | .int i::r,.str _::_,h=>aa h
 | .str i::r,.int _::_,h=>aa h
def CC(K:PySem.W.Frag)(mg:Str->Option X9)(x:Str):Wv->Prop
 | .int i=>∃t,mg x=some (.int i t)
 | .str y=>(∃t,mg x=some (.str y t))/\aW y=true
 | .nX ws=>∃(a:X3)(vs:List V)(o:Obj)(its:Array X9)(n:Nat),mg x=some (.ref a)/\K.lookup a=some o/\o.cls= .type "tuple"/\o.data= .seq its n/\its.size<=Yi/\Vals vs its.toList/\ue ws vs
 | _=>False
structure Ol(c:Ct)(k:Nat)(X:Cx):Prop where
 lam:∀p L,c.lam=some (p,L)->KD X.prog X.w X.K X.mg X.base k p 3 L
 D0:∀x F,c.D0.lookup x=some F->TY X.prog X.w X.K X.mg k c.lj x F
 Mr:∀x n F,c.fns.lookup x=some (n,F)->c.Rq.contains x=true->∀base,B1 X.K X.mg base->lP X.prog X.w X.K X.mg base c.lj x n F
 at':c.top=true->c.self∈de->∃P,Hu X c.self P
structure Good(c:Ct)(k:Nat)(X:Cx):Prop where
 N:X.N=c.N
 sc:X.env.scope.names=c.names
 nd:c.N.Nodup
 un:X.A.units+64 < cLine
 free:c.free=true->iK k X.A/\X.calm=true
 loop:c.loop=true->X.calm=true/\PassesOwn (model X.prog X.w) X.A X.env X.xe
 cst:∀x w,c.consts.lookup x=some w->CC X.K X.mg x w
 bl:∀x,c.bl.contains x=true->X.mg x=none
 fns:∀x n F,c.fns.lookup x=some (n,F)->lP X.prog X.w X.K X.mg X.base k x n F
 stk:c.top=true->QS X
 fn:c.top=true->∀x,X.fn x=true
 kind:X.env.scope.kind= .function
 tab:TabOk X.K c.tb c.tt c.tc
 cls:∀x,c.clss.contains x=true->∃C,X.mg x=some (.ref C)/\E6 X.K x C
 xx:∀x,c.xx.contains x=true->∃C,X.mg x=some (.ref C)/\ClsAt X.K x C
 zU:∀x kvs,c.zU.lookup x=some kvs->mf X.K X.w X.mg x kvs
 rm:qo k X.A
 DZ:∀x n F,c.DZ.contains x=true->c.fns.lookup x=some (n,F)->Ky X.prog X.w X.K X.mg X.base k x n F
 x:Ol c k X
 fr:By X
 hd:J8 X
theorem xy{k:Nat}{A:X4}(hr:iK k A):A.units+64 < cLine:=by have:=hr.un;omega
def Ct.Hz(c:Ct):Ct:={ c with loop:=false }
def Ct.xA(c:Ct):Ct:={ c with loop:=false,free:=false }
theorem Good.body{c:Ct}{k:Nat}{X:Cx}(G:Good c k X)(hf:c.free=true)(pn:List (X3×Obj))(E:X9->X8->Prop):Good c.Hz k (E8 X X.A true pn E) :=
 ⟨G.N,G.sc,G.nd,G.un,λ_=>⟨(G.free hf).1,rfl⟩,(λz=>by cases z),G.cst,G.bl,G.fns,λz=>⟨(G.stk z).st,(G.stk z).fr,(G.stk z).ex⟩,G.fn,G.kind,G.tab,G.cls,G.xx,G.zU,⟨G.rm.d,G.rm.u⟩,G.DZ,⟨G.x.lam,G.x.D0,G.x.Mr,λt m=>(G.x.at' t m).imp λP L=>⟨L.code,L.qual,L.tab,L.mem,L.uniq,L.bm⟩⟩,G.fr,G.hd⟩
theorem Good.suite{c:Ct}{k:Nat}{X:Cx}(G:Good c k X){a:X3}{o:Obj}{u:HO}(nx:yw o)(pn:List (X3×Obj))(E:X9->X8->Prop):Good c.xA k (NH X a (.fD o u) pn E) :=
 ⟨G.N,G.sc,G.nd,G.un,(λz=>by cases z),(λz=>by cases z),G.cst,G.bl,G.fns,λz=>⟨(G.stk z).st,(G.stk z).fr,(G.stk z).ex⟩,G.fn,G.kind,G.tab,G.cls,G.xx,G.zU,⟨G.rm.d,G.rm.u⟩,G.DZ,⟨G.x.lam,G.x.D0,G.x.Mr,λt m=>(G.x.at' t m).imp λP L=>⟨L.code,L.qual,L.tab,L.mem,L.uniq,L.bm⟩⟩,G.fr,.inr ⟨a,o,u,rfl,nx,aM⟩⟩
theorem CD:Yb "ValueError"=some (.type "ValueError"):=by decide+kernel
theorem uf:Yb "dict"=some (.type "dict"):=by decide+kernel
def F5(x:Str):Option String :=
 if x="int" then some "int" else if x="str" then some "str" else if x="bool" then some "bool" else if x="tuple" then some "tuple" else if x="list" then some "list" else if x="ValueError" then some "ValueError" else if x="dict" then some "dict" else none
theorem F6{x:Str}{T:String}(h:F5 x=some T):Yb x=some (.type T):=by
 unfold F5 at h
 by_cases e:x="int"
 ·rw[if_pos e] at h;cases h;subst e;exact Be
 rw[if_neg e] at h
 by_cases e:x="str"
 ·rw[if_pos e] at h;cases h;subst e;exact Bf
 rw[if_neg e] at h
 by_cases e:x="bool"
 ·rw[if_pos e] at h;cases h;subst e;exact Bg
 rw[if_neg e] at h
 by_cases e:x="tuple"
 ·rw[if_pos e] at h;cases h;subst e;exact tE
 rw[if_neg e] at h
 by_cases e:x="list"
 ·rw[if_pos e] at h;cases h;subst e;exact tF
 rw[if_neg e] at h
 by_cases e:x="ValueError"
 ·rw[if_pos e] at h;cases h;subst e;exact CD
 rw[if_neg e] at h
 by_cases e:x="dict"
 ·rw[if_pos e] at h;cases h;subst e;exact uf
 rw[if_neg e] at h
 cases h
section
variable {X:Cx}
def Om:ff:=λ_ _ _=> .bad
theorem Lb{f:X9->X9->Sem X9}:iP X f Om:=⟨λ_ _ _ _=>False,λ_ _ _ _ _ _ _ _ _ _ _ _ h=>h.elim,λ_ _ _ _ _ _ _ _ _ _ _ p=>p⟩
def Oo:Operator->ff
 | .Add=>bS
 | .Sub=>j9
 | .Mult=>fJ
 | .FloorDiv=>bI
 | .Mod=>oMod
 | .Pow=>sZ
 | _=>Om
theorem F7(o:Operator):iP X (Ya o) (Oo o):=by
 cases o<;>first | exact JN | exact JJ | exact B0 | exact EJ | exact JK | exact JM | exact Lb
def vK:CmpOp->ff
 | .Eq=>oEq
 | .NotEq=>rp
 | .Lt=>oLt
 | .LtE=>oLe
 | .Gt=>Nn
 | .GtE=>QN
 | .Is=>Tq
 | .IsNot=>j_
 | .In=>Ko
 | .NotIn=>rL
theorem jL(hu:X.A.units+64 < cLine)(o:CmpOp):iP X (Ye o) (vK o):=by
 cases o<;>first | exact Ny hu | exact Hg hu | exact Kx hu | exact Kw hu | exact Nr | exact Nt | exact Nu | exact A0 | exact Kp | exact yK
def CF(c:Ct)(x:Str):GE:=if okN x=true then
  match c.names.lookup x with
  | some .local=>(match lA x c.N with | some i=>af i | none=>bL)
  | some .cell=>(match lA x c.N with | some i=>af i | none=>bL)
  | some .free=>(match lA x c.N with | some i=>af i | none=>bL)
  | some .globalImplicit=>(match c.consts.lookup x with
   | some w=>gC w
   | none=>if c.clss.contains x=true then gC (.cls x) else if c.xx.contains x=true then gC (.cls x) else if c.bl.contains x=true then(match F5 x with | some T=>gC (.ty T) | none=>bL) else bL)
  | _=>bL
 else bL
theorem CG{c:Ct}{k:Nat}(G:Good c k X)(x:Str)(pos:Pos):JE X (.Name x pos) (CF c x):=by
 unfold CF
 by_cases hx:okN x=true
 ·rw[if_pos hx]
  cases e:c.names.lookup x with
  | none=>exact aI
  | some kd=>
   have el:X.env.scope.names.lookup x=some kd:=by rw[G.sc];exact e
   cases kd with
   | «local»=>
    dsimp only
    cases e2:lA x c.N with
    | none=>exact aI
    | some i=>exact vc i (by rw[G.N];exact fq e2) (Or.inl el) (ft hx) (CA hx)
   | cell=>
    dsimp only
    cases e2:lA x c.N with
    | none=>exact aI
    | some i=>exact vc i (by rw[G.N];exact fq e2) (jE (Or.inl el)) (ft hx) (CA hx)
   | free=>
    dsimp only
    cases e2:lA x c.N with
    | none=>exact aI
    | some i=>exact vc i (by rw[G.N];exact fq e2) (jE (jE el)) (ft hx) (CA hx)
   | globalImplicit=>
    dsimp only
    have hg:Gl X x:=el
    cases e2:c.consts.lookup x with
    | some w=>
     have q:=G.cst x w e2
     cases w with
     | int i=>obtain⟨t,q⟩:=q;exact AQ hg q (ft hx)
     | str y=>obtain⟨⟨t,q⟩,z⟩:=q;exact AR hg q z (ft hx)
     | nX ws=>
      obtain⟨a,vs,o,its,n,q1,q2,q3,q4,q5,q6,q7⟩:=q
      exact JE.of (e_ (v:=.ref a) hg q1 rfl (ft hx)) λρ st σ H m Q S R p=>p (.ref a) m H Ext.refl S (by unfold ag;exact⟨a,vs,rfl,⟨o,its,n,q2,q3,q4,q5,q6⟩,q7.rel⟩)
     | _=>exact aa q
    | none=>
     dsimp only
     by_cases e5:c.clss.contains x=true
     ·rw[if_pos e5]
      obtain⟨C,q1,q2⟩:=G.cls x e5
      exact JE.of (e_ (v:=.ref C) hg q1 rfl (ft hx)) λρ st σ H m Q S R p=>p (.ref C) m H Ext.refl S (by unfold ag;exact⟨C,rfl,q2.cls⟩)
     rw[if_neg e5]
     by_cases e6:c.xx.contains x=true
     ·rw[if_pos e6]
      obtain⟨C,q1,q2⟩:=G.xx x e6
      exact JE.of (e_ (v:=.ref C) hg q1 rfl (ft hx)) λρ st σ H m Q S R p=>p (.ref C) m H Ext.refl S (by unfold ag;exact⟨C,rfl,q2⟩)
     rw[if_neg e6]
     by_cases e3:c.bl.contains x=true
     ·rw[if_pos e3]
      cases e4:F5 x with
      | none=>exact aI
      | some T=>exact Nf hg (G.bl x e3) (F6 e4) (CB hx) (ft hx)
     ·rw[if_neg e3];exact aI
   | _=>exact aI
 ·rw[if_neg hx];exact aI
def CH:Const->GE
 | .none=>gC .aR
 | .bool b=>gC (.bl b)
 | .int i=>gC (.int i)
 | .str x=>if aW x=true then gC (.str x) else bL
 | _=>bL
theorem zg(k:Const)(j:Nat)(pos:Pos):JE X (.Constant k j pos) (CH k):=by
 cases k with
 | none=>exact Ju
 | bool b=>exact Nd
 | int i=>exact Jt
 | str x=>
  show JE X _ (if aW x=true then gC (.str x) else bL)
  by_cases h:aW x=true
  ·rw[if_pos h];exact Jv h
  ·rw[if_neg h];exact aI
 | _=>exact aI
def plain:Expr->Bool
 | .Starred .. =>false
 | _=>true
theorem ax{e:Expr}{es:List Expr}{env:Env}(h:plain e=true):Yj (e::es) env=(false,eval e env)::Yj es env:=by
 cases e<;>first | rfl | cases h
theorem cK{pos:Pos}{env:Env}:∀{es:List Expr},es.all plain=true->(backTo pos (Yj es env)).any (·.1)=false
 | [],_=>rfl
 | e::es,h=>by
  rw[cg,cz] at h
  rw[ax h.1]
  have q:=cK (pos:=pos) (env:=env) h.2
  unfold backTo at q ⊢
  rw[av,dW,q]
  rfl
def fu(f:Expr->GE):List Expr->GA
 | []=>aq
 | e::es=>ae (f e) (fu f es)
theorem cu{f:Expr->GE}(h:∀e,JE X e (f e)):∀es:List Expr,es.all plain=true->JA X es (fu f es)
 | [],_=>AY
 | e::es,g=>by
  rw[cg,cz] at g
  exact wM (h e) (cu h es g.2) (ax g.1)
def PB(c:Ct)(x:Str):Option (X9×(List Wv->Hs->Re Wv)) :=
 if x="len" then some (.builtin "len",if c.ud.isEmpty=true then ka else fL) else if x="isinstance" then some (.builtin "isinstance",if c.bl.contains "dict"=true then oI c.tb c.tt else dZ c.tb c.tt) else if x="list"/\c.free=true then some (.type "list",mh) else if x="tuple" then some (.type "tuple",eX) else if x="all"/\c.free=true then some (.builtin "all",BE) else if x="sum"/\c.free=true then some (.builtin "sum",vp) else if x="any"/\c.free=true then some (.builtin "any",y9) else if x="dict" then some (.type "dict",qu) else none
theorem zh:Yb "all"=some (.builtin "all"):=by decide+kernel
theorem zi:Yb "sum"=some (.builtin "sum"):=by decide+kernel
theorem Lc{c:Ct}(O:TabOk X.K c.tb c.tt c.tc):cX X (.builtin "isinstance") (if c.bl.contains "dict"=true then oI c.tb c.tt else dZ c.tb c.tt):=by
 by_cases e2:c.bl.contains "dict"=true
 ·rw[if_pos e2];exact K6 O
 ·rw[if_neg e2];exact Br O
theorem Ld(c:Ct):cX X (.builtin "len") (if c.ud.isEmpty=true then ka else fL):=by
 by_cases e2:c.ud.isEmpty=true
 ·rw[if_pos e2];exact A4
 ·rw[if_neg e2];exact FO
theorem Le{c:Ct}{x:Str}{v:X9}{op:List Wv->Hs->Re Wv}(O:TabOk X.K c.tb c.tt c.tc)(hc:c.free=true->X.calm=true)(h:PB c x=some (v,op)):Yb x=some v/\cX X v op/\((∃id,v= .builtin id)\/∃T,v= .type T):=by
 unfold PB at h
 by_cases e:x="len"
 ·rw[if_pos e] at h;cases h;subst e;exact⟨p8,Ld c,.inl ⟨_,rfl⟩⟩
 rw[if_neg e] at h
 by_cases e:x="isinstance"
 ·rw[if_pos e] at h;cases h;subst e;exact⟨Bd,Lc O,.inl ⟨_,rfl⟩⟩
 rw[if_neg e] at h
 by_cases e:x="list"/\c.free=true
 ·rw[if_pos e] at h;cases h;obtain⟨rfl,e2⟩:=e;exact⟨tF,BU (hc e2),.inr ⟨_,rfl⟩⟩
 rw[if_neg e] at h
 by_cases e:x="tuple"
 ·rw[if_pos e] at h;cases h;subst e;exact⟨tE,Kj,.inr ⟨_,rfl⟩⟩
 rw[if_neg e] at h
 by_cases e:x="all"/\c.free=true
 ·rw[if_pos e] at h;cases h;obtain⟨rfl,e2⟩:=e;exact⟨zh,Ki (hc e2),.inl ⟨_,rfl⟩⟩
 rw[if_neg e] at h
 by_cases e:x="sum"/\c.free=true
 ·rw[if_pos e] at h;cases h;obtain⟨rfl,e2⟩:=e;exact⟨zi,Kl (hc e2),.inl ⟨_,rfl⟩⟩
 rw[if_neg e] at h
 by_cases e:x="any"/\c.free=true
 ·rw[if_pos e] at h;cases h;obtain⟨rfl,e2⟩:=e;exact⟨zc,K_ (hc e2),.inl ⟨_,rfl⟩⟩
 rw[if_neg e] at h
 by_cases e:x="dict"
 ·rw[if_pos e] at h;cases h;subst e;exact⟨uf,FQ,.inr ⟨_,rfl⟩⟩
 rw[if_neg e] at h
 cases h
def rV(c:Ct)(fE:Expr->GE)(x:Str)(es:List Expr):GE:=if okN x=true/\es.all plain=true/\c.names.lookup x=some .globalImplicit then
   (match c.fns.lookup x with
   | some (n,F)=>if c.free=true then bM n F (fu fE es) else bL
   | none=>if c.bl.contains x=true then(match PB c x with | some (_,op)=>aG op (fu fE es) | none=>bL) else bL)
  else bL
def CI(fE:Expr->GE)(o:Expr)(name:Str)(e:Expr)(apos cpos:Pos):GE:=if plain e=true/\(apos.endLine == cpos.line)=true then
   (if name="append" then jU iU (fE o) (fE e) else if name="extend" then jU t6 (fE o) (fE e) else bL)
  else bL
def rW(fE:Expr->GE)(o:Expr)(name:Str)(es:List Expr)(apos cpos:Pos):GE:=bL
theorem all_plain{pos:Pos}{env:Env}:∀{es:List Expr},es.all plain=true->(backTo pos (Yj es env)).all (λx=> !x.1)=true
 | [],_=>rfl
 | e::es,h=>by
  rw[cg,cz] at h
  rw[ax h.1]
  have q:=all_plain (pos:=pos) (env:=env) h.2
  unfold backTo at q ⊢
  rw[av,cg,q]
  rfl
theorem mv{fE:Expr->GE}(h:∀e,JE X e (fE e))(o:Expr)(name:Str)(e:Expr)(es:List Expr)(apos cpos:Pos):JE X (.Call (.Attribute o name apos) (e::es) [] cpos) (rW fE o name (e::es) apos cpos):=by
 exact aI
def CJ(fE:Expr->GE)(o:Expr)(e f:Expr)(apos cpos:Pos):GE:=if plain e=true/\plain f=true/\(apos.endLine == cpos.line)=true then BL (fE o) (fE e) (fE f) else bL
theorem CK{c:Ct}{k:Nat}(G:Good c k X){fE:Expr->GE}(h:∀e,JE X e (fE e))(o:Expr)(ho:attributeBase o "get" X.env (eval o X.env)=eval o X.env)(e f:Expr)(apos cpos:Pos):JE X (.Call (.Attribute o "get" apos) [e,f] [] cpos) (CJ fE o e f apos cpos):=by
 unfold CJ
 by_cases g:plain e=true/\plain f=true/\(apos.endLine == cpos.line)=true
 ·rw[if_pos g]
  obtain⟨g1,g2,g3⟩:=g
  refine BN (by have:=G.un;omega) (h _) (h e) (h f) ⟨ho,?_,g3,?_⟩
  ·rw[all_plain (es:=[e,f]) (by simp[g1,g2])]
   rfl
  ·rw[ax g1,ax g2]
   rfl
 ·rw[if_neg g];exact aI
def lB(c:Ct)(x:Str):Option Dc:=if okN x=true/\c.names.lookup x=some .globalImplicit then c.zU.lookup x else none
theorem jM{c:Ct}{k:Nat}(G:Good c k X){x:Str}{kvs:Dc}(h:lB c x=some kvs):Gl X x/\(x == ("__debug__":Str))=false/\mf X.K X.w X.mg x kvs:=by
 unfold lB at h
 by_cases g:okN x=true/\c.names.lookup x=some .globalImplicit
 ·rw[if_pos g] at h
  refine⟨?_,ft g.1,G.zU x kvs h⟩
  show X.env.scope.names.lookup x=_
  rw[G.sc];exact g.2
 ·rw[if_neg g] at h;cases h
def CL(c:Ct)(fE:Expr->GE)(x:Str)(p:Pos)(e f:Expr)(apos cpos:Pos):GE:=if c.ud.contains x=true/\plain e=true/\plain f=true/\(apos.endLine == cpos.line)=true then t9 (fE (.Name x p)) (fE e) (fE f) else bL
theorem CM{c:Ct}{k:Nat}(G:Good c k X){fE:Expr->GE}(h:∀e,JE X e (fE e))(x:Str)(p:Pos)(e f:Expr)(apos cpos:Pos):JE X (.Call (.Attribute (.Name x p) "pop" apos) [e,f] [] cpos) (CL c fE x p e f apos cpos):=by
 unfold CL
 by_cases g:c.ud.contains x=true/\plain e=true/\plain f=true/\(apos.endLine == cpos.line)=true
 ·rw[if_pos g]
  obtain⟨_,g1,g2,g3⟩:=g
  refine FR (by have:=G.un;omega) (h _) (h e) (h f) ⟨rfl,?_,g3,?_⟩
  ·rw[all_plain (es:=[e,f]) (by simp[g1,g2])]
   rfl
  ·rw[ax g1,ax g2]
   rfl
 ·rw[if_neg g];exact aI
def CN(c:Ct)(fE:Expr->GE)(x:Str)(p:Pos)(e:Expr)(apos cpos:Pos):GE:=if c.ud.contains x=true/\plain e=true/\(apos.endLine == cpos.line)=true then mq (fE (.Name x p)) (fE e) else bL
theorem CO{c:Ct}{k:Nat}(G:Good c k X){fE:Expr->GE}(h:∀e,JE X e (fE e))(x:Str)(p:Pos)(e:Expr)(apos cpos:Pos):JE X (.Call (.Attribute (.Name x p) "get" apos) [e] [] cpos) (CN c fE x p e apos cpos):=by
 unfold CN
 by_cases g:c.ud.contains x=true/\plain e=true/\(apos.endLine == cpos.line)=true
 ·rw[if_pos g]
  obtain⟨_,g1,g3⟩:=g
  refine Cs (by have:=G.un;omega) (h _) (h e) ⟨rfl,?_,g3,?_⟩
  ·rw[all_plain (es:=[e]) (by simp[g1])]
   rfl
  ·rw[ax g1]
   rfl
 ·rw[if_neg g];exact aI
def CP(c:Ct)(fE:Expr->GE)(x y:Str)(e:Expr)(p2 q2:Pos):GE:=if x="len"/\y="set"/\plain e=true/\c.names.lookup x=some .globalImplicit/\c.names.lookup y=some .globalImplicit/\c.bl.contains x=true/\c.bl.contains y=true/\c.free=true then aG qx (fu fE [e]) else rV c fE x [.Call (.Name y p2) [e] [] q2]
def CQ(c:Ct)(fE:Expr->GE)(cpos:Pos):Expr->List Expr->List Keyword->GE
 | .Name x _,[.Call (.Name y p2) [e] [] q2],[]=>CP c fE x y e p2 q2
 | .Name x _,e::es,[]=>rV c fE x (e::es)
 | .Attribute (.Name x p) name apos,[e],[]=>if name="get" then CN c fE x p e apos cpos else if name="append"\/name="extend" then CI fE (.Name x p) name e apos cpos else rW fE (.Name x p) name [e] apos cpos
 | .Attribute (.Name x p) name apos,[e,f],[]=>if name="get" then(match lB c x with | some kvs=>(if plain e=true/\plain f=true/\(apos.endLine == cpos.line)=true then BX kvs (fE e) (fE f) else bL) | none=>CJ fE (.Name x p) e f apos cpos) else if name="pop" then CL c fE x p e f apos cpos else rW fE (.Name x p) name [e,f] apos cpos
 | .Attribute o name apos,e::es,[]=>rW fE o name (e::es) apos cpos
 | _,_,_=>bL
theorem qy{c:Ct}{k:Nat}(G:Good c k X){fE:Expr->GE}(h:∀e,JE X e (fE e))(x:Str)(e:Expr)(es:List Expr)(p pos:Pos):JE X (.Call (.Name x p) (e::es) [] pos) (rV c fE x (e::es)):=by
 unfold rV
 by_cases g:okN x=true/\(e::es).all plain=true/\c.names.lookup x=some .globalImplicit
 ·rw[if_pos g]
  obtain⟨g1,g2,g3⟩:=g
  have hg:Gl X x:=by
   show X.env.scope.names.lookup x=_
   rw[G.sc];exact g3
  have gp:plain e=true/\es.all plain=true:=by rw[cg,cz] at g2;exact g2
  have ha:=cu h (e::es) g2
  cases e1:c.fns.lookup x with
  | some nF=>
   obtain⟨n,F⟩:=nF
   dsimp only
   by_cases cf:c.free=true
   ·rw[if_pos cf]
    obtain⟨a,fd,ps,G1,G2,G3,G4⟩:=G.fns x n F e1
    exact E2 G1 (G.free cf).1 G2 G3 G4 ha hg (ft g1) (ax gp.1) (cK gp.2)
   ·rw[if_neg cf]
    exact aI
  | none=>
   dsimp only
   by_cases e3:c.bl.contains x=true
   ·rw[if_pos e3]
    cases e4:PB c x with
    | none=>exact aI
    | some io=>
     obtain⟨v,op⟩:=io
     obtain⟨b1,b2,b3⟩:=Le (X:=X) G.tab (λz=>(G.free z).2) e4
     rcases b3 with ⟨id,rfl⟩ | ⟨T,rfl⟩
     ·exact A3 b2 hg (G.bl x e3) b1 ha (CB g1) (ft g1) (ax gp.1) (cK gp.2)
     ·exact yt b2 hg (G.bl x e3) b1 ha (CB g1) (ft g1) (ax gp.1) (cK gp.2)
   ·rw[if_neg e3]
    exact aI
 ·rw[if_neg g];exact aI
theorem CT{fE:Expr->GE}(h:∀e,JE X e (fE e))(x name:Str)(e:Expr)(p apos cpos:Pos):JE X (.Call (.Attribute (.Name x p) name apos) [e] [] cpos) (CI fE (.Name x p) name e apos cpos):=by
 unfold CI
 by_cases g:plain e=true/\(apos.endLine == cpos.line)=true
 ·rw[if_pos g]
  by_cases n1:name="append"
  ·rw[if_pos n1]
   subst n1
   exact wW Bu PySem.F.slot_list_append PySem.F.type_list_append (h _) (h e) (ax g.1) g.2
  rw[if_neg n1]
  by_cases n2:name="extend"
  ·rw[if_pos n2]
   subst n2
   exact wW FI PySem.F.slot_list_extend PySem.F.type_list_extend (h _) (h e) (ax g.1) g.2
  rw[if_neg n2]
  exact aI
 ·rw[if_neg g];exact aI
theorem CU{c:Ct}{k:Nat}(G:Good c k X){fE:Expr->GE}(h:∀e,JE X e (fE e))(x y:Str)(e:Expr)(p p2 q2 pos:Pos):JE X (.Call (.Name x p) [.Call (.Name y p2) [e] [] q2] [] pos) (CP c fE x y e p2 q2):=by
 unfold CP
 by_cases g:x="len"/\y="set"/\plain e=true/\c.names.lookup x=some .globalImplicit/\c.names.lookup y=some .globalImplicit/\c.bl.contains x=true/\c.bl.contains y=true/\c.free=true
 ·rw[if_pos g]
  obtain⟨rfl,rfl,g3,g4,g5,g6,g7,g8⟩:=g
  exact F4 (G.free g8).2 (by show X.env.scope.names.lookup _=_;rw[G.sc];exact g4) (G.bl _ g6) (by show X.env.scope.names.lookup _=_;rw[G.sc];exact g5) (G.bl _ g7) (cu h [e] (by simp[g3])) (ax g3)
 ·rw[if_neg g];exact qy G h _ _ _ _ _
theorem CV{c:Ct}{k:Nat}(G:Good c k X){fE:Expr->GE}(h:∀e,JE X e (fE e))(f:Expr)(as:List Expr)(ks:List Keyword)(pos:Pos):JE X (.Call f as ks pos) (CQ c fE pos f as ks):=by
 unfold CQ
 split
 ·exact CU G h _ _ _ _ _ _ _
 ·exact qy G h _ _ _ _ _
 ·rename_i x p name apos e
  by_cases gg:name="get"
  ·rw[if_pos gg];subst gg;exact CO G h _ _ _ _ _
  rw[if_neg gg]
  by_cases g:name="append"\/name="extend"
  ·rw[if_pos g];exact CT h _ _ _ _ _ _
  ·rw[if_neg g]
   exact mv h _ _ _ _ _ _
 ·rename_i x p name apos e f
  by_cases g:name="get"
  ·rw[if_pos g]
   subst g
   cases ed:lB c x with
   | none=>exact CK G h _ rfl _ _ _ _
   | some kvs=>
    dsimp only
    by_cases g:plain e=true/\plain f=true/\(apos.endLine == pos.line)=true
    ·rw[if_pos g]
     obtain⟨g1,g2,g3⟩:=g
     obtain⟨q1,q2,q3⟩:=jM G ed
     refine BY (h e) (h f) ⟨rfl,?_,g3,?_⟩ q1 q2 q3
     ·rw[all_plain (es:=[e,f]) (by simp[g1,g2])]
      rfl
     ·rw[ax g1,ax g2]
      rfl
    ·rw[if_neg g];exact aI
  ·rw[if_neg g]
   by_cases g2:name="pop"
   ·rw[if_pos g2];subst g2;exact CM G h _ _ _ _ _ _
   ·rw[if_neg g2];exact mv h _ _ _ _ _ _
 ·exact mv h _ _ _ _ _ _
 ·exact aI
def F8:Expr->Bool
 | .Slice .. =>true
 | _=>false
def CW(f:Expr->GE):Option Expr->GO
 | none=>ei
 | some e=>dm (f e)
theorem xB{f:Expr->GE}(h:∀e,JE X e (f e))(o:Option Expr):JO X o (CW f o):=by
 cases o with
 | none=>exact ER
 | some e=>exact ES (h e)
def F9(f:Expr->GE)(a:Expr):Expr->GE
 | .Slice lo hi none _=>bT (f a) (CW f lo) (CW f hi)
 | .Slice .. =>bL
 | b=>aj bu (f a) (f b)
theorem CY{f:Expr->GE}(h:∀e,JE X e (f e))(a b:Expr)(pos:Pos):JE X (.Subscript a b pos) (F9 f a b):=by
 unfold F9
 split
 ·exact yJ (h a) (xB h _) (xB h _)
 ·exact aI
 ·rename_i n1 n2
  refine NB (h a) (h b) ?_
  intro o i
  cases b<;>first | rfl | (rename_i lo hi st p;exact(n2 _ _ _ _ rfl).elim)
def CZ(f:Expr->GE)(a:Expr):List CmpOp->List Expr->GE
 | [o],[b]=>if X' o b=false then aj (vK o) (f a) (f b) else bL
 | [o,o'],[b,b']=>if lastMarks [o,o'] [b,b']=false then iQ (vK o) (vK o') (f a) (f b) (f b') else bL
 | _,_=>bL
theorem vL(hu:X.A.units+64 < cLine){f:Expr->GE}(h:∀e,JE X e (f e))(a:Expr)(os:List CmpOp)(bs:List Expr)(pos:Pos):JE X (.Compare a os bs pos) (CZ f a os bs):=by
 unfold CZ
 split
 ·rename_i o b
  by_cases g:X' o b=false
  ·rw[if_pos g];exact ve (jL hu o) (h a) (h b) g
  ·rw[if_neg g];exact aI
 ·rename_i o o' b b'
  by_cases g:lastMarks [o,o'] [b,b']=false
  ·rw[if_pos g];exact AS (jL hu o) (jL hu o') (h a) (h b) (h b') g
  ·rw[if_neg g];exact aI
 ·exact aI
def C0(f:Expr->GE)(a:Expr):List CmpOp->List Expr->GT
 | [o],[b]=>if X' o b=false then cn (aj (vK o) (f a) (f b)) else iz
 | [o,o'],[b,b']=>if lastMarks [o,o'] [b,b']=false then cn (iQ (vK o) (vK o') (f a) (f b) (f b')) else iz
 | _,_=>iz
theorem rX(hu:X.A.units+64 < cLine){f:Expr->GE}(h:∀e,JE X e (f e))(a:Expr)(os:List CmpOp)(bs:List Expr)(pos:Pos):JT X (.Compare a os bs pos) (C0 f a os bs):=by
 unfold C0
 split
 ·rename_i o b
  by_cases g:X' o b=false
  ·rw[if_pos g];exact rj (jL hu o) (h a) (h b) g
  ·rw[if_neg g];exact hG
 ·rename_i o o' b b'
  by_cases g:lastMarks [o,o'] [b,b']=false
  ·rw[if_pos g];exact AU (jL hu o) (jL hu o') (h a) (h b) (h b') g
  ·rw[if_neg g];exact hG
 ·exact hG
def Lf(c:Ct)(f:Expr->GE)(a:Expr):List CmpOp->List Expr->GE
 | [.In],[.Name x p]=>(match lB c x with | some kvs=>lh false kvs (f a) | none=>if c.DY.contains x=true then(if X' .In (.Name x p)=false then aj (iZ false) (f a) (f (.Name x p)) else bL) else CZ f a [.In] [.Name x p])
 | [.NotIn],[.Name x p]=>(match lB c x with | some kvs=>lh true kvs (f a) | none=>if c.DY.contains x=true then(if X' .NotIn (.Name x p)=false then aj (iZ true) (f a) (f (.Name x p)) else bL) else CZ f a [.NotIn] [.Name x p])
 | os,bs=>CZ f a os bs
theorem F_{c:Ct}{k:Nat}(G:Good c k X){f:Expr->GE}(h:∀e,JE X e (f e))(a:Expr)(os:List CmpOp)(bs:List Expr)(pos:Pos):JE X (.Compare a os bs pos) (Lf c f a os bs):=by
 unfold Lf
 split
 ·rename_i x p
  cases e:lB c x with
  | none=>
   dsimp only
   by_cases gd:c.DY.contains x=true
   ·rw[if_pos gd]
    by_cases gm:X' .In (.Name x p)=false
    ·rw[if_pos gm];exact ve (Ca G.un) (h a) (h _) gm
    ·rw[if_neg gm];exact aI
   ·rw[if_neg gd];exact vL G.un h a _ _ pos
  | some kvs=>obtain⟨g1,g2,g3⟩:=jM G e;exact Fn (h a) g1 g2 g3
 ·rename_i x p
  cases e:lB c x with
  | none=>
   dsimp only
   by_cases gd:c.DY.contains x=true
   ·rw[if_pos gd]
    by_cases gm:X' .NotIn (.Name x p)=false
    ·rw[if_pos gm];exact ve (qr G.un) (h a) (h _) gm
    ·rw[if_neg gm];exact aI
   ·rw[if_neg gd];exact vL G.un h a _ _ pos
  | some kvs=>obtain⟨g1,g2,g3⟩:=jM G e;exact vt (h a) g1 g2 g3
 ·exact vL G.un h a _ _ pos
def xC(c:Ct)(f:Expr->GE)(a:Expr):List CmpOp->List Expr->GT
 | [.In],[.Name x p]=>(match lB c x with | some kvs=>cn (lh false kvs (f a)) | none=>if c.DY.contains x=true then(if X' .In (.Name x p)=false then cn (aj (iZ false) (f a) (f (.Name x p))) else iz) else C0 f a [.In] [.Name x p])
 | [.NotIn],[.Name x p]=>(match lB c x with | some kvs=>cn (lh true kvs (f a)) | none=>if c.DY.contains x=true then(if X' .NotIn (.Name x p)=false then cn (aj (iZ true) (f a) (f (.Name x p))) else iz) else C0 f a [.NotIn] [.Name x p])
 | os,bs=>C0 f a os bs
theorem ug{c:Ct}{k:Nat}(G:Good c k X){f:Expr->GE}(h:∀e,JE X e (f e))(a:Expr)(os:List CmpOp)(bs:List Expr)(pos:Pos):JT X (.Compare a os bs pos) (xC c f a os bs):=by
 unfold xC
 split
 ·rename_i x p
  cases e:lB c x with
  | none=>
   dsimp only
   by_cases gd:c.DY.contains x=true
   ·rw[if_pos gd]
    by_cases gm:X' .In (.Name x p)=false
    ·rw[if_pos gm];exact rj (Ca G.un) (h a) (h _) gm
    ·rw[if_neg gm];exact hG
   ·rw[if_neg gd];exact rX G.un h a _ _ pos
  | some kvs=>obtain⟨g1,g2,g3⟩:=jM G e;exact Fo (h a) g1 g2 g3
 ·rename_i x p
  cases e:lB c x with
  | none=>
   dsimp only
   by_cases gd:c.DY.contains x=true
   ·rw[if_pos gd]
    by_cases gm:X' .NotIn (.Name x p)=false
    ·rw[if_pos gm];exact rj (qr G.un) (h a) (h _) gm
    ·rw[if_neg gm];exact hG
   ·rw[if_neg gd];exact rX G.un h a _ _ pos
  | some kvs=>obtain⟨g1,g2,g3⟩:=jM G e;exact vw (h a) g1 g2 g3
 ·exact rX G.un h a _ _ pos
def Oq(c:Ct):Expr->Bool
 | .Tuple [.Name x _,_] _ _=>c.ud.contains x
 | _=>false
def C2(c:Ct)(f:Expr->GE)(a:Expr)(os:List CmpOp)(bs:List Expr):GT:=if Oq c a=true then(match os,bs with
 | [.NotEq],[b]=>if X' .NotEq b=false then cn (aj y6 (f a) (f b)) else iz
 | os,bs=>xC c f a os bs) else xC c f a os bs
theorem C3{c:Ct}{k:Nat}(G:Good c k X){f:Expr->GE}(h:∀e,JE X e (f e))(a:Expr)(os:List CmpOp)(bs:List Expr)(pos:Pos):JT X (.Compare a os bs pos) (C2 c f a os bs):=by
 unfold C2
 by_cases g:Oq c a=true
 ·rw[if_pos g]
  split
  ·rename_i b
   by_cases gm:X' .NotEq b=false
   ·rw[if_pos gm];exact rj (K9 G.un) (h a) (h b) gm
   ·rw[if_neg gm];exact hG
  ·exact ug G h a _ _ pos
 ·rw[if_neg g];exact ug G h a os bs pos
def Ot(c:Ct):Expr->Bool
 | .Name x _=>c.ud.contains x||c.V6.contains x
 | _=>false
def Lg(c:Ct)(f:Expr->GE):Expr->Expr->GE
 | .Name x p,b=>(match lB c x with | some kvs=>if F8 b=false then Hq kvs (f b) else bL | none=>F9 f (.Name x p) b)
 | a,b=>F9 f a b
theorem F'{c:Ct}{k:Nat}(G:Good c k X){f:Expr->GE}(h:∀e,JE X e (f e))(a b:Expr)(pos:Pos):JE X (.Subscript a b pos) (Lg c f a b):=by
 unfold Lg
 split
 ·rename_i x p
  cases e:lB c x with
  | none=>
   dsimp only
   exact CY h _ b pos
  | some kvs=>
   dsimp only
   by_cases g:F8 b=false
   ·rw[if_pos g]
    obtain⟨g1,g2,g3⟩:=jM G e
    refine Fq (h b) ?_ g1 g2 g3
    intro o i
    cases b<;>first | rfl | cases g
   ·rw[if_neg g];exact aI
 ·exact CY h _ b pos
def pairsOf(f:Expr->GE):List (Option Expr)->List Expr->Option (List (GE×GE))
 | [],[]=>some []
 | some k::ks,v::vs=>(match pairsOf f ks vs with | some r=>some ((f k,f v)::r) | none=>none)
 | _,_=>none
def Ou:List (Option Expr)->Bool
 | some (.Tuple ..)::_=>true
 | _=>false
def Ov(c:Ct):List (Option Expr)->Bool
 | some (.Name x _)::_=>c.ud.contains x
 | _=>false
def C4(b:Bool)(f:Expr->GE)(ks:List (Option Expr))(vs:List Expr):GE:=if(!ks.isEmpty&&decide (ks.length<=15))=true then(match pairsOf f ks vs with | some gs=>if b=true then bL else bL | none=>bL) else bL
theorem xD(hu:X.A.units+1 < cLine)(b:Bool){f:Expr->GE}(h:∀e,JE X e (f e))(ks:List (Option Expr))(vs:List Expr)(pos:Pos):JE X (.Dict ks vs pos) (C4 b f ks vs):=by
 unfold C4
 by_cases g:(!ks.isEmpty&&decide (ks.length<=15))=true
 ·rw[if_pos g]
  simp only[cz,decide_eq_true_eq] at g
  cases e:pairsOf f ks vs with
  | none=>exact aI
  | some gs=>
   dsimp only
   by_cases t:b=true
   ·rw[if_pos t];exact aI
   ·rw[if_neg t];exact aI
 ·rw[if_neg g];exact aI
def Lh(f:Expr->GE):List Expr->GE
 | []=>bL
 | [a]=>f a
 | a::b::r=>iR (f a) (Lh f (b::r))
def Rr(f:Expr->GE):List Expr->GE
 | []=>bL
 | [a]=>f a
 | a::b::r=>Nh (f a) (Rr f (b::r))
theorem xE{f:Expr->GE}(h:∀e,JE X e (f e))(pos:Pos):∀es,JE X (.BoolOp .And es pos) (Lh f es)
 | []=>aI
 | [a]=>AX (h a)
 | a::b::r=>JD (h a) (xE h pos (b::r))
theorem C5{f:Expr->GE}(h:∀e,JE X e (f e))(pos:Pos):∀es,JE X (.BoolOp .Or es pos) (Rr f es)
 | []=>aI
 | [a]=>AX (h a)
 | a::b::r=>Ni (h a) (C5 h pos (b::r))
def Li(f:Expr->GT):List Expr->GT
 | []=>iz
 | [a]=>f a
 | a::b::r=>AV (f a) (Li f (b::r))
def Rt(f:Expr->GT):List Expr->GT
 | []=>iz
 | [a]=>f a
 | a::b::r=>AW (f a) (Rt f (b::r))
theorem C6{e:Expr}:JW X e iz:=λρ st σ H m Q S R p=>aa p
theorem xF{f:Expr->GT}(h:∀e,JT X e (f e))(pos:Pos):∀es,JW X (.BoolOp .And es pos) (Li f es)
 | []=>C6
 | [a]=>EG (h a)
 | a::b::r=>JB (h a) (xF h pos (b::r))
theorem C7{f:Expr->GT}(h:∀e,JT X e (f e))(pos:Pos):∀es,JW X (.BoolOp .Or es pos) (Rt f es)
 | []=>C6
 | [a]=>Jz (h a)
 | a::b::r=>Ng (h a) (C7 h pos (b::r))
def V7(f:Expr->GE):UnaryOp->Expr->GE
 | .USub,a=>Jx n8 (f a)
 | .Not,a=>Ha (f a)
 | _,_=>bL
def zj(f:Expr->GE)(g:GA->GE)(es:List Expr):GE:=if es.all plain=true then g (fu f es) else bL
def isSet:Expr->Bool
 | .Set .. =>true
 | _=>false
theorem fg{e:Expr}{env:Env}(h:isSet e=false)(x:X9):Yf e env x=pure x:=by
 cases e<;>first | rfl | cases h
def cx(c:Ct)(x:Str):Bool:=decide (x="range")&&decide (c.names.lookup x=some .globalImplicit)&&c.bl.contains x&&(match c.fns.lookup x with | some _=>false | none=>true)
theorem lC{c:Ct}{k:Nat}(G:Good c k X)(y:Str)(hy:cx c y=true):y="range"/\Gl X y/\X.mg y=none:=by
 unfold cx at hy
 simp only[cz,decide_eq_true_eq] at hy
 refine⟨hy.1.1.1,?_,G.bl y hy.1.2⟩
 show X.env.scope.names.lookup y=_
 rw[G.sc];exact hy.1.1.2
def xG(c:Ct)(f:Expr->GE):Expr->GI
 | .Call (.Name x p) [a] [] q=>if cx c x=true then(if plain a=true then Ff (fu f [a]) else tN) else di (f (.Call (.Name x p) [a] [] q))
 | .Call (.Name x p) [a,b] [] q=>if cx c x=true then(if plain a=true/\plain b=true then BD (fu f [a,b]) else tN) else di (f (.Call (.Name x p) [a,b] [] q))
 | .Call (.Name x p) [a,b,d] [] q=>if cx c x=true then(if[a,b,d].all plain=true then Cw (fu f [a,b,d]) else tN) else di (f (.Call (.Name x p) [a,b,d] [] q))
 | e=>if isSet e=false then di (f e) else tN
theorem rY{c:Ct}{k:Nat}(G:Good c k X){f:Expr->GE}(h:∀e,JE X e (f e))(tg e:Expr):JI X tg e (xG c f e):=by
 unfold xG
 split
 ·rename_i y p a q
  by_cases g:cx c y=true
  ·rw[if_pos g]
   obtain⟨rfl,g2,g3⟩:=lC G y g
   by_cases ga:plain a=true
   ·rw[if_pos ga]
    exact NQ g2 g3 (cu h [a] (by simp[ga])) (ax ga)
   ·rw[if_neg ga];exact rG
  ·rw[if_neg g];exact nz (h _)
 ·rename_i y p a b q
  by_cases g:cx c y=true
  ·rw[if_pos g]
   obtain⟨rfl,g2,g3⟩:=lC G y g
   by_cases ga:plain a=true/\plain b=true
   ·rw[if_pos ga]
    exact NR g2 g3 (cu h [a,b] (by simp[ga])) (by rw[ax ga.1,ax ga.2];rfl) (by rw[ax ga.2];rfl)
   ·rw[if_neg ga];exact rG
  ·rw[if_neg g];exact nz (h _)
 ·rename_i y p a b d q
  by_cases g:cx c y=true
  ·rw[if_pos g]
   obtain⟨rfl,g2,g3⟩:=lC G y g
   by_cases ga:[a,b,d].all plain=true
   ·rw[if_pos ga]
    have gp:plain a=true/\[b,d].all plain=true:=by rw[cg,cz] at ga;exact ga
    exact Of g2 g3 (cu h [a,b,d] ga) (ax gp.1) (cK gp.2)
   ·rw[if_neg ga];exact rG
  ·rw[if_neg g];exact nz (h _)
 ·by_cases g:isSet e=false
  ·rw[if_pos g];exact nz (h _)
  ·rw[if_neg g];exact rG
def Ru(c:Ct)(x:Str):Bool:=decide (x="enumerate")&&decide (c.names.lookup x=some .globalImplicit)&&c.bl.contains x&&(match c.fns.lookup x with | some _=>false | none=>true)
def Rv(gi:GI):KA:=λρ st=>(gi ρ st).bind λw st1=> .ok (w.1.map λl=>(l,w.2),w.2) st1
def C8(c:Ct)(x:Str):Bool:=decide (x="zip")&&decide (c.names.lookup x=some .globalImplicit)&&c.bl.contains x
theorem HA{c:Ct}{k:Nat}(G:Good c k X)(x:Str)(h:C8 c x=true):x="zip"/\Gl X "zip"/\X.mg "zip"=none:=by
 unfold C8 at h
 simp only[cz,decide_eq_true_eq] at h
 obtain⟨⟨rfl,h2⟩,h3⟩:=h
 exact⟨rfl,by show X.env.scope.names.lookup _=_;rw[G.sc];exact h2,G.bl _ h3⟩
def vM(c:Ct)(f:Expr->GE):Expr->KA
 | .Call (.Name x p) [a,b,d] [] q=>if C8 c x=true/\[a,b,d].all plain=true then Hx (fu f [a,b,d]) else BW
 | e=>Rv (xG c f e)
theorem C9{c:Ct}{k:Nat}(G:Good c k X){f:Expr->GE}(h:∀e,JE X e (f e))(es:List Expr)(kt:Nat)(pt:Pos)(e:Expr):N2 X (.Tuple es kt pt) e (vM c f e):=by
 unfold vM
 split
 ·rename_i y p a b d q
  by_cases g:C8 c y=true/\[a,b,d].all plain=true
  ·rw[if_pos g]
   obtain⟨g1,g2⟩:=g
   obtain⟨rfl,g3,g4⟩:=HA G y g1
   have gp:plain a=true/\[b,d].all plain=true:=by rw[cg,cz] at g2;exact g2
   exact FG g3 g4 (cu h [a,b,d] g2) (ax gp.1) (cK gp.2)
  ·rw[if_neg g];exact Fz
 ·exact KC (rY G h _ _)
def HB(c:Ct):Expr->Bool
 | .Call (.Name x _) [_] [] _=>Ru c x
 | _=>false
def mK(c:Ct):List (Str×X6)->Option eK
 | []=>some []
 | (n,.free)::r=>if c.names.lookup n=some .cell\/c.names.lookup n=some .free then(match lA n c.N,mK c r with | some i,some l=>some ((n,i)::l) | _,_=>none) else none
 | _::r=>mK c r
theorem oJ{c:Ct}:∀{ns:List (Str×X6)}{cs:eK},mK c ns=some cs->(∀y∈ns,y.2= .free->c.names.lookup y.1=some .cell\/c.names.lookup y.1=some .free)/\∀p∈cs,(p.1,df)∈ns/\c.N[p.2]? =some p.1
 | [],cs,h=>by cases h;exact⟨(λ_ z=>by cases z),(λ_ z=>by cases z)⟩
 | (n,k)::r,cs,h=>by
  unfold mK at h
  split at h
  ·cases ‹_::_=[]›
  ·rename_i n' r' he
   cases he
   by_cases g:c.names.lookup n=some .cell\/c.names.lookup n=some .free
   ·rw[if_pos g] at h
    cases e1:lA n c.N with
    | none=>rw[e1] at h;cases h
    | some i=>
     cases e2:mK c r with
     | none=>rw[e1,e2] at h;cases h
     | some l=>
      rw[e1,e2] at h
      cases h
      obtain⟨q1,q2⟩:=oJ e2
      refine⟨λy hy e=>?_,λp hp=>?_⟩
      ·rcases List.mem_cons.mp hy with z | z
       ·subst z;exact g
       ·exact q1 y z e
      ·rcases List.mem_cons.mp hp with z | z
       ·subst z;exact⟨bF,fq e1⟩
       ·exact⟨aU _ (q2 p z).1,(q2 p z).2⟩
   ·rw[if_neg g] at h;cases h
  ·rename_i kk r' hk he
   cases he
   obtain⟨q1,q2⟩:=oJ h
   refine⟨λy hy e=>?_,λp hp=>⟨aU _ (q2 p hp).1,(q2 p hp).2⟩⟩
   rcases List.mem_cons.mp hy with z | z
   ·subst z
    have e':k= .free:=e
    subst e'
    exact(hk n rfl).elim
   ·exact q1 y z e
def vN(c:Ct)(ns:List (Str×X6)):List (Str×X6):=ns.map λ(n,k)=>if(k == .free&&c.names.lookup n == some .cell) then(n,.cell) else(n,k)
def Ow:ScopeKind->Bool
 | .function=>true
 | _=>false
def jN(scope:Scope)(x:Str):Bool:=Ow scope.kind&&scope.names.all (λy=>decide (scope.names.lookup y.1=some y.2))&&scope.names.all (λy=>decide (y.2≠.cell))&&decide (scope.names.lookup x=some .local)
def Ct.block(c:Ct)(scope:Scope)(x:Str)(cs:eK):Ct:={ c with N:=x::cs.map (·.1),names:=vN c scope.names,loop:=false,top:=false }
def uh(c:Ct)(sub:Ct->(Expr->GE)×(Expr->GT))(f:Expr->GE)(elt:Expr)(x:Str)(iter:Expr)(Lj:Ct->GT)(scope:Scope):GE :=
 if jN scope x=true/\c.free=true/\isSet iter=false then(match mK c scope.names with
  | some cs=>if(x::cs.map (·.1)).Nodup then dS cs (xG c f iter) (Lj (c.block scope x cs)) ((sub (c.block scope x cs)).1 elt) else bL
  | none=>bL) else bL
def PD(c:Ct)(sub:Ct->(Expr->GE)×(Expr->GT))(f:Expr->GE)(elt:Expr)(scope:Scope):List Comprehension->GE
 | [⟨.Name x _,iter,[],0⟩]=>uh c sub f elt x iter (λ_=>λ_ st=> .ok true st) scope
 | [⟨.Name x _,iter,[q],0⟩]=>uh c sub f elt x iter (λc'=>(sub c').2 q) scope
 | _=>bL
theorem oK{c:Ct}{k:Nat}(G:Good c k X){scope:Scope}{x:Str}{cs:eK}(hs:jN scope x=true)(nd:(x::cs.map (·.1)).Nodup)(C:X3)(s0:X8)(H0:Hp)(fp:List X3)(pn:List (X3×Obj))(E:X9->X8->Prop)(hA:yA X.A H0) :
  Good (c.block scope x cs) k (eW X scope x cs C s0 H0 fp pn E):=by
 unfold jN at hs
 simp only[cz,decide_eq_true_eq] at hs
 have hk:scope.kind= .function:=by
  have:=hs.1.1.1
  revert this
  cases scope.kind<;>intro z<;>first | rfl | cases z
 refine⟨rfl,?_,nd,G.un,G.free,(λz=>by cases z),G.cst,G.bl,G.fns,(λz=>by cases z),(λz=>by cases z),hk,G.tab,G.cls,G.xx,G.zU,⟨G.rm.d,G.rm.u⟩,G.DZ,⟨G.x.lam,G.x.D0,G.x.Mr,(λz=>by cases z)⟩,G.fr,hA⟩
 show(relabel scope X.env).names=vN c scope.names
 unfold relabel vN Env.kindOf
 rw[G.kind,G.sc]
 simp
theorem C_{c:Ct}{k:Nat}(G:Good c k X){scope:Scope}{x:Str}{cs:eK}(hs:jN scope x=true)(hcs:mK c scope.names=some cs)(nd:(x::cs.map (·.1)).Nodup):dG X scope x cs:=by
 unfold jN at hs
 simp only[cz,decide_eq_true_eq,Dd] at hs
 obtain⟨⟨⟨h1,h2⟩,h3⟩,h4⟩:=hs
 have hk:scope.kind= .function:=by
  revert h1
  cases scope.kind<;>intro z<;>first | rfl | cases z
 obtain⟨q1,q2⟩:=oJ hcs
 refine⟨hk,h2,h3,h4,λy hy e=>?_,λp hp=>⟨by rw[G.N];exact(q2 p hp).2,h2 _ (q2 p hp).1⟩,nd⟩
 show X.env.scope.names.lookup y.1=_\/X.env.scope.names.lookup y.1=_
 rw[G.sc];exact q1 y hy e
def Lk(X:Cx)(e:Expr)(g:GE):Prop:=∀(i:Nat)(y:Str)(py spos:Pos),X.N.Nodup->X.N[i]? =some y->Loc X.env.scope y->(X.fn y=true\/X.env.scope.names.lookup y=some .local)->JS X (.Assign [.Name y py] e spos) (bf i g)
theorem zk{i:Nat}{s:Stmt}:JS X s (bf i bL):=λρ st σ H m D S R p=>aa p
theorem fN{e:Expr}:Lk X e bL:=λi y py spos _ _ _ _=>zk
theorem xH{c:Ct}{k:Nat}(G:Good c k X){sub:Ct->(Expr->GE)×(Expr->GT)}(hb:∀c X,Good c k X->(∀e,JE X e ((sub c).1 e))/\∀e,JT X e ((sub c).2 e)){f:Expr->GE}(h:∀e,JE X e (f e))(elt:Expr)(scope:Scope)(gens:List Comprehension)(pos:Pos) :
  JE X (.ListComp elt gens scope pos) (PD c sub f elt scope gens)/\Lk X (.ListComp elt gens scope pos) (PD c sub f elt scope gens):=by
 have core:∀(x:Str)(px:Pos)(iter:Expr)(ifs:List Expr)(Lj:Ct->GT),(∀c X,Good c k X->Hn X ifs (Lj c))->
   JE X (.ListComp elt [⟨.Name x px,iter,ifs,0⟩] scope pos) (uh c sub f elt x iter Lj scope)/\Lk X (.ListComp elt [⟨.Name x px,iter,ifs,0⟩] scope pos) (uh c sub f elt x iter Lj scope):=by
  intro x px iter ifs Lj hg
  unfold uh
  by_cases g:jN scope x=true/\c.free=true/\isSet iter=false
  ·rw[if_pos g]
   obtain⟨g1,g2,g3⟩:=g
   cases ec:mK c scope.names with
   | none=>exact⟨aI,fN⟩
   | some cs=>
    dsimp only
    by_cases nd:(x::cs.map (·.1)).Nodup
    ·rw[if_pos nd]
     have CS:=C_ G g1 ec nd
     have hE:∀C s0 H0 fp pn E,yA X.A H0->JE (eW X scope x cs C s0 H0 fp pn E) elt ((sub (c.block scope x cs)).1 elt):=λC s0 H0 fp pn E z=>(hb _ _ (oK G g1 nd C s0 H0 fp pn E z)).1 elt
     have hT:∀C s0 H0 fp pn E,yA X.A H0->Hn (eW X scope x cs C s0 H0 fp pn E) ifs (Lj (c.block scope x cs)):=λC s0 H0 fp pn E z=>hg _ _ (oK G g1 nd C s0 H0 fp pn E z)
     exact⟨w6 G.fr CS (tM (G.free g2).2) G.hd (rY G h _ iter).y hE hT (fg g3),λi y py spos hN hi hl hf=>Fg i hN G.fr CS (tM (G.free g2).2) G.hd (rY G h _ iter).y hE hT (fg g3) hi hl hf⟩
    ·rw[if_neg nd];exact⟨aI,fN⟩
  ·rw[if_neg g];exact⟨aI,fN⟩
 unfold PD
 split
 ·exact core _ _ _ _ _ λ_ _ _=>Fd
 ·exact core _ _ _ _ _ λc X G'=>Fe ((hb c X G').2 _)
 ·exact⟨aI,fN⟩
def De(c:Ct)(sub:Ct->(Expr->GE)×(Expr->GT))(f:Expr->GE)(t:Expr->GT):Expr->GE
 | .Name x _=>CF c x
 | .Constant k _ _=>CH k
 | .BinOp a o b _=>aj (Oo o) (f a) (f b)
 | .UnaryOp o a _=>V7 f o a
 | .BoolOp .And es _=>Lh f es
 | .BoolOp .Or es _=>Rr f es
 | .Compare a os bs _=>Lf c f a os bs
 | .IfExp q a b _=>Nj (t q) (f a) (f b)
 | .Tuple es _ _=>zj f cH es
 | .List es _=>zj f dX es
 | .Subscript a b _=>Lg c f a b
 | .Dict [] [] _=>Hr
 | .Dict ks vs _=>C4 (Ou ks||Ov c ks) f ks vs
 | .Call g as ks p=>CQ c f p g as ks
 | .ListComp elt gens scope _=>PD c sub f elt scope gens
 | _=>bL
def stepT(c:Ct)(f:Expr->GE)(t:Expr->GT):Expr->GT
 | .UnaryOp .Not a _=>kW (t a)
 | .BoolOp .And es _=>Li t es
 | .BoolOp .Or es _=>Rt t es
 | .Compare a os bs _=>C2 c f a os bs
 | .Name x p=>eR (f (.Name x p))
 | .Call g as ks p=>eR (f (.Call g as ks p))
 | .Subscript a b p=>eR (f (.Subscript a b p))
 | .Constant k j p=>eR (f (.Constant k j p))
 | .BinOp a o b p=>eR (f (.BinOp a o b p))
 | _=>iz
theorem ui{c:Ct}{k:Nat}(G:Good c k X){sub:Ct->(Expr->GE)×(Expr->GT)}(hb:∀k c X,Good c k X->(∀e,JE X e ((sub c).1 e))/\∀e,JT X e ((sub c).2 e)){f:Expr->GE}{t:Expr->GT}(h:∀e,JE X e (f e))(ht:∀e,JT X e (t e))(e:Expr):JE X e (De c sub f t e):=by
 have hu:X.A.units+64 < cLine:=G.un
 cases e with
 | Name x p=>exact CG G x p
 | Constant v j p=>exact zg v j p
 | BinOp a o b p=>exact Jw (F7 o) (h a) (h b)
 | UnaryOp o a p=>
  cases o with
  | USub=>exact Jy (h a)
  | Not=>exact JF (h a)
  | _=>exact aI
 | BoolOp o es p=>
  cases o with
  | And=>exact xE h p es
  | Or=>exact C5 h p es
 | Compare a os bs p=>exact F_ G h a os bs p
 | IfExp q a b p=>exact Nk (ht q) (h a) (h b)
 | Tuple es j p=>
  show JE X _ (zj f cH es)
  unfold zj
  by_cases g:es.all plain=true
  ·rw[if_pos g];exact JG (cu h es g)
  ·rw[if_neg g];exact aI
 | List es p=>
  show JE X _ (zj f dX es)
  unfold zj
  by_cases g:es.all plain=true
  ·rw[if_pos g];exact JH (cu h es g)
  ·rw[if_neg g];exact aI
 | Subscript a b p=>exact F' G h a b p
 | Dict ks vs p=>
  cases ks with
  | cons k ks=>exact xD (by have:=G.un;omega) _ h (k::ks) vs p
  | nil=>
   cases vs with
   | nil=>exact Ft
   | cons v vs=>exact xD (by have:=G.un;omega) (Ou []||Ov c []) h [] (v::vs) p
 | Call g as ks p=>exact CV G h g as ks p
 | ListComp elt gens scope p=>exact(xH G (hb k) h elt scope gens p).1
 | _=>exact aI
def uj:Expr->Bool
 | .ListComp .. =>true
 | .SetComp .. =>true
 | .DictComp .. =>true
 | .Set .. =>true
 | _=>false
theorem lD{e:Expr}{t:Option Expr}{n:Nat}{env:Env}(h:uj e=false):swapsWith e t n env=pure false:=by
 cases e<;>first | rfl | cases h
theorem Df{c:Ct}{k:Nat}(G:Good c k X){sub:Ct->(Expr->GE)×(Expr->GT)}(hb:∀k c X,Good c k X->(∀e,JE X e ((sub c).1 e))/\∀e,JT X e ((sub c).2 e)){f:Expr->GE}{t:Expr->GT}(h:∀e,JE X e (f e))(ht:∀e,JT X e (t e))(e:Expr):Lk X e (De c sub f t e):=by
 by_cases g:uj e=false
 ·exact λi y py spos hN hi hl hf=>vi i hN (ui G hb h ht e) hi hl (lD g) hf
 ·cases e with
  | ListComp elt gens scope p=>exact(xH G (hb k) h elt scope gens p).2
  | SetComp=>exact fN
  | DictComp=>exact fN
  | Set=>exact fN
  | _=>exact absurd rfl g
theorem Dg{c:Ct}{k:Nat}(G:Good c k X){f:Expr->GE}{t:Expr->GT}(h:∀e,JE X e (f e))(ht:∀e,JT X e (t e))(e:Expr):JT X e (stepT c f t e):=by
 have hu:X.A.units+64 < cLine:=G.un
 cases e with
 | UnaryOp o a p=>
  cases o with
  | Not=>exact JC (ht a)
  | _=>exact hG
 | BoolOp o es p=>
  cases o with
  | And=>exact(xF ht p es).jt
  | Or=>exact(C7 ht p es).jt
 | Compare a os bs p=>exact C3 G h a os bs p
 | Name x p=>exact n_ (h _) (λ_=>rfl)
 | Call g as ks p=>exact n_ (h _) (λ_=>rfl)
 | Subscript a b p=>exact n_ (h _) (λ_=>rfl)
 | Constant v j p=>exact n_ (h _) (λ_=>rfl)
 | BinOp a o b p=>exact n_ (h _) (λ_=>rfl)
 | _=>exact hG
end
def jW:Nat->Ct->(Expr->GE)×(Expr->GT)
 | 0,_=>(λ_=>bL,λ_=>iz)
 | n+1,c=>(De c (jW n) (jW n c).1 (jW n c).2,stepT c (jW n c).1 (jW n c).2)
section
variable {X:Cx}
theorem cY:∀(n:Nat)(k:Nat)(c:Ct)(X:Cx),Good c k X->(∀e,JE X e ((jW n c).1 e))/\∀e,JT X e ((jW n c).2 e)
 | 0,_,_,_,_=>⟨λ_=>aI,λ_=>hG⟩
 | n+1,k,c,X,G=>⟨λe=>ui G (λk c X G=>cY n k c X G) (cY n k c X G).1 (cY n k c X G).2 e,λe=>Dg G (cY n k c X G).1 (cY n k c X G).2 e⟩
theorem Dh{k:Nat}:∀(n:Nat)(c:Ct)(X:Cx),Good c k X->∀e,Lk X e ((jW n c).1 e)
 | 0,_,_,_,_=>fN
 | n+1,c,X,G,e=>Df G (λk c X G=>cY n k c X G) (cY n k c X G).1 (cY n k c X G).2 e
def slot(c:Ct)(x:Str):Option Nat:=if c.names.lookup x=some .local\/(c.names.lookup x=some .cell/\c.top=true) then lA x c.N else none
def xI(c:Ct)(x:Str):Option Nat:=if c.names.lookup x=some .local then lA x c.N else none
theorem Di{c:Ct}{k:Nat}(G:Good c k X){x:Str}{i:Nat}(h:xI c x=some i):X.N[i]? =some x/\X.env.scope.names.lookup x=some .local:=by
 unfold xI at h
 by_cases e:c.names.lookup x=some .local
 ·rw[if_pos e] at h
  exact⟨by rw[G.N];exact fq h,by rw[G.sc];exact e⟩
 ·rw[if_neg e] at h;cases h
theorem rZ{c:Ct}{k:Nat}(G:Good c k X){x:Str}{i:Nat}(h:slot c x=some i):X.N[i]? =some x/\(Loc X.env.scope x/\(X.fn x=true\/X.env.scope.names.lookup x=some .local)):=by
 unfold slot at h
 by_cases e:c.names.lookup x=some .local\/(c.names.lookup x=some .cell/\c.top=true)
 ·rw[if_pos e] at h
  refine⟨by rw[G.N];exact fq h,?_⟩
  rcases e with e | ⟨e,e2⟩
  ·have q:X.env.scope.names.lookup x=some .local:=by rw[G.sc];exact e
   exact⟨.inl q,.inr q⟩
  ·have q:X.env.scope.names.lookup x=some .cell:=by rw[G.sc];exact e
   exact⟨.inr q,.inl (G.fn e2 x)⟩
 ·rw[if_neg e] at h;cases h
def slots(c:Ct):List Expr->Option (List Nat)
 | []=>some []
 | .Name x _::es=>(match slot c x,slots c es with | some i,some is=>some (i::is) | _,_=>none)
 | _=>none
theorem i7{c:Ct}{k:Nat}(G:Good c k X):∀{es:List Expr}{is:List Nat},slots c es=some is->Slots X es is
 | [],is,h=>by cases h;exact .nil
 | e::es,is,h=>by
  cases e with
  | Name x p=>
   have h:(match slot c x,slots c es with | some i,some is=>some (i::is) | _,_=>none)=some is:=h
   cases e1:slot c x with
   | none=>rw[e1] at h;cases h
   | some i=>
    cases e2:slots c es with
    | none=>rw[e1,e2] at h;cases h
    | some js=>
     rw[e1,e2] at h
     cases h
     obtain⟨q1,q2⟩:=rZ G e1
     exact .cons q1 q2 (i7 G e2)
  | _=>cases h
def Ga:Expr->Bool
 | .Tuple .. =>true
 | _=>false
def Gb(es:List Expr)(v:Expr):Bool:=!Ga v||decide (4<=es.length)
def Ll:Expr->Bool
 | .Dict [] [] _=>true
 | _=>false
theorem zm{es:List Expr}{k:Nat}{p:Pos}{v:Expr}(h:Gb es v=true):swappedStores [.Tuple es k p] v X.env=pure none:=by
 cases v with
 | Tuple vs k2 p2=>
  have h4:4<=es.length:=by simpa [Gb,Ga] using h
  unfold swappedStores
  have:(!(es.length == 2||es.length == 3)||vs.length != es.length||X.env.blockKind != .function)=true:=by
   have h2:(es.length == 2)=false:=by simp;omega
   have h3:(es.length == 3)=false:=by simp;omega
   rw[h2,h3];rfl
  dsimp only
  rw[if_pos this]
 | _=>rfl
def Ln(c:Ct)(f:Expr->GE)(v:Expr):List Expr->GS
 | [.Name x _]=>(match slot c x with | some i=>if Ll v=true/\c.ud.contains x=true then bf i tT else bf i (f v) | none=>bH)
 | [.Subscript o i _]=>if uj v=false/\F8 i=false then(if Ot c o=true then jV (f v) (f o) (f i) else kZ (f v) (f o) (f i)) else bH
 | [.Tuple es _ _]=>if uj v=false/\Gb es v=true/\c.free=true then(match slots c es with | some is=>qc is (f v) | none=>bH) else bH
 | _=>bH
theorem Lp{c:Ct}{k:Nat}(G:Good c k X){f:Expr->GE}(h:∀e,JE X e (f e))(ha:∀e,Lk X e (f e))(v:Expr)(ts:List Expr)(pos:Pos):JS X (.Assign ts v pos) (Ln c f v ts):=by
 unfold Ln
 split
 ·rename_i x p
  cases e:slot c x with
  | none=>exact aZ
  | some i=>
   obtain⟨e1,e2⟩:=rZ G e
   dsimp only
   by_cases g:Ll v=true/\c.ud.contains x=true
   ·rw[if_pos g]
    have gv:=g.1
    unfold Ll at gv
    split at gv
    ·exact vi i (by rw[G.N];exact G.nd) Fs e1 e2.1 rfl e2.2
    ·cases gv
   ·rw[if_neg g];exact ha v i x _ _ (by rw[G.N];exact G.nd) e1 e2.1 e2.2
 ·rename_i o i p
  by_cases g:uj v=false/\F8 i=false
  ·rw[if_pos g]
   have g2:=g.2
   by_cases gd:Ot c o=true
   ·rw[if_pos gd];exact Fw (by have:=G.un;omega) (h v) (h o) (h i) (lD g.1)
   rw[if_neg gd]
   refine EY (h v) (h o) (h i) (by unfold swapsWithSole;exact lD g.1) ?_ rfl ?_
   ·cases v<;>rfl
   ·intro _
    cases i<;>first | rfl | cases g2
  ·rw[if_neg g];exact aZ
 ·rename_i es kk p
  by_cases g:uj v=false/\Gb es v=true/\c.free=true
  ·rw[if_pos g]
   cases e1:slots c es with
   | none=>exact aZ
   | some is=>
    have g2:=g.2.1
    refine E9 (by rw[G.N];exact G.nd) (G.free g.2.2).2 (i7 G e1) (h v) (lD g.1) ?_
    exact zm g2
  ·rw[if_neg g];exact aZ
 ·exact aZ
def Lq(c:Ct)(f:Expr->GE)(i:Nat)(gb:GS):Expr->GS
 | .Call (.Name x p) [a] [] q=>if cx c x=true then(if plain a=true then lW i (fu f [a]) gb else bH) else tG i (f (.Call (.Name x p) [a] [] q)) gb
 | .Call (.Name x p) [a,b] [] q=>if cx c x=true then(if plain a=true/\plain b=true then lX i (fu f [a,b]) gb else bH) else tG i (f (.Call (.Name x p) [a,b] [] q)) gb
 | .Call (.Name x p) [a,b,d] [] q=>if cx c x=true then(if[a,b,d].all plain=true then B9 i (fu f [a,b,d]) gb else bH) else tG i (f (.Call (.Name x p) [a,b,d] [] q)) gb
 | e=>if isSet e=false then tG i (f e) gb else bH
theorem Lr{c:Ct}{k:Nat}(G:Good c k X)(hl:c.loop=true){f:Expr->GE}(h:∀e,JE X e (f e)){x:Str}{i:Nat}(hx:slot c x=some i){body:List Stmt}{gb:GS}(hb:j8 X body gb)(e:Expr)(pos pos':Pos):JS X (.For (.Name x pos') e body [] pos) (Lq c f i gb e):=by
 have nd:X.N.Nodup:=by rw[G.N];exact G.nd
 obtain⟨e1,e2⟩:=rZ G hx
 have rg:=lC G
 unfold Lq
 split
 ·rename_i y p a q
  by_cases g:cx c y=true
  ·rw[if_pos g]
   obtain⟨rfl,g2,g3⟩:=rg y g
   by_cases ga:plain a=true
   ·rw[if_pos ga]
    exact Bk i nd (G.loop hl).2 (G.loop hl).1 g2 g3 (cu h [a] (by simp[ga])) hb e1 e2.1 e2.2 (ax ga)
   ·rw[if_neg ga];exact aZ
  ·rw[if_neg g];exact rB i nd (G.loop hl).2 (G.loop hl).1 (h _) hb e1 e2.1 e2.2 (fg rfl)
 ·rename_i y p a b q
  by_cases g:cx c y=true
  ·rw[if_pos g]
   obtain⟨rfl,g2,g3⟩:=rg y g
   by_cases ga:plain a=true/\plain b=true
   ·rw[if_pos ga]
    exact Bl i nd (G.loop hl).2 (G.loop hl).1 g2 g3 (cu h [a,b] (by simp[ga])) hb e1 e2.1 e2.2 (by rw[ax ga.1,ax ga.2];rfl) (by rw[ax ga.2];rfl)
   ·rw[if_neg ga];exact aZ
  ·rw[if_neg g];exact rB i nd (G.loop hl).2 (G.loop hl).1 (h _) hb e1 e2.1 e2.2 (fg rfl)
 ·rename_i y p a b d q
  by_cases g:cx c y=true
  ·rw[if_pos g]
   obtain⟨rfl,g2,g3⟩:=rg y g
   by_cases ga:[a,b,d].all plain=true
   ·rw[if_pos ga]
    have gp:plain a=true/\[b,d].all plain=true:=by rw[cg,cz] at ga;exact ga
    exact B_ i nd (G.loop hl).2 (G.loop hl).1 g2 g3 (cu h [a,b,d] ga) hb e1 e2.1 e2.2 (ax gp.1) (cK gp.2)
   ·rw[if_neg ga];exact aZ
  ·rw[if_neg g];exact rB i nd (G.loop hl).2 (G.loop hl).1 (h _) hb e1 e2.1 e2.2 (fg rfl)
 ·by_cases g:isSet e=false
  ·rw[if_pos g];exact rB i nd (G.loop hl).2 (G.loop hl).1 (h _) hb e1 e2.1 e2.2 (fg g)
  ·rw[if_neg g];exact aZ
def vO(c:Ct)(f:Expr->GE):Expr->GS
 | .Call (.Name x _) (e::es) [] _=>if okN x=true/\(e::es).all plain=true/\c.names.lookup x=some .globalImplicit/\c.clss.contains x=true/\c.free=true then lY x (fu f (e::es)) else bH
 | _=>bH
theorem Dj{c:Ct}{k:Nat}(G:Good c k X){f:Expr->GE}(h:∀e,JE X e (f e))(e:Expr)(pos:Pos):JS X (.Raise (some e) none pos) (vO c f e):=by
 unfold vO
 split
 ·rename_i x p e es q
  by_cases g:okN x=true/\(e::es).all plain=true/\c.names.lookup x=some .globalImplicit/\c.clss.contains x=true/\c.free=true
  ·rw[if_pos g]
   obtain⟨g1,g2,g3,g4,g5⟩:=g
   have hg:Gl X x:=by
    show X.env.scope.names.lookup x=_
    rw[G.sc];exact g3
   have gp:plain e=true/\es.all plain=true:=by rw[cg,cz] at g2;exact g2
   obtain⟨C,q1,q2⟩:=G.cls x g4
   exact Bm (G.free g5).2 q2 hg q1 (cu h (e::es) g2) (ft g1) (ax gp.1) (cK gp.2)
  ·rw[if_neg g];exact aZ
 ·exact aZ
def Ls(c:Ct)(b:Ct->List Stmt->GS)(body:List Stmt):List ExceptHandler->GS
 | [.ExceptHandler (some (.Name x _)) (some n) (b0::suite) _]=>if okN x=true/\c.names.lookup x=some .globalImplicit/\c.clss.contains x=true/\c.free=true/\c.top=true then
   (match xI c n with
   | some i=>yB (λy=>c.tc.lookup (y,x)) i (b c.Hz body) (b c.xA (b0::suite))
   | none=>bH) else bH
 | _=>bH
theorem Lu{c:Ct}{k:Nat}(G:Good c k X){b:Ct->List Stmt->GS}(hb:∀c X,Good c k X->∀s,j8 X s (b c s))(body:List Stmt)(hs:List ExceptHandler)(pos:Pos):JS X (.Try body hs [] [] pos) (Ls c b body hs):=by
 unfold Ls
 split
 ·rename_i x p n b0 suite q
  by_cases g:okN x=true/\c.names.lookup x=some .globalImplicit/\c.clss.contains x=true/\c.free=true/\c.top=true
  ·rw[if_pos g]
   obtain⟨g1,g3,g4,g5,g6⟩:=g
   have hg:Gl X x:=by
    show X.env.scope.names.lookup x=_
    rw[G.sc];exact g3
   obtain⟨D,q1,q2⟩:=G.cls x g4
   cases e1:xI c n with
   | none=>exact aZ
   | some i=>
    obtain⟨e2,e3⟩:=Di G e1
    exact J_ (G.stk g6) (by rw[G.N];exact G.nd) e2 e3 (G.free g5).2 G.tab hg q1 q2.cls (ft g1) (λpn E=>hb _ _ (G.body g5 pn E) _) λa o u pn E nx=>hb _ _ (G.suite nx pn E) _
  ·rw[if_neg g];exact aZ
 ·exact aZ
def Gd(c:Ct):Expr->Bool
 | .Call (.Name x _) [a,b] [] _=>C8 c x&&[a,b].all plain
 | _=>false
def HC(f:Expr->GE)(is:List Nat)(gb:GS):Expr->GS
 | .Call (.Name _ _) [a,b] [] _=>t_ is (fu f [a,b]) gb
 | _=>bH
theorem Ox{c:Ct}{k:Nat}(G:Good c k X)(gl:c.loop=true){f:Expr->GE}(h:∀e,JE X e (f e)){es:List Expr}{is:List Nat}(e1:slots c es=some is){body:List Stmt}{gb:GS}(hb:j8 X body gb)(e:Expr)(hs:∀x,Yf e X.env x=pure x)(g:Gd c e=true){kk:Nat}{p q:Pos}:JS X (.For (.Tuple es kk p) e body [] q) (HC f is gb e):=by
 unfold Gd at g
 split at g
 ·rename_i x p1 a b cpos
  rw[cz] at g
  obtain⟨g1,g2⟩:=g
  obtain⟨rfl,g3,g4⟩:=HA G x g1
  have gp:plain a=true/\[b].all plain=true:=by rw[cg,cz] at g2;exact g2
  exact FW (by rw[G.N];exact G.nd) (G.loop gl).2 (G.loop gl).1 (i7 G e1) g3 g4 (cu h [a,b] g2) (ax gp.1) (cK gp.2) hb hs
 ·cases g
def Dk(c:Ct)(f:Expr->GE)(t:Expr->GT)(b:Ct->List Stmt->GS):Stmt->GS
 | .Return (some e) _=>cV (f e)
 | .Return none _=>cV (gC .aR)
 | .Expr e _=>if uj e=false then iT (f e) else bH
 | .If q x y _=>kF (t q) (b c x) (b c y)
 | .Assign ts v _=>Ln c f v ts
 | .For (.Name x _) e body [] _=>if c.loop=true then(match slot c x with | some i=>Lq c f i (b c body) e | none=>bH) else bH
 | .For (.Tuple es _ _) e body [] _=>if c.loop=true/\isSet e=false then(match slots c es with | some is=>(if Gd c e=true then HC f is (b c body) e else if HB c e=true then Ht is (vM c f e) (b c body) else Hm is (f e) (b c body)) | none=>bH) else bH
 | .Raise (some e) none _=>vO c f e
 | .Try body hs [] [] _=>Ls c b body hs
 | .Pass _=>bJ
 | _=>bH
theorem Dl{c:Ct}{k:Nat}(G:Good c k X){f:Expr->GE}{t:Expr->GT}{b:Ct->List Stmt->GS}(h:∀e,JE X e (f e))(ha:∀e,Lk X e (f e))(ht:∀e,JT X e (t e))(hb:∀c X,Good c k X->∀s,j8 X s (b c s))(s:Stmt):JS X s (Dk c f t b s):=by
 unfold Dk
 split
 ·exact JV (h _)
 ·exact E5
 ·rename_i e p
  by_cases g:uj e=false
  ·rw[if_pos g];exact EW (h _) (lD g)
  ·rw[if_neg g];exact aZ
 ·exact NC (ht _) (hb c X G _) (hb c X G _)
 ·exact Lp G h ha _ _ _
 ·rename_i x p e body q
  by_cases g:c.loop=true
  ·rw[if_pos g]
   cases e1:slot c x with
   | none=>exact aZ
   | some i=>exact Lr G g h e1 (hb c X G body) e _ _
  ·rw[if_neg g];exact aZ
 ·rename_i es kk p e body q
  by_cases g:c.loop=true/\isSet e=false
  ·rw[if_pos g]
   cases e1:slots c es with
   | none=>exact aZ
   | some is=>
    dsimp only
    by_cases gz:Gd c e=true
    ·rw[if_pos gz];exact Ox G g.1 h e1 (hb c X G body) e (fg g.2) gz
    rw[if_neg gz]
    by_cases ge:HB c e=true
    ·rw[if_pos ge];exact FA (by rw[G.N];exact G.nd) (G.loop g.1).2 (G.loop g.1).1 (i7 G e1) (C9 G h es kk p e) (hb c X G body) (fg g.2)
    ·rw[if_neg ge]
     exact E_ (by rw[G.N];exact G.nd) (G.loop g.1).2 (G.loop g.1).1 (i7 G e1) (h e) (hb c X G body) (fg g.2)
  ·rw[if_neg g];exact aZ
 ·exact Dj G h _ _
 ·exact Lu G hb _ _ _
 ·exact EV
 ·exact aZ
end
def vP(f:Stmt->GS):List Stmt->GS
 | []=>bJ
 | [s]=>f s
 | s::s'::r=>aK (f s) (vP f (s'::r))
theorem uk{X:Cx}{f:Stmt->GS}(h:∀s,JS X s (f s)):∀ss,j8 X ss (vP f ss)
 | []=>ET
 | [s]=>EU (h s)
 | s::s'::r=>A8 (h s) (uk h (s'::r))
def cA:Nat->Ct->List Stmt->GS
 | 0,_=>λ_=>bH
 | n+1,c=>vP (Dk c (jW 40 c).1 (jW 40 c).2 (cA n))
theorem oM{k:Nat}:∀(n:Nat)(c:Ct)(X:Cx),Good c k X->∀ss:List Stmt,j8 X ss (cA n c ss)
 | 0,_,_,_,_=>yu
 | n+1,c,X,G,ss=>uk (λs=>Dl G (cY 40 k c X G).1 (Dh 40 c X G) (cY 40 k c X G).2 (oM n) s) ss
structure Ge(K:PySem.W.Frag)(mg:Str->Option X9)(q:Str)(P:X3):Prop where
 tab:gZ K q=some P
 code:∃c o vs file tf flags tg Rw text tt,PySem.W.tabIn K q=some (c,P)/\K.lookup c=some o/\o.cls= .type "code"/\o.data= .fields vs/\vs[11]? =some (.ref P)/\vs.getD 11 .none= .ref P/\vs.getD 18 .none= .str file tf/\
  vs.getD 7 .none= .int flags tg/\vs.getD 9 .none= .bool Rw/\vs.getD 10 .none= .int text tt/\c≠P
 mem:q∈de
 uniq:∀q',q'∈de->gZ K q'=some P->q'=q
theorem Ge.at'{X:Cx}{q:Str}{P f:X3}{cdv:X9}(h:Ge X.K X.mg q P)(M:B1 X.K X.mg X.base)(hn:PySem.W.nsIn X.K Yh q=some (some (.ref f)))(hc:Bb X.K f cdv)(e1:X.env.code=cdv)(e2:X.env.qual=q++".<locals>."):Hu X q P:=by
 obtain⟨c,o,vs,file,tf,flags,tg,Rw,text,tt,t,l,r⟩:=h.code
 refine⟨⟨c,?_,o,vs,file,tf,flags,tg,Rw,text,tt,M.1.Mw _ _ l,r⟩,e2,h.tab,h.mem,h.uniq,M.2⟩
 ·obtain⟨of,lf,fd,d,cd⟩:=hc
  rw[e1,<-cd]
  unfold PySem.W.tabIn at t
  rw[hn] at t
  dsimp only at t
  rw[lf] at t
  obtain⟨oc,od,da,sl⟩:=of
  dsimp only at d
  subst d
  dsimp only at t
  cases q1:fd.code with
  | ref c2=>
   rw[q1] at t
   dsimp only at t
   split at t
   ·split at t
    ·cases t;rfl
    ·cases t
   ·cases t
  | _=>rw[q1] at t;cases t
structure Dm(c:Ct)(k:Nat)(P:X7)(w:X_)(K:PySem.W.Frag)(mg:Str->Option X9)(base:Heap):Prop where
 lam:∀p L,c.lam=some (p,L)->KD P w K mg base k p 3 L
 D0:∀x F,c.D0.lookup x=some F->TY P w K mg k c.lj x F
 Mr:∀x n F,c.fns.lookup x=some (n,F)->c.Rq.contains x=true->∀base,B1 K mg base->lP P w K mg base c.lj x n F
 at':c.self∈de->∃P,Ge K mg c.self P
theorem Dm.no{c:Ct}{k:Nat}{P:X7}{w:X_}{K:PySem.W.Frag}{mg:Str->Option X9}{base:Heap}(h1:c.lam=none)(h2:c.D0=[])(h3:c.Rq=[])(h4:c.self=""):Dm c k P w K mg base :=
 ⟨(λp L e=>by rw[h1] at e;cases e),(λx F e=>by rw[h2] at e;cases e),(λx n F _ e=>by rw[h3] at e;cases e),(λe=>by rw[h4] at e;exact absurd e (by decide))⟩
structure Dp(c:Ct)(k:Nat)(P:X7)(w:X_)(K:PySem.W.Frag)(mg:Str->Option X9)(base:Heap):Prop where
 cst:∀x w,c.consts.lookup x=some w->CC K mg x w
 bl:∀x,c.bl.contains x=true->mg x=none
 fns:∀x n F,c.fns.lookup x=some (n,F)->lP P w K mg base k x n F
 tab:TabOk K c.tb c.tt c.tc
 cls:∀x,c.clss.contains x=true->∃C,mg x=some (.ref C)/\E6 K x C
 xx:∀x,c.xx.contains x=true->∃C,mg x=some (.ref C)/\ClsAt K x C
 zU:∀x kvs,c.zU.lookup x=some kvs->mf K w mg x kvs
 DZ:∀x n F,c.DZ.contains x=true->c.fns.lookup x=some (n,F)->Ky P w K mg base k x n F
 x:Dm c k P w K mg base
theorem bK{P:X7}{w:X_}{K:PySem.W.Frag}{mg:Str->Option X9}{base:Heap}{h:Heap}{k:Nat}{c:Ct}{x:Str}{st:Stmt}{ps:List Str}{g:GS}(KX:K.In h)(NS:h.Ns Yh mg)(D:cS K x st)(T:Dp c k P w K mg base)
  (S:FnScope c.N ps (defScope st))(hn:(defScope st).names=c.names)(hg:cA 30 c (defBody st)=g)
  (hb:∀(kV doc pm:X9)(an:Option X3)(cdv ct:X9)(us:List X9),us.length=ps.length->bindArgs (PySem.W.fnOf x x (defArgs st) (defBody st) (defScope st) .none kV doc pm an cdv ct) ⟨us,[]⟩=pure (ps.zip us))(hM:c.self∈de->B1 K mg base/\c.self=x:=by exact λz=>absurd (show("":Str)∈de from z) (by decide)) :
  lP P w K mg base (k+1) x ps.length (iH c.N.length g):=by
 obtain⟨f,fd,a,F⟩:=D
 refine⟨f,fd,ps,?_,PySem.W.mg_of KX NS a,F.kp,F.binds hb⟩
 subst hg
 refine Hj F S λcdv Rx A outer s H E hr=>?_
 refine oM (k:=k) 30 c _ ⟨rfl,hn,S.nd,xy hr,λ_=>⟨hr,rfl⟩,λ_=>⟨rfl,Gf⟩,T.cst,T.bl,T.fns,λ_=>⟨rfl,rfl,rfl⟩,λ_ _=>rfl,S.kind,T.tab,T.cls,T.xx,T.zU,qo.of hr,T.DZ,⟨T.x.lam,T.x.D0,T.x.Mr,λ_ z=>?_⟩,⟨_,_,_,rfl,rfl,rfl⟩,.inl hr.hd⟩ _
 obtain⟨P',L⟩:=T.x.at' z
 obtain⟨M,e⟩:=hM z
 exact⟨P',Ge.at' L M (by rw[e];exact a) Rx rfl (by rw[e];rfl)⟩
theorem Gg{P:X7}{w:X_}{K:PySem.W.Frag}{mg:Str->Option X9}{h:Heap}{k:Nat}{F:List Wv->Hs->Re Wv}{fa:X3}{st:Stmt}(KX:K.In h)(NS:h.Ns Yh mg)(hmg:mg "law"=some (.ref fa))(D:cS K "law" st)
  (hp:∀(kV doc pm:X9)(an:Option X3)(cdv ct:X9)(s:X8)(u:X9),BindsTo s (PySem.W.fnOf "law" "law" (defArgs st) (defBody st) (defScope st) .none kV doc pm an cdv ct) ⟨[u],[]⟩ [("script",u)])
  (FN:∀(f:X3)(fd:X5),Jg K "law" "law" st f fd->∀base:Heap,K.In base->base.Ns Yh mg->FnOk P w K mg base (CXJ P w) k f fd ["script"] (spW K 1 F)) :
  ∃fd:X5,(∀(s:X8)(u:X9),BindsTo s fd ⟨[u],[]⟩ [("script",u)])/\∀base:Heap,K.In base->base.Ns Yh mg->FnOk P w K mg base (CXJ P w) k fa fd ["script"] (spW K 1 F):=by
 obtain⟨f,fd,a,Fu⟩:=D
 have e:=hmg.symm.trans (PySem.W.mg_of KX NS a)
 cases e
 refine⟨fd,λs u=>?_,FN fa fd Fu⟩
 obtain⟨oc,od,kV,doc,pm,an,cdv,ct,osl,rfl,lk,hcd⟩:=Fu.ex
 exact hp kV doc pm an cdv ct s u
theorem Lv{P:X7}{w:X_}{K:PySem.W.Frag}{mg:Str->Option X9}{base:Heap}{k:Nat}{c:Ct}{x:Str}{st:Stmt}{ps:List Str}{g:GS}{f:X3}{fd:X5}(F:Jg K x x st f fd)(T:Dp c k P w K mg base)
  (S:FnScope c.N ps (defScope st))(hn:(defScope st).names=c.names)(hg:cA 30 c (defBody st)=g)(hs:c.self∉de:=by exact(show("":Str)∉de by decide)):FnOk P w K mg base (CXJ P w) (k+1) f fd ps (spW K ps.length (iH c.N.length g)):=by
 subst hg
 refine Hj F S λcdv _ A outer s H E hr=>?_
 exact oM (k:=k) 30 c _ ⟨rfl,hn,S.nd,xy hr,λ_=>⟨hr,rfl⟩,λ_=>⟨rfl,Gf⟩,T.cst,T.bl,T.fns,λ_=>⟨rfl,rfl,rfl⟩,λ_ _=>rfl,S.kind,T.tab,T.cls,T.xx,T.zU,qo.of hr,T.DZ,⟨T.x.lam,T.x.D0,T.x.Mr,λ_ z=>absurd z hs⟩,⟨_,_,_,rfl,rfl,rfl⟩,.inl hr.hd⟩ _
def AllP{α:Type}(P:α->Prop):List α->Prop
 | []=>True
 | a::l=>P a/\AllP P l
theorem AllP.look{κ β:Type}[BEq κ][LawfulBEq κ]{P:κ×β->Prop}:∀{l:List (κ×β)}{x:κ}{b:β},AllP P l->l.lookup x=some b->P (x,b)
 | [],_,_,_,h=>by cases h
 | (y,c)::l,x,b,a,h=>by
  rw[fI] at h
  cases e:x == y with
  | true=>
   rw[e] at h
   cases h
   have e':=eq_of_beq e
   subst e'
   exact a.1
  | false=>rw[e] at h;exact AllP.look a.2 h
theorem AllP.mem{P:Str->Prop}:∀{l:List Str}{x:Str},AllP P l->l.contains x=true->P x
 | [],_,_,h=>by cases h
 | y::l,x,a,h=>by
  rw[vn,A7] at h
  rcases h with e | h
  ·have e':=eq_of_beq e
   subst e'
   exact a.1
  ·exact AllP.mem a.2 h
theorem lE{K:PySem.W.Frag}{c:PySem.Str}{C D:X3}(h:ClsAt K c C)(k:ClsAt K c D):C=D:=by
 unfold ClsAt at h k
 rw[h] at k
 cases k
 rfl
theorem Lw{K:PySem.W.Frag}{tb:Tab}{tt:pB}{tc:Tab}(h:AllP (λp=>∃C D,ClsAt K p.1.1 C/\ClsAt K p.1.2 D/\kc K C/\PySem.W.kitOne K (.ref C) (.ref D)=some p.2) tb)
  (g:AllP (λp=>∃C,ClsAt K p.1.1 C/\kc K C/\PySem.W.kitOne K (.ref C) (.type p.1.2)=some p.2) tt)
  (f:AllP (λp=>∃C D,ClsAt K p.1.1 C/\ClsAt K p.1.2 D/\PySem.W.excIn K C wU wV=true/\PySem.W.excIn K D wU wV=true/\PySem.W.mroIn K C (.ref D)=some p.2) tc):TabOk K tb tt tc :=
 ⟨λc d b C D e hC hD=>by
  obtain⟨C',D',q1,q2,r⟩:=AllP.look h e
  cases lE hC q1
  cases lE hD q2
  exact r,λc d b C D e hC hD=>by
  obtain⟨C',D',q1,q2,r⟩:=AllP.look f e
  cases lE hC q1
  cases lE hD q2
  exact r,λc T b C e hC=>by
  obtain⟨C',q1,r⟩:=AllP.look g e
  cases lE hC q1
  exact r⟩
theorem bb{c:Ct}{k:Nat}{P:X7}{w:X_}{K:PySem.W.Frag}{mg:Str->Option X9}{base:Heap}(hc:AllP (λp=>CC K mg p.1 p.2) c.consts)(hb:AllP (λx=>mg x=none) c.bl)(hf:AllP (λp=>lP P w K mg base k p.1 p.2.1 p.2.2) c.fns)
  (ht:TabOk K c.tb c.tt c.tc)(hk:AllP (λx=>∃C,mg x=some (.ref C)/\E6 K x C) c.clss)(hn:AllP (λx=>∃C,mg x=some (.ref C)/\ClsAt K x C) c.xx)(hd:AllP (λp=>mf K w mg p.1 p.2) c.zU)
  (hu:AllP (λx=>∀n F,c.fns.lookup x=some (n,F)->Ky P w K mg base k x n F) c.DZ:=by exact trivial)(hx:Dm c k P w K mg base:=by exact Dm.no rfl rfl rfl rfl):Dp c k P w K mg base :=
 ⟨λ_ _ h=>hc.look h,λ_ h=>hb.mem h,λx n F h=>hf.look (b:=(n,F)) h,ht,λ_ h=>hk.mem h,λ_ h=>hn.mem h,λx kvs h=>hd.look (b:=kvs) h,λx n F h k=>hu.mem h n F k,hx⟩
def Rs.sq(r:Rs)(h:GS):Rs:=match r with
 | .nx ρ st=>h ρ st
 | r=>r
section
variable {α β:Type} {ρ ρ':bw} {st:Hs} {h g XQ XR:GS} {ga gb gc:GE} {gt gu:GT} {w:Wv} {c:PySem.Str} {f:α->Hs->Re β} {k:α->Hs->Rs} {a:α} {i:Nat}
@[simp] theorem Ul:(Rs.nx ρ st).sq h=h ρ st:=rfl
@[simp] theorem Um:(Rs.rt w st).sq h= .rt w st:=rfl
@[simp] theorem Uo:(Rs.bk ρ st).sq h= .bk ρ st:=rfl
@[simp] theorem Uq:(Rs.ct ρ st).sq h= .ct ρ st:=rfl
@[simp] theorem Ry:(Rs.err c ρ st).sq h= .err c ρ st:=rfl
@[simp] theorem Rz:Rs.bad.sq h= .bad:=rfl
@[simp] theorem nE:(Re.ok a st).bind f=f a st:=rfl
@[simp] theorem Oy:(Re.err c st).bind f= .err c st:=rfl
@[simp] theorem Oz:(Re.bad:Re α).bind f= .bad:=rfl
@[simp] theorem r6:(Re.ok a st).aY ρ k=k a st:=rfl
@[simp] theorem PF:(Re.err c st:Re α).aY ρ k= .err c ρ st:=rfl
@[simp] theorem r9:(Re.ok a st).kL= .ok a st:=rfl
@[simp] theorem PH:(Re.bad:Re α).kL= .bad:=rfl
@[simp] theorem PJ:(Re.bad:Re α).aY ρ k= .bad:=rfl
@[simp] theorem OA:aK g h ρ st=(g ρ st).sq h:=by unfold aK Rs.sq;cases g ρ st<;>rfl
@[simp] theorem e_next:bJ ρ st= .nx ρ st:=rfl
@[simp] theorem Ur:cV ga ρ st=(ga ρ st).aY ρ λw st'=> .rt w st':=rfl
@[simp] theorem e_expr:iT ga ρ st=(ga ρ st).aY ρ λ_ st'=> .nx ρ st':=rfl
@[simp] theorem HD:bf i ga ρ st=(ga ρ st).aY ρ λw st'=> .nx (ρ.set i (some w)) st':=rfl
def RA(ga gb:GS)(ρ:bw):Bool->Hs->Rs:=λb st'=>if b=true then ga ρ st' else gb ρ st'
@[simp] theorem Us:RA g h ρ true st=g ρ st:=rfl
@[simp] theorem Ut:RA g h ρ false st=h ρ st:=rfl
@[simp] theorem V8:kF gt g h ρ st=(gt ρ st).aY ρ (RA g h ρ):=rfl
def Uu(o:Option (Option Wv))(st:Hs):Re Wv:=match o with
 | some (some w)=> .ok w st
 | _=> .bad
@[simp] theorem xJ:Uu (some (some w)) st= .ok w st:=rfl
@[simp] theorem xK:af i ρ st=Uu ρ[i]? st:=rfl
@[simp] theorem e_c:gC w ρ st= .ok w st:=rfl
def kB(op:ff)(gb:GE)(ρ:bw):Wv->Hs->Re Wv:=λx st1=>(gb ρ st1).bind λy st2=>(op x y st2).kL
@[simp] theorem Lx{op:ff}{x:Wv}:kB op gb ρ x st=(gb ρ st).bind λy st2=>(op x y st2).kL:=rfl
@[simp] theorem Dq{op:ff}:aj op ga gb ρ st=(ga ρ st).bind (kB op gb ρ):=rfl
@[simp] theorem Uv:cn ga ρ st=(ga ρ st).bind Md:=rfl
@[simp] theorem Uw{b:Bool}:Md (.bl b) st= .ok b st:=rfl
@[simp] theorem Ux:eR ga ρ st=(ga ρ st).bind J0:=rfl
@[simp] theorem RB{b:Bool}:J0 (.bl b) st= .ok b st:=rfl
@[simp] theorem Uy:kW gt ρ st=(gt ρ st).bind λb st1=> .ok (!b) st1:=rfl
def Ly(gb:GT)(ρ:bw):Bool->Hs->Re Bool:=λb st1=>if b=true then gb ρ st1 else .ok false st1
@[simp] theorem RC:Ly gu ρ true st=gu ρ st:=rfl
@[simp] theorem RD:Ly gu ρ false st= .ok false st:=rfl
@[simp] theorem Uz:AV gt gu ρ st=(gt ρ st).bind (Ly gu ρ):=rfl
def RE(gb:GT)(ρ:bw):Bool->Hs->Re Bool:=λb st1=>if b=true then .ok true st1 else gb ρ st1
@[simp] theorem UA:RE gu ρ true st= .ok true st:=rfl
@[simp] theorem UB:RE gu ρ false st=gu ρ st:=rfl
@[simp] theorem V9:AW gt gu ρ st=(gt ρ st).bind (RE gu ρ):=rfl
def Dr(gb:GE)(ρ:bw):Wv->Hs->Re Wv:=λw st1=>match w with
 | .bl true=>gb ρ st1
 | .bl false=> .ok (.bl false) st1
 | _=> .bad
@[simp] theorem PK:Dr gb ρ (.bl true) st=gb ρ st:=rfl
@[simp] theorem PL:Dr gb ρ (.bl false) st= .ok (.bl false) st:=rfl
@[simp] theorem RF:iR ga gb ρ st=(ga ρ st).bind (Dr gb ρ):=rfl
def OB:Wv->Hs->Re Wv:=λw st1=>match w with
 | .bl b=> .ok (.bl (!b)) st1
 | _=> .bad
@[simp] theorem PM{b:Bool}:OB (.bl b) st= .ok (.bl (!b)) st:=rfl
@[simp] theorem Ds:aq ρ st= .ok [] st:=rfl
def HE(gr:GA)(ρ:bw):Wv->Hs->Re (List Wv):=λx st1=>(gr ρ st1).bind λxs st2=> .ok (x::xs) st2
@[simp] theorem r_{gr:GA}{x:Wv}:HE gr ρ x st=(gr ρ st).bind λxs st2=> .ok (x::xs) st2:=rfl
@[simp] theorem vQ{gr:GA}:ae ga gr ρ st=(ga ρ st).bind (HE gr ρ):=rfl
def zo:List Wv->Hs->Re Wv:=λws st1=>if ws.length<=lim then .ok (.tup ws) st1 else .bad
theorem sf{ws:List Wv}(hl:ws.length<=lim):zo ws st= .ok (.tup ws) st:=if_pos hl
@[simp] theorem UC{gr:GA}:cH gr ρ st=(gr ρ st).bind zo:=rfl
def hU:List Wv->Hs->Re Wv:=λws st1=>if ws.length<=lim then .ok (.ref st1.length) (st1++[.lst ws]) else .bad
theorem kq{ws:List Wv}(hl:ws.length<=lim):hU ws st= .ok (.ref st.length) (st++[.lst ws]):=if_pos hl
@[simp] theorem HF{gr:GA}:dX gr ρ st=(gr ρ st).bind hU:=rfl
section
variable {x x0 x1 x2 x3 x4 x5 x6 x7:Wv}
@[simp] theorem RG:zo [x0] st= .ok (.tup [x0]) st:=sf (by simp[lim])
@[simp] theorem RH:zo [x0,x1] st= .ok (.tup [x0,x1]) st:=sf (by simp[lim])
@[simp] theorem RI:zo [x0,x1,x2] st= .ok (.tup [x0,x1,x2]) st:=sf (by simp[lim])
@[simp] theorem RJ:zo [x0,x1,x2,x3] st= .ok (.tup [x0,x1,x2,x3]) st:=sf (by simp[lim])
@[simp] theorem hV:hU [] st= .ok (.ref st.length) (st++[.lst []]):=kq (by simp[lim])
@[simp] theorem sg:hU [x0] st= .ok (.ref st.length) (st++[.lst [x0]]):=kq (by simp[lim])
@[simp] theorem RK:hU [x0,x1] st= .ok (.ref st.length) (st++[.lst [x0,x1]]):=kq (by simp[lim])
@[simp] theorem sh:hU [x0,x1,x2] st= .ok (.ref st.length) (st++[.lst [x0,x1,x2]]):=kq (by simp[lim])
@[simp] theorem Dt:hU [x0,x1,x2,x3] st= .ok (.ref st.length) (st++[.lst [x0,x1,x2,x3]]):=kq (by simp[lim])
@[simp] theorem Du:hU [x0,x1,x2,x3,x4] st= .ok (.ref st.length) (st++[.lst [x0,x1,x2,x3,x4]]):=kq (by simp[lim])
end
def qz(n:Nat)(F:List Wv->Hs->Re Wv):List Wv->Hs->Re Wv:=λws st1=>if ws.length=n then F ws st1 else .bad
section
variable {F:List Wv->Hs->Re Wv} {x0 x1 x2 x3:Wv} {gr:GA}
@[simp] theorem PN:qz 1 F [x0] st=F [x0] st:=rfl
@[simp] theorem PQ:qz 2 F [x0,x1] st=F [x0,x1] st:=rfl
@[simp] theorem PR:qz 3 F [x0,x1,x2] st=F [x0,x1,x2] st:=rfl
@[simp] theorem PU:qz 4 F [x0,x1,x2,x3] st=F [x0,x1,x2,x3] st:=rfl
@[simp] theorem RL{n:Nat}:bM n F gr ρ st=(gr ρ st).bind (qz n F):=rfl
@[simp] theorem Gh{op:List Wv->Hs->Re Wv}:aG op gr ρ st=(gr ρ st).bind λws st1=>(op ws st1).kL:=rfl
end
@[simp] theorem V_{op:Wv->Hs->Re Wv}:Jx op ga ρ st=(ga ρ st).bind op:=rfl
@[simp] theorem UD{i:Int}:n8 (.int i) st= .ok (.int (-i)) st:=rfl
@[simp] theorem OC{i j:Int}:bS (.int i) (.int j) st= .ok (.int (i+j)) st:=rfl
@[simp] theorem UE{i j:Int}:j9 (.int i) (.int j) st= .ok (.int (i - j)) st:=rfl
@[simp] theorem V'{i j:Int}:oLt (.int i) (.int j) st= .ok (.bl (decide (i < j))) st:=rfl
@[simp] theorem Wa{i j:Int}:oLe (.int i) (.int j) st= .ok (.bl (decide (i<=j))) st:=rfl
@[simp] theorem Wb{i j:Int}:Nn (.int i) (.int j) st= .ok (.bl (decide (j < i))) st:=rfl
@[simp] theorem Wc{i j:Int}:QN (.int i) (.int j) st= .ok (.bl (decide (j<=i))) st:=rfl
@[simp] theorem Wd{i j:Int}:oEq (.int i) (.int j) st= .ok (.bl (i == j)) st:=rfl
@[simp] theorem We{i j:Int}:rp (.int i) (.int j) st= .ok (.bl (!(i == j))) st:=rfl
@[simp] theorem Wf{i j:PySem.Str}:oEq (.str i) (.str j) st= .ok (.bl (i == j)) st:=rfl
@[simp] theorem Wg{i j:PySem.Str}:rp (.str i) (.str j) st= .ok (.bl (!(i == j))) st:=rfl
@[simp] theorem Wh{i j:Bool}:oEq (.bl i) (.bl j) st= .ok (.bl (i == j)) st:=by cases i<;>cases j<;>rfl
@[simp] theorem Wi{i j:Bool}:rp (.bl i) (.bl j) st= .ok (.bl (!(i == j))) st:=by cases i<;>cases j<;>rfl
theorem dH{i j:Int}(h:j≠0/\j.natAbs.log2 < 9000):bI (.int i) (.int j) st= .ok (.int (i.fdiv j)) st:=by show(if _ then _ else _)=_;rw[if_pos h]
theorem dq{i j:Int}(h:j≠0):oMod (.int i) (.int j) st= .ok (.int (i.fmod j)) st:=by show(if _ then _ else _)=_;rw[if_pos h]
theorem HG{i j:Int}(h:IntMulOk i j):fJ (.int i) (.int j) st= .ok (.int (i * j)) st:=by show(if _ then _ else _)=_;rw[if_pos h]
theorem um{i j:Int}(h1:-(2 ^ 64) < i)(h2:i < 2 ^ 64):fJ (.int i) (.int j) st= .ok (.int (i * j)) st:=HG (IntMulOk.of_left (intBits_le_64 h1 h2))
theorem mul_r{i j:Int}(h1:-(2 ^ 64) < j)(h2:j < 2 ^ 64):fJ (.int i) (.int j) st= .ok (.int (i * j)) st:=HG (IntMulOk.of_right (intBits_le_64 h1 h2))
theorem HH{i j:Int}(h:0<=j/\j<=1000000/\i.natAbs < 2 ^ 64):sZ (.int i) (.int j) st= .ok (.int (i ^ j.toNat)) st:=by show(if _ then _ else _)=_;rw[if_pos h]
theorem si{l:Nat}{i:Int}{ws:List Wv}{v:Wv}(h:ai st l=some ws)(h2:mE ws i=some v):bu (.ref l) (.int i) st= .ok v st:=by
 show(match ai st l with | some ws=>(match mE ws i with | some w=>Re.ok w st | none=> .bad) | none=> .bad)=_
 rw[h]
 dsimp only
 rw[h2]
theorem add_l{l k:Nat}{xs ys:List Wv}(h1:ai st l=some xs)(h2:ai st k=some ys)(hl:xs.length+ys.length<=lim):bS (.ref l) (.ref k) st= .ok (.ref st.length) (st++[.lst (xs++ys)]):=by
 show(match ai st l,ai st k with | some i,some j=>if i.length+j.length<=lim then Re.ok (Wv.ref st.length) (st++[Ob.lst (i++j)]) else .bad | _,_=> .bad)=_
 rw[h1,h2]
 exact if_pos hl
theorem uo{i:Int}{ws:List Wv}{v:Wv}(h2:mE ws i=some v):bu (.tup ws) (.int i) st= .ok v st:=by
 show(match mE ws i with | some w=>Re.ok w st | none=> .bad)=_
 rw[h2]
end
theorem du{n:Nat}{g:GS}{ws:List Wv}{st st':Hs}{w:Wv}(h:g (ws.map some++a_ (n - ws.length) none) st= .rt w st'):iH n g ws st= .ok w st':=by unfold iH;rw[h]
section
variable {ρ:bw} {st:Hs} {ga gb gc:GE} {gl gh:GO}
def UG(gl gh:GO)(ρ:bw):Wv->Hs->Re Wv:=λx st1=>(gl ρ st1).bind λlo st2=>(gh ρ st2).bind λhi st3=>tR x lo hi st3
@[simp] theorem PV:bT ga gl gh ρ st=(ga ρ st).bind (UG gl gh ρ):=rfl
@[simp] theorem UH{x:Wv}:UG gl gh ρ x st=(gl ρ st).bind λlo st2=>(gh ρ st2).bind λhi st3=>tR x lo hi st3:=rfl
@[simp] theorem OD:ei ρ st= .ok none st:=rfl
def HI:Wv->Hs->Re (Option Int):=λw st1=>match w with
 | .int i=> .ok (some i) st1
 | _=> .bad
@[simp] theorem RM:dm ga ρ st=(ga ρ st).bind HI:=rfl
@[simp] theorem PX{i:Int}:HI (.int i) st= .ok (some i) st:=rfl
theorem Gi{l:Nat}{ws:List Wv}{lo hi:Option Int}(h:ai st l=some ws):tR (.ref l) lo hi st= .ok (.ref st.length) (st++[.lst (iG ws lo hi)]):=by
 show(match ai st l with | some ws=>Re.ok (Wv.ref st.length) (st++[Ob.lst (iG ws lo hi)]) | none=> .bad)=_
 rw[h]
theorem OE{l:Nat}{ws:List Wv}(h:ai st l=some ws):ka [.ref l] st= .ok (.int ws.length) st:=by
 show(match ai st l with | some ws=>Re.ok (Wv.int ws.length) st | none=> .bad)=_
 rw[h]
def Dw(op':ff)(gc:GE)(y:Wv)(ρ:bw):Wv->Hs->Re Wv:=λz st3=>match z with
 | .bl true=>(gc ρ st3).bind λu wL=>(op' y u wL).kL
 | .bl false=> .ok (.bl false) st3
 | _=> .bad
@[simp] theorem RN{op':ff}{y:Wv}:Dw op' gc y ρ (.bl true) st=(gc ρ st).bind λu wL=>(op' y u wL).kL:=rfl
@[simp] theorem RO{op':ff}{y:Wv}:Dw op' gc y ρ (.bl false) st= .ok (.bl false) st:=rfl
@[simp] theorem PY{op op':ff}:iQ op op' ga gb gc ρ st=(ga ρ st).bind λx st1=>(gb ρ st1).bind λy st2=>(op x y st2).kL.bind (Dw op' gc y ρ):=rfl
def OF(op' zq:ff)(gc gd:GE)(y:Wv)(ρ:bw):Wv->Hs->Re Wv:=λz st3=>match z with
 | .bl true=>(gc ρ st3).bind λu wL=>(op' y u wL).kL.bind (Dw zq gd u ρ)
 | .bl false=> .ok (.bl false) st3
 | _=> .bad
@[simp] theorem RP{op' zq:ff}{gd:GE}{y:Wv}:OF op' zq gc gd y ρ (.bl true) st=(gc ρ st).bind λu wL=>(op' y u wL).kL.bind (Dw zq gd u ρ):=rfl
@[simp] theorem RQ{op' zq:ff}{gd:GE}{y:Wv}:OF op' zq gc gd y ρ (.bl false) st= .ok (.bl false) st:=rfl
def zr(cat:PySem.Str->Option Bool)(i:Nat)(gs:GS)(r:Rs):Rs:=match r with
 | .err c ρ' st'=>(match cat c with
  | some true=>(match gs (ρ'.set i (some (.j7 c))) st' with
   | .nx ρ2 st2=> .nx (ρ2.set i none) st2
   | .rt w st2=> .rt w st2
   | _=> .bad)
  | _=> .bad)
 | r=>r
@[simp] theorem UI{cat:PySem.Str->Option Bool}{i:Nat}{g gs:GS}:yB cat i g gs ρ st=zr cat i gs (g ρ st):=by
 unfold yB zr
 cases g ρ st<;>rfl
@[simp] theorem PZ{cat:PySem.Str->Option Bool}{i:Nat}{gs:GS}:zr cat i gs (.nx ρ st)= .nx ρ st:=rfl
@[simp] theorem P0{cat:PySem.Str->Option Bool}{i:Nat}{gs:GS}{w:Wv}:zr cat i gs (.rt w st)= .rt w st:=rfl
def HJ(cat:PySem.Str->Option Bool)(gs:GS)(r:Rs):Rs:=match r with
 | .err c ρ' st'=>(match cat c with
  | some true=>(match gs ρ' st' with
   | .nx ρ2 st2=> .nx ρ2 st2
   | .rt w st2=> .rt w st2
   | _=> .bad)
  | _=> .bad)
 | r=>r
@[simp] theorem OG{cat:PySem.Str->Option Bool}{gs:GS}:HJ cat gs (.nx ρ st)= .nx ρ st:=rfl
@[simp] theorem OH{cat:PySem.Str->Option Bool}{gs:GS}{w:Wv}:HJ cat gs (.rt w st)= .rt w st:=rfl
theorem Dx{cat:PySem.Str->Option Bool}{i:Nat}{gs:GS}{c:PySem.Str}{ρ2:bw}{st2:Hs}(h:cat c=some true)(k:gs (ρ.set i (some (.j7 c))) st= .nx ρ2 st2):zr cat i gs (.err c ρ st)= .nx (ρ2.set i none) st2:=by
 unfold zr
 simp only[h,k]
end
theorem aE{st:Hs}{ws:List Wv}:ai (st++[.lst ws]) st.length=some ws:=by unfold ai;simp
theorem zt{st:Hs}{o:Ob}{l:Nat}{ws:List Wv}(h:ai st l=some ws):ai (st++[o]) l=some ws:=by
 have hl:l < st.length:=by
  unfold ai at h
  cases e:st[l]? with
  | none=>rw[e] at h;cases h
  | some o=>exact(List.getElem?_eq_some_iff.mp e).1
 unfold ai at h ⊢
 rw[eP hl]
 exact h
theorem ur{st:Hs}{l:Nat}{ws:List Wv}(h:ai st l=some ws):l < st.length:=by
 unfold ai at h
 cases e:st[l]? with
 | none=>rw[e] at h;cases h
 | some o=>exact(List.getElem?_eq_some_iff.mp e).1
def dR(l:Nat)(st st':Hs):Prop:=st.length<=st'.length/\∀k,k < st.length->k≠l->st'[k]? =st[k]?
theorem dR.refl{l:Nat}{st:Hs}:dR l st st:=⟨ao _,λ_ _ _=>rfl⟩
theorem dR.trans{l:Nat}{a b c:Hs}(h:dR l a b)(k:dR l b c):dR l a c:=⟨bo h.1 k.1,λj h1 h2=>(k.2 j (bj h1 h.1) h2).trans (h.2 j h1 h2)⟩
theorem dR.set{l:Nat}{st:Hs}{o:Ob}:dR l st (st.set l o):=⟨by simp,λk _ h=>bG (λz=>h z.symm)⟩
theorem dR.lst{l:Nat}{st st':Hs}(k:dR l st st'){j:Nat}{ws:List Wv}(h:ai st j=some ws)(hj:j≠l):ai st' j=some ws:=by
 unfold ai at h ⊢
 rw[k.2 j (ur (st:=st) (ws:=ws) (by unfold ai;exact h)) hj]
 exact h
@[simp] theorem P1{i:Nat}{ga:GA}{gb:GS}{ρ:bw}{st:Hs}:lW i ga gb ρ st=(ga ρ st).aY ρ λws st1=>match ws with
 | [.int j]=>if bN j then dz i gb (bC 0 j.toNat) ρ st1 else .bad
 | _=> .bad:=rfl
@[simp] theorem P2{i:Nat}{ga:GA}{gb:GS}{ρ:bw}{st:Hs}:lX i ga gb ρ st=(ga ρ st).aY ρ λws st1=>match ws with
 | [.int a,.int j]=>if bN a/\bN j then dz i gb (bC a (j - a).toNat) ρ st1 else .bad
 | _=> .bad:=rfl
@[simp] theorem P4{c:PySem.Str}{ga:GA}{ρ:bw}{st:Hs}:lY c ga ρ st=(ga ρ st).aY ρ λws st1=>if ws.length<=lim then .err c ρ st1 else .bad:=rfl
def HK(mt:Wv->Wv->Hs->Re Wv)(ga:GE)(ρ:bw):Wv->Hs->Re Wv:=λo st1=>match o with
 | .ref l=>(match ai st1 l with
  | some _=>(ga ρ st1).bind λv st2=>(mt o v st2).kL
  | none=> .bad)
 | _=> .bad
@[simp] theorem Lz{mt:Wv->Wv->Hs->Re Wv}{go ga:GE}{ρ:bw}{st:Hs}:jU mt go ga ρ st=(go ρ st).bind (HK mt ga ρ):=rfl
theorem lF{mt:Wv->Wv->Hs->Re Wv}{ga:GE}{ρ:bw}{st:Hs}{l:Nat}{ws:List Wv}(h:ai st l=some ws):HK mt ga ρ (.ref l) st=(ga ρ st).bind λv st2=>(mt (.ref l) v st2).kL:=by
 show(match ai st l with | some _=>(ga ρ st).bind λv st2=>(mt (.ref l) v st2).kL | none=> .bad)=_
 rw[h]
theorem xM{st:Hs}{l:Nat}{v:Wv}{ws:List Wv}(h:st[l]? =some (.lst ws))(hl:ws.length < lim):iU (.ref l) v st= .ok .aR (st.set l (.lst (ws++[v]))):=by
 show(match st[l]? with | some (.lst ws)=>if ws.length < lim then Re.ok Wv.aR (st.set l (.lst (ws++[v]))) else .bad | _=> .bad)=_
 rw[h]
 exact if_pos hl
def kFor(i:Nat)(gb:GS)(ρ:bw):Wv->Hs->Rs:=λw st1=>match w with
 | .ref l=>(match ai st1 l with | some ws=>forL i gb l ws ws ρ st1 | none=> .bad)
 | .tup ws=>dz i gb ws ρ st1
 | .nX ws=>dz i gb ws ρ st1
 | _=> .bad
@[simp] theorem UJ{i:Nat}{ga:GE}{gb:GS}{ρ:bw}{st:Hs}:tG i ga gb ρ st=(ga ρ st).aY ρ (kFor i gb ρ):=rfl
theorem LA{i:Nat}{gb:GS}{ρ:bw}{st:Hs}{l:Nat}{ws:List Wv}(h:ai st l=some ws):kFor i gb ρ (.ref l) st=forL i gb l ws ws ρ st:=by
 show(match ai st l with | some ws=>forL i gb l ws ws ρ st | none=> .bad)=_
 rw[h]
@[simp] theorem RS{i:Nat}{gb:GS}{ρ:bw}{st:Hs}{ws:List Wv}:kFor i gb ρ (.tup ws) st=dz i gb ws ρ st:=rfl
theorem uu{i:Nat}{gb:GS}{l:Nat}{all:List Wv}(P:bw->Hs->Prop):∀(ws:List Wv)(ρ:bw)(st:Hs),P ρ st->ai st l=some all->
  (∀w∈ws,∀ρ st,P ρ st->ai st l=some all->∃ρ' st',gb (ρ.set i (some w)) st= .nx ρ' st'/\ai st' l=some all/\P ρ' st')->
  ∃ρ' st',forL i gb l all ws ρ st= .nx ρ' st'/\P ρ' st'/\ai st' l=some all
 | [],ρ,st,h,hl,_=>⟨ρ,st,rfl,h,hl⟩
 | w::r,ρ,st,h,hl,step=>by
  obtain⟨ρ1,st1,e1,l1,p1⟩:=step w bF ρ st h hl
  obtain⟨ρ2,st2,e2,p2,l2⟩:=uu P r ρ1 st1 p1 l1 λw hw=>step w (aU _ hw)
  refine⟨ρ2,st2,?_,p2,l2⟩
  unfold forL
  rw[e1]
  simp only[if_pos l1]
  exact e2
theorem jO{i:Nat}{gb:GS}(P:Nat->bw->Hs->Prop):∀(ws:List Wv)(k:Nat)(ρ:bw)(st:Hs),P k ρ st->
  (∀(j:Nat)(w:Wv),ws[j]? =some w->∀ρ st,P (k+j) ρ st->∃ρ' st',gb (ρ.set i (some w)) st= .nx ρ' st'/\P (k+j+1) ρ' st')->∃ρ' st',dz i gb ws ρ st= .nx ρ' st'/\P (k+ws.length) ρ' st'
 | [],k,ρ,st,h,_=>⟨ρ,st,rfl,h⟩
 | w::r,k,ρ,st,h,step=>by
  obtain⟨ρ1,st1,e1,p1⟩:=step 0 w rfl ρ st h
  obtain⟨ρ2,st2,e2,p2⟩:=jO P r (k+1) ρ1 st1 p1 λj w hw ρ st hp=>by
   have e:k+(j+1)=k+1+j:=by omega
   have q:=step (j+1) w hw ρ st (by rw[e];exact hp)
   rw[e] at q
   exact q
  refine⟨ρ2,st2,?_,?_⟩
  ·unfold dz
   rw[e1]
   exact e2
  ·have e:k+(w::r).length=k+1+r.length:=by simp;omega
   rw[e]
   exact p2
@[simp] theorem RT{i:Int}{st:Hs}:NN [.int i] st=NM [.int i] st:=rfl
@[simp] theorem RU{cs:eK}{gi:GI}{gt:GT}{ge:GE}{ρ:bw}{st:Hs}:dS cs gi gt ge ρ st=(gi ρ st).bind (cI cs gt ge ρ):=rfl
@[simp] theorem P5{g:GE}{ρ:bw}{st:Hs}:di g ρ st=(g ρ st).bind tS:=rfl
@[simp] theorem RV{g:GA}{ρ:bw}{st:Hs}:Ff g ρ st=(g ρ st).bind wY:=rfl
@[simp] theorem RW{g:GA}{ρ:bw}{st:Hs}:BD g ρ st=(g ρ st).bind wZ:=rfl
@[simp] theorem RX{g:GA}{ρ:bw}{st:Hs}:Cw g ρ st=(g ρ st).bind xv:=rfl
theorem LB{j:Int}{st:Hs}(h:bN j):wY [.int j] st= .ok (none,bC 0 j.toNat) st:=if_pos h
theorem LC{i j:Int}{st:Hs}(h:bN i)(k:bN j):wZ [.int i,.int j] st= .ok (none,bC i (j - i).toNat) st:=if_pos ⟨h,k⟩
theorem br{l:Nat}{st:Hs}{ws:List Wv}(h:ai st l=some ws):tS (.ref l) st= .ok (some l,ws) st:=by
 show(match ai st l with | some ws=>Re.ok (some l,ws) st | none=> .bad)=_
 rw[h]
@[simp] theorem RY{st:Hs}{z:PySem.Str}:tS (.str z) st= .ok (none,gj z) st:=rfl
@[simp] theorem RZ{st:Hs}{ws:List Wv}:tS (.tup ws) st= .ok (none,ws) st:=rfl
theorem sj{st:Hs}{acc:List Wv}{v:Wv}(h:acc.length < lim):iU (.ref st.length) v (st++[.lst acc])= .ok .aR (st++[.lst (acc++[v])]):=by
 rw[xM (ws:=acc) (by simp) h]
 congr 1
 simp
theorem kr{w:Wk}{gt:Wv->Hs->Re Bool}{ge:Wv->Hs->Re Wv}{st:Hs}{t:Wv->Bool}{f:Wv->Wv}(ck:iI w st):∀(ws acc:List Wv),(∀v∈ws,∀acc,gt v (st++[.lst acc])= .ok (t v) (st++[.lst acc]))->
  (∀v∈ws,t v=true->∀acc,ge v (st++[.lst acc])= .ok (f v) (st++[.lst acc]))->acc.length+ws.length < lim->iA (iI w) gt ge st.length ws (st++[.lst acc])=some (st++[.lst (acc++(ws.filter t).map f)])
 | [],acc,_,_,_=>by simp[iA]
 | v::r,acc,h1,h2,hl=>by
  have hl':acc.length+(r.length+1) < lim:=hl
  unfold iA
  rw[h1 v bF acc]
  cases e:t v with
  | false=>
   dsimp only
   rw[if_pos (ou ck),kr ck r acc (λv hv=>h1 v (aU _ hv)) (λv hv=>h2 v (aU _ hv)) (by omega),List.filter_cons_of_neg (by simp[e])]
  | true=>
   dsimp only
   rw[h2 v bF e acc]
   dsimp only
   rw[sj (by omega)]
   dsimp only
   rw[if_pos (ou ck),kr ck r (acc++[f v]) (λv hv=>h1 v (aU _ hv)) (λv hv=>h2 v (aU _ hv)) (by simp;omega),List.filter_cons_of_pos e]
   simp
theorem cL{cs:eK}{gt:GT}{ge:GE}{ρ:bw}{w:Wk}{st:Hs}{t:Wv->Bool}{f:Wv->Wv}(ck:iI w st)(h1:∀v∈w.2,∀acc,gt (some v::dQ cs ρ) (st++[.lst acc])= .ok (t v) (st++[.lst acc]))
  (h2:∀v∈w.2,t v=true->∀acc,ge (some v::dQ cs ρ) (st++[.lst acc])= .ok (f v) (st++[.lst acc]))(hl:w.2.length < lim):cI cs gt ge ρ w st= .ok (.ref st.length) (st++[.lst ((w.2.filter t).map f)]):=by
 unfold cI
 rw[kr ck w.2 [] h1 h2 (by simpa using hl)]
 simp
theorem lG{α:Type}{ws:List α}{d:Int}(h0:0<=d)(h1:d < ws.length):∃v,L2.mE ws d=some v/\v∈ws:=by
 have hk:d.toNat < ws.length:=by omega
 have ek:d=((d.toNat:Nat):Int):=by omega
 refine⟨ws[d.toNat],?_,List.getElem_mem hk⟩
 have q:=L2.dC (cW hk)
 rw[<-ek] at q
 exact q
theorem en{st:Hs}{l:Nat}{o o':Ob}(h:st[l]? =some o):(st.set l o')[l]? =some o':=gS (List.getElem?_eq_some_iff.mp h).1
theorem eL{st:Hs}{l:Nat}{o o':Ob}(h:st[l]? =some o):(st++[o'])[l]? =some o:=by rw[eP (List.getElem?_eq_some_iff.mp h).1];exact h
theorem Gj{st:Hs}{l:Nat}{ws:List Wv}(h:st[l]? =some (.lst ws)):ai st l=some ws:=by unfold ai;rw[h]
theorem hX{st:Hs}{l:Nat}{o:Ob}(h:st[l]? =some o):l < st.length:=(List.getElem?_eq_some_iff.mp h).1
theorem fh{st:Hs}{o:Ob}:(st++[o])[st.length]? =some o:=by simp
@[simp] theorem UK{i:Int}{st:Hs}:QP [.int i] st= .ok (.int (if i < 0 then -i else i)) st:=rfl
@[simp] theorem HL{l:Nat}{st:Hs}{ns:List Int}(h:ai st l=some (ns.map Wv.int)):vp [.ref l] st= .ok (.int ns.sum) st:=by
 show(match ai st l with | some ws=>(match intsOf ws with | some ns=>Re.ok (Wv.int ns.sum) st | none=> .bad) | none=> .bad)=_
 rw[h]
 dsimp only
 rw[oA]
theorem Gk{lo:Int}{n:Nat}{w:Wv}(h:w∈bC lo n):∃k:Int,w= .int k/\lo<=k/\k < lo+n:=by
 unfold bC at h
 obtain⟨k,hk,rfl⟩:=List.mem_map.mp h
 have:=List.mem_range.mp hk
 exact⟨lo+k,rfl,by omega,by omega⟩
theorem OI{i:Int}(h1:-1000000<=i)(h2:i<=1000000):bN i:=⟨by omega,by omega⟩
@[simp] theorem P6{F:List Wv->Hs->Re Wv}{st:Hs}:qz 0 F [] st=F [] st:=rfl
def Gr(st st':Hs):Prop:=st.length<=st'.length/\∀k,k < st.length->st'[k]? =st[k]?
theorem Gr.refl{st:Hs}:Gr st st:=⟨ao _,λ_ _=>rfl⟩
theorem Gr.trans{a b c:Hs}(h:Gr a b)(k:Gr b c):Gr a c:=⟨bo h.1 k.1,λj h1=>(k.2 j (bj h1 h.1)).trans (h.2 j h1)⟩
theorem Gr.push{st:Hs}{o:Ob}:Gr st (st++[o]):=⟨by simp,λk h=>eP h⟩
theorem Gr.app{st xs:Hs}:Gr st (st++xs):=⟨by simp,λk h=>eP h⟩
theorem Gr.lst{st st':Hs}(k:Gr st st'){j:Nat}{ws:List Wv}(h:ai st j=some ws):ai st' j=some ws:=by
 unfold ai at h ⊢
 rw[k.2 j (ur (st:=st) (ws:=ws) (by unfold ai;exact h))]
 exact h
theorem Gr.get{st st':Hs}(k:Gr st st'){j:Nat}{o:Ob}(h:st[j]? =some o):st'[j]? =some o:=by rw[k.2 j (hX h)];exact h
theorem Gr.keep{st st':Hs}{l:Nat}(k:Gr st st'):dR l st st':=⟨k.1,λj h _=>k.2 j h⟩
theorem Gr.LD{st s1 s2:Hs}{l:Nat}(h:st.length<=l)(g:Gr st s1)(k:dR l s1 s2):Gr st s2:=⟨bo g.1 k.1,λj h1=>(k.2 j (bj h1 g.1) (by omega)).trans (g.2 j h1)⟩
theorem qA{α:Type}{w:Wk}{gt:Wv->Hs->Re Bool}{ge:Wv->Hs->Re Wv}{rr:Nat}(f:α->Wv)(P:Hs->Prop)(E:α->Wv->Prop)(hP:∀st acc,P st->P (st.set rr (.lst acc)))(hck:∀st,P st->iI w st) :
  ∀(ws:List α),(∀v∈ws,∀st acc,P st->st[rr]? =some (.lst acc)->∃st1,gt (f v) st= .ok true st1/\P st1/\st1[rr]? =some (.lst acc)/\∃u st2,ge (f v) st1= .ok u st2/\E v u/\P st2/\st2[rr]? =some (.lst acc))->
   ∀(acc:List Wv)(st:Hs),P st->st[rr]? =some (.lst acc)->acc.length+ws.length < lim->∃st' us,iA (iI w) gt ge rr (ws.map f) st=some st'/\P st'/\st'[rr]? =some (.lst (acc++us))/\us.length=ws.length/\∀k (h:k < ws.length) (h':k < us.length),E ws[k] us[k]
 | [],_,acc,st,hp,hg,_=>⟨st,[],rfl,hp,by simpa using hg,rfl,λk h=>by cases h⟩
 | v::r,step,acc,st,hp,hg,hl=>by
  obtain⟨st1,e1,p1,g1,u,st2,e2,hu,p2,g2⟩:=step v bF st acc hp hg
  have hl':acc.length+(r.length+1) < lim:=hl
  obtain⟨st3,us,f1,f2,f3,f4,f5⟩:=qA f P E hP hck r (λv hv=>step v (aU _ hv)) (acc++[u]) (st2.set rr (.lst (acc++[u]))) (hP _ _ p2) (en g2) (by simp;omega)
  refine⟨st3,u::us,?_,f2,by simpa using f3,by simp[f4],λk h h'=>?_⟩
  ·rw[av]
   unfold iA
   rw[e1]
   dsimp only
   rw[e2]
   dsimp only
   rw[xM g2 (by omega)]
   dsimp only
   rw[if_pos (hck _ (hP _ _ p2)),f1]
  ·cases k with
   | zero=>exact hu
   | succ k=>exact f5 k (by simpa using h) (by simpa using h')
theorem xN{i:Int}:aF (.int i) (.int i)=true:=by simp[aF]
theorem HM{x:PySem.Str}:aF (.str x) (.str x)=true:=by simp[aF]
theorem LG{x y:PySem.Str}:aF (.tuple [.str x,.str y]) (.tuple [.str x,.str y])=true:=by simp[aF,eu]
theorem LH{st:Hs}{x y:Wv}{d:PyData}(h1:aA st 20 x=some d)(h2:aA st 20 y=some d)(h:aF d d=true):rp x y st= .ok (.bl false) st:=by
 unfold rp
 rw[h1,h2]
 show Re.ok (Wv.bl (!PyData.eqv d d)) st=_
 rw[h]
 rfl
theorem zu{α:Type}{f:α->Wv}{xs:List α}{lo hi:Option Int}:∃ys:List α,iG (xs.map f) lo hi=ys.map f/\ys.length<=xs.length:=by
 unfold iG
 rw[<-sk,<-jP]
 exact⟨_,rfl,by simp;omega⟩
@[simp] theorem UL{i j:Int}{st:Hs}:NU [.int i,.int j] st= .ok (.int (if j > i then j else i)) st:=rfl
@[simp] theorem UM{i j:Int}{st:Hs}:NV [.int i,.int j] st= .ok (.int (if j < i then j else i)) st:=rfl
open PySem L2
theorem tb_none{K:PySem.W.Frag}{H:Hp}(h1:PySem.W.nsIn K Yh "form_of"=some none)(h2:PySem.W.nsIn K Yh "formula_by"=some none)(h3:PySem.W.nsIn K Yh "turned"=some none)(h4:PySem.W.nsIn K Yh "readied_content"=some none):q_ K H:=λq P hq e=>by
 have no:∀q,PySem.W.nsIn K Yh q=some none->gZ K q=none:=λq h=>by
  unfold gZ PySem.W.tabIn
  rw[h]
 simp only[de,bp,bz,or_false] at hq
 rcases hq with rfl | rfl | rfl | rfl
 ·rw[no _ h1] at e;cases e
 ·rw[no _ h2] at e;cases e
 ·rw[no _ h3] at e;cases e
 ·rw[no _ h4] at e;cases e
theorem Dy{fd:X5}{ps:List Str}(us:List X9)(hl:us.length=1)(h:∀a0:X9,bindArgs fd { pos:=[a0] }=pure (ps.zip [a0])):bindArgs fd { pos:=us }=pure (ps.zip us):=match us,hl with | [a0],_=>h a0
theorem ln2{fd:X5}{ps:List Str}(us:List X9)(hl:us.length=2)(h:∀a0 a1:X9,bindArgs fd { pos:=[a0,a1] }=pure (ps.zip [a0,a1])):bindArgs fd { pos:=us }=pure (ps.zip us):=match us,hl with | [a0,a1],_=>h a0 a1
theorem P7{fd:X5}{ps:List Str}(us:List X9)(hl:us.length=3)(h:∀a0 a1 a2:X9,bindArgs fd { pos:=[a0,a1,a2] }=pure (ps.zip [a0,a1,a2])):bindArgs fd { pos:=us }=pure (ps.zip us):=match us,hl with | [a0,a1,a2],_=>h a0 a1 a2
theorem Wj{fd:X5}{ps:List Str}(us:List X9)(hl:us.length=4)(h:∀a0 a1 a2 a3:X9,bindArgs fd { pos:=[a0,a1,a2,a3] }=pure (ps.zip [a0,a1,a2,a3])):bindArgs fd { pos:=us }=pure (ps.zip us):=match us,hl with | [a0,a1,a2,a3],_=>h a0 a1 a2 a3
end J
namespace K71
open PySem J
open L2 (defScope defBody defArgs FnScope CX0 FnOk XK Hp)
def top (i:Nat):Stmt:=PySem.Challenge.pw_onelook_k71_tables_told.main.body.getD i (.Pass ⟨0,0,0,0⟩)
def f7:Tab:=[(("BadArea","BadArea"),true),(("BadArea","BadTable"),false),(("BadArea","SheetError"),true),(("BadTable","BadArea"),false),(("BadTable","BadTable"),true),(("BadTable","SheetError"),true)]
def dJ:pB:=[(("BadArea","ValueError"),true),(("BadTable","ValueError"),true)]
def Dz:Tab:=[(("BadArea","SheetError"),true),(("BadTable","SheetError"),true)]
def cB(s:Stmt)(n b:List Str)(f:List (Str×Nat×(List Wv->Hs->Re Wv))):Ct:={ N:=n,names:=(defScope s).names,consts:=[],bl:=b,fns:=f,tb:=f7,tt:=dJ,tc:=Dz }
theorem sm{N P:List Str}{sc:Scope}(h:sc.kind= .function/\sc.isCoroutine=false/\sc.isGenerator=false/\N.take P.length=P)(k:N.Nodup/\(∀x∈P,sc.names.lookup x=some .local\/sc.names.lookup x=some .cell)/\∀y∈sc.names,y.2≠.free):FnScope N P sc:=⟨h.1,h.2.1,h.2.2.1,k.1,h.2.2.2,k.2.1,k.2.2⟩
abbrev fO:Stmt:=top 27
def fP:GS:=(aK (bf 1 (aj oMod (af 0) (gC (.int 95))))
  (aK (bf 2 (aj oMod (aj bI (af 0) (gC (.int 95))) (gC (.int 23))))
  (cV (cH (ae (af 1) (ae (af 2) (ae (aj bS (af 1) (aj oMod (aj bI (af 0) (gC (.int 2185))) (gC (.int 5)))) (ae (aj bS (af 2) (aj oMod (aj oMod (aj bI (af 0) (gC (.int 10925))) (gC (.int 4))) (aj j9 (gC (.int 26)) (af 2)))) aq))))))))
def eM:List Wv->Hs->Re Wv:=iH 3 fP
def i8:Ct:=cB fO ["cell","top","left"] [] []
theorem uv:cA 30 (i8) (defBody fO)=fP:=by kernel_rfl
theorem sr:FnScope (i8).N ["cell"] (defScope fO):=sm ⟨rfl,rfl,rfl,rfl⟩ (by decide+kernel)
abbrev eB:Stmt:=top 28
def cM:GS:=(iT (jU iU (af 1) (cH (ae (af 2) (ae (af 3) aq)))))
def cN:GS:=(lX 3 (ae (aj bu (af 0) (gC (.int 1))) (ae (aj bS (aj bu (af 0) (gC (.int 3))) (gC (.int 1))) aq)) cM)
def eC:GS:=(aK (bf 1 (dX aq))
  (aK (lX 2 (ae (aj bu (af 0) (gC (.int 0))) (ae (aj bS (aj bu (af 0) (gC (.int 2))) (gC (.int 1))) aq)) cN)
  (cV (af 1))))
def bR:List Wv->Hs->Re Wv:=iH 4 eC
def gn:Ct:=cB eB ["area","found","row","column"] ["range"] []
theorem pD:cA 30 (gn) (defBody eB)=eC:=by kernel_rfl
theorem oN:FnScope (gn).N ["area"] (defScope eB):=sm ⟨rfl,rfl,rfl,rfl⟩ (by decide+kernel)
abbrev hZ:Stmt:=top 23
def h_:GS:=(aK (bf 2 (aj oMod (aj bS (aj fJ (aj oMod (af 0) (gC (.int 1000000007))) (gC (.int 48271))) (aj fJ (aj fJ (aj bS (af 1) (gC (.int 1))) (aj bS (af 1) (gC (.int 1)))) (gC (.int 69621)))) (gC (.int 2147483647))))
  (cV (aj bI (aj oMod (aj fJ (af 2) (af 2)) (gC (.int 2147483629))) (gC (.int 8)))))
def ic:List Wv->Hs->Re Wv:=iH 3 h_
def ku:Ct:=cB hZ ["cell","k","m"] [] []
theorem vR:cA 30 (ku) (defBody hZ)=h_:=by kernel_rfl
theorem uw:FnScope (ku).N ["cell","k"] (defScope hZ):=sm ⟨rfl,rfl,rfl,rfl⟩ (by decide+kernel)
abbrev eD:Stmt:=top 24
def d0:GS:=(aK (iT (jU iU (af 3) (aj oMod (af 4) (af 1))))
  (bf 4 (aj bI (af 4) (af 1))))
def fQ:GT:=(λ_ st=> .ok true st)
def dM:GE:=(aj oMod (bM 2 ic (ae (af 1) (ae (af 0) aq))) (af 2))
def b9:GS:=(aK (bf 3 (dX aq))
  (aK (kF (cn (aj oEq (aj oMod (af 0) (gC (.int 2))) (gC (.int 1)))) (aK (bf 4 (aj bI (af 0) (gC (.int 2))))
    (lW 5 (ae (af 2) aq) d0)) (bf 3 (dS [("cell",0),("size",1)] (Ff (ae (af 2) aq)) fQ dM)))
  (cV (af 3))))
def eE:List Wv->Hs->Re Wv:=iH 6 b9
def gq:Ct:=cB eD ["cell","size","many","found","rest","k"] ["range"] [("_law_mix",2,ic)]
theorem pE:cA 30 (gq) (defBody eD)=b9:=by kernel_rfl
theorem oO:FnScope (gq).N ["cell","size","many"] (defScope eD):=sm ⟨rfl,rfl,rfl,rfl⟩ (by decide+kernel)
abbrev eF:Stmt:=top 25
def fR:GT:=(λ_ st=> .ok true st)
def dN:GE:=(aj bu (af 1) (af 0))
def eG:GS:=(aK (bf 2 (dX (ae (gC .aR) (ae (gC (.int 0)) (ae (gC (.int 1)) (ae (gC (.int 2)) (ae (Jx n8 (gC (.int 1))) (ae (gC (.str "a")) (ae (gC (.str "b")) (ae (gC (.str "ab")) (ae (gC (.str "")) (ae (aj sZ (gC (.int 10)) (gC (.int 60))) (ae (Jx n8 (aj sZ (gC (.int 10)) (gC (.int 60)))) (ae (gC (.str "1")) (ae (aj fJ (gC (.str "x")) (gC (.int 200))) aq)))))))))))))))
  (cV (dS [("some",2)] (di (bM 3 eE (ae (af 0) (ae (aG ka (ae (af 2) aq)) (ae (af 1) aq))))) fR dN)))
def cZ:List Wv->Hs->Re Wv:=iH 3 eG
def gA:Ct:=cB eF ["cell","many","some"] ["len"] [("_law_digits",3,eE)]
theorem pF:cA 30 (gA) (defBody eF)=eG:=by kernel_rfl
theorem oP:FnScope (gA).N ["cell","many"] (defScope eF):=sm ⟨rfl,rfl,rfl,rfl⟩ (by decide+kernel)
abbrev fi:Stmt:=top 29
def bO:GS:=(kF (AW (cn (aj j_ (af 10) (gC .aR))) (cn (aj oEq (aj oMod (aj bI (af 6) (gC (.int 4))) (gC (.int 2))) (gC (.int 0))))) (jV (af 10) (af 8) (af 9)) bJ)
def bZ:GS:=(kZ (aj bu (dX (ae (gC (.str "b")) (ae (gC (.str "a")) (ae (gC (.str "ab")) (ae (gC (.str "c")) aq))))) (aj oMod (aj bS (af 6) (af 7)) (gC (.int 4)))) (af 5) (af 7))
def ie:GS:=(aK (bf 1 (aj bu (aj bS (af 0) (dX (ae (gC (.int 0)) aq))) (gC (.int 0))))
  (aK (bf 2 (bM 1 eM (ae (af 1) aq)))
  (aK (bf 3 (bM 1 bR (ae (af 2) aq)))
  (aK (bf 4 (aj bS (aj j9 (aj bu (af 2) (gC (.int 3))) (aj bu (af 2) (gC (.int 1)))) (gC (.int 1))))
  (aK (bf 5 (bM 2 cZ (ae (aG vp (ae (bT (af 0) (dm (gC (.int 1))) ei) aq)) (ae (aG fL (ae (af 3) aq)) aq))))
  (aK (bf 6 (aj bI (af 1) (gC (.int 54625))))
  (aK (lW 7 (ae (af 4) aq) bZ)
  (aK (kF (cn (aj oEq (aj oMod (aj bI (af 6) (gC (.int 4))) (gC (.int 5))) (gC (.int 1)))) (kZ (aj bu (dX (ae (gC (.str "")) (ae (gC (.int 3)) (ae (gC .aR) (ae (aj bu (af 5) (gC (.int 0))) aq))))) (aj oMod (aj bI (af 6) (gC (.int 100))) (gC (.int 4)))) (af 5) (aj oMod (aj bI (af 6) (gC (.int 20))) (af 4))) bJ)
  (aK (bf 8 tT)
  (aK (t_ [9,10] (ae (af 3) (ae (af 5) aq)) bO)
  (aK (bf 11 (dX aq))
  (aK (bf 12 (aj bu (af 3) (aj oMod (aj bI (af 6) (gC (.int 400))) (aG fL (ae (af 3) aq)))))
  (aK (bf 13 (dX (ae (cH (ae (aj bS (aj bu (af 2) (gC (.int 2))) (gC (.int 1))) (ae (aj bu (af 2) (gC (.int 1))) aq))) (ae (cH (ae (aj bS (aj bu (af 2) (gC (.int 2))) (gC (.int 2))) (ae (aj bu (af 2) (gC (.int 3))) aq))) aq))))
  (aK (kF (cn (aj Nn (aj bu (af 2) (gC (.int 2))) (gC (.int 96)))) (bf 13 (dX (ae (cH (ae (aj j9 (aj bu (af 2) (gC (.int 0))) (gC (.int 1))) (ae (aj bu (af 2) (gC (.int 1))) aq))) (ae (cH (ae (aj j9 (aj bu (af 2) (gC (.int 0))) (gC (.int 2))) (ae (aj bu (af 2) (gC (.int 3))) aq))) aq)))) bJ)
  (aK (kF (cn (aj oEq (aj oMod (aj bI (af 6) (gC (.int 4))) (gC (.int 5))) (gC (.int 2)))) (jV (cH (ae (gC (.str "fault")) (ae (aj bu (dX (ae (gC (.str "kind")) (ae (gC (.str "great")) (ae (gC (.str "nought")) (ae (gC (.str "none")) (ae (gC (.str "lost")) aq)))))) (aj oMod (aj bI (af 6) (gC (.int 2000))) (gC (.int 5)))) aq))) (af 8) (af 12)) bJ)
  (aK (kF (cn (aj oEq (aj oMod (aj bI (af 6) (gC (.int 4))) (gC (.int 5))) (gC (.int 3)))) (aK (iT (jU iU (af 11) (af 12)))
    (iT (t9 (af 8) (af 12) (gC .aR)))) bJ)
  (aK (jV (cH (ae (gC (.str "fault")) (ae (gC (.str "none")) aq))) (af 8) (aj bu (af 13) (gC (.int 0))))
  (aK (iT (jU iU (af 11) (aj bu (af 13) (gC (.int 1)))))
  (cV (cH (ae (af 8) (ae (af 11) (ae (af 2) aq)))))))))))))))))))))))
def fj:List Wv->Hs->Re Wv:=iH 14 ie
def ig:Ct:={ cB fi ["script","cell","area","places","wide","found","n","k","worths","place","worth","waiting","at","beside"] ["range","zip","sum","len"] [("_law_area",1,eM),("_law_places",1,bR),("_law_worths",2,cZ)] with ud:=["worths"] }
theorem sv:cA 30 (ig) (defBody fi)=ie:=by kernel_rfl
theorem pG:FnScope (ig).N ["script"] (defScope fi):=sm ⟨rfl,rfl,rfl,rfl⟩ (by decide+kernel)
abbrev ij:Stmt:=top 30
def i9:GT:=(λ_ st=> .ok true st)
def i_:GE:=(aG eX (ae (bT (af 1) (dm (af 0)) (dm (aj bS (af 0) (af 2)))) aq))
def bq:GS:=(kF (AW (kW (eR (aG (dZ f7 dJ) (ae (af 7) (ae (gC (.ty "str")) aq))))) (cn (aj oEq (af 7) (gC (.str ""))))) (cV (gC .aR)) bJ)
def ja:GT:=(eR (aG (dZ f7 dJ) (ae (af 0) (ae (gC (.ty "tuple")) aq))))
def jb:GE:=(af 0)
def jc:GT:=(cn (aj (iZ false) (af 0) (af 1)))
def jd:GE:=(af 0)
def je:GT:=(λ_ st=> .ok true st)
def jf:GE:=(mq (af 1) (af 0))
def bA:GS:=(aK (bf 3 (bM 1 bR (ae (af 2) aq)))
  (aK (bf 4 (dS [("worths",0)] (di (af 3)) je jf))
  (aK (bf 5 (aj bS (aj j9 (aj bu (af 2) (gC (.int 3))) (aj bu (af 2) (gC (.int 1)))) (gC (.int 1))))
  (aK (kF (cn (aj rp (dS [("waiting",1)] (di (af 3)) jc jd) (dX aq))) (cV (gC .aR)) bJ)
  (aK (kF (cn (aj rp (dS [] (di (af 4)) ja jb) (dX aq))) (cV (gC .aR)) bJ)
  (aK (bf 6 (aG eX (ae (bT (af 4) ei (dm (af 5))) aq)))
  (aK (tG 7 (af 6) bq)
  (aK (kF (cn (aj oLt (aG qx (ae (af 6) aq)) (af 5))) (cV (gC .aR)) bJ)
  (cV (cH (ae (af 6) (ae (aG eX (ae (dS [("found",4),("wide",5)] (Cw (ae (af 5) (ae (aG fL (ae (af 4) aq)) (ae (af 5) aq)))) i9 i_) aq)) aq))))))))))))
def ik:List Wv->Hs->Re Wv:=iH 8 bA
def kx:Ct:={ cB ij ["worths","waiting","area","places","found","wide","heads","head"] ["tuple","len","set","isinstance","str","range"] [("_law_places",1,bR)] with ud:=["worths"],DY:=["waiting"] }
theorem vS:cA 30 (kx) (defBody ij)=bA:=by kernel_rfl
theorem ux:FnScope (kx).N ["worths","waiting","area"] (defScope ij):=sm ⟨rfl,rfl,rfl,rfl⟩ (by decide+kernel)
abbrev cO:Stmt:=top 16
def cC:GT:=(λ_ st=> .ok true st)
def bQ:GE:=(cH (ae (af 1) (ae (af 0) aq)))
def bU:GS:=(iT (jU t6 (af 1) (dS [("row",2)] (BD (ae (aj bu (af 0) (gC (.int 1))) (ae (aj bS (aj bu (af 0) (gC (.int 3))) (gC (.int 1))) aq))) cC bQ)))
def cP:GS:=(aK (bf 1 (dX aq))
  (aK (lX 2 (ae (aj bu (af 0) (gC (.int 0))) (ae (aj bS (aj bu (af 0) (gC (.int 2))) (gC (.int 1))) aq)) bU)
  (cV (af 1))))
def cQ:List Wv->Hs->Re Wv:=iH 3 cP
def d_:Ct:=cB cO ["area","places","row"] ["range"] []
theorem mw:cA 30 (d_) (defBody cO)=cP:=by kernel_rfl
theorem lH:FnScope (d_).N ["area"] (defScope cO):=sm ⟨rfl,rfl,rfl,rfl⟩ (by decide+kernel)
abbrev il:Stmt:=top 8
def kz:GS:=(cV (iR (iQ oLe oLt (gC (.int 0)) (aj bu (af 0) (gC (.int 0))) (gC (.int 99))) (iQ oLe oLt (gC (.int 0)) (aj bu (af 0) (gC (.int 1))) (gC (.int 26)))))
def ef:List Wv->Hs->Re Wv:=iH 1 kz
def kA:Ct:={ cB il ["place"] [] [] with consts:=[("ROWS",(.int 99)),("COLUMNS",(.int 26))] }
theorem vT:cA 30 (kA) (defBody il)=kz:=by kernel_rfl
theorem uy:FnScope (kA).N ["place"] (defScope il):=sm ⟨rfl,rfl,rfl,rfl⟩ (by decide+kernel)
abbrev eI:Stmt:=top 13
def gB:GS:=(aK (bf 1 (iR (aj oLe (aj bu (af 0) (gC (.int 0))) (aj bu (af 0) (gC (.int 2)))) (aj oLe (aj bu (af 0) (gC (.int 1))) (aj bu (af 0) (gC (.int 3))))))
  (cV (iR (af 1) (iR (bM 1 ef (ae (bT (af 0) ei (dm (gC (.int 2)))) aq)) (bM 1 ef (ae (bT (af 0) (dm (gC (.int 2))) ei) aq))))))
def c7:List Wv->Hs->Re Wv:=iH 2 gB
def gD:Ct:=cB eI ["area","in_order"] [] [("is_place",1,ef)]
theorem pH:cA 30 (gD) (defBody eI)=gB:=by kernel_rfl
theorem oQ:FnScope (gD).N ["area"] (defScope eI):=sm ⟨rfl,rfl,rfl,rfl⟩ (by decide+kernel)
abbrev fS:Stmt:=top 14
def jg:GS:=(cV (aj fJ (aj bS (aj j9 (aj bu (af 0) (gC (.int 2))) (aj bu (af 0) (gC (.int 0)))) (gC (.int 1))) (aj bS (aj j9 (aj bu (af 0) (gC (.int 3))) (aj bu (af 0) (gC (.int 1)))) (gC (.int 1)))))
def eN:List Wv->Hs->Re Wv:=iH 1 jg
def jh:Ct:=cB fS ["area"] [] []
theorem uz:cA 30 (jh) (defBody fS)=jg:=by kernel_rfl
theorem sx:FnScope (jh).N ["area"] (defScope fS):=sm ⟨rfl,rfl,rfl,rfl⟩ (by decide+kernel)
abbrev jQ:Stmt:=top 12
def mx:GS:=(cV (iR (bM 1 c7 (ae (af 0) aq)) (aj oLe (bM 1 eN (ae (af 0) aq)) (gC (.int 300)))))
def gQ:List Wv->Hs->Re Wv:=iH 1 mx
def my:Ct:={ cB jQ ["area"] [] [("has_corners",1,c7),("area_many",1,eN)] with consts:=[("MOST_PLACES",(.int 300))] }
theorem zv:cA 30 (my) (defBody jQ)=mx:=by kernel_rfl
theorem vU:FnScope (my).N ["area"] (defScope jQ):=sm ⟨rfl,rfl,rfl,rfl⟩ (by decide+kernel)
abbrev fT:Stmt:=top 11
def fU:GS:=(aK (bf 4 (cH (ae (af 0) (ae (af 1) (ae (af 2) (ae (af 3) aq))))))
  (aK (kF (kW (eR (bM 1 gQ (ae (af 4) aq)))) (lY "BadArea" (ae (gC (.str "corners that are none, or more than 300 places")) aq)) bJ)
  (cV (af 4))))
def cD:List Wv->Hs->Re Wv:=iH 5 fU
def jj:Ct:={ cB fT ["top","left","bottom","right","area"] [] [("is_area",1,gQ)] with clss:=["BadArea"] }
theorem uA:cA 30 (jj) (defBody fT)=fU:=by kernel_rfl
theorem sy:FnScope (jj).N ["top","left","bottom","right"] (defScope fT):=sm ⟨rfl,rfl,rfl,rfl⟩ (by decide+kernel)
abbrev eJ:Stmt:=top 15
def c9:GS:=(cV (bM 1 cQ (ae (bM 4 cD (ae (aj bu (af 0) (gC (.int 0))) (ae (aj bu (af 0) (gC (.int 1))) (ae (aj bu (af 0) (gC (.int 2))) (ae (aj bu (af 0) (gC (.int 3))) aq))))) aq)))
def b_:List Wv->Hs->Re Wv:=iH 1 c9
def gE:Ct:=cB eJ ["area"] [] [("places_between",1,cQ),("made_area",4,cD)]
theorem pI:cA 30 (gE) (defBody eJ)=c9:=by kernel_rfl
theorem oR:FnScope (gE).N ["area"] (defScope eJ):=sm ⟨rfl,rfl,rfl,rfl⟩ (by decide+kernel)
abbrev fV:Stmt:=top 21
def iC:GT:=(λ_ st=> .ok true st)
def eV:GE:=(iR (aG (dZ f7 dJ) (ae (af 0) (ae (gC (.ty "str")) aq))) (aj rp (af 0) (gC (.str ""))))
def fX:GS:=(cV (iR (aG BE (ae (dS [] (di (af 0)) iC eV) aq)) (aj oEq (aG qx (ae (af 0) aq)) (aG ka (ae (af 0) aq)))))
def fY:List Wv->Hs->Re Wv:=iH 1 fX
def jk:Ct:=cB fV ["line"] ["all","len","set","isinstance","str"] []
theorem uB:cA 30 (jk) (defBody fV)=fX:=by kernel_rfl
theorem sA:FnScope (jk).N ["line"] (defScope fV):=sm ⟨rfl,rfl,rfl,rfl⟩ (by decide+kernel)
abbrev ip:Stmt:=top 18
def fz:GS:=(cV (iR (aG (dZ f7 dJ) (ae (af 0) (ae (gC (.ty "tuple")) aq))) (aj oEq (bT (af 0) ei (dm (gC (.int 1)))) (cH (ae (gC (.str "fault")) aq)))))
def cE:List Wv->Hs->Re Wv:=iH 1 fz
def kC:Ct:=cB ip ["worth"] ["isinstance","tuple"] []
theorem vV:cA 30 (kC) (defBody ip)=fz:=by kernel_rfl
theorem uC:FnScope (kC).N ["worth"] (defScope ip):=sm ⟨rfl,rfl,rfl,rfl⟩ (by decide+kernel)
abbrev iq:Stmt:=top 20
def jm:GT:=(λ_ st=> .ok true st)
def jn:GE:=(aG eX (ae (bT (af 1) (dm (af 0)) (dm (aj bS (af 0) (af 2)))) aq))
def jo:GT:=(λ_ st=> .ok true st)
def jq:GE:=(aj (iZ false) (af 0) (af 1))
def jr:GT:=(λ_ st=> .ok true st)
def ju:GE:=(bM 1 cE (ae (af 0) aq))
def jv:GT:=(λ_ st=> .ok true st)
def jw:GE:=(mq (af 1) (af 0))
def cF:GS:=(aK (bf 3 (bM 1 b_ (ae (af 2) aq)))
  (aK (bf 4 (dS [("worths",0)] (di (af 3)) jv jw))
  (aK (kF (AW (eR (aG y9 (ae (dS [("waiting",1)] (di (af 3)) jo jq) aq))) (eR (aG y9 (ae (dS [] (di (af 4)) jr ju) aq)))) (lY "BadTable" (ae (gC (.str "a cell that waits or is a fault")) aq)) bJ)
  (aK (bf 5 (aj bS (aj j9 (aj bu (af 2) (gC (.int 3))) (aj bu (af 2) (gC (.int 1)))) (gC (.int 1))))
  (aK (bf 6 (dS [("told",4),("wide",5)] (Cw (ae (gC (.int 0)) (ae (aG fL (ae (af 4) aq)) (ae (af 5) aq)))) jm jn))
  (aK (kF (kW (eR (bM 1 fY (ae (aj bu (af 6) (gC (.int 0))) aq)))) (lY "BadTable" (ae (gC (.str "heads that are not unlike texts")) aq)) bJ)
  (cV (cH (ae (aj bu (af 6) (gC (.int 0))) (ae (aG eX (ae (bT (af 6) (dm (gC (.int 1))) ei) aq)) aq))))))))))
def bB:List Wv->Hs->Re Wv:=iH 7 cF
def kD:Ct:={ cB iq ["worths","waiting","area","places","told","wide","lines"] ["any","tuple","range","len"] [("area_places",1,b_),("are_heads",1,fY),("is_fault",1,cE)] with clss:=["BadTable"],ud:=["worths"],DY:=["waiting"] }
theorem vW:cA 30 (kD) (defBody iq)=cF:=by kernel_rfl
theorem uD:FnScope (kD).N ["worths","waiting","area"] (defScope iq):=sm ⟨rfl,rfl,rfl,rfl⟩ (by decide+kernel)
abbrev fZ:Stmt:=top 31
def fA:GS:=(bf 3 (bM 3 bB (ae (af 0) (ae (af 1) (ae (af 2) aq)))))
def cG:GS:=(aK (kF (AV (eR (aG (dZ f7 dJ) (ae (af 4) (ae (gC (.cls "BadArea")) aq)))) (kW (eR (aG (dZ f7 dJ) (ae (af 4) (ae (gC (.cls "BadTable")) aq)))))) (bf 3 (gC (.str "area"))) bJ)
  (kF (AV (eR (aG (dZ f7 dJ) (ae (af 4) (ae (gC (.cls "BadTable")) aq)))) (kW (eR (aG (dZ f7 dJ) (ae (af 4) (ae (gC (.cls "BadArea")) aq)))))) (bf 3 (gC .aR)) bJ))
def dy:GS:=(aK (bf 3 (gC (.str "other")))
  (aK (yB (λy=>Dz.lookup (y,("SheetError":PySem.Str))) 4 fA cG)
  (cV (af 3))))
def bt:List Wv->Hs->Re Wv:=iH 5 dy
def jx:Ct:={ cB fZ ["worths","waiting","area","told","e"] ["isinstance"] [("table_of",3,bB)] with clss:=["SheetError"],xx:=["BadArea","BadTable"],ud:=["worths"] }
theorem uE:cA 30 (jx) (defBody fZ)=dy:=by kernel_rfl
theorem sC:FnScope (jx).N ["worths","waiting","area"] (defScope fZ):=sm ⟨rfl,rfl,rfl,rfl⟩ (by decide+kernel)
abbrev xO:Stmt:=top 32
def lI:GS:=(kF (cn (aj rp (bM 3 bt (ae (af 1) (ae (af 2) (ae (af 13) aq)))) (gC (.str "area")))) (cV (gC (.bl false))) bJ)
def uF:GS:=(aK (qc [1,2,3] (bM 1 fj (ae (af 0) aq)))
  (aK (bf 4 (bM 3 ik (ae (af 1) (ae (af 2) (ae (af 3) aq)))))
  (aK (bf 5 (cH (ae (aG qu (ae (af 1) aq)) (ae (aG mh (ae (af 2) aq)) aq))))
  (aK (bf 6 (bM 3 bt (ae (af 1) (ae (af 2) (ae (af 3) aq)))))
  (aK (kF (AW (cn (aj rp (af 6) (af 4))) (cn (aj y6 (cH (ae (af 1) (ae (af 2) aq))) (af 5)))) (cV (gC (.bl false))) bJ)
  (aK (kF (cn (aj j_ (af 4) (gC .aR))) (kF (AW (kW (eR (aG (oI f7 dJ) (ae (af 6) (ae (gC (.ty "tuple")) aq))))) (AW (kW (eR (aG (oI f7 dJ) (ae (aj bu (af 6) (gC (.int 0))) (ae (gC (.ty "tuple")) aq))))) (kW (eR (aG (oI f7 dJ) (ae (aj bu (af 6) (gC (.int 1))) (ae (gC (.ty "tuple")) aq))))))) (cV (gC (.bl false))) bJ) bJ)
  (aK (kF (cn (aj rp (bM 3 bt (ae (af 1) (ae (aG eX (ae (af 2) aq)) (ae (af 3) aq)))) (af 4))) (cV (gC (.bl false))) bJ)
  (aK (bf 7 (aj oMod (aG vp (ae (af 0) aq)) (aj sZ (gC (.int 10)) (gC (.int 30)))))
  (aK (qc [8,9,10,11] (af 3))
  (aK (bf 12 (dX (ae (cH (ae (aj bS (af 10) (gC (.int 1))) (ae (af 9) (ae (af 10) (ae (af 11) aq))))) (ae (cH (ae (af 8) (ae (af 9) (ae (aj bS (gC (.int 99)) (af 7)) (ae (af 11) aq))))) (ae (cH (ae (aj j9 (Jx n8 (gC (.int 1))) (af 7)) (ae (gC (.int 0)) (ae (gC (.int 3)) (ae (gC (.int 3)) aq))))) aq)))))
  (aK (bf 12 (aj bS (af 12) (dX (ae (cH (ae (gC (.int 0)) (ae (gC (.int 0)) (ae (gC (.int 98)) (ae (gC (.int 25)) aq))))) (ae (cH (ae (gC (.int 0)) (ae (Jx n8 (gC (.int 1))) (ae (gC (.int 0)) (ae (gC (.int 0)) aq))))) (ae (cH (ae (gC (.int 0)) (ae (gC (.int 26)) (ae (gC (.int 0)) (ae (aj bS (gC (.int 26)) (af 7)) aq))))) aq))))))
  (aK (tG 13 (aj bS (af 12) (dX (ae (cH (ae (af 8) (ae (aj bS (af 11) (gC (.int 1))) (ae (af 10) (ae (af 11) aq))))) aq))) lI)
  (cV (gC (.bl true)))))))))))))))
def F_law:List Wv->Hs->Re Wv:=iH 14 uF
def DA:Ct:={ cB xO ["script","worths","waiting","area","due","handed","found","far","top","left","bottom","right","bad","some"] ["dict","list","sum","tuple","isinstance"] [("_law_drawn",1,fj),("_law_due",3,ik),("_law_told",3,bt)] with ud:=["worths"] }
theorem OJ:cA 30 (DA) (defBody xO)=uF:=by kernel_rfl
theorem LI:FnScope (DA).N ["script"] (defScope xO):=sm ⟨rfl,rfl,rfl,rfl⟩ (by decide+kernel)
inductive Wo
 | aR
 | int (i:Int)
 | str (z:PySem.Str)
def Wo.w:Wo->Wv
 | .aR=> .aR
 | .int i=> .int i
 | .str z=> .str z
def Wo.eq:Wo->Wo->Bool
 | .aR,.aR=>true
 | .int i,.int j=>i == j
 | .str x,.str y=>x == y
 | _,_=>false
def Wo.lt:Wo->Wo->Bool
 | .int i,.int j=>decide (i < j)
 | .str x,.str y=>decide (x.cps.toList < y.cps.toList)
 | _,_=>false
def Wo.nn:Wo->Bool
 | .aR=>false
 | _=>true
def LJ:Wv->Wo
 | .int i=> .int i
 | .str z=> .str z
 | _=> .aR
theorem OK(a:Wo):LJ a.w=a:=by cases a<;>rfl
section
variable {st:Hs}
theorem R0(a:Wo):j_ a.w .aR st= .ok (.bl a.nn) st:=by cases a<;>rfl
theorem Gm{x:Wv}{T:String}{b:Bool}(hT:vh T=true)(h:Mf st T x=some b)(hx:∀c,x≠.j7 c):dZ f7 dJ [x,.ty T] st= .ok (.bl b) st:=by
 have e:dZ f7 dJ [x,.ty T] st=JR [x,.ty T] st:=by
  cases x<;>first | rfl | exact absurd rfl (hx _)
 rw[e]
 show(if vh T=true then(match Mf st T x with | some b=>Re.ok (Wv.bl b) st | none=> .bad) else .bad)=_
 rw[if_pos hT,h]
def Wo.HN:Wo->Bool
 | .str _=>true
 | _=>false
theorem aS(a:Wo):dZ f7 dJ [a.w,.ty "str"] st= .ok (.bl a.HN) st:=Gm (by decide) (by cases a<;>rfl) (by cases a<;>intro c h<;>cases h)
theorem aT(a:Wo):dZ f7 dJ [a.w,.ty "tuple"] st= .ok (.bl false) st:=Gm (by decide) (by cases a<;>rfl) (by cases a<;>intro c h<;>cases h)
theorem DB(a:Wo):cE [a.w] st= .ok (.bl false) st:=by
 refine du (n:=1) (g:=fz) ?_
 unfold fz
 simp[aT]
theorem DC{l k:Nat}{c:List Wo}(h:ai st l=some (c.map Wo.w))(hk:k < c.length):bu (.ref l) (.int (k:Int)) st= .ok (c.getD k .aR).w st:=by
 refine si h ?_
 rw[L2.dC (v:=(c.map Wo.w)[k]'(by simpa using hk)) (cW _)]
 simp[hk]
theorem OL{l:Nat}{c:List Wo}(h:ai st l=some (c.map Wo.w)):ka [.ref l] st= .ok (.int (c.length:Int)) st:=by
 have:ka [.ref l] st= .ok (.int ((c.map Wo.w).length:Int)) st:=by
  show(match ai st l with | some ws=>Re.ok (Wv.int ws.length) st | none=> .bad)=_
  rw[h]
 rw[this,aH]
end
section
variable {st:Hs}
theorem kE{x m:Int}(h:0 < m):0<=x.fmod m/\x.fmod m < m:=⟨Int.fmod_nonneg_of_pos x h,Int.fmod_lt_of_pos x h⟩
def oS(c k:Int):Int:=(c.fmod 1000000007 * 48271+(k+1) * (k+1) * 69621).fmod 2147483647
def zw(c k:Int):Int:=((oS c k * oS c k).fmod 2147483629).fdiv 8
theorem mix{c k:Int}(h0:0<=k)(h1:k<=100):ic [.int c,.int k] st= .ok (.int (zw c k)) st:=by
 have b1:=kE (x:=c) (m:=1000000007) (by omega)
 have b2:=kE (x:=c.fmod 1000000007 * 48271+(k+1) * (k+1) * 69621) (m:=2147483647) (by omega)
 have k1:(k+1) * (k+1)<=101 * 101:=DD (by omega) (by omega) (by omega) (by omega)
 have k2:0<=(k+1) * (k+1):=Int.mul_nonneg (by omega) (by omega)
 have m1:=um (st:=st) (i:=c.fmod 1000000007) (j:=48271) (by omega) (by omega)
 have m2:=um (st:=st) (i:=k+1) (j:=k+1) (by omega) (by omega)
 have m3:=um (st:=st) (i:=(k+1) * (k+1)) (j:=69621) (by omega) (by omega)
 have m4:=um (st:=st) (i:=oS c k) (j:=oS c k) (by unfold oS;omega) (by unfold oS;omega)
 have a1:=dq (st:=st) (i:=c) (j:=1000000007) (by decide)
 have a2:oMod (.int (c.fmod 1000000007 * 48271+(k+1) * (k+1) * 69621)) (.int 2147483647) st= .ok (.int (oS c k)) st:=dq (by decide)
 have a3:=dq (st:=st) (i:=oS c k * oS c k) (j:=2147483629) (by decide)
 have a4:=dH (st:=st) (i:=(oS c k * oS c k).fmod 2147483629) (j:=8) ⟨by decide,by decide⟩
 refine du (n:=3) (g:=h_) ?_
 unfold h_
 simp[a1,m1,m2,m3,a2,m4,a3,a4,zw]
def HP:Wv->Int
 | .int i=>i
 | _=>0
theorem digits{c:Int}{many:Nat}(hm:many<=60):∃(l:Nat)(st':Hs)(ds:List Int),eE [.int c,.int 13,.int (many:Int)] st= .ok (.ref l) st'/\ai st' l=some (ds.map Wv.int)/\ds.length=many/\(∀d∈ds,0<=d/\d < 13)/\Gr st st':=by
 have cr:bN (many:Int):=OI (by omega) (by omega)
 have R4:(13:Int)≠0/\(13:Int).natAbs.log2 < 9000:=⟨by decide,by decide⟩
 have md:=dq (st:=st++[.lst []]) (i:=c) (j:=2) (by decide)
 have fd:=dH (st:=st++[.lst []]) (i:=c) (j:=2) ⟨by decide,by decide⟩
 by_cases odd:c.fmod 2=1
 ·obtain⟨ρ',s1,e1,rest,o5,ds,rfl,rfl,hl,hb⟩:=jO (i:=5) (gb:=d0) (λk ρ st'=>∃(rest:Int)(o5:Option Wv)(ds:List Int),ρ=[some (.int c),some (.int 13),some (.int (many:Int)),some (.ref st.length),some (.int rest),o5]/\st'=st++[.lst (ds.map Wv.int)]/\ds.length=k/\∀d∈ds,0<=d/\d < 13)
   (bC 0 many) 0 [some (.int c),some (.int 13),some (.int (many:Int)),some (.ref st.length),some (.int (c.fdiv 2)),none] (st++[.lst []]) ⟨_,_,[],rfl,rfl,rfl,λd h=>by cases h⟩ (λj w hw ρ st' hP=>by
    obtain⟨rest,o5,ds,rfl,rfl,hl,hb⟩:=hP
    have hj:j < many:=by
     have q:=(List.getElem?_eq_some_iff.mp hw).1
     rw[bD] at q
     exact q
    have km:=λga ρ=>lF (mt:=iU) (ga:=ga) (ρ:=ρ) (st:=st++[.lst (ds.map Wv.int)]) aE
    have ap:=sj (st:=st) (acc:=ds.map Wv.int) (v:=.int (rest.fmod 13)) (by rw[aH];unfold lim;omega)
    have ed:ds.map Wv.int++[.int (rest.fmod 13)]=(ds++[rest.fmod 13]).map Wv.int:=by simp
    rw[ed] at ap
    refine⟨[some (.int c),some (.int 13),some (.int (many:Int)),some (.ref st.length),some (.int (rest.fdiv 13)),some w],st++[.lst ((ds++[rest.fmod 13]).map Wv.int)],?_,_,_,ds++[rest.fmod 13],rfl,rfl,by simp[hl],λd hd=>?_⟩
    ·unfold d0
     simp[-jR,km,dq R4.1,ap,dH R4]
    ·rcases List.mem_append.mp hd with z | z
     ·exact hb d z
     ·simp at z
      rw[z]
      exact kE (by omega))
  rw[bD,f6] at hl
  refine⟨st.length,st++[.lst (ds.map Wv.int)],ds,?_,aE,hl,hb,Gr.push⟩
  refine du (n:=6) (g:=b9) ?_
  unfold b9
  simp[md,odd,fd,cr,e1]
 ·have zf:(c.fmod 2 == 1)=false:=by simpa using odd
  have q:=cL (cs:=[("cell",0),("size",1)]) (gt:=fQ) (ge:=dM) (ρ:=[some (.int c),some (.int 13),some (.int (many:Int)),some (.ref st.length),none,none]) (w:=(none,bC 0 many)) (st:=st++[.lst []]) (t:=λ_=>true) (f:=λv=> .int ((zw c (HP v)).fmod 13)) trivial
   (λv _ acc=>rfl) (λv hv _ acc=>by
    obtain⟨k,rfl,h0,h1⟩:=Gk hv
    unfold dM
    simp[dQ,mix (c:=c) (k:=k) (by omega) (by omega),dq R4.1,HP])
   (by show(bC 0 many).length < lim;rw[bD];unfold lim;omega)
  rw[show((none,bC 0 many):Wk).2=bC 0 many from rfl,List.filter_eq_self.mpr (λ_ _=>rfl)] at q
  have e2:(bC 0 many).map (λv=>Wv.int ((zw c (HP v)).fmod 13))=((bC 0 many).map λv=>(zw c (HP v)).fmod 13).map Wv.int:=by rw[aL];rfl
  rw[e2] at q
  refine⟨(st++[Ob.lst []]).length,(st++[.lst []])++[.lst (((bC 0 many).map λv=>(zw c (HP v)).fmod 13).map Wv.int)],_,?_,aE,by rw[aH,bD],λd hd=>?_,Gr.push.trans Gr.push⟩
  ·refine du (n:=6) (g:=b9) ?_
   unfold b9
   simp[-gX,-dB,-aL,md,zf,LB cr,q]
  ·obtain⟨v,_,rfl⟩:=List.mem_map.mp hd
   exact kE (by omega)
def xS:PySem.Str:=pz 200 "x"
def SM:List Wo:=[.aR,.int 0,.int 1,.int 2,.int (-1),.str "a",.str "b",.str "ab",.str "",.int 1000000000000000000000000000000000000000000000000000000000000,.int (-1000000000000000000000000000000000000000000000000000000000000),.str "1",.str xS]
theorem R6:fJ (.str "x") (.int 200) st= .ok (.str xS) st:=by
 show(if mG "x" 200 then Re.ok (Wv.str (pz (200:Int).toNat "x")) st else .bad)=_
 rw[if_pos (by unfold mG lim;decide)]
 rfl
theorem Wl:sZ (.int 10) (.int 60) st= .ok (.int 1000000000000000000000000000000000000000000000000000000000000) st:=HH (i:=10) (j:=60) (st:=st) (by decide)
theorem LK{c:Int}{many:Nat}(hm:many<=60):∃(l:Nat)(st':Hs)(ws:List Wo),cZ [.int c,.int (many:Int)] st= .ok (.ref l) st'/\st'[l]? =some (.lst (ws.map Wo.w))/\ws.length=many/\Gr st st'/\st.length<=l:=by
 have UN:hU [.aR,.int 0,.int 1,.int 2,.int (-1),.str "a",.str "b",.str "ab",.str "",.int 1000000000000000000000000000000000000000000000000000000000000,.int (-1000000000000000000000000000000000000000000000000000000000000),.str "1",.str xS] st= .ok (.ref st.length) (st++[.lst (SM.map Wo.w)]):=kq (by simp[lim])
 obtain⟨s0,hs0⟩:∃s0,st++[Ob.lst (SM.map Wo.w)]=s0:=⟨_,rfl⟩
 rw[hs0] at UN
 have ls:ai s0 st.length=some (SM.map Wo.w):=by rw[<-hs0];exact aE
 have ln:ka [.ref st.length] s0= .ok (.int 13) s0:=OL ls
 obtain⟨l,s1,ds,e1,l1,n1,b1,g1⟩:=digits (c:=c) (many:=many) hm (st:=s0)
 have Wm:=g1.lst ls
 have q:=cL (cs:=[("some",2)]) (gt:=fR) (ge:=dN) (ρ:=[some (.int c),some (.int (many:Int)),some (.ref st.length)]) (w:=(some l,ds.map Wv.int)) (st:=s1) (t:=λ_=>true) (f:=λv=>(SM.getD (HP v).toNat .aR).w) l1
  (λv _ acc=>rfl) (λv hv _ acc=>by
   obtain⟨d,hd,rfl⟩:=List.mem_map.mp hv
   have b:=b1 d hd
   have ix:=DC (st:=s1++[.lst acc]) (k:=d.toNat) (zt Wm) (show d.toNat < 13 by omega)
   rw[show((d.toNat:Nat):Int)=d by omega] at ix
   unfold dN
   simp[-rJ,dQ,ix,HP])
  (by show(ds.map Wv.int).length < lim;rw[aH];unfold lim;omega)
 rw[show((some l,ds.map Wv.int):Wk).2=ds.map Wv.int from rfl,List.filter_eq_self.mpr (λ_ _=>rfl)] at q
 have e2:(ds.map Wv.int).map (λv=>(SM.getD (HP v).toNat .aR).w)=(ds.map λd=>SM.getD d.toNat .aR).map Wo.w:=by rw[aL,aL];rfl
 rw[e2] at q
 refine⟨s1.length,s1++[.lst ((ds.map λd=>SM.getD d.toNat .aR).map Wo.w)],_,?_,fh,by rw[aH];exact n1,by rw[<-hs0] at g1;exact Gr.push.trans (g1.trans Gr.push),by have:=g1.1;rw[<-hs0] at this;simp at this;omega⟩
 refine du (n:=3) (g:=eG) ?_
 unfold eG
 simp[-rJ,-aL,Wl,R6,UN,ln,e1,br l1,q]
end
def tI(l:List Int):Wv:=.tup (l.map Wv.int)
def eO(a b c d:Int):Prop:=0<=a/\a<=c/\c<=98/\0<=b/\b<=d/\d<=25/\(c - a+1) * (d - b+1)<=300
def dO(a b:Int):Prop:=0<=a/\a<=98/\0<=b/\b<=25
theorem OM{x:Wv}{ws:List Wv}{st:Hs}:bu (.tup (x::ws)) (.int 0) st= .ok x st:=uo (L2.dC (j:=0) rfl)
theorem ON{x y:Wv}{ws:List Wv}{st:Hs}:bu (.tup (x::y::ws)) (.int 1) st= .ok y st:=uo (L2.dC (j:=1) rfl)
theorem LL{ws us:List Wv}{lo hi:Option Int}{st:Hs}(h:¬mQ ws.length lo hi)(h2:iG ws lo hi=us):tR (.tup ws) lo hi st= .ok (.tup us) st:=by
 show(if mQ ws.length lo hi then Re.ok (Wv.tup ws) st else Me (.tup ws) lo hi st)=_
 rw[if_neg h]
 show(if mQ ws.length lo hi then Re.bad else Re.ok (Wv.tup (iG ws lo hi)) st)=_
 rw[if_neg h,h2]
instance {a b:Int}:Decidable (dO a b):=by unfold dO;infer_instance
instance {a b c d:Int}:Decidable (eO a b c d):=by unfold eO;infer_instance
theorem uG{a b:Int}{ws:List Wv}{st:Hs}:ef [.tup (.int a:: .int b::ws)] st= .ok (.bl (decide (dO a b))) st:=by
 unfold ef iH kz
 by_cases c1:0<=a
 ·by_cases c2:a < 99
  ·by_cases c3:0<=b
   ·by_cases c4:b < 26
    ·have e:decide (dO a b)=true:=decide_eq_true ⟨c1,by omega,c3,by omega⟩
     simp[OM,ON,c1,c2,c3,c4,e]
    ·have e:decide (dO a b)=false:=decide_eq_false λh=>c4 (by have:=h.2.2.2;omega)
     simp[OM,ON,c1,c2,c3,c4,e]
   ·have e:decide (dO a b)=false:=decide_eq_false λh=>c3 h.2.2.1
    simp[OM,ON,c1,c2,c3,e]
  ·have e:decide (dO a b)=false:=decide_eq_false λh=>c2 (by have:=h.2.1;omega)
   simp[OM,ON,c1,c2,e]
 ·have e:decide (dO a b)=false:=decide_eq_false λh=>c1 h.1
  simp[OM,ON,c1,e]
theorem R7{i j:Int}{st:Hs}(h:(-1000000<=i/\i<=1000000)\/(-1000000<=j/\j<=1000000)):fJ (.int i) (.int j) st= .ok (.int (i * j)) st:=by
 rcases h with h | h
 ·exact um (by omega) (by omega)
 ·exact mul_r (by omega) (by omega)
theorem HQ{a b c d:Wv}{st:Hs}:tR (.tup [a,b,c,d]) none (some 2) st= .ok (.tup [a,b]) st:=LL (by show ¬mQ 4 none (some 2);decide+kernel) rfl
theorem HR{a b c d:Wv}{st:Hs}:tR (.tup [a,b,c,d]) (some 2) none st= .ok (.tup [c,d]) st:=LL (by show ¬mQ 4 (some 2) none;decide+kernel) rfl
def Co(a b c d:Int):Prop:=(a<=c/\b<=d)/\dO a b/\dO c d
instance {a b c d:Int}:Decidable (Co a b c d):=by unfold Co;infer_instance
theorem P8{a b c d:Wv}{st:Hs}:bu (.tup [a,b,c,d]) (.int 0) st= .ok a st/\bu (.tup [a,b,c,d]) (.int 1) st= .ok b st/\bu (.tup [a,b,c,d]) (.int 2) st= .ok c st/\bu (.tup [a,b,c,d]) (.int 3) st= .ok d st :=
 ⟨uo (L2.dC (j:=0) rfl),uo (L2.dC (j:=1) rfl),uo (L2.dC (j:=2) rfl),uo (L2.dC (j:=3) rfl)⟩
theorem mL{a b c d:Int}{st:Hs}:c7 [tI [a,b,c,d]] st= .ok (.bl (decide (Co a b c d))) st:=by
 obtain⟨i0,i1,i2,i3⟩:=P8 (a:=.int a) (b:=.int b) (c:=.int c) (d:=.int d) (st:=st)
 unfold c7 iH gB tI
 simp only[av,fH]
 by_cases c1:a<=c
 ·by_cases c2:b<=d
  ·by_cases c3:dO a b
   ·have e:decide (Co a b c d)=decide (dO c d):=by unfold Co;simp[c1,c2,c3]
    simp[i0,i1,i2,i3,c1,c2,HQ,HR,uG,c3,e]
   ·have e:decide (Co a b c d)=false:=decide_eq_false λh=>c3 h.2.1
    simp[i0,i1,i2,i3,c1,c2,HQ,HR,uG,c3,e]
  ·have e:decide (Co a b c d)=false:=decide_eq_false λh=>c2 h.1.2
   simp[i0,i1,i2,i3,c1,c2,e]
 ·have e:decide (Co a b c d)=false:=decide_eq_false λh=>c1 h.1.1
  simp[i0,i1,i2,i3,c1,e]
theorem xP{a b c d:Int}{st:Hs}:gQ [tI [a,b,c,d]] st= .ok (.bl (decide (eO a b c d))) st:=by
 obtain⟨i0,i1,i2,i3⟩:=P8 (a:=.int a) (b:=.int b) (c:=.int c) (d:=.int d) (st:=st)
 unfold gQ iH mx
 by_cases h:Co a b c d
 ·have hm:fJ (.int (c - a+1)) (.int (d - b+1)) st= .ok (.int ((c - a+1) * (d - b+1))) st:=by
   obtain⟨⟨h1,h2⟩,h3,h4⟩:=h
   exact R7 (.inl ⟨by omega,by have:=h3.1;have:=h4.2.1;omega⟩)
  have am:eN [tI [a,b,c,d]] st= .ok (.int ((c - a+1) * (d - b+1))) st:=by
   unfold eN iH jg tI
   simp only[av,fH]
   simp[i0,i1,i2,i3,hm]
  have e:decide (eO a b c d)=decide ((c - a+1) * (d - b+1)<=300):=by
   obtain⟨⟨h1,h2⟩,h3,h4⟩:=h
   unfold dO at h3 h4
   unfold eO
   congr 1
   apply propext
   constructor
   ·exact λz=>z.2.2.2.2.2.2
   ·exact λz=>⟨h3.1,h1,h4.2.1,h3.2.2.1,h2,h4.2.2.2,z⟩
  have hc:=mL (a:=a) (b:=b) (c:=c) (d:=d) (st:=st)
  rw[decide_eq_true h] at hc
  simp[hc,am,e]
 ·have hc:=mL (a:=a) (b:=b) (c:=c) (d:=d) (st:=st)
  rw[decide_eq_false h] at hc
  have e:decide (eO a b c d)=false:=decide_eq_false λz=>h (by
   obtain⟨z1,z2,z3,z4,z5,z6,_⟩:=z
   exact⟨⟨z2,z5⟩,⟨z1,by omega,z4,by omega⟩,⟨by omega,z3,by omega,z6⟩⟩)
  simp[hc,e]
theorem zx{a b c d:Int}{st:Hs}(h:eO a b c d):cD [.int a,.int b,.int c,.int d] st= .ok (tI [a,b,c,d]) st:=by
 have e:=xP (a:=a) (b:=b) (c:=c) (d:=d) (st:=st)
 simp[tI] at e
 unfold cD iH fU
 simp[e,h,tI]
theorem vX{a b c d:Int}{st:Hs}(h:¬eO a b c d):cD [.int a,.int b,.int c,.int d] st= .err "BadArea" st:=by
 have e:=xP (a:=a) (b:=b) (c:=c) (d:=d) (st:=st)
 simp[tI] at e
 unfold cD iH fU
 simp[e,h,lim]
theorem OO{a b c d:Wv}{st:Hs}:bu (.tup [a,b,c,d]) (.int 0) st= .ok a st/\bu (.tup [a,b,c,d]) (.int 1) st= .ok b st/\bu (.tup [a,b,c,d]) (.int 2) st= .ok c st/\bu (.tup [a,b,c,d]) (.int 3) st= .ok d st:=⟨rfl,rfl,rfl,rfl⟩
theorem qB{st:Hs}{xs:List Ob}{ws:List Wv}:ai (st++ .lst ws::xs) st.length=some ws:=by unfold ai;simp
section
variable {a b c d:Int} {st:Hs}
theorem Wn:L2.mE [Wv.int a,.int b,.int c,.int d] 1=some (.int b):=rfl
theorem Wq:L2.mE [Wv.int a,.int b,.int c,.int d] 3=some (.int d):=rfl
def fk(r b:Int)(n:Nat):List Wv:=(a9 n).map λk:Nat=> .tup [.int r,.int (b+k)]
def cT(a b:Int)(m n:Nat):List Wv:=((a9 m).map λk:Nat=>fk (a+k) b n).flatten
theorem mz{m n:Nat}:(cT a b m n).length=m * n:=by
 unfold cT
 rw[List.length_flatten,aL]
 have:(gU ∘ λk:Nat=>fk (a+k) b n)=λ_=>n:=by funext k;simp[fk]
 rw[this]
 clear this
 induction m with
 | zero=>simp
 | succ m ih=>rw[xQ,jR,List.sum_append,ih,m_];simp
theorem oT{m n:Nat}:cT a b (m+1) n=cT a b m n++fk (a+m) b n:=by
 unfold cT
 rw[xQ,jR,List.flatten_append]
 simp
theorem DE{o:Wv}{r:Int}{st:Hs}(hb:bN b)(hd:bN (d+1))(hn:(d+1 - b).toNat<=300) :
  dS [("row",2)] (BD (ae (aj bu (af 0) (gC (.int 1))) (ae (aj bS (aj bu (af 0) (gC (.int 3))) (gC (.int 1))) aq))) cC bQ [some (.tup [.int a,.int b,.int c,.int d]),some o,some (.int r)] st=
   .ok (.ref st.length) (st++[.lst (fk r b (d+1 - b).toNat)]):=by
 have q:=cL (cs:=[("row",2)]) (gt:=cC) (ge:=bQ) (ρ:=[some (.tup [.int a,.int b,.int c,.int d]),some o,some (.int r)]) (w:=(none,bC b (d+1 - b).toNat)) (st:=st) (t:=λ_=>true) (f:=λv=> .tup [.int r,v]) trivial
  (λv _ acc=>rfl) (λv _ _ acc=>by unfold bQ;simp[dQ]) (by rw[show((none,bC b (d+1 - b).toNat):Wk).2=bC b (d+1 - b).toNat from rfl,bD];unfold lim;omega)
 have e:((bC b (d+1 - b).toNat).filter λ_=>true).map (λv=>Wv.tup [.int r,v])=fk r b (d+1 - b).toNat:=by
  rw[List.filter_eq_self.mpr (λ_ _=>rfl)]
  unfold bC fk
  rw[aL]
  rfl
 rw[show((none,bC b (d+1 - b).toNat):Wk).2=bC b (d+1 - b).toNat from rfl,e] at q
 simp[uo Wn,uo Wq,LC hb hd,q]
theorem xc{st more:Hs}{acc row:List Wv}(h:acc.length+row.length<=lim):Ka (.ref st.length) (.ref (st++ .lst acc::more).length) ((st++ .lst acc::more)++[.lst row])= .ok .aR (st++ .lst (acc++row)::(more++[.lst row])):=by
 have g1:((st++Ob.lst acc::more)++[Ob.lst row])[st.length]? =some (.lst acc):=by simp
 have g2:((st++Ob.lst acc::more)++[Ob.lst row])[(st++Ob.lst acc::more).length]? =some (.lst row):=by rw[jZ (ao _),ni];rfl
 show(match((st++Ob.lst acc::more)++[Ob.lst row])[st.length]?,((st++Ob.lst acc::more)++[Ob.lst row])[(st++Ob.lst acc::more).length]? with
  | some (.lst ws),some (.lst zs)=>if ws.length+zs.length<=lim then Re.ok Wv.aR (((st++Ob.lst acc::more)++[Ob.lst row]).set st.length (.lst (ws++zs))) else .bad
  | _,_=> .bad)=_
 rw[g1,g2]
 dsimp only
 rw[if_pos h]
 congr 1
 simp
theorem DF{st more:Hs}{acc row:List Wv}(h:acc.length+row.length<=lim):t6 (.ref st.length) (.ref (st++ .lst acc::more).length) ((st++ .lst acc::more)++[.lst row])= .ok .aR (st++ .lst (acc++row)::(more++[.lst row])):=xc h
theorem zy(hb:bN b)(hd:bN (d+1))(hn:(d+1 - b).toNat<=300){m:Nat}(hm:m<=100){ρ0:Option Wv}:∃(o:Option Wv)(more:Hs),
  dz 2 bU (bC a m) [some (.tup [.int a,.int b,.int c,.int d]),some (.ref st.length),ρ0] (st++[.lst []])= .nx [some (.tup [.int a,.int b,.int c,.int d]),some (.ref st.length),o] (st++ .lst (cT a b m (d+1 - b).toNat)::more):=by
 obtain⟨ρ1,st1,e1,o,more,rfl,rfl⟩:=jO (i:=2) (gb:=bU) (λk ρ st'=>∃(o:Option Wv)(more:Hs),ρ=[some (.tup [.int a,.int b,.int c,.int d]),some (.ref st.length),o]/\st'=st++ .lst (cT a b k (d+1 - b).toNat)::more)
  (bC a m) 0 [some (.tup [.int a,.int b,.int c,.int d]),some (.ref st.length),ρ0] (st++[.lst []]) ⟨ρ0,[],rfl,rfl⟩ (λj w hw ρ st' hP=>by
   obtain⟨o,more,rfl,rfl⟩:=hP
   have hj:j < m:=by
    have q:=(List.getElem?_eq_some_iff.mp hw).1
    rw[bD] at q
    exact q
   rw[gK hj] at hw
   cases hw
   have ln:(cT a b (0+j) (d+1 - b).toNat).length+(fk (a+j) b (d+1 - b).toNat).length<=lim:=by
    rw[mz]
    have z:(fk (a+(j:Int)) b (d+1 - b).toNat).length=(d+1 - b).toNat:=by unfold fk;simp
    rw[z]
    have:(0+j) * (d+1 - b).toNat<=100 * 300:=sD (by omega) hn
    unfold lim
    omega
   refine⟨_,_,?_,some (.int (a+(j:Int))),more++[.lst (fk (a+j) b (d+1 - b).toNat)],rfl,rfl⟩
   have e:cT a b (0+j+1) (d+1 - b).toNat=cT a b (0+j) (d+1 - b).toNat++fk (a+j) b (d+1 - b).toNat:=by rw[f6];exact oT
   rw[e]
   have rc:=DE (a:=a) (c:=c) (o:=.ref st.length) (r:=a+(j:Int)) (st:=st++ .lst (cT a b (0+j) (d+1 - b).toNat)::more) hb hd hn
   have km:=λga ρ=>lF (mt:=t6) (ga:=ga) (ρ:=ρ) (st:=st++ .lst (cT a b (0+j) (d+1 - b).toNat)::more) (l:=st.length) qB
   have em:=DF (st:=st) (more:=more) ln
   unfold bU
   simp only[e_expr,Lz,xK,lJ,lK,DG,vY,xJ,nE,km,rc,em,r9,r6])
 exact⟨o,more,by rw[e1,bD,f6]⟩
theorem oU(h:eO a b c d):∃more:Hs,cQ [tI [a,b,c,d]] st= .ok (.ref st.length) (st++ .lst (cT a b (c+1 - a).toNat (d+1 - b).toNat)::more):=by
 unfold eO at h
 obtain⟨o,more,e⟩:=zy (a:=a) (c:=c) (st:=st) (b:=b) (d:=d) (ρ0:=none) (by unfold bN;omega) (by unfold bN;omega) (by omega) (m:=(c+1 - a).toNat) (by omega)
 have ca:bN a:=by unfold bN;omega
 have cc:bN (c+1):=by unfold bN;omega
 refine⟨more,du (n:=3) (g:=cP) ?_⟩
 unfold cP
 simp[tI,OO,ca,cc]
 simp[e]
theorem uH{st:Hs}(h:eO a b c d):∃more:Hs,b_ [tI [a,b,c,d]] st= .ok (.ref st.length) (st++ .lst (cT a b (c+1 - a).toNat (d+1 - b).toNat)::more):=by
 obtain⟨more,e⟩:=oU (st:=st) h
 have m:=zx (st:=st) h
 refine⟨more,du (n:=1) (g:=c9) ?_⟩
 unfold c9
 simp[tI] at e m
 simp[tI,OO,m,e]
end
theorem sE{a b c d:Int}{st:Hs}(h:¬eO a b c d):b_ [tI [a,b,c,d]] st= .err "BadArea" st:=by
 have m:=vX (st:=st) h
 unfold b_ iH c9
 simp[tI,OO,m]
section
variable {st:Hs}
theorem DH{cell:Int}:∃a b c d:Int,eM [.int cell] st= .ok (tI [a,b,c,d]) st/\(0<=a/\a<=94/\a<=c/\c<=a+4/\0<=b/\b<=d/\d<=b+3/\d<=25):=by
 have b1:=kE (x:=cell) (m:=95) (by omega)
 have b2:=kE (x:=cell.fdiv 95) (m:=23) (by omega)
 have b3:=kE (x:=cell.fdiv 2185) (m:=5) (by omega)
 have b4:=kE (x:=cell.fdiv 10925) (m:=4) (by omega)
 have b5:=kE (x:=(cell.fdiv 10925).fmod 4) (m:=26 - (cell.fdiv 95).fmod 23) (by omega)
 have b6:((cell.fdiv 10925).fmod 4).fmod (26 - (cell.fdiv 95).fmod 23)=(cell.fdiv 10925).fmod 4:=by
  rw[Int.fmod_eq_emod_of_nonneg _ (by omega)]
  exact Int.emod_eq_of_lt (by omega) (by omega)
 refine⟨cell.fmod 95,(cell.fdiv 95).fmod 23,cell.fmod 95+(cell.fdiv 2185).fmod 5,(cell.fdiv 95).fmod 23+((cell.fdiv 10925).fmod 4).fmod (26 - (cell.fdiv 95).fmod 23),?_,by omega⟩
 have e1:=dq (st:=st) (i:=cell) (j:=95) (by decide)
 have e2:=dH (st:=st) (i:=cell) (j:=95) ⟨by decide,by decide⟩
 have e3:=dq (st:=st) (i:=cell.fdiv 95) (j:=23) (by decide)
 have e4:=dH (st:=st) (i:=cell) (j:=2185) ⟨by decide,by decide⟩
 have e5:=dq (st:=st) (i:=cell.fdiv 2185) (j:=5) (by decide)
 have e6:=dH (st:=st) (i:=cell) (j:=10925) ⟨by decide,by decide⟩
 have e7:=dq (st:=st) (i:=cell.fdiv 10925) (j:=4) (by decide)
 have e8:=dq (st:=st) (i:=(cell.fdiv 10925).fmod 4) (j:=26 - (cell.fdiv 95).fmod 23) (by omega)
 refine du (n:=3) (g:=fP) ?_
 unfold fP
 simp[e1,e2,e3,e4,e5,e6,e7,e8,tI]
theorem zG{r b:Int}{n:Nat}:fk r b (n+1)=fk r b n++[.tup [.int r,.int (b+n)]]:=by
 unfold fk
 rw[xQ,jR]
 rfl
theorem DI{ar:Wv}{r b:Int}{n:Nat}{acc:List Wv}{o:Option Wv}(h:acc.length+n < lim):∃o':Option Wv,dz 3 cM (bC b n) [some ar,some (.ref st.length),some (.int r),o] (st++[.lst acc])= .nx [some ar,some (.ref st.length),some (.int r),o'] (st++[.lst (acc++fk r b n)]):=by
 obtain⟨ρ1,st1,e1,o',rfl,rfl⟩:=jO (i:=3) (gb:=cM) (λk ρ st'=>∃(o:Option Wv),ρ=[some ar,some (.ref st.length),some (.int r),o]/\st'=st++[.lst (acc++fk r b k)])
  (bC b n) 0 [some ar,some (.ref st.length),some (.int r),o] (st++[.lst acc]) ⟨o,rfl,by simp[fk]⟩ (λj w hw ρ st' hP=>by
   obtain⟨o,rfl,rfl⟩:=hP
   have hj:j < n:=by
    have q:=(List.getElem?_eq_some_iff.mp hw).1
    rw[bD] at q
    exact q
   rw[gK hj] at hw
   cases hw
   rw[f6]
   have ap:=sj (st:=st) (acc:=acc++fk r b j) (v:=.tup [.int r,.int (b+(j:Int))]) (by rw[dB];simp[fk];omega)
   have km:=λga ρ=>lF (mt:=iU) (ga:=ga) (ρ:=ρ) (st:=st++[.lst (acc++fk r b j)]) aE
   refine⟨[some ar,some (.ref st.length),some (.int r),some (.int (b+(j:Int)))],st++[.lst (acc++fk r b j++[.tup [.int r,.int (b+(j:Int))]])],?_,_,rfl,by rw[zG,gX]⟩
   unfold cM
   simp[-gX,km,ap])
 exact⟨o',by rw[e1,bD,f6]⟩
theorem uI{a b c d:Int}{m:Nat}{o2 o3:Option Wv}(hb:bN b)(hd:bN (d+1))(h:m * (d+1 - b).toNat < lim):∃Ws Wu:Option Wv,dz 2 cN (bC a m) [some (tI [a,b,c,d]),some (.ref st.length),o2,o3] (st++[.lst []])= .nx [some (tI [a,b,c,d]),some (.ref st.length),Ws,Wu] (st++[.lst (cT a b m (d+1 - b).toNat)]):=by
 obtain⟨ρ1,st1,e1,p2,p3,rfl,rfl⟩:=jO (i:=2) (gb:=cN) (λk ρ st'=>∃(o2 o3:Option Wv),ρ=[some (tI [a,b,c,d]),some (.ref st.length),o2,o3]/\st'=st++[.lst (cT a b k (d+1 - b).toNat)])
  (bC a m) 0 [some (tI [a,b,c,d]),some (.ref st.length),o2,o3] (st++[.lst []]) ⟨o2,o3,rfl,rfl⟩ (λj w hw ρ st' hP=>by
   obtain⟨o2,o3,rfl,rfl⟩:=hP
   have hj:j < m:=by
    have q:=(List.getElem?_eq_some_iff.mp hw).1
    rw[bD] at q
    exact q
   rw[gK hj] at hw
   cases hw
   rw[f6]
   have ln:(cT a b j (d+1 - b).toNat).length+(d+1 - b).toNat < lim:=by
    rw[mz]
    have:(j+1) * (d+1 - b).toNat<=m * (d+1 - b).toNat:=Nat.mul_le_mul_right _ (by omega)
    rw[m_] at this
    omega
   obtain⟨o',e⟩:=DI (st:=st) (ar:=tI [a,b,c,d]) (r:=a+(j:Int)) (b:=b) (o:=o3) ln
   refine⟨[some (tI [a,b,c,d]),some (.ref st.length),some (.int (a+(j:Int))),o'],st++[.lst (cT a b j (d+1 - b).toNat++fk (a+j) b (d+1 - b).toNat)],?_,_,_,rfl,by rw[oT]⟩
   unfold cN
   simp only[tI,av,fH] at e ⊢
   simp[OO,hb,hd]
   exact e)
 exact⟨p2,p3,by rw[e1,bD,f6]⟩
theorem oV{a b c d:Int}(h:eO a b c d):bR [tI [a,b,c,d]] st= .ok (.ref st.length) (st++[.lst (cT a b (c+1 - a).toNat (d+1 - b).toNat)]):=by
 unfold eO at h
 have ca:bN a:=by unfold bN;omega
 have cc:bN (c+1):=by unfold bN;omega
 have cb:bN b:=by unfold bN;omega
 have cd:bN (d+1):=by unfold bN;omega
 have lm:(c+1 - a).toNat * (d+1 - b).toNat < lim:=by
  have:(c+1 - a).toNat * (d+1 - b).toNat<=99 * 26:=sD (by omega) (by omega)
  unfold lim
  omega
 obtain⟨p2,p3,e⟩:=uI (st:=st) (a:=a) (c:=c) (o2:=none) (o3:=none) cb cd lm
 refine du (n:=4) (g:=eC) ?_
 unfold eC
 simp only[tI,av,fH] at e ⊢
 simp[OO,ca,cc]
 simp[e]
end
def Wo.txt:Wo->Bool
 | .str z=> !(z == "")
 | _=>false
def Wo.s:Wo->PySem.Str
 | .str z=>z
 | _=>""
def LM(ws:List Wo):Bool:=ws.all Wo.txt&&decide (xw (ws.map Wo.s).reverse=ws.length)
section
variable {st:Hs}
theorem DJ:∀{ws:List Wo},ws.all Wo.txt=true->ly (ws.map Wo.w)=some (ws.map Wo.s)
 | [],_=>rfl
 | w::r,h=>by
  rw[cg,cz] at h
  have e:=DJ h.2
  cases w with
  | str z=>rw[av,av];show(match ly (r.map Wo.w) with | some l=>some (z::l) | none=>none)=_;rw[e];rfl
  | aR=>cases h.1
  | int i=>cases h.1
theorem sF:∀bs:List Bool,iB (bs.map Wv.bl)=some bs
 | []=>rfl
 | b::r=>by rw[av];show(match iB (r.map Wv.bl) with | some l=>some (b::l) | none=>none)=_;rw[sF r]
theorem Gn{bs:List Bool}:BE [.ref st.length] (st++[.lst (bs.map Wv.bl)])= .ok (.bl (bs.all id)) (st++[.lst (bs.map Wv.bl)]):=by
 show(match ai (st++[.lst (bs.map Wv.bl)]) st.length with | some ws=>(match iB ws with | some bs=>Re.ok (Wv.bl (bs.all id)) (st++[Ob.lst _]) | none=> .bad) | none=> .bad)=_
 rw[aE]
 dsimp only
 rw[sF]
theorem xR{bs:List Bool}:y9 [.ref st.length] (st++[.lst (bs.map Wv.bl)])= .ok (.bl (bs.any id)) (st++[.lst (bs.map Wv.bl)]):=by
 show(match ai (st++[.lst (bs.map Wv.bl)]) st.length with | some ws=>(match iB ws with | some bs=>Re.ok (Wv.bl (bs.any id)) (st++[Ob.lst _]) | none=> .bad) | none=> .bad)=_
 rw[aE]
 dsimp only
 rw[sF]
theorem OP{ws:List Wo}(h:ws.all Wo.txt=true)(hl:ws.length < 1000):qx [.tup (ws.map Wo.w)] st= .ok (.int (xw (ws.map Wo.s).reverse:Nat)) st:=by
 show(match ly (ws.map Wo.w) with | some zs=>if zs.length < 1000 then Re.ok (Wv.int (xw zs.reverse:Nat)) st else .bad | none=> .bad)=_
 rw[DJ h]
 dsimp only
 rw[if_pos (by rw[aH];exact hl)]
theorem OQ{ws:List Wo}:ka [.tup (ws.map Wo.w)] st= .ok (.int (ws.length:Nat)) st:=by
 show Re.ok (Wv.int ((ws.map Wo.w).length:Nat)) st=_
 rw[aH]
theorem zH{ws:List Wo}(hl:ws.length < 1000):fY [.tup (ws.map Wo.w)] st= .ok (.bl (LM ws)) (st++[.lst ((ws.map Wo.txt).map Wv.bl)]):=by
 have q:=cL (cs:=[]) (gt:=iC) (ge:=eV) (ρ:=[some (.tup (ws.map Wo.w))]) (w:=(none,ws.map Wo.w)) (st:=st) (t:=λ_=>true) (f:=λv=> .bl (LJ v).txt) trivial
  (λv _ acc=>rfl) (λv hv _ acc=>by
   obtain⟨w,hw,rfl⟩:=List.mem_map.mp hv
   unfold eV
   have a:=aS (st:=st++[.lst acc]) w
   cases w with
   | str z=>simp[dQ,Wo.w,Wo.HN,Wo.txt,LJ] at a ⊢;simp[a]
   | aR=>simp[dQ,Wo.w,Wo.HN,Wo.txt,LJ] at a ⊢;simp[a]
   | int i=>simp[dQ,Wo.w,Wo.HN,Wo.txt,LJ] at a ⊢;simp[a])
  (by show(ws.map Wo.w).length < lim;rw[aH];unfold lim;omega)
 have e2:((ws.map Wo.w).filter λ_=>true).map (λv=>Wv.bl (LJ v).txt)=(ws.map Wo.txt).map Wv.bl:=by
  rw[List.filter_eq_self.mpr (λ_ _=>rfl),aL,aL]
  exact nG λw _=>by show Wv.bl (LJ w.w).txt=_;rw[OK];rfl
 rw[show((none,ws.map Wo.w):Wk).2=ws.map Wo.w from rfl,e2] at q
 have al:=Gn (st:=st) (bs:=ws.map Wo.txt)
 have ea:(ws.map Wo.txt).all id=ws.all Wo.txt:=by rw[BF];rfl
 rw[ea] at al
 refine du (n:=1) (g:=fX) ?_
 unfold fX LM
 cases h:ws.all Wo.txt with
 | false=>
  rw[h] at al
  simp[-aL,q,al]
 | true=>
  rw[h] at al
  simp[-aL,q,al,OP h hl,OQ]
  rw[HS,beq_iff_eq,decide_eq_true_eq]
  omega
end
def dI(l:List Int):PyData:=.tuple (l.map lL)
theorem uJ{st:Hs}{n:Nat}:∀l:List Int,dY (aA st (n+1)) (l.map Wv.int)=some (l.map lL)
 | []=>rfl
 | i::r=>by
  rw[av]
  unfold dY
  rw[uJ r]
  rfl
theorem LN{st:Hs}{n:Nat}(l:List Int):aA st (n+2) (tI l)=some (dI l):=by
 show(dY (aA st (n+1)) (l.map Wv.int)).map nj=_
 rw[uJ]
 rfl
theorem oW:∀a b:List Int,eu (a.map lL) (b.map lL)=decide (a=b)
 | [],[]=>by simp[eu]
 | [],_::_=>by simp[eu]
 | _::_,[]=>by simp[eu]
 | i::a,j::b=>by
  have ih:=oW a b
  simp only[av,eu,ih]
  rw[HS]
  simp[aF]
theorem DK(a b:List Int):aF (dI a) (dI b)=decide (a=b):=by
 show aF (.tuple (a.map lL)) (.tuple (b.map lL))=_
 rw[<-oW]
 simp[aF]
abbrev Pt:=Int×Int
def iD(a b:Int)(m n:Nat):List Pt:=((a9 m).map λk:Nat=>(a9 n).map λj:Nat=>((a+k,b+j):Pt)).flatten
theorem lM{a b:Int}{m n:Nat}:cT a b m n=(iD a b m n).map pw:=by
 unfold cT iD fk
 rw[List.map_flatten,aL]
 congr 1
 refine nG λk _=>?_
 show _=((a9 n).map λj:Nat=>((a+k,b+j):Pt)).map pw
 rw[aL]
 rfl
inductive Cv
 | wo (w:Wo)
 | fl (z:PySem.Str)
def Cv.w:Cv->Wv
 | .wo w=>w.w
 | .fl z=> .tup [.str "fault",.str z]
def Cv.f:Cv->Bool
 | .wo _=>false
 | .fl _=>true
def Cv.o:Cv->Wo
 | .wo w=>w
 | .fl _=> .aR
section
variable {st:Hs}
theorem Ww{c:Cv}:cE [c.w] st= .ok (.bl c.f) st:=by
 cases c with
 | wo w=>exact DB w
 | fl z=>
  have e:tR (.tup [.str "fault",.str z]) none (some 1) st= .ok (.tup [.str "fault"]) st:=LL (by show ¬mQ 2 none (some 1);decide+kernel) rfl
  have a:dZ f7 dJ [.tup [.str "fault",.str z],.ty "tuple"] st= .ok (.bl true) st:=Gm (by decide) rfl (λc h=>by cases h)
  have q:oEq (.tup [.str "fault"]) (.tup [.str "fault"]) st= .ok (.bl true) st:=rfl
  unfold cE iH fz
  simp[Cv.w,a,e,q,Cv.f]
theorem Ga{c:Cv}:dZ f7 dJ [c.w,.ty "tuple"] st= .ok (.bl c.f) st:=by
 cases c with
 | wo w=>exact aT w
 | fl z=>exact Gm (by decide) rfl (λc h=>by cases h)
theorem vZ{n:Nat}(p:Pt):aA st (n+2) (pw p)=some (dI [p.1,p.2]):=LN [p.1,p.2]
theorem sG{n:Nat}:∀l:List Pt,dY (aA st (n+2)) (l.map pw)=some (l.map λp=>dI [p.1,p.2])
 | []=>rfl
 | p::r=>by
  rw[av]
  unfold dY
  rw[sG r,vZ]
  rfl
theorem uK{n l:Nat}{ws:List Wv}(h:ai st l=some ws):aA st (n+1) (.ref l)=(dY (aA st n) ws).map rn:=by
 show(match ai st l with | some ws=>(dY (aA st n) ws).map rn | none=>none)=_
 rw[h]
def Wt(st:Hs)(y:Wv)(l:List Pt):Prop:=y= .tup (l.map pw)\/∃k,y= .ref k/\ai st k=some (l.map pw)
theorem Wt.gr{st st':Hs}{y:Wv}{l:List Pt}(h:Wt st y l)(g:Gr st st'):Wt st' y l:=by
 rcases h with h | ⟨k,h1,h2⟩
 ·exact .inl h
 ·exact .inr ⟨k,h1,g.lst h2⟩
theorem HU{y:Wv}{l:List Pt}(h:Wt st y l)(p:Pt):iZ false (pw p) y st= .ok (.bl (decide (p∈l))) st:=by
 have d2:aA st 20 (pw p)=some (dI [p.1,p.2]):=vZ p
 have e:((l.map λp=>dI [p.1,p.2]).any λz=>aF z (dI [p.1,p.2]))=decide (p∈l):=by
  rw[HS,List.any_eq_true,decide_eq_true_eq]
  constructor
  ·rintro⟨z,hz,e⟩
   obtain⟨m,hm,rfl⟩:=List.mem_map.mp hz
   rw[DK] at e
   have e:=of_decide_eq_true e
   simp only[List.cons.injEq,and_true] at e
   have:p=m:=qL e.1.symm e.2.symm
   rw[this]
   exact hm
  ·intro hm
   exact⟨_,List.mem_map.mpr ⟨p,hm,rfl⟩,by rw[DK];simp⟩
 rcases h with rfl | ⟨k,rfl,hk⟩
 ·have d1:aA st 20 (.tup (l.map pw))=some (.tuple (l.map λp=>dI [p.1,p.2])):=by
   show(dY (aA st 19) (l.map pw)).map nj=_
   rw[sG]
   rfl
  unfold iZ
  rw[d1,d2]
  dsimp only
  rw[e]
  simp
 ·have d1:aA st 20 (.ref k)=some (.list (l.map λp=>dI [p.1,p.2])):=by rw[uK (n:=19) hk,sG];rfl
  unfold iZ
  rw[d1,d2]
  dsimp only
  rw[e]
  simp
abbrev Ks:=List (List L2.Key×Wv)
def Dv(kvs:Ks)(v:Pt->Cv)(ps:List Pt):Prop:=∀p∈ps,(cJ kvs (kP p)).getD .aR=(v p).w
def Ms:Wv->Pt
 | .tup [.int a,.int b]=>(a,b)
 | _=>(0,0)
theorem uL{cs:eK}{gt:GT}{ge:GE}{ρ:bw}{l d:Nat}{kvs:Ks}{v:Pt->Cv}{ps:List Pt}(hd:st[d]? =some (.dP kvs))(hl:ai st l=some (ps.map pw))(hv:Dv kvs v ps)(hc:dQ cs ρ=[some (.ref d)])(hn:ps.length < lim)
  (ht:gt=λ_ st=> .ok true st)(hg:ge=mq (af 1) (af 0)):cI cs gt ge ρ (some l,ps.map pw) st= .ok (.ref st.length) (st++[.lst ((ps.map v).map Cv.w)]):=by
 subst ht hg
 have q:=cL (cs:=cs) (gt:=λ_ st=> .ok true st) (ge:=mq (af 1) (af 0)) (ρ:=ρ) (w:=(some l,ps.map pw)) (st:=st) (t:=λ_=>true) (f:=λx=>(v (Ms x)).w) hl
  (λ_ _ acc=>rfl) (λx hx _ acc=>by
   obtain⟨p,hp,rfl⟩:=List.mem_map.mp hx
   have g:(st++[Ob.lst acc])[d]? =some (.dP kvs):=eL hd
   rw[hc]
   show(if(eT (st++[Ob.lst acc])[d]?).isSome=true then(match mR (pw p),eT (st++[Ob.lst acc])[d]? with | some kk,some kvs=>Re.ok ((cJ kvs kk).getD .aR) (st++[Ob.lst acc]) | _,_=> .bad) else .bad)=_
   rw[g]
   show Re.ok ((cJ kvs (kP p)).getD .aR) (st++[Ob.lst acc])=_
   rw[hv p hp]
   rfl)
  (by show(ps.map pw).length < lim;rw[aH];exact hn)
 have e2:((ps.map pw).filter λ_=>true).map (λx=>(v (Ms x)).w)=(ps.map v).map Cv.w:=by
  rw[List.filter_eq_self.mpr (λ_ _=>rfl),aL,aL]
  rfl
 rw[show((some l,ps.map pw):Wk).2=ps.map pw from rfl,e2] at q
 exact q
theorem Gp{cs:eK}{gt:GT}{ge:GE}{ρ:bw}{l:Nat}{y:Wv}{wt ps:List Pt}(hl:ai st l=some (ps.map pw))(hw:Wt st y wt)(hc:dQ cs ρ=[some y])(hn:ps.length < lim)
  (ht:gt=λ_ st=> .ok true st)(hg:ge=aj (iZ false) (af 0) (af 1)):cI cs gt ge ρ (some l,ps.map pw) st= .ok (.ref st.length) (st++[.lst ((ps.map λp=>decide (p∈wt)).map Wv.bl)]):=by
 subst ht hg
 have q:=cL (cs:=cs) (gt:=λ_ st=> .ok true st) (ge:=aj (iZ false) (af 0) (af 1)) (ρ:=ρ) (w:=(some l,ps.map pw)) (st:=st) (t:=λ_=>true) (f:=λx=> .bl (decide (Ms x∈wt))) hl
  (λ_ _ acc=>rfl) (λx hx _ acc=>by
   obtain⟨p,hp,rfl⟩:=List.mem_map.mp hx
   have e:=HU (hw.gr (Gr.push (o:=Ob.lst acc))) p
   rw[hc]
   simp[e]
   rfl)
  (by show(ps.map pw).length < lim;rw[aH];exact hn)
 have e2:((ps.map pw).filter λ_=>true).map (λx=>Wv.bl (decide (Ms x∈wt)))=(ps.map λp=>decide (p∈wt)).map Wv.bl:=by
  rw[List.filter_eq_self.mpr (λ_ _=>rfl),aL,aL]
  rfl
 rw[show((some l,ps.map pw):Wk).2=ps.map pw from rfl,e2] at q
 exact q
theorem Gq{cs:eK}{gt:GT}{ge:GE}{ρ:bw}{l:Nat}{y:Wv}{wt ps:List Pt}(hl:ai st l=some (ps.map pw))(hw:Wt st y wt)(hc:dQ cs ρ=[some y])(hn:ps.length < lim)
  (ht:gt=cn (aj (iZ false) (af 0) (af 1)))(hg:ge=af 0):cI cs gt ge ρ (some l,ps.map pw) st= .ok (.ref st.length) (st++[.lst ((ps.filter λp=>decide (p∈wt)).map pw)]):=by
 subst ht hg
 have q:=cL (cs:=cs) (gt:=cn (aj (iZ false) (af 0) (af 1))) (ge:=af 0) (ρ:=ρ) (w:=(some l,ps.map pw)) (st:=st) (t:=λx=>decide (Ms x∈wt)) (f:=λx=>x) hl
  (λx hx acc=>by
   obtain⟨p,hp,rfl⟩:=List.mem_map.mp hx
   have e:=HU (hw.gr (Gr.push (o:=Ob.lst acc))) p
   rw[hc]
   simp[e]
   rfl) (λx hx _ acc=>by simp)
  (by show(ps.map pw).length < lim;rw[aH];exact hn)
 have e2:((ps.map pw).filter λx=>decide (Ms x∈wt)).map (λx=>x)=(ps.filter λp=>decide (p∈wt)).map pw:=by
  rw[List.map_id',List.filter_map]
  rfl
 rw[show((some l,ps.map pw):Wk).2=ps.map pw from rfl,e2] at q
 exact q
end
def ir(r:List Wo):Wv:=.tup (r.map Wo.w)
section
variable {st:Hs}
theorem uM{l:Nat}{ws:List Wv}(h:ai st l=some ws):eX [.ref l] st= .ok (.tup ws) st:=by
 show(match ai st l with | some ws=>Re.ok (Wv.tup ws) st | none=> .bad)=_
 rw[h]
theorem OR{ws:List Wo}{a n:Nat}(h:a+n<=ws.length):iG (ws.map Wo.w) (some (a:Int)) (some ((a:Int)+(n:Int)))=((ws.drop a).take n).map Wo.w:=by
 have i1:HT.bX (ws.map Wo.w).length 0 (some (a:Int))=a:=by
  unfold HT.bX
  simp
  rw[if_neg (by omega)]
  omega
 have i2:HT.bX (ws.map Wo.w).length (ws.map Wo.w).length (some ((a:Int)+(n:Int)))=a+n:=by
  unfold HT.bX
  simp
  rw[if_neg (by omega)]
  omega
 unfold iG
 rw[i1,i2,<-sk,<-jP,Nat.add_sub_cancel_left]
theorem oX{cs:eK}{gt:GT}{ge:GE}{ρ:bw}{l:Nat}{ws:List Wo}{w k0 h:Nat}(hl:ai st l=some (ws.map Wo.w))(hc:dQ cs ρ=[some (.ref l),some (.int (w:Int))])(hle:(k0+h) * w<=ws.length)(hh:h < 1000)
  (ht:gt=λ_ st=> .ok true st)(hg:ge=aG eX (ae (bT (af 1) (dm (af 0)) (dm (aj bS (af 0) (af 2)))) aq)) :
  ∃st',cI cs gt ge ρ (none,hJ ((k0 * w:Nat):Int) (w:Int) h) st= .ok (.ref st.length) st'/\Gr st st'/\ai st' st.length=some ((a9 h).map λk=>ir ((ws.drop ((k0+k) * w)).take w)):=by
 subst ht hg
 obtain⟨st',us,e,p,g,hu,hE⟩:=qA (w:=(none,hJ ((k0 * w:Nat):Int) (w:Int) h)) (gt:=λv=>(λ_ st=> .ok true st:GT) (some v::dQ cs ρ)) (ge:=λv=>aG eX (ae (bT (af 1) (dm (af 0)) (dm (aj bS (af 0) (af 2)))) aq) (some v::dQ cs ρ)) (rr:=st.length)
  (λk:Nat=>Wv.int (((k0 * w:Nat):Int)+(k:Int) * (w:Int))) (λs=>Gr st s) (λk u=>u=ir ((ws.drop ((k0+k) * w)).take w))
  (λs acc h=>Gr.LD (ao _) h dR.set) (λs h=>trivial) (a9 h) (λk hk s acc hp hg=>by
   have hk:=List.mem_range.mp hk
   have em:((k0 * w:Nat):Int)+(k:Int) * (w:Int)=(((k0+k) * w:Nat):Int):=by push_cast;rw[Int.add_mul]
   have le:(k0+k) * w+w<=ws.length:=by
    have:(k0+k+1) * w<=(k0+h) * w:=Nat.mul_le_mul_right w (by omega)
    rw[m_] at this
    omega
   have sl:=Gi (lo:=some (((k0+k) * w:Nat):Int)) (hi:=some ((((k0+k) * w:Nat):Int)+(w:Int))) (hp.lst hl)
   rw[OR le] at sl
   have tt:=uM (st:=s++[.lst (((ws.drop ((k0+k) * w)).take w).map Wo.w)]) aE
   refine⟨s,rfl,hp,hg,ir ((ws.drop ((k0+k) * w)).take w),s++[.lst (((ws.drop ((k0+k) * w)).take w).map Wo.w)],?_,rfl,hp.trans Gr.push,eL hg⟩
   rw[hc,em]
   generalize (((k0+k) * w:Nat):Int)=z at sl ⊢
   simp[-jP,-sk,sl,tt,ir]) [] (st++[.lst []]) Gr.push fh (by simp;unfold lim;omega)
 have Wx:us=(a9 h).map λk=>ir ((ws.drop ((k0+k) * w)).take w):=by
  refine List.ext_getElem (by simp[hu]) λj h1 h2=>?_
  rw[hE j (by rw[<-hu];exact h1) h1]
  simp
 subst Wx
 refine⟨st',?_,p,?_⟩
 ·have e':iA (iI (none,hJ ((k0 * w:Nat):Int) (w:Int) h)) (λv st=>Re.ok true st) (λv=>aG eX (ae (bT (af 1) (dm (af 0)) (dm (aj bS (af 0) (af 2)))) aq) (some v::dQ cs ρ)) st.length (hJ ((k0 * w:Nat):Int) (w:Int) h) (st++[.lst []])=some st':=e
  unfold cI
  dsimp only
  rw[e']
 ·rw[Gj g]
  simp
theorem LO{l:Nat}{cs:List Cv}{gt:GT}{ge:GE}{ρ:bw}(hl:ai st l=some (cs.map Cv.w))(hn:cs.length < lim)(ht:gt=λ_ st=> .ok true st)(hg:ge=bM 1 cE (ae (af 0) aq)) :
  cI [] gt ge ρ (some l,cs.map Cv.w) st= .ok (.ref st.length) (st++[.lst ((cs.map Cv.f).map Wv.bl)]):=by
 subst ht hg
 have OS:∀c:Cv,(match c.w with | .tup _=>true | _=>false)=c.f:=λc=>by
  cases c with
  | wo w=>cases w<;>rfl
  | fl z=>rfl
 have q:=cL (cs:=[]) (gt:=λ_ st=> .ok true st) (ge:=bM 1 cE (ae (af 0) aq)) (ρ:=ρ) (w:=(some l,cs.map Cv.w)) (st:=st) (t:=λ_=>true) (f:=λx=> .bl (match x with | .tup _=>true | _=>false)) hl
  (λ_ _ acc=>rfl) (λx hx _ acc=>by
   obtain⟨c,hc,rfl⟩:=List.mem_map.mp hx
   rw[OS]
   simp[dQ,Ww])
  (by show(cs.map Cv.w).length < lim;rw[aH];exact hn)
 have e2:((cs.map Cv.w).filter λ_=>true).map (λx=>Wv.bl (match x with | .tup _=>true | _=>false))=(cs.map Cv.f).map Wv.bl:=by
  rw[List.filter_eq_self.mpr (λ_ _=>rfl),aL,aL]
  exact nG λc _=>by show Wv.bl (match c.w with | .tup _=>true | _=>false)=_;rw[OS];rfl
 rw[show((some l,cs.map Cv.w):Wk).2=cs.map Cv.w from rfl,e2] at q
 exact q
theorem Gs{l:Nat}{cs:List Cv}{gt:GT}{ge:GE}{ρ:bw}(hl:ai st l=some (cs.map Cv.w))(hn:cs.length < lim)(ht:gt=eR (aG (dZ f7 dJ) (ae (af 0) (ae (gC (.ty "tuple")) aq))))(hg:ge=af 0) :
  cI [] gt ge ρ (some l,cs.map Cv.w) st= .ok (.ref st.length) (st++[.lst ((cs.filter Cv.f).map Cv.w)]):=by
 subst ht hg
 have OS:∀c:Cv,(match c.w with | .tup _=>true | _=>false)=c.f:=λc=>by
  cases c with
  | wo w=>cases w<;>rfl
  | fl z=>rfl
 have q:=cL (cs:=[]) (gt:=eR (aG (dZ f7 dJ) (ae (af 0) (ae (gC (.ty "tuple")) aq)))) (ge:=af 0) (ρ:=ρ) (w:=(some l,cs.map Cv.w)) (st:=st) (t:=λx=>match x with | .tup _=>true | _=>false) (f:=λx=>x) hl
  (λx hx acc=>by
   obtain⟨c,hc,rfl⟩:=List.mem_map.mp hx
   rw[OS]
   simp[dQ,Ga]) (λx hx _ acc=>by simp)
  (by show(cs.map Cv.w).length < lim;rw[aH];exact hn)
 have e2:((cs.map Cv.w).filter λx=>match x with | .tup _=>true | _=>false).map (λx=>x)=(cs.filter Cv.f).map Cv.w:=by
  rw[List.map_id',List.filter_map]
  congr 1
  exact List.filter_congr λc _=>OS c
 rw[show((some l,cs.map Cv.w):Wk).2=cs.map Cv.w from rfl,e2] at q
 exact q
end
theorem xT{m n k0:Nat}(hn:1<=n)(h:k0<=m):gO ((k0 * n:Nat):Int) ((m * n:Nat):Int) (n:Int)=m - k0:=by
 unfold gO
 obtain⟨r,rfl⟩:∃r,m=k0+r:=⟨m - k0,by omega⟩
 have e:(((k0+r) * n:Nat):Int)=((k0 * n:Nat):Int)+((r * n:Nat):Int):=by rw[Nat.add_mul];push_cast;rfl
 cases r with
 | zero=>
  rw[if_neg (by rw[e];simp)]
  simp
 | succ r=>
  have p:0 < (r+1) * n:=Nat.mul_pos (by omega) hn
  rw[if_pos (by rw[e];omega)]
  have q:(((k0+(r+1)) * n:Nat):Int) - ((k0 * n:Nat):Int) - 1=((n:Int) - 1)+(n:Int) * (r:Int):=by
   rw[e,m_]
   push_cast
   rw[Int.mul_comm (n:Int) (r:Int)]
   omega
  rw[q,Int.add_mul_ediv_left _ _ (by omega),Int.ediv_eq_zero_of_lt (by omega) (by omega)]
  omega
theorem nH{a b:Int}{m n:Nat}:(iD a b m n).length=m * n:=by
 have:=mz (a:=a) (b:=b) (m:=m) (n:=n)
 rw[lM,aH] at this
 exact this
def rh(wt ps:List Pt)(cs:List Cv)(n:Nat):Bool:=!(ps.any λp=>decide (p∈wt))&&(!(cs.any Cv.f)&&LM ((cs.map Cv.o).take n))
def oY(os:List Wo)(m n:Nat):Wv:=.tup [ir (os.take n),.tup ((a9 (m - 1)).map λk=>ir ((os.drop ((1+k) * n)).take n))]
theorem LP:∀{cs:List Cv},cs.any Cv.f=false->cs.map Cv.w=(cs.map Cv.o).map Wo.w
 | [],_=>rfl
 | c::r,h=>by
  rw[dW,LQ] at h
  rw[av,av,av,LP h.2]
  cases c with
  | wo w=>rfl
  | fl z=>cases h.1
section
variable {st:Hs} {a b c d:Int} {k:Nat} {y:Wv} {kvs:Ks} {v:Pt->Cv} {wt:List Pt} {m n:Nat}
theorem DL{α:Type}{f:α->Bool}{l:List α}:(l.map f).any id=l.any f:=by rw[List.any_map];rfl
theorem sH{l:Nat}{ws:List Wv}(h:ai st l=some ws):fL [.ref l] st= .ok (.int ws.length) st:=by
 have e:eT st[l]? =none:=by
  unfold ai at h
  split at h
  ·rename_i e;rw[e];rfl
  ·rename_i e;rw[e];rfl
  ·cases h
 show(match eT st[l]? with | some kvs=>Re.ok (Wv.int kvs.length) st | none=>ka [.ref l] st)=_
 rw[e]
 exact OE h
theorem DM{i j w:Int}(h:zS i j w):xv [.int i,.int j,.int w] st= .ok (none,hJ i w (gO i j w)) st:=by
 show(if zS i j w then Re.ok (none,hJ i w (gO i j w)) st else .bad)=_
 exact if_pos h
theorem R9{f:Nat->Wv}(hm:1<=m):iG ((a9 m).map f) (some 1) none=(a9 (m - 1)).map λk=>f (1+k):=by
 obtain⟨r,rfl⟩:∃r,m=r+1:=⟨m - 1,by omega⟩
 have i1:HT.bX ((a9 (r+1)).map f).length 0 (some 1)=1:=by
  unfold HT.bX
  simp
 have i2:HT.bX ((a9 (r+1)).map f).length ((a9 (r+1)).map f).length none=r+1:=by
  unfold HT.bX
  simp
 unfold iG
 rw[i1,i2,w8,av,List.drop_succ_cons,f',k_ (by simp),aL]
 exact nG λk _=>by show f (k+1)=f (1+k);rw[Nat.add_comm]
theorem DN(hA:eO a b c d)(hm:m=(c+1 - a).toNat)(hn:n=(d+1 - b).toNat)(hk:st[k]? =some (.dP kvs))(hw:Wt st y wt)(hv:Dv kvs v (iD a b m n)) :
  ∃st',Gr st st'/\bB [.ref k,y,tI [a,b,c,d]] st=if rh wt (iD a b m n) ((iD a b m n).map v) n=true then .ok (oY (((iD a b m n).map v).map Cv.o) m n) st' else .err "BadTable" st':=by
 have R_:=hA
 unfold eO at R_
 have lm:m * n<=300:=by
  have e:((m * n:Nat):Int)=(c - a+1) * (d - b+1):=by
   rw[hm,hn]
   push_cast
   rw[v5 (by omega),v5 (by omega)]
   congr 1<;>omega
  omega
 have n1:1<=n:=by omega
 have m1:1<=m:=by omega
 obtain⟨more,e1⟩:=uH (st:=st) hA
 rw[<-hm,<-hn] at e1
 obtain⟨s1,hs1⟩:∃s1,st++Ob.lst (cT a b m n)::more=s1:=⟨_,rfl⟩
 have l1:ai s1 st.length=some ((iD a b m n).map pw):=by rw[<-hs1,<-lM];exact qB
 have G1:Gr st s1:=by rw[<-hs1];exact Gr.app
 rw[hs1] at e1
 have hl:(iD a b m n).length=m * n:=nH
 generalize iD a b m n=ps at *
 have lt:ps.length < lim:=by rw[hl];unfold lim;omega
 have e2:=uL (cs:=[("worths",0)]) (gt:=jv) (ge:=jw) (ρ:=[some (.ref k),some y,some (tI [a,b,c,d]),some (.ref st.length),none,none,none]) (G1.get hk) l1 hv rfl lt rfl rfl
 obtain⟨s2,hs2⟩:∃s2,s1++[Ob.lst ((ps.map v).map Cv.w)]=s2:=⟨_,rfl⟩
 have l2:ai s2 s1.length=some ((ps.map v).map Cv.w):=by rw[<-hs2];exact aE
 have G2:Gr s1 s2:=by rw[<-hs2];exact Gr.push
 rw[hs2] at e2
 have e3:=Gp (cs:=[("waiting",1)]) (gt:=jo) (ge:=jq) (ρ:=[some (.ref k),some y,some (tI [a,b,c,d]),some (.ref st.length),some (.ref s1.length),none,none]) (G2.lst l1) (hw.gr (G1.trans G2)) rfl lt rfl rfl
 obtain⟨s3,kG⟩:∃s3,s2++[Ob.lst ((ps.map λp=>decide (p∈wt)).map Wv.bl)]=s3:=⟨_,rfl⟩
 have a3:=xR (st:=s2) (bs:=ps.map λp=>decide (p∈wt))
 have G3:Gr s2 s3:=by rw[<-kG];exact Gr.push
 rw[kG] at e3 a3
 rw[DL] at a3
 cases h1:ps.any (λp=>decide (p∈wt)) with
 | true=>
  rw[h1] at a3
  refine⟨s3,G1.trans (G2.trans G3),?_⟩
  rw[if_neg (by unfold rh;rw[h1];simp)]
  unfold bB iH cF
  simp[-aL,e1,br l1,e2,br (G2.lst l1),e3,a3,lim]
 | false=>
  rw[h1] at a3
  have e4:=LO (gt:=jr) (ge:=ju) (ρ:=[some (.ref k),some y,some (tI [a,b,c,d]),some (.ref st.length),some (.ref s1.length),none,none]) (G3.lst l2) (by rw[aH];exact lt) rfl rfl
  obtain⟨s4,v7⟩:∃s4,s3++[Ob.lst (((ps.map v).map Cv.f).map Wv.bl)]=s4:=⟨_,rfl⟩
  have a4:=xR (st:=s3) (bs:=(ps.map v).map Cv.f)
  have G4:Gr s3 s4:=by rw[<-v7];exact Gr.push
  rw[v7] at e4 a4
  rw[DL] at a4
  cases h2:(ps.map v).any Cv.f with
  | true=>
   rw[h2] at a4
   refine⟨s4,G1.trans (G2.trans (G3.trans G4)),?_⟩
   rw[if_neg (by unfold rh;rw[h1,h2];simp)]
   unfold bB iH cF
   simp[-aL,e1,br l1,e2,br (G2.lst l1),e3,a3,br (G3.lst l2),e4,a4,lim]
  | false=>
   rw[h2] at a4
   have lw:ai s4 s1.length=some (((ps.map v).map Cv.o).map Wo.w):=by rw[<-LP h2];exact(G3.trans G4).lst l2
   have lo:((ps.map v).map Cv.o).length=m * n:=by rw[aH,aH,hl]
   have ln:fL [.ref s1.length] s4= .ok (.int ((m * n:Nat):Int)) s4:=by rw[sH lw,aH,lo]
   obtain⟨os,hos⟩:∃os,(ps.map v).map Cv.o=os:=⟨_,rfl⟩
   rw[hos] at lw lo
   have wd:d - b+1=(n:Int):=by omega
   have r3:=DM (st:=s4) (i:=0) (j:=((m * n:Nat):Int)) (w:=(n:Int)) ⟨by omega,by omega,by omega,by omega,by omega,by omega⟩
   have sn:=xT (m:=m) (n:=n) (k0:=0) n1 (bx _)
   rw[Nat.zero_mul,rQ] at sn
   rw[show((0:Nat):Int)=0 from rfl] at sn
   rw[sn] at r3
   generalize ((m * n:Nat):Int)=z at ln r3
   have Wy:m<=99:=by omega
   have j1:∀s:Hs,bu (tI [a,b,c,d]) (.int 1) s= .ok (.int b) s:=λs=>rfl
   have j3:∀s:Hs,bu (tI [a,b,c,d]) (.int 3) s= .ok (.int d) s:=λs=>rfl
   obtain⟨s5,e5,G5,l5⟩:=oX (st:=s4) (cs:=[("told",4),("wide",5)]) (gt:=jm) (ge:=jn) (ρ:=[some (.ref k),some y,some (tI [a,b,c,d]),some (.ref st.length),some (.ref s1.length),some (.int (n:Int)),none]) (w:=n) (k0:=0) (h:=m) lw rfl (by rw[f6,lo];exact ao _) (by omega) rfl rfl
   rw[Nat.zero_mul,show((0:Nat):Int)=0 from rfl] at e5
   have f0:(λk=>ir ((os.drop ((0+k) * n)).take n))=λk=>ir ((os.drop (k * n)).take n):=by funext k;rw[f6]
   rw[f0] at l5
   have i0:∀s,Gr s5 s->bu (.ref s4.length) (.int 0) s= .ok (ir (os.take n)) s:=λs g=>by
    refine si (g.lst l5) (L2.dC (j:=0) ?_)
    rw[dA,Bi (by omega)]
    simp
   have e6:=zH (st:=s5) (ws:=os.take n) (by rw[fF];omega)
   obtain⟨s6,zI⟩:∃s6,s5++[Ob.lst (((os.take n).map Wo.txt).map Wv.bl)]=s6:=⟨_,rfl⟩
   have G6:Gr s5 s6:=by rw[<-zI];exact Gr.push
   rw[zI,show(.tup ((os.take n).map Wo.w):Wv)=ir (os.take n) from rfl] at e6
   have XS:bS (.int (d - b)) (.int 1) s4= .ok (.int (n:Int)) s4:=by rw[<-wd];rfl
   have GG:Gr st s6:=G1.trans (G2.trans (G3.trans (G4.trans (G5.trans G6))))
   cases h3:LM (os.take n) with
   | false=>
    rw[h3] at e6
    refine⟨s6,GG,?_⟩
    rw[if_neg (by unfold rh;rw[h1,h2,hos,h3];simp)]
    unfold bB iH cF
    simp[-aL,e1,br l1,e2,br (G2.lst l1),e3,a3,br (G3.lst l2),e4,a4,lim,j1,j3,wd,ln,r3,e5,i0 s5 Gr.refl,e6]
   | true=>
    rw[h3] at e6
    have sl:=Gi (lo:=some 1) (hi:=none) (G6.lst l5)
    rw[R9 m1] at sl
    obtain⟨s7,D3⟩:∃s7,s6++[Ob.lst ((a9 (m - 1)).map λk=>ir ((os.drop ((1+k) * n)).take n))]=s7:=⟨_,rfl⟩
    have G7:Gr s6 s7:=by rw[<-D3];exact Gr.push
    rw[D3] at sl
    have tc:eX [.ref s6.length] s7= .ok (.tup ((a9 (m - 1)).map λk=>ir ((os.drop ((1+k) * n)).take n))) s7:=uM (by rw[<-D3];exact aE)
    refine⟨s7,GG.trans G7,?_⟩
    rw[if_pos (by unfold rh;rw[h1,h2,hos,h3];rfl),hos]
    refine du (n:=7) (g:=cF) ?_
    unfold cF
    simp[-aL,e1,br l1,e2,br (G2.lst l1),e3,a3,br (G3.lst l2),e4,a4,j1,j3,wd,ln,r3,e5,i0 s5 Gr.refl,i0 s6 G6,e6,sl,tc,oY]
end
section
variable {st:Hs}
theorem ne_nil{l l':Nat}{α:Type}{f:α->Wv}{D:α->PyData}(hD:∀x,aA st 19 (f x)=some (D x)){xs:List α}(h1:ai st l=some (xs.map f))(h2:ai st l'=some []):rp (.ref l) (.ref l') st= .ok (.bl (!xs.isEmpty)) st:=by
 have mp:∀xs:List α,dY (aA st 19) (xs.map f)=some (xs.map D):=λxs=>by
  induction xs with
  | nil=>rfl
  | cons x r ih=>
   rw[av]
   unfold dY
   rw[ih,hD]
   rfl
 have d1:aA st 20 (.ref l)=some (.list (xs.map D)):=by rw[uK (n:=19) h1,mp];rfl
 have d2:aA st 20 (.ref l')=some (.list []):=by rw[uK (n:=19) h2];rfl
 unfold rp
 rw[d1,d2]
 cases xs with
 | nil=>simp[aF,eu]
 | cons x r=>simp[aF,eu]
def Cv.d:Cv->PyData
 | .wo .aR=> .none
 | .wo (.int i)=> .int i
 | .wo (.str z)=> .str z
 | .fl z=> .tuple [.str "fault",.str z]
theorem LR(c:Cv):aA st 19 c.w=some c.d:=by
 cases c with
 | wo w=>cases w<;>rfl
 | fl z=>rfl
theorem oZ{x1 x2 x3 x4 x5 x6 x7:Option Wv}:∀(ws:List Wo)(o:Option Wv),(ws.all Wo.txt=true->∃o',dz 7 bq (ws.map Wo.w) [x1,x2,x3,x4,x5,x6,x7,o] st= .nx [x1,x2,x3,x4,x5,x6,x7,o'] st)/\(ws.all Wo.txt=false->dz 7 bq (ws.map Wo.w) [x1,x2,x3,x4,x5,x6,x7,o] st= .rt .aR st)
 | [],o=>⟨λ_=>⟨o,rfl⟩,λh=>by cases h⟩
 | w::r,o=>by
  obtain⟨i1,i2⟩:=oZ (x1:=x1) (x2:=x2) (x3:=x3) (x4:=x4) (x5:=x5) (x6:=x6) (x7:=x7) r (some w.w)
  have a:=aS (st:=st) w
  rw[av,cg]
  cases ht:w.txt with
  | true=>
   have e:bq [x1,x2,x3,x4,x5,x6,x7,some w.w] st= .nx [x1,x2,x3,x4,x5,x6,x7,some w.w] st:=by
    unfold bq
    cases w with
    | str z=>
     have hz:(z == "")=false:=by simpa [Wo.txt] using ht
     simp[Wo.w,Wo.HN] at a ⊢
     simp[a,hz]
    | aR=>cases ht
    | int i=>cases ht
   refine⟨λh=>?_,λh=>?_⟩
   ·obtain⟨o',e'⟩:=i1 (by simpa using h)
    refine⟨o',?_⟩
    unfold dz
    simp only[lJ,lK]
    rw[e]
    exact e'
   ·have e':=i2 (by simpa using h)
    unfold dz
    simp only[lJ,lK]
    rw[e]
    exact e'
  | false=>
   refine⟨λh=>by simp at h,λ_=>?_⟩
   have e:bq [x1,x2,x3,x4,x5,x6,x7,some w.w] st= .rt .aR st:=by
    unfold bq
    cases w with
    | str z=>
     have hz:(z == "")=true:=by simpa [Wo.txt] using ht
     simp[Wo.w,Wo.HN] at a ⊢
     simp[a,hz]
    | aR=>simp[Wo.w,Wo.HN] at a ⊢;simp[a]
    | int i=>simp[Wo.w,Wo.HN] at a ⊢;simp[a]
   unfold dz
   simp only[lJ,lK]
   rw[e]
end
section
variable {st:Hs} {a b c d:Int} {k:Nat} {y:Wv} {kvs:Ks} {v:Pt->Cv} {wt:List Pt} {m n:Nat}
theorem any_filter{α:Type}{f:α->Bool}{l:List α}:(!(l.filter f).isEmpty)=l.any f:=by
 induction l with
 | nil=>rfl
 | cons x r ih=>
  rw[eQ,dW]
  cases f x with
  | true=>simp
  | false=>simpa using ih
theorem OT{ws:List Wo}(h:n<=ws.length):iG (ws.map Wo.w) none (some (n:Int))=(ws.take n).map Wo.w:=by
 have i1:HT.bX (ws.map Wo.w).length 0 none=0:=rfl
 have i2:HT.bX (ws.map Wo.w).length (ws.map Wo.w).length (some (n:Int))=n:=by
  unfold HT.bX
  simp
  rw[if_neg (by omega)]
  omega
 unfold iG
 rw[i1,i2,<-sk,<-jP,rQ,f']
theorem Gu(hA:eO a b c d)(hm:m=(c+1 - a).toNat)(hn:n=(d+1 - b).toNat)(hk:st[k]? =some (.dP kvs))(hw:Wt st y wt)(hv:Dv kvs v (iD a b m n)) :
  ∃st',Gr st st'/\ik [.ref k,y,tI [a,b,c,d]] st= .ok (if rh wt (iD a b m n) ((iD a b m n).map v) n=true then oY (((iD a b m n).map v).map Cv.o) m n else .aR) st':=by
 have R_:=hA
 unfold eO at R_
 have lm:m * n<=300:=by
  have e:((m * n:Nat):Int)=(c - a+1) * (d - b+1):=by
   rw[hm,hn]
   push_cast
   rw[v5 (by omega),v5 (by omega)]
   congr 1<;>omega
  omega
 have n1:1<=n:=by omega
 have m1:1<=m:=by omega
 have Wy:m<=99:=by omega
 have XT:n<=26:=by omega
 have nm:n<=m * n:=Gv n (by omega)
 have wd:d - b+1=(n:Int):=by omega
 have j1:∀s:Hs,bu (tI [a,b,c,d]) (.int 1) s= .ok (.int b) s:=λs=>rfl
 have j3:∀s:Hs,bu (tI [a,b,c,d]) (.int 3) s= .ok (.int d) s:=λs=>rfl
 have e1:=oV (st:=st) hA
 rw[<-hm,<-hn,lM] at e1
 have hl:(iD a b m n).length=m * n:=nH
 generalize iD a b m n=ps at *
 obtain⟨s1,hs1⟩:∃s1,st++[Ob.lst (ps.map pw)]=s1:=⟨_,rfl⟩
 have l1:ai s1 st.length=some (ps.map pw):=by rw[<-hs1];exact aE
 have G1:Gr st s1:=by rw[<-hs1];exact Gr.push
 rw[hs1] at e1
 have lt:ps.length < lim:=by rw[hl];unfold lim;omega
 have e2:=uL (cs:=[("worths",0)]) (gt:=je) (ge:=jf) (ρ:=[some (.ref k),some y,some (tI [a,b,c,d]),some (.ref st.length),none,none,none,none]) (G1.get hk) l1 hv rfl lt rfl rfl
 obtain⟨s2,hs2⟩:∃s2,s1++[Ob.lst ((ps.map v).map Cv.w)]=s2:=⟨_,rfl⟩
 have l2:ai s2 s1.length=some ((ps.map v).map Cv.w):=by rw[<-hs2];exact aE
 have G2:Gr s1 s2:=by rw[<-hs2];exact Gr.push
 rw[hs2] at e2
 have e3:=Gq (cs:=[("waiting",1)]) (gt:=jc) (ge:=jd) (ρ:=[some (.ref k),some y,some (tI [a,b,c,d]),some (.ref st.length),some (.ref s1.length),some (.int (n:Int)),none,none]) (G2.lst l1) (hw.gr (G1.trans G2)) rfl lt rfl rfl
 obtain⟨s3,kG⟩:∃s3,s2++[Ob.lst ((ps.filter λp=>decide (p∈wt)).map pw)]=s3:=⟨_,rfl⟩
 have l3:ai s3 s2.length=some ((ps.filter λp=>decide (p∈wt)).map pw):=by rw[<-kG];exact aE
 have G3:Gr s2 s3:=by rw[<-kG];exact Gr.push
 rw[kG] at e3
 obtain⟨s4,v7⟩:∃s4,s3++[Ob.lst []]=s4:=⟨_,rfl⟩
 have k4:hU [] s3= .ok (.ref s3.length) s4:=by rw[<-v7];exact hV
 have l4:ai s4 s3.length=some []:=by rw[<-v7];exact aE
 have G4:Gr s3 s4:=by rw[<-v7];exact Gr.push
 have n4:=ne_nil (st:=s4) (f:=pw) (D:=λp=>dI [p.1,p.2]) (λp=>vZ p) (G4.lst l3) l4
 rw[any_filter] at n4
 cases h1:ps.any (λp=>decide (p∈wt)) with
 | true=>
  rw[h1] at n4
  refine⟨s4,G1.trans (G2.trans (G3.trans G4)),?_⟩
  rw[if_neg (by unfold rh;rw[h1];simp)]
  refine du (n:=8) (g:=bA) ?_
  unfold bA
  simp[-aL,-hV,e1,br l1,e2,j1,j3,wd,br (G2.lst l1),e3,k4,n4]
 | false=>
  rw[h1] at n4
  have e5:=Gs (st:=s4) (gt:=ja) (ge:=jb) (ρ:=[some (.ref k),some y,some (tI [a,b,c,d]),some (.ref st.length),some (.ref s1.length),some (.int (n:Int)),none,none]) ((G3.trans G4).lst l2) (by rw[aH];exact lt) rfl rfl
  obtain⟨s5,Sa⟩:∃s5,s4++[Ob.lst (((ps.map v).filter Cv.f).map Cv.w)]=s5:=⟨_,rfl⟩
  have l5:ai s5 s4.length=some (((ps.map v).filter Cv.f).map Cv.w):=by rw[<-Sa];exact aE
  have G5:Gr s4 s5:=by rw[<-Sa];exact Gr.push
  rw[Sa] at e5
  obtain⟨s6,zI⟩:∃s6,s5++[Ob.lst []]=s6:=⟨_,rfl⟩
  have k6:hU [] s5= .ok (.ref s5.length) s6:=by rw[<-zI];exact hV
  have l6:ai s6 s5.length=some []:=by rw[<-zI];exact aE
  have G6:Gr s5 s6:=by rw[<-zI];exact Gr.push
  have n6:=ne_nil (st:=s6) (f:=Cv.w) (D:=Cv.d) LR (G6.lst l5) l6
  rw[any_filter] at n6
  have GG:Gr st s6:=G1.trans (G2.trans (G3.trans (G4.trans (G5.trans G6))))
  cases h2:(ps.map v).any Cv.f with
  | true=>
   rw[h2] at n6
   refine⟨s6,GG,?_⟩
   rw[if_neg (by unfold rh;rw[h1,h2];simp)]
   refine du (n:=8) (g:=bA) ?_
   unfold bA
   simp[-aL,-hV,e1,br l1,e2,j1,j3,wd,br (G2.lst l1),e3,k4,n4,br ((G3.trans G4).lst l2),e5,k6,n6]
  | false=>
   rw[h2] at n6
   have lw:ai s6 s1.length=some (((ps.map v).map Cv.o).map Wo.w):=by rw[<-LP h2];exact(G3.trans (G4.trans (G5.trans G6))).lst l2
   have lo:((ps.map v).map Cv.o).length=m * n:=by rw[aH,aH,hl]
   obtain⟨os,hos⟩:∃os,(ps.map v).map Cv.o=os:=⟨_,rfl⟩
   rw[hos] at lw lo
   have Oa:(os.take n).length=n:=by rw[fF,lo];exact xb nm
   have sl:=Gi (lo:=none) (hi:=some (n:Int)) lw
   rw[OT (by rw[lo];exact nm)] at sl
   obtain⟨s7,D3⟩:∃s7,s6++[Ob.lst ((os.take n).map Wo.w)]=s7:=⟨_,rfl⟩
   rw[D3] at sl
   have G7:Gr s6 s7:=by rw[<-D3];exact Gr.push
   have tc:eX [.ref s6.length] s7= .ok (ir (os.take n)) s7:=uM (by rw[<-D3];exact aE)
   obtain⟨p1,p2⟩:=oZ (st:=s7) (x1:=some (.ref k)) (x2:=some y) (x3:=some (tI [a,b,c,d])) (x4:=some (.ref st.length)) (x5:=some (.ref s1.length)) (x6:=some (.int (n:Int))) (x7:=some (ir (os.take n))) (os.take n) none
   have kf:∀ρ,kFor 7 bq ρ (ir (os.take n)) s7=dz 7 bq ((os.take n).map Wo.w) ρ s7:=λρ=>rfl
   cases ht:(os.take n).all Wo.txt with
   | false=>
    have p:=p2 ht
    refine⟨s7,GG.trans G7,?_⟩
    rw[if_neg (by unfold rh LM;rw[h1,h2,hos,ht];simp)]
    refine du (n:=8) (g:=bA) ?_
    unfold bA
    simp[-aL,-hV,-jP,e1,br l1,e2,j1,j3,wd,br (G2.lst l1),e3,k4,n4,br ((G3.trans G4).lst l2),e5,k6,n6,sl,tc,kf,p]
   | true=>
    obtain⟨o',p⟩:=p1 ht
    have ls:=OP (st:=s7) ht (by omega)
    rw[show(.tup ((os.take n).map Wo.w):Wv)=ir (os.take n) from rfl] at ls
    have ul:=vJ ((os.take n).map Wo.s).reverse
    rw[List.length_reverse,aH,Oa] at ul
    generalize UO:xw ((os.take n).map Wo.s).reverse=uq at ls ul
    by_cases hu:uq=n
    ·subst hu
     have lq:fL [.ref s1.length] s7= .ok (.int ((m * uq:Nat):Int)) s7:=by rw[sH (G7.lst lw),aH,lo]
     have r3:=DM (st:=s7) (i:=(uq:Int)) (j:=((m * uq:Nat):Int)) (w:=(uq:Int)) ⟨by omega,by omega,by omega,by omega,by omega,by omega⟩
     have sn:=xT (m:=m) (n:=uq) (k0:=1) n1 m1
     rw[Nat.one_mul] at sn
     rw[sn] at r3
     generalize ((m * uq:Nat):Int)=z at lq r3
     obtain⟨s8,e8,G8,l8⟩:=oX (st:=s7) (cs:=[("found",4),("wide",5)]) (gt:=i9) (ge:=i_) (ρ:=[some (.ref k),some y,some (tI [a,b,c,d]),some (.ref st.length),some (.ref s1.length),some (.int (uq:Int)),some (ir (os.take uq)),o']) (w:=uq) (k0:=1) (h:=m - 1) (G7.lst lw) rfl (by rw[lo,show 1+(m - 1)=m by omega];exact ao _) (by omega) rfl rfl
     rw[Nat.one_mul] at e8
     have Wz:=uM l8
     refine⟨s8,GG.trans (G7.trans G8),?_⟩
     rw[if_pos (by unfold rh LM;rw[h1,h2,hos,ht,UO,Oa];simp),hos]
     refine du (n:=8) (g:=bA) ?_
     unfold bA
     simp[-aL,-hV,-jP,e1,br l1,e2,j1,j3,wd,br (G2.lst l1),e3,k4,n4,br ((G3.trans G4).lst l2),e5,k6,n6,sl,tc,kf,p,ls,lq,r3,e8,Wz,oY]
    ·have hlt:uq < n:=by omega
     refine⟨s7,GG.trans G7,?_⟩
     rw[if_neg (by unfold rh LM;rw[h1,h2,hos,ht,UO,Oa];simp[hu])]
     refine du (n:=8) (g:=bA) ?_
     unfold bA
     simp[-aL,-hV,-jP,e1,br l1,e2,j1,j3,wd,br (G2.lst l1),e3,k4,n4,br ((G3.trans G4).lst l2),e5,k6,n6,sl,tc,kf,p,ls,hlt]
end
section
variable {st:Hs} {a b c d:Int} {k:Nat} {y ar:Wv} {kvs:Ks} {v:Pt->Cv} {wt:List Pt} {m n:Nat}
theorem Gw{t:Wv}{st':Hs}(h:bB [.ref k,y,ar] st= .ok t st'):bt [.ref k,y,ar] st= .ok t st':=by
 refine du (n:=5) (g:=dy) ?_
 unfold dy fA
 simp[h]
theorem uN{C:PySem.Str}{t:Wv}{st':Hs}(tc:Dz.lookup (C,("SheetError":PySem.Str))=some true)(h:bB [.ref k,y,ar] st= .err C st')(su:cG [some (.ref k),some y,some ar,some (.str "other"),some (.j7 C)] st'= .nx [some (.ref k),some y,some ar,some t,some (.j7 C)] st'):bt [.ref k,y,ar] st= .ok t st':=by
 have tr:=Dx (cat:=λy=>Dz.lookup (y,("SheetError":PySem.Str))) (i:=4) (gs:=cG) (ρ:=[some (.ref k),some y,some ar,some (.str "other"),none]) (st:=st') tc su
 refine du (n:=5) (g:=dy) ?_
 unfold dy fA
 simp[h,tr]
theorem LS{st':Hs}(h:bB [.ref k,y,ar] st= .err "BadTable" st'):bt [.ref k,y,ar] st= .ok .aR st':=by
 have i1:∀st:Hs,dZ f7 dJ [.j7 "BadTable",.cls "BadArea"] st= .ok (.bl false) st:=λ_=>rfl
 have i2:∀st:Hs,dZ f7 dJ [.j7 "BadTable",.cls "BadTable"] st= .ok (.bl true) st:=λ_=>rfl
 refine uN (C:="BadTable") (by decide+kernel) h ?_
 unfold cG
 simp[i1,i2]
theorem LU{st':Hs}(h:bB [.ref k,y,ar] st= .err "BadArea" st'):bt [.ref k,y,ar] st= .ok (.str "area") st':=by
 have i1:∀st:Hs,dZ f7 dJ [.j7 "BadArea",.cls "BadArea"] st= .ok (.bl true) st:=λ_=>rfl
 have i2:∀st:Hs,dZ f7 dJ [.j7 "BadArea",.cls "BadTable"] st= .ok (.bl false) st:=λ_=>rfl
 refine uN (C:="BadArea") (by decide+kernel) h ?_
 unfold cG
 simp[i1,i2]
theorem told(hA:eO a b c d)(hm:m=(c+1 - a).toNat)(hn:n=(d+1 - b).toNat)(hk:st[k]? =some (.dP kvs))(hw:Wt st y wt)(hv:Dv kvs v (iD a b m n)) :
  ∃st',Gr st st'/\bt [.ref k,y,tI [a,b,c,d]] st= .ok (if rh wt (iD a b m n) ((iD a b m n).map v) n=true then oY (((iD a b m n).map v).map Cv.o) m n else .aR) st':=by
 obtain⟨st',g,e⟩:=DN hA hm hn hk hw hv
 refine⟨st',g,?_⟩
 by_cases h:rh wt (iD a b m n) ((iD a b m n).map v) n=true
 ·rw[if_pos h] at e ⊢;exact Gw e
 ·rw[if_neg h] at e ⊢;exact LS e
theorem Gx(hA:¬eO a b c d):bt [.ref k,y,tI [a,b,c,d]] st= .ok (.str "area") st:=by
 refine LU ?_
 have e:=sE (st:=st) hA
 unfold bB iH cF
 simp[e]
end
def ky(p q:Int):List L2.Key:=[.inl p,.inl q]
def lN(p:Pt):List L2.Key:=ky p.1 p.2
def OU:List Pt:=(a9 2574).map λk=>(((k / 26:Nat):Int),((k % 26:Nat):Int))
def uq{α:Type}(f:α->Nat):List α->Nat->Bool
 | [],_=>true
 | x::r,acc=> !(acc.testBit (f x))&&uq f r (acc||| 2 ^ f x)
theorem HV{α:Type}{f:α->Nat}:∀{l:List α}{acc:Nat},uq f l acc=true->(∀x∈l,∀y∈l,f x=f y->x=y)/\∀x∈l,acc.testBit (f x)=false
 | [],_,_=>⟨λx hx=>(by cases hx),λx hx=>by cases hx⟩
 | x::r,acc,h=>by
  unfold uq at h
  rw[cz] at h
  obtain⟨h1,h2⟩:=HV h.2
  have no:∀y∈r,acc.testBit (f y)=false/\f x≠f y:=λy hy=>by
   have q:=h2 y hy
   rw[Nat.testBit_or,Nat.testBit_two_pow,LQ] at q
   exact⟨q.1,of_decide_eq_false q.2⟩
  refine⟨λa ha b hb e=>?_,λy hy=>?_⟩
  ·rcases List.mem_cons.mp ha with ea | ha'
   ·rcases List.mem_cons.mp hb with eb | hb'
    ·rw[ea,eb]
    ·rw[ea] at e
     exact absurd e (no b hb').2
   ·rcases List.mem_cons.mp hb with eb | hb'
    ·rw[eb] at e
     exact absurd e.symm (no a ha').2
    ·exact h1 a ha' b hb' e
  ·rcases List.mem_cons.mp hy with rfl | hy
   ·simpa using h.1
   ·exact(no y hy).1
def hs(p:Pt):Int:=xq [p.1,p.2]
def hm(p:Pt):Nat:=(hs p % 19291).toNat
theorem LV:uq hm OU 0=true:=by decide+kernel
theorem uO{p:Pt}(h:dO p.1 p.2):p∈OU:=by
 obtain⟨a,b⟩:=p
 obtain⟨h1,h2,h3,h4⟩:=h
 dsimp only at h1 h2 h3 h4
 refine List.mem_map.mpr ⟨a.toNat * 26+b.toNat,List.mem_range.mpr (by omega),?_⟩
 refine qL ?_ ?_
 ·show(((a.toNat * 26+b.toNat) / 26:Nat):Int)=a
  omega
 ·show(((a.toNat * 26+b.toNat) % 26:Nat):Int)=b
  omega
theorem LW{p q:Pt}(hp:dO p.1 p.2)(hq:dO q.1 q.2)(h:hs p=hs q):p=q :=
 (HV LV).1 p (uO hp) q (uO hq) (by unfold hm;rw[h])
theorem xU:∀l:List Pt,mI (l.map lN)=some (l.map λp=>[p.1,p.2])
 | []=>rfl
 | p::r=>by
  rw[av,av]
  unfold mI
  rw[xU r]
  rfl
theorem uP:∀{l:List Pt},l.Nodup->(∀p∈l,dO p.1 p.2)->(l.map hs).Nodup
 | [],_,_=>jC
 | p::r,h,k=>by
  rw[lr] at h
  rw[av,lr]
  refine⟨λz=>?_,uP h.2 λq hq=>k q (aU _ hq)⟩
  obtain⟨q,hq,e⟩:=List.mem_map.mp z
  exact h.1 (LW (k q (aU _ hq)) (k p bF) e ▸ hq)
theorem LX{kvs:Ks}{ps:List Pt}(h:kvs.map (·.1)=ps.map lN)(hn:ps.Nodup)(hp:∀p∈ps,dO p.1 p.2):ko (kvs.map (·.1))=true:=by
 unfold ko
 rw[h,xU]
 refine decide_eq_true ?_
 rw[aL]
 exact uP hn hp
theorem DO{a b c d:Int}(h:ky a b=ky c d):a=c/\b=d:=by
 unfold ky at h
 injection h with h1 h2
 injection h2 with h2
 injection h1 with h1
 injection h2 with h2
 exact⟨h1,h2⟩
theorem v9{d:Nat}{kvs:Ks}{a b:Int}{v:Wv}{st:Hs}(h:st[d]? =some (.dP kvs))(hl:kvs.length < 1000):putD (.ref d) (.tup [.int a,.int b]) v st=some (st.set d (.dP (eS kvs (ky a b) v))):=by
 have hk:mR (.tup [.int a,.int b])=some (ky a b):=rfl
 unfold putD
 dsimp only
 rw[h]
 dsimp only
 rw[hk]
 dsimp only
 rw[if_pos (by unfold lim;omega)]
def Cn(v:Wv):Prop:=∃c:Cv,v=c.w
theorem OV{v:Wv}(h:v= .aR\/Cn v):∃d:PyData,(∀st:Hs,aA st 20 v=some d)/\aF d d=true:=by
 rcases h with rfl | ⟨c,rfl⟩
 ·exact⟨.none,λ_=>rfl,by simp[aF]⟩
 ·cases c with
  | wo w=>
   cases w with
   | aR=>exact⟨.none,λ_=>rfl,by simp[aF]⟩
   | int i=>exact⟨.int i,λ_=>rfl,xN⟩
   | str z=>exact⟨.str z,λ_=>rfl,HM⟩
  | fl z=>exact⟨.tuple [.str "fault",.str z],λ_=>rfl,LG⟩
theorem qC{k:List L2.Key}:∀{kvs:Ks},k∈kvs.map (·.1)->∃v,cJ kvs k=some v
 | [],h=>by cases h
 | p::r,h=>by
  unfold cJ
  by_cases e:p.1=k
  ·exact⟨p.2,if_pos e⟩
  ·rw[if_neg e]
   rw[av,bp] at h
   exact qC (h.resolve_left λz=>e z.symm)
theorem same_self{kvs:Ks}{st:Hs}(h:∀kv∈kvs,∃d:PyData,(∀st:Hs,aA st 20 kv.2=some d)/\aF d d=true):oH st kvs=true/\mJ st kvs kvs=true:=by
 refine⟨?_,?_⟩
 ·unfold oH
  rw[Dd]
  intro kv hk
  obtain⟨d,h1,_⟩:=h kv hk
  rw[h1]
  rfl
 ·unfold mJ
  rw[decide_eq_true rfl,Cm,Dd]
  intro k hk
  obtain⟨v,e⟩:=qC hk
  obtain⟨d,h1,h2⟩:=h _ (lx e)
  unfold Hy
  rw[e]
  dsimp only
  rw[h1]
  simpa using h2
theorem Gy{d:Nat}{kvs:Ks}{st:Hs}(hd:eT st[d]? =some kvs)(hk:ko (kvs.map (·.1))=true):qu [.ref d] st= .ok (.ref st.length) (st++[.dP kvs]):=by
 unfold qu
 dsimp only
 rw[hd]
 dsimp only
 rw[if_pos hk]
def DP(kvs:Ks)(ps:List Pt):Prop:=kvs.map (·.1)=ps.map lN/\ps.Nodup/\(∀p∈ps,dO p.1 p.2)/\∀kv∈kvs,kv.2= .aR\/Cn kv.2
theorem Gz{p q:Pt}(h:lN p=lN q):p=q:=qL (DO h).1 (DO h).2
open Classical in
theorem o4{kvs:Ks}{k:List L2.Key}{v:Wv}:(eS kvs k v).map (·.1)=if k∈kvs.map (·.1) then kvs.map (·.1) else kvs.map (·.1)++[k]:=by
 unfold eS
 by_cases h:(kvs.any λkv=>decide (kv.1=k))=true
 ·rw[if_pos h]
  obtain⟨p,hp,e⟩:=List.any_eq_true.mp h
  rw[if_pos (List.mem_map.mpr ⟨p,hp,of_decide_eq_true e⟩),aL]
  refine nG λq _=>?_
  show(if q.1=k then(q.1,v) else q).1=q.1
  split<;>rfl
 ·rw[if_neg h,if_neg,jR]
  ·rfl
  ·intro z
   obtain⟨p,hp,e⟩:=List.mem_map.mp z
   exact h (List.any_eq_true.mpr ⟨p,hp,decide_eq_true e⟩)
theorem DQ{kvs:Ks}{k:List L2.Key}{v:Wv}{kv:List L2.Key×Wv}(h:kv∈eS kvs k v):kv.2=v\/kv∈kvs:=by
 unfold eS at h
 split at h
 ·obtain⟨q,hq,rfl⟩:=List.mem_map.mp h
  by_cases c:q.1=k
  ·rw[if_pos c];exact .inl rfl
  ·rw[if_neg c];exact .inr hq
 ·rcases List.mem_append.mp h with z | z
  ·exact .inr z
  ·rw[List.mem_singleton.mp z];exact .inl rfl
theorem DP.put{kvs:Ks}{ps:List Pt}{p:Pt}{v:Wv}(h:DP kvs ps)(hp:dO p.1 p.2)(hv:v= .aR\/Cn v):∃qs,DP (eS kvs (lN p) v) qs:=by
 obtain⟨h1,h2,h3,h4⟩:=h
 have hv':∀kv∈eS kvs (lN p) v,kv.2= .aR\/Cn kv.2:=λkv hk=>by
  rcases DQ hk with z | z
  ·rw[z];exact hv
  ·exact h4 kv z
 by_cases c:lN p∈kvs.map (·.1)
 ·exact⟨ps,by rw[o4,if_pos c];exact h1,h2,h3,hv'⟩
 ·refine⟨ps++[p],by rw[o4,if_neg c,h1,jR];rfl,?_,?_,hv'⟩
  ·rw[List.nodup_append]
   refine⟨h2,by simp,λx hx y hy=>?_⟩
   rw[List.mem_singleton.mp hy]
   intro z
   exact c (by rw[h1];exact List.mem_map.mpr ⟨x,hx,by rw[z]⟩)
  ·intro q hq
   rcases List.mem_append.mp hq with z | z
   ·exact h3 q z
   ·rw[List.mem_singleton.mp z];exact hp
theorem DP.drop{kvs:Ks}{ps:List Pt}{p:Pt}(h:DP kvs ps):∃qs,DP (fM kvs (lN p)) qs:=by
 obtain⟨h1,h2,h3,h4⟩:=h
 refine⟨ps.filter λq=>decide (q≠p),?_,h2.sublist List.filter_sublist,λq hq=>h3 q (List.mem_filter.mp hq).1,λkv hk=>h4 kv (List.mem_filter.mp hk).1⟩
 clear h2 h3 h4
 unfold fM
 induction kvs generalizing ps with
 | nil=>cases ps with
  | nil=>rfl
  | cons q r=>cases h1
 | cons x r ih=>cases ps with
  | nil=>cases h1
  | cons q t=>
   rw[av,av] at h1
   injection h1 with a1 a2
   rw[eQ,eQ]
   by_cases c:q=p
   ·rw[if_neg (by simp[a1,c]),if_neg (by simp[c])]
    exact ih a2
   ·have:¬x.1=lN p:=λz=>c (Gz (by rw[<-a1];exact z))
    rw[if_pos (by simp[this]),if_pos (by simp[c]),av,av,ih a2,a1]
theorem DP.hash{kvs:Ks}{ps:List Pt}(h:DP kvs ps):ko (kvs.map (·.1))=true:=LX h.1 h.2.1 h.2.2.1
theorem DP.dat{kvs:Ks}{ps:List Pt}(h:DP kvs ps):∀kv∈kvs,∃d:PyData,(∀st:Hs,aA st 20 kv.2=some d)/\aF d d=true:=λkv hk=>OV (h.2.2.2 kv hk)
def Kc(kvs:Ks)(N:Nat):Prop:=(∃ps,DP kvs ps)/\kvs.length<=N
theorem Kc.nil:Kc [] 0:=⟨⟨[],rfl,jC,(λp h=>by cases h),(λkv h=>by cases h)⟩,ao _⟩
theorem GB{kvs:Ks}{k:List L2.Key}{v:Wv}:(eS kvs k v).length<=kvs.length+1:=by
 have h:=congrArg gU (o4 (kvs:=kvs) (k:=k) (v:=v))
 rw[aH] at h
 rw[h]
 split<;>simp
theorem Kc.put{kvs:Ks}{N:Nat}{p:Pt}{c:Cv}(h:Kc kvs N)(hp:dO p.1 p.2):Kc (eS kvs (lN p) c.w) (N+1):=by
 obtain⟨⟨ps,h1⟩,h2⟩:=h
 refine⟨h1.put hp (.inr ⟨c,rfl⟩),?_⟩
 have:=GB (kvs:=kvs) (k:=lN p) (v:=c.w)
 omega
theorem DR:∀{kvs:Ks}{k:List L2.Key},(fM kvs k).length<=kvs.length:=λ{kvs k}=>EC _ _
theorem Kc.drop{kvs:Ks}{N:Nat}{p:Pt}(h:Kc kvs N):Kc (fM kvs (lN p)) N:=by
 obtain⟨⟨ps,h1⟩,h2⟩:=h
 exact⟨h1.drop,bo DR h2⟩
theorem Kc.le{kvs:Ks}{N M:Nat}(h:Kc kvs N)(k:N<=M):Kc kvs M:=⟨h.1,bo h.2 k⟩
theorem Kc.tells{kvs:Ks}{N:Nat}(h:Kc kvs N):∃v:Pt->Cv,∀ps,Dv kvs v ps:=by
 obtain⟨⟨qs,_,_,_,h4⟩,_⟩:=h
 have ex:∀p:Pt,∃c:Cv,(cJ kvs (kP p)).getD .aR=c.w:=λp=>by
  cases e:cJ kvs (kP p) with
  | none=>exact⟨.wo .aR,rfl⟩
  | some w=>
   rcases h4 _ (lx e) with z | ⟨c,z⟩
   ·exact⟨.wo .aR,z⟩
   ·exact⟨c,z⟩
 exact⟨λp=>(ex p).choose,λps p _=>(ex p).choose_spec⟩
abbrev Rd(x0 x1 x2 x3 x4:Option Wv)(l:Nat)(N:Int)(o7 o8 o9 lO v_ wa wb:Option Wv):bw:=[x0,x1,x2,x3,x4,some (.ref l),some (.int N),o7,o8,o9,lO,v_,wa,wb]
theorem GC{i:Int}(h0:0<=i)(h1:i < 4):∃z:PySem.Str,L2.mE [Wv.str "b",.str "a",.str "ab",.str "c"] i=some (.str z):=by
 obtain⟨v,e,hv⟩:=lG (ws:=[Wv.str "b",.str "a",.str "ab",.str "c"]) (d:=i) h0 h1
 simp at hv
 rcases hv with rfl | rfl | rfl | rfl<;>exact⟨_,e⟩
theorem HW{ws:List Wo}{j:Nat}{w:Wo}:(ws.map Wo.w).set j w.w=(ws.set j w).map Wo.w:=by rw[List.map_set]
theorem wc{x0 x1 x2 x3 x4:Option Wv}{N:Int}{l w:Nat}{s5:Hs}{ws:List Wo}(hl:s5[l]? =some (.lst (ws.map Wo.w)))(hw:w<=ws.length) :
  ∃(o7:Option Wv)(s:Hs)(tw:List Wo),dz 7 bZ (bC 0 w) (Rd x0 x1 x2 x3 x4 l N none none none none none none none) s5= .nx (Rd x0 x1 x2 x3 x4 l N o7 none none none none none none) s/\s[l]? =some (.lst (tw.map Wo.w))/\tw.length=ws.length/\dR l s5 s:=by
 obtain⟨ρ1,s,e1,o7,tw,rfl,h1,h2,h3⟩:=jO (i:=7) (gb:=bZ) (λ_ ρ s=>∃(o7:Option Wv)(tw:List Wo),ρ=Rd x0 x1 x2 x3 x4 l N o7 none none none none none none/\s[l]? =some (.lst (tw.map Wo.w))/\tw.length=ws.length/\dR l s5 s)
  (bC 0 w) 0 (Rd x0 x1 x2 x3 x4 l N none none none none none none none) s5 ⟨none,ws,rfl,hl,rfl,dR.refl⟩ (λj x hx ρ s hP=>by
   obtain⟨o7,tw,rfl,h1,h2,h3⟩:=hP
   have hj:j < w:=by
    have q:=(List.getElem?_eq_some_iff.mp hx).1
    rw[bD] at q
    exact q
   rw[gK hj] at hx
   cases hx
   obtain⟨s',hs'⟩:∃s',s++[Ob.lst [.str "b",.str "a",.str "ab",.str "c"]]=s':=⟨_,rfl⟩
   have k4:hU [.str "b",.str "a",.str "ab",.str "c"] s= .ok (.ref s.length) s':=by rw[<-hs'];exact Dt
   have l4:ai s' s.length=some [.str "b",.str "a",.str "ab",.str "c"]:=by rw[<-hs'];exact aE
   have g4:s'[l]? =some (.lst (tw.map Wo.w)):=by rw[<-hs'];exact eL h1
   have b:=kE (x:=N+(0+(j:Int))) (m:=4) (by omega)
   obtain⟨z,ez⟩:=GC b.1 b.2
   have ix:=si l4 ez
   have md:=dq (st:=s') (i:=N+(0+(j:Int))) (j:=4) (by decide)
   have Sb:L2.sR (tw.map Wo.w).length (0+(j:Int))=some j:=by
    unfold L2.sR
    rw[aH,h2]
    simp
    omega
   have os:∀ρ,JX (.ref l) (.int (0+(j:Int))) (.str z) ρ s'= .nx ρ (s'.set l (.lst ((tw.set j (.str z)).map Wo.w))):=λρ=>by
    show(match s'[l]? with | some (.lst ws)=>(match L2.sR ws.length (0+(j:Int)) with | some j=>Rs.nx ρ (s'.set l (.lst (ws.set j (.str z)))) | none=> .bad) | _=> .bad)=_
    rw[g4]
    dsimp only
    rw[Sb]
    dsimp only
    rw[show(Wv.str z)=(Wo.str z).w from rfl,HW]
   refine⟨Rd x0 x1 x2 x3 x4 l N (some (.int (0+(j:Int)))) none none none none none none,s'.set l (.lst ((tw.set j (.str z)).map Wo.w)),?_,_,tw.set j (.str z),rfl,en g4,by rw[gW];exact h2,(h3.trans (by rw[<-hs'];exact Gr.push.keep)).trans dR.set⟩
   unfold bZ kZ
   simp only[lJ,lK,Dq,HF,vQ,e_c,Ds,xK,DG,vY,xJ,nE,r_,k4,Lx,r9,OC,md,ix,r6,os])
 exact⟨o7,s,tw,e1,h1,h2,h3⟩
theorem xV{is:List Nat}{gb:GS}{ck:Hs->Prop}(P:Nat->bw->Hs->Prop):∀(ws:List Wv)(k:Nat)(ρ:bw)(st:Hs),P k ρ st->
  (∀(j:Nat)(w:Wv),ws[j]? =some w->∀ρ st,P (k+j) ρ st->∃ρ1 ρ' st',Hl is w ρ=some ρ1/\gb ρ1 st= .nx ρ' st'/\ck st'/\P (k+j+1) ρ' st')->∃ρ' st',vI is gb ck ws ρ st= .nx ρ' st'/\P (k+ws.length) ρ' st'
 | [],k,ρ,st,h,_=>⟨ρ,st,rfl,h⟩
 | w::r,k,ρ,st,h,step=>by
  obtain⟨ρ0,ρ1,st1,e0,e1,c1,p1⟩:=step 0 w rfl ρ st h
  obtain⟨ρ2,st2,e2,p2⟩:=xV P r (k+1) ρ1 st1 p1 λj w hw ρ st hp=>by
   have e:k+(j+1)=k+1+j:=by omega
   have q:=step (j+1) w hw ρ st (by rw[e];exact hp)
   rw[e] at q
   exact q
  refine⟨ρ2,st2,?_,?_⟩
  ·unfold vI
   rw[e0]
   dsimp only
   rw[e1]
   dsimp only
   rw[if_pos c1]
   exact e2
  ·have e:k+(w::r).length=k+1+r.length:=by simp;omega
   rw[e]
   exact p2
theorem o6:∀{as bs:List Wv}{j:Nat}{x:Wv},(gP as bs)[j]? =some x->∃a b,as[j]? =some a/\bs[j]? =some b/\x= .tup [a,b]
 | [],_,j,x,h=>by simp[gP] at h
 | _::_,[],j,x,h=>by simp[gP] at h
 | a::as,b::bs,0,x,h=>by
  simp[gP] at h
  exact⟨a,b,rfl,rfl,h.symm⟩
 | a::as,b::bs,j+1,x,h=>by
  have h':(gP as bs)[j]? =some x:=by simpa [gP] using h
  simpa using o6 h'
theorem DS{x0 x1 x2 x4 o7 o9 lO v_ wa wb:Option Wv}{lp l dk:Nat}{N:Int}{ps:List Pt}{ws:List Wo}{s:Hs}(hp:s[lp]? =some (.lst (ps.map pw)))(hf:s[l]? =some (.lst (ws.map Wo.w)))(hd:s[dk]? =some (.dP []))(n1:dk≠lp)(n2:dk≠l)
  (hP:∀p∈ps,dO p.1 p.2)(hn:ps.length<=300):∃(WA Sd:Option Wv)(kvs:Ks)(s':Hs),FV [9,10] bO (Rd x0 x1 x2 (some (.ref lp)) x4 l N o7 (some (.ref dk)) o9 lO v_ wa wb) [.ref lp,.ref l] s= .nx (Rd x0 x1 x2 (some (.ref lp)) x4 l N o7 (some (.ref dk)) WA Sd v_ wa wb) s'/\s'[dk]? =some (.dP kvs)/\Kc kvs ps.length/\dR dk s s':=by
 have lz:(gP (ps.map pw) (ws.map Wo.w)).length<=ps.length:=by
  rcases Nat.lt_or_ge ps.length (gP (ps.map pw) (ws.map Wo.w)).length with h | h
  ·obtain⟨a,b,ha,_⟩:=o6 (cW h)
   have:=(List.getElem?_eq_some_iff.mp ha).1
   simp at this
  ·exact h
 have lst:∀{s:Hs}{l:Nat}{ws:List Wv},s[l]? =some (.lst ws)->ai s l=some ws:=λh=>by unfold ai;rw[h]
 obtain⟨ρ1,s1,e1,p9,WB,kvs,rfl,h1,h2,h3⟩:=xV (is:=[9,10]) (gb:=bO) (ck:=K8 lp (ps.map pw) l (ws.map Wo.w)) (λj ρ s'=>∃(o9 lO:Option Wv)(kvs:Ks),ρ=Rd x0 x1 x2 (some (.ref lp)) x4 l N o7 (some (.ref dk)) o9 lO v_ wa wb/\s'[dk]? =some (.dP kvs)/\Kc kvs j/\dR dk s s')
  (gP (ps.map pw) (ws.map Wo.w)) 0 (Rd x0 x1 x2 (some (.ref lp)) x4 l N o7 (some (.ref dk)) o9 lO v_ wa wb) s ⟨o9,lO,[],rfl,hd,Kc.nil,dR.refl⟩ (λj x hx ρ s' WC=>by
   obtain⟨o9,lO,kvs,rfl,h1,h2,h3⟩:=WC
   obtain⟨a,b,ha,hb,rfl⟩:=o6 hx
   rw[dA] at ha hb
   obtain⟨p,ep,rfl⟩:=Option.map_eq_some_iff.mp ha
   obtain⟨w,ew,rfl⟩:=Option.map_eq_some_iff.mp hb
   have pp:=hP p (m6 ep)
   have jl:j < ps.length:=(List.getElem?_eq_some_iff.mp ep).1
   have e1:=R0 (st:=s') w
   have e2:=dH (st:=s') (i:=N) (j:=4) ⟨by decide,by decide⟩
   have e3:=dq (st:=s') (i:=N.fdiv 4) (j:=2) (by decide)
   have pd:putD (.ref dk) (pw p) w.w s'=some (s'.set dk (.dP (eS kvs (lN p) w.w))):=v9 h1 (by have:=h2.2;omega)
   have WD:K8 lp (ps.map pw) l (ws.map Wo.w) s':=⟨h3.lst (lst hp) n1.symm,h3.lst (lst hf) n2.symm⟩
   have kp:dR dk s (s'.set dk (.dP (eS kvs (lN p) w.w))):=h3.trans dR.set
   by_cases hc:w.nn=true\/(N.fdiv 4).fmod 2=0
   ·refine⟨Rd x0 x1 x2 (some (.ref lp)) x4 l N o7 (some (.ref dk)) (some (pw p)) (some w.w) v_ wa wb,Rd x0 x1 x2 (some (.ref lp)) x4 l N o7 (some (.ref dk)) (some (pw p)) (some w.w) v_ wa wb,s'.set dk (.dP (eS kvs (lN p) w.w)),rfl,?_,⟨kp.lst (lst hp) n1.symm,kp.lst (lst hf) n2.symm⟩,_,_,_,rfl,en h1,h2.put (c:=.wo w) pp,kp⟩
    unfold bO jV
    cases hn:w.nn with
    | true=>
     rw[hn] at e1
     simp[e1,pd]
    | false=>
     rw[hn] at e1
     have hz:(N.fdiv 4).fmod 2=0:=by
      rcases hc with z | z
      ·rw[hn] at z;cases z
      ·exact z
     rw[hz] at e3
     simp[e1,e2,e3,pd]
   ·have hn:w.nn=false:=by cases e:w.nn with | false=>rfl | true=>exact absurd (.inl e) hc
    have hz:¬(N.fdiv 4).fmod 2=0:=λz=>hc (.inr z)
    rw[hn] at e1
    refine⟨Rd x0 x1 x2 (some (.ref lp)) x4 l N o7 (some (.ref dk)) (some (pw p)) (some w.w) v_ wa wb,Rd x0 x1 x2 (some (.ref lp)) x4 l N o7 (some (.ref dk)) (some (pw p)) (some w.w) v_ wa wb,s',rfl,?_,WD,_,_,kvs,rfl,h1,h2.le (by omega),h3⟩
    have hz':((N.fdiv 4).fmod 2 == 0)=false:=by simpa using hz
    unfold bO jV
    simp[e1,e2,e3,hz'])
 refine⟨p9,WB,kvs,s1,?_,h1,h2.le (by omega),h3⟩
 unfold FV
 dsimp only
 rw[hp,hf]
 exact e1
theorem GD{a b:Int}{m n:Nat}{p:Pt}(h:p∈iD a b m n):a<=p.1/\p.1 < a+m/\b<=p.2/\p.2 < b+n:=by
 unfold iD at h
 obtain⟨l,hl,hp⟩:=List.mem_flatten.mp h
 obtain⟨k,hk,rfl⟩:=List.mem_map.mp hl
 obtain⟨j,hj,rfl⟩:=List.mem_map.mp hp
 have:=List.mem_range.mp hk
 have:=List.mem_range.mp hj
 simp only
 omega
theorem we{ns:List Int}:∃c:Int,L2.mE ((ns.map Wv.int)++[.int 0]) 0=some (.int c):=by
 cases ns with
 | nil=>exact⟨0,L2.dC (j:=0) rfl⟩
 | cons n r=>exact⟨n,L2.dC (j:=0) rfl⟩
theorem wg{ns:List Int}{st:Hs}(hs:st[0]? =some (.pk ns))(hn:ns.length<=63):∃(cell N a b c d:Int)(lp l:Nat)(ps:List Pt)(ws:List Wo)(st':Hs),(0<=a/\a<=94/\a<=c/\c<=a+4/\0<=b/\b<=d/\d<=b+3/\d<=25)/\ps=iD a b (c+1 - a).toNat (d+1 - b).toNat/\Gr st st'/\st'[lp]? =some (.lst (ps.map pw))/\st'[l]? =some (.lst (ws.map Wo.w))/\ws.length=ps.length/\lp≠l/\st.length<=lp/\st.length<=l/\
  ∀g:GS,(aK (bf 1 (aj bu (aj bS (af 0) (dX (ae (gC (.int 0)) aq))) (gC (.int 0))))
   (aK (bf 2 (bM 1 eM (ae (af 1) aq)))
   (aK (bf 3 (bM 1 bR (ae (af 2) aq)))
   (aK (bf 4 (aj bS (aj j9 (aj bu (af 2) (gC (.int 3))) (aj bu (af 2) (gC (.int 1)))) (gC (.int 1))))
   (aK (bf 5 (bM 2 cZ (ae (aG vp (ae (bT (af 0) (dm (gC (.int 1))) ei) aq)) (ae (aG fL (ae (af 3) aq)) aq))))
   (aK (bf 6 (aj bI (af 1) (gC (.int 54625)))) g)))))) (Rd (some (.ref 0)) none none none none 0 0 none none none none none none none |>.set 5 none |>.set 6 none) st=g (Rd (some (.ref 0)) (some (.int cell)) (some (tI [a,b,c,d])) (some (.ref lp)) (some (.int (d - b+1))) l N none none none none none none none) st':=by
 have l0:ai st 0=some (ns.map Wv.int):=by unfold ai;rw[hs]
 obtain⟨s1,hs1⟩:∃s1,st++[Ob.lst [.int 0]]=s1:=⟨_,rfl⟩
 have k1:hU [.int 0] st= .ok (.ref st.length) s1:=by rw[<-hs1];exact sg
 have L1:ai s1 st.length=some [.int 0]:=by rw[<-hs1];exact aE
 have G1:Gr st s1:=by rw[<-hs1];exact Gr.push
 have ad:=add_l (st:=s1) (G1.lst l0) L1 (by simp;unfold lim;omega)
 obtain⟨s2,hs2⟩:∃s2,s1++[Ob.lst ((ns.map Wv.int)++[.int 0])]=s2:=⟨_,rfl⟩
 rw[hs2] at ad
 have L2:ai s2 s1.length=some ((ns.map Wv.int)++[.int 0]):=by rw[<-hs2];exact aE
 have G2:Gr s1 s2:=by rw[<-hs2];exact Gr.push
 obtain⟨cell,ec⟩:=we (ns:=ns)
 have ix:=si L2 ec
 obtain⟨a,b,c,d,ea,hb⟩:=DH (st:=s2) (cell:=cell)
 have hA:eO a b c d:=by
  have:(c - a+1) * (d - b+1)<=5 * 4:=DD (by omega) (by omega) (by omega) (by omega)
  unfold eO
  omega
 have ep:=oV (st:=s2) hA
 rw[lM] at ep
 obtain⟨m,hm⟩:∃m,(c+1 - a).toNat=m:=⟨_,rfl⟩
 obtain⟨n,hn'⟩:∃n,(d+1 - b).toNat=n:=⟨_,rfl⟩
 rw[hm,hn'] at ep
 have hl:(iD a b m n).length=m * n:=nH
 have mn:m * n<=20:=bo (sD (show m<=5 by omega) (show n<=4 by omega)) (by omega)
 obtain⟨ps,hps⟩:∃ps,iD a b m n=ps:=⟨_,rfl⟩
 rw[hps] at ep hl
 obtain⟨s3,kG⟩:∃s3,s2++[Ob.lst (ps.map pw)]=s3:=⟨_,rfl⟩
 rw[kG] at ep
 have g3:s3[s2.length]? =some (.lst (ps.map pw)):=by rw[<-kG];exact fh
 have L3:ai s3 s2.length=some (ps.map pw):=by unfold ai;rw[g3]
 have G3:Gr s2 s3:=by rw[<-kG];exact Gr.push
 have sc:=Gi (lo:=some 1) (hi:=none) ((G1.trans (G2.trans G3)).lst l0)
 obtain⟨ys,ey,_⟩:=zu (f:=Wv.int) (xs:=ns) (lo:=some 1) (hi:=none)
 rw[ey] at sc
 obtain⟨s4,v7⟩:∃s4,s3++[Ob.lst (ys.map Wv.int)]=s4:=⟨_,rfl⟩
 rw[v7] at sc
 have G4:Gr s3 s4:=by rw[<-v7];exact Gr.push
 have su:=HL (show ai s4 s3.length=some (ys.map Wv.int) by rw[<-v7];exact aE)
 have ln:fL [.ref s2.length] s4= .ok (.int ((m * n:Nat):Int)) s4:=by rw[sH (G4.lst L3),aH,hl]
 obtain⟨l,s5,ws,ew,g5,n5,G5,ll⟩:=LK (c:=ys.sum) (many:=m * n) (by omega) (st:=s4)
 have fd:=dH (st:=s5) (i:=cell) (j:=54625) ⟨by decide,by decide⟩
 have j1:∀s:Hs,bu (tI [a,b,c,d]) (.int 1) s= .ok (.int b) s:=λs=>rfl
 have j3:∀s:Hs,bu (tI [a,b,c,d]) (.int 3) s= .ok (.int d) s:=λs=>rfl
 have z1:s1.length=st.length+1:=by rw[<-hs1];simp
 have z2:s2.length=s1.length+1:=by rw[<-hs2];simp
 have z3:s3.length=s2.length+1:=by rw[<-kG];simp
 have z4:s4.length=s3.length+1:=by rw[<-v7];simp
 refine⟨cell,cell.fdiv 54625,a,b,c,d,s2.length,l,ps,ws,s5,hb,by rw[hm,hn',hps],G1.trans (G2.trans (G3.trans (G4.trans G5))),(G4.trans G5).get g3,g5,by rw[n5,hl],by omega,by omega,by omega,λg=>?_⟩
 generalize ((m * n:Nat):Int)=z at ln ew
 simp[-sg,k1,ad,ix,ea,ep,j1,j3,sc,su,ln,ew,fd]
theorem GF{x0 x1 x2 x3:Option Wv}{N:Int}{l w:Nat}{s:Hs}{ws:List Wo}{o7:Option Wv}(hl:s[l]? =some (.lst (ws.map Wo.w)))(h1:1<=w)(hw:w<=ws.length) :
  ∃(s':Hs)(tw:List Wo),kZ (aj bu (dX (ae (gC (.str "")) (ae (gC (.int 3)) (ae (gC .aR) (ae (aj bu (af 5) (gC (.int 0))) aq))))) (aj oMod (aj bI (af 6) (gC (.int 100))) (gC (.int 4)))) (af 5) (aj oMod (aj bI (af 6) (gC (.int 20))) (af 4)) (Rd x0 x1 x2 x3 (some (.int (w:Int))) l N o7 none none none none none none) s= .nx (Rd x0 x1 x2 x3 (some (.int (w:Int))) l N o7 none none none none none none) s'/\s'[l]? =some (.lst (tw.map Wo.w))/\tw.length=ws.length/\dR l s s':=by
 have L0:ai s l=some (ws.map Wo.w):=by unfold ai;rw[hl]
 have i0:=DC (st:=s) (k:=0) L0 (by omega)
 rw[show((0:Nat):Int)=0 from rfl] at i0
 obtain⟨w0,hw0⟩:∃w0,ws.getD 0 .aR=w0:=⟨_,rfl⟩
 rw[hw0] at i0
 obtain⟨s1,hs1⟩:∃s1,s++[Ob.lst [.str "",.int 3,.aR,w0.w]]=s1:=⟨_,rfl⟩
 have k4:hU [.str "",.int 3,.aR,w0.w] s= .ok (.ref s.length) s1:=by rw[<-hs1];exact Dt
 have l4:ai s1 s.length=some [.str "",.int 3,.aR,w0.w]:=by rw[<-hs1];exact aE
 have g4:s1[l]? =some (.lst (ws.map Wo.w)):=by rw[<-hs1];exact eL hl
 have b:=kE (x:=N.fdiv 100) (m:=4) (by omega)
 obtain⟨v,ev,hv⟩:=lG (ws:=[.str "",.int 3,.aR,w0.w]) (d:=(N.fdiv 100).fmod 4) b.1 (by simpa using b.2)
 obtain⟨u,rfl⟩:∃u:Wo,v=u.w:=by
  simp at hv
  rcases hv with rfl | rfl | rfl | rfl
  ·exact⟨.str "",rfl⟩
  ·exact⟨.int 3,rfl⟩
  ·exact⟨.aR,rfl⟩
  ·exact⟨w0,rfl⟩
 have ix:=si l4 ev
 have f1:=dH (st:=s1) (i:=N) (j:=100) ⟨by decide,by decide⟩
 have m1:=dq (st:=s1) (i:=N.fdiv 100) (j:=4) (by decide)
 have f2:=dH (st:=s1) (i:=N) (j:=20) ⟨by decide,by decide⟩
 have m2:=dq (st:=s1) (i:=N.fdiv 20) (j:=(w:Int)) (by omega)
 have b2:=kE (x:=N.fdiv 20) (m:=(w:Int)) (by omega)
 obtain⟨j,hj⟩:∃j:Nat,(N.fdiv 20).fmod (w:Int)=(j:Int):=⟨((N.fdiv 20).fmod (w:Int)).toNat,by omega⟩
 rw[hj] at m2 b2
 have Sb:L2.sR (ws.map Wo.w).length (j:Int)=some j:=by
  unfold L2.sR
  rw[aH]
  simp
  omega
 have os:∀ρ,JX (.ref l) (.int (j:Int)) u.w ρ s1= .nx ρ (s1.set l (.lst ((ws.set j u).map Wo.w))):=λρ=>by
  show(match s1[l]? with | some (.lst ws)=>(match L2.sR ws.length (j:Int) with | some j=>Rs.nx ρ (s1.set l (.lst (ws.set j u.w))) | none=> .bad) | _=> .bad)=_
  rw[g4]
  dsimp only
  rw[Sb]
  dsimp only
  rw[HW]
 refine⟨s1.set l (.lst ((ws.set j u).map Wo.w)),ws.set j u,?_,en g4,gW,(show dR l s s1 by rw[<-hs1];exact Gr.push.keep).trans dR.set⟩
 unfold kZ
 simp only[Dq,HF,vQ,e_c,Ds,xK,DG,vY,xJ,nE,r_,Lx,r9,i0,k4,f1,m1,ix,f2,m2,r6,os]
theorem sI{a b:GS}{ρ ρ':bw}{st st':Hs}(h:a ρ st= .nx ρ' st'):aK a b ρ st=b ρ' st':=by rw[OA,h];rfl
theorem zJ{x0 x1 x2:Option Wv}{N:Int}{lp l w:Nat}{st:Hs}{ps:List Pt}{ws:List Wo}(hp:st[lp]? =some (.lst (ps.map pw)))(hl:st[l]? =some (.lst (ws.map Wo.w)))(n1:lp≠l)(hw1:1<=w)(WE:w<=ws.length)(XU:w<=26)(hP:∀p∈ps,dO p.1 p.2)(hn:ps.length<=300) :
  ∃(o7 o9 lO:Option Wv)(dk:Nat)(kvs:Ks)(st':Hs),st.length<=dk/\st'[dk]? =some (.dP kvs)/\Kc kvs ps.length/\st'[lp]? =some (.lst (ps.map pw))/\(st.length<=st'.length/\∀k,k < st.length->k≠l->st'[k]? =st[k]?)/\∀g:GS,aK (lW 7 (ae (af 4) aq) bZ)
   (aK (kF (cn (aj oEq (aj oMod (aj bI (af 6) (gC (.int 4))) (gC (.int 5))) (gC (.int 1)))) (kZ (aj bu (dX (ae (gC (.str "")) (ae (gC (.int 3)) (ae (gC .aR) (ae (aj bu (af 5) (gC (.int 0))) aq))))) (aj oMod (aj bI (af 6) (gC (.int 100))) (gC (.int 4)))) (af 5) (aj oMod (aj bI (af 6) (gC (.int 20))) (af 4))) bJ)
   (aK (bf 8 tT) (aK (t_ [9,10] (ae (af 3) (ae (af 5) aq)) bO) g))) (Rd x0 x1 x2 (some (.ref lp)) (some (.int (w:Int))) l N none none none none none none none) st=g (Rd x0 x1 x2 (some (.ref lp)) (some (.int (w:Int))) l N o7 (some (.ref dk)) o9 lO none none none) st':=by
 have cw:bN (w:Int):=OI (by omega) (by omega)
 obtain⟨o7,s1,UP,e1,h1,AO,k1⟩:=wc (x0:=x0) (x1:=x1) (x2:=x2) (x3:=some (.ref lp)) (x4:=some (.int (w:Int))) (N:=N) hl WE
 -- the odd head,or not
 obtain⟨s2,Mt,e2,h2,h2',k2⟩:∃(s2:Hs)(Mt:List Wo),kF (cn (aj oEq (aj oMod (aj bI (af 6) (gC (.int 4))) (gC (.int 5))) (gC (.int 1)))) (kZ (aj bu (dX (ae (gC (.str "")) (ae (gC (.int 3)) (ae (gC .aR) (ae (aj bu (af 5) (gC (.int 0))) aq))))) (aj oMod (aj bI (af 6) (gC (.int 100))) (gC (.int 4)))) (af 5) (aj oMod (aj bI (af 6) (gC (.int 20))) (af 4))) bJ (Rd x0 x1 x2 (some (.ref lp)) (some (.int (w:Int))) l N o7 none none none none none none) s1= .nx (Rd x0 x1 x2 (some (.ref lp)) (some (.int (w:Int))) l N o7 none none none none none none) s2/\s2[l]? =some (.lst (Mt.map Wo.w))/\Mt.length=UP.length/\dR l s1 s2:=by
  have f:=dH (st:=s1) (i:=N) (j:=4) ⟨by decide,by decide⟩
  have m:=dq (st:=s1) (i:=N.fdiv 4) (j:=5) (by decide)
  by_cases c:(N.fdiv 4).fmod 5=1
  ·obtain⟨s2,Mt,e,a,b,k⟩:=GF (x0:=x0) (x1:=x1) (x2:=x2) (x3:=some (.ref lp)) (N:=N) (o7:=o7) (w:=w) h1 hw1 (by omega)
   refine⟨s2,Mt,?_,a,b,k⟩
   rw[c] at m
   refine Eq.trans ?_ e
   simp[f,m]
  ·have c':((N.fdiv 4).fmod 5 == 1)=false:=by simpa using c
   refine⟨s1,UP,?_,h1,rfl,dR.refl⟩
   simp[f,m,c']
 have kk:dR l st s2:=k1.trans k2
 obtain⟨s3,kG⟩:∃s3,s2++[Ob.dP []]=s3:=⟨_,rfl⟩
 have nt:∀ρ:bw,tT ρ s2= .ok (.ref s2.length) s3:=λρ=>by rw[<-kG];rfl
 have gp:s3[lp]? =some (.lst (ps.map pw)):=by
  rw[<-kG]
  refine eL ?_
  rw[kk.2 lp (hX hp) n1]
  exact hp
 have gl:s3[l]? =some (.lst (Mt.map Wo.w)):=by rw[<-kG];exact eL h2
 have gd:s3[s2.length]? =some (.dP []):=by rw[<-kG];exact fh
 have le:st.length<=s2.length:=kk.1
 have WG:=hX hp
 have l1:=hX hl
 obtain⟨o9,lO,kvs,s4,e4,h4,c4,k4⟩:=DS (x0:=x0) (x1:=x1) (x2:=x2) (x4:=some (.int (w:Int))) (o7:=o7) (o9:=none) (lO:=none) (v_:=none) (wa:=none) (wb:=none) (N:=N) gp gl gd (by omega) (by omega) hP hn
 refine⟨o7,o9,lO,s2.length,kvs,s4,le,h4,c4,?_,⟨?_,λk hk WH=>?_⟩,λg=>?_⟩
 ·rw[k4.2 lp (hX gp) (by omega)];exact gp
 ·have:=k4.1
  rw[<-kG] at this
  simp at this
  omega
 ·have:k < s3.length:=by rw[<-kG];simp;omega
  rw[k4.2 k this (by omega),<-kG,eP (by omega)]
  exact kk.2 k hk WH
 ·refine(sI (ρ':=Rd x0 x1 x2 (some (.ref lp)) (some (.int (w:Int))) l N o7 none none none none none none) (st':=s1) ?_).trans ?_
  ·simp[cw]
   exact e1
  refine(sI (ρ':=Rd x0 x1 x2 (some (.ref lp)) (some (.int (w:Int))) l N o7 none none none none none none) (st':=s2) e2).trans ?_
  refine(sI (ρ':=Rd x0 x1 x2 (some (.ref lp)) (some (.int (w:Int))) l N o7 (some (.ref s2.length)) none none none none none) (st':=s3) ?_).trans ?_
  ·rw[HD,nt]
   rfl
  refine(sI (ρ':=Rd x0 x1 x2 (some (.ref lp)) (some (.int (w:Int))) l N o7 (some (.ref s2.length)) o9 lO none none none) (st':=s4) ?_).trans rfl
  unfold t_
  simp
  exact e4
theorem xW{k:List L2.Key}:∀{kvs:Ks},cJ kvs k=none->fM kvs k=kvs
 | [],_=>rfl
 | p::r,h=>by
  unfold cJ at h
  by_cases e:p.1=k
  ·rw[if_pos e] at h;cases h
  ·rw[if_neg e] at h
   unfold fM
   rw[eQ,if_pos (by simp[e])]
   exact congrArg (p::·) (xW h)
theorem set_same{st:Hs}{l:Nat}{o:Ob}(h:st[l]? =some o):st.set l o=st:=List.ext_getElem? λj=>by
 by_cases e:l=j
 ·subst e;rw[en h,h]
 ·rw[bG e]
theorem LY{d:Nat}{kvs:Ks}{p:Pt}{st:Hs}(h:st[d]? =some (.dP kvs)):∃w,Ck (.ref d) (tI [p.1,p.2]) .aR st= .ok w (st.set d (.dP (fM kvs (lN p)))):=by
 have hk:mR (tI [p.1,p.2])=some (lN p):=rfl
 unfold Ck
 dsimp only
 rw[h,hk]
 dsimp only
 cases e:cJ kvs (lN p) with
 | some w=>exact⟨w,rfl⟩
 | none=>exact⟨.aR,by rw[xW e,set_same h]⟩
abbrev fW(z:PySem.Str):Wv:=(Cv.fl z).w
theorem GH{i:Int}(h0:0<=i)(h1:i < 5):∃z:PySem.Str,L2.mE [Wv.str "kind",.str "great",.str "nought",.str "none",.str "lost"] i=some (.str z):=by
 obtain⟨v,e,hv⟩:=lG (ws:=[Wv.str "kind",.str "great",.str "nought",.str "none",.str "lost"]) (d:=i) h0 h1
 simp at hv
 rcases hv with rfl | rfl | rfl | rfl | rfl<;>exact⟨_,e⟩
theorem zK{x0 x1 x2 x3 x4 o7 o9 lO wb:Option Wv}{l lw dk:Nat}{N:Int}{kvs:Ks}{p:Pt}{s:Hs}{M:Nat}(hw:s[lw]? =some (.lst []))(hd:s[dk]? =some (.dP kvs))(hk:Kc kvs M)(hM:M < 900)(pp:dO p.1 p.2)(ne:lw≠dk) :
  ∃(kvs':Ks)(wt:List Pt)(s':Hs),Kc kvs' (M+1)/\wt.length<=1/\s'[lw]? =some (.lst (wt.map pw))/\s'[dk]? =some (.dP kvs')/\(s.length<=s'.length/\∀k,k < s.length->k≠lw->k≠dk->s'[k]? =s[k]?)/\∀g:GS,
   aK (kF (cn (aj oEq (aj oMod (aj bI (af 6) (gC (.int 4))) (gC (.int 5))) (gC (.int 2)))) (jV (cH (ae (gC (.str "fault")) (ae (aj bu (dX (ae (gC (.str "kind")) (ae (gC (.str "great")) (ae (gC (.str "nought")) (ae (gC (.str "none")) (ae (gC (.str "lost")) aq)))))) (aj oMod (aj bI (af 6) (gC (.int 2000))) (gC (.int 5)))) aq))) (af 8) (af 12)) bJ)
   (aK (kF (cn (aj oEq (aj oMod (aj bI (af 6) (gC (.int 4))) (gC (.int 5))) (gC (.int 3)))) (aK (iT (jU iU (af 11) (af 12))) (iT (t9 (af 8) (af 12) (gC .aR)))) bJ) g) (Rd x0 x1 x2 x3 x4 l N o7 (some (.ref dk)) o9 lO (some (.ref lw)) (some (pw p)) wb) s=g (Rd x0 x1 x2 x3 x4 l N o7 (some (.ref dk)) o9 lO (some (.ref lw)) (some (pw p)) wb) s':=by
 have f:=λs=>dH (st:=s) (i:=N) (j:=4) ⟨by decide,by decide⟩
 have m:=λs=>dq (st:=s) (i:=N.fdiv 4) (j:=5) (by decide)
 generalize (N.fdiv 4).fmod 5=i at m
 by_cases c2:i=2
 ·subst c2
  obtain⟨s1,hs1⟩:∃s1,s++[Ob.lst [.str "kind",.str "great",.str "nought",.str "none",.str "lost"]]=s1:=⟨_,rfl⟩
  have k5:hU [.str "kind",.str "great",.str "nought",.str "none",.str "lost"] s= .ok (.ref s.length) s1:=by rw[<-hs1];exact Du
  have l5:ai s1 s.length=some [.str "kind",.str "great",.str "nought",.str "none",.str "lost"]:=by rw[<-hs1];exact aE
  have b:=kE (x:=N.fdiv 2000) (m:=5) (by omega)
  obtain⟨z,ez⟩:=GH b.1 b.2
  have ix:=si l5 ez
  have f2:=dH (st:=s1) (i:=N) (j:=2000) ⟨by decide,by decide⟩
  have m2:=dq (st:=s1) (i:=N.fdiv 2000) (j:=5) (by decide)
  have d1:s1[dk]? =some (.dP kvs):=by rw[<-hs1];exact eL hd
  have pd:putD (.ref dk) (pw p) (.tup [.str "fault",.str z]) s1=some (s1.set dk (.dP (eS kvs (lN p) (fW z)))):=v9 d1 (by have:=hk.2;omega)
  have zl:s1.length=s.length+1:=by rw[<-hs1];simp
  refine⟨eS kvs (lN p) (fW z),[],s1.set dk (.dP (eS kvs (lN p) (fW z))),hk.put (c:=.fl z) pp,by simp,?_,en d1,⟨by rw[gW];omega,λk hk _ hkd=>?_⟩,λg=>?_⟩
  ·rw[bG ne.symm,<-hs1];exact eL hw
  ·rw[bG hkd.symm,<-hs1,eP hk]
  ·unfold jV
   simp[-Du,f,m,k5,f2,m2,ix,pd]
 ·have WI:(i == 2)=false:=by simpa using c2
  by_cases c3:i=3
  ·subst c3
   have WJ:ai s lw=some []:=by unfold ai;rw[hw]
   have ap:=xM (st:=s) (v:=pw p) hw (by unfold lim;simp)
   obtain⟨s1,hs1⟩:∃s1,s.set lw (Ob.lst ([]++[pw p]))=s1:=⟨_,rfl⟩
   rw[hs1] at ap
   have km:=λga ρ=>lF (mt:=iU) (ga:=ga) (ρ:=ρ) (st:=s) WJ
   have d1:s1[dk]? =some (.dP kvs):=by rw[<-hs1,bG ne];exact hd
   have w1:s1[lw]? =some (.lst [pw p]):=by rw[<-hs1];exact en hw
   obtain⟨w,e⟩:=LY (p:=p) d1
   have e':Ck (.ref dk) (pw p) .aR s1= .ok w (s1.set dk (.dP (fM kvs (lN p)))):=e
   have dv:K2 s1 (.ref dk)=true:=by show(eT s1[dk]?).isSome=true;rw[d1];rfl
   have zl:s1.length=s.length:=by rw[<-hs1,gW]
   refine⟨fM kvs (lN p),[p],s1.set dk (.dP (fM kvs (lN p))),hk.drop.le (by omega),by simp,?_,en d1,⟨by rw[gW];omega,λk hk hkw hkd=>?_⟩,λg=>?_⟩
   ·rw[bG ne.symm];exact w1
   ·rw[bG hkd.symm,<-hs1,bG hkw.symm]
   ·unfold t9
    simp[f,m,km,ap,dv,e']
  ·have WK:(i == 3)=false:=by simpa using c3
   refine⟨kvs,[],s,hk.le (by omega),by simp,hw,hd,⟨ao _,λ_ _ _ _=>rfl⟩,λg=>?_⟩
   simp[f,m,WI,WK]
theorem DT{x0 x1 x3 x4 o7 o8 o9 lO v_ wa:Option Wv}{a b c d N:Int}{l:Nat}{s:Hs}(hb:0<=a/\a<=94/\a<=c/\c<=a+4/\0<=b/\b<=d/\d<=b+3/\d<=25) :
  ∃(lb:Nat)(q1 q2:Pt)(s':Hs),dO q1.1 q1.2/\s.length<=lb/\s'[lb]? =some (.lst [pw q1,pw q2])/\Gr s s'/\∀g:GS,
   aK (bf 13 (dX (ae (cH (ae (aj bS (aj bu (af 2) (gC (.int 2))) (gC (.int 1))) (ae (aj bu (af 2) (gC (.int 1))) aq))) (ae (cH (ae (aj bS (aj bu (af 2) (gC (.int 2))) (gC (.int 2))) (ae (aj bu (af 2) (gC (.int 3))) aq))) aq))))
   (aK (kF (cn (aj Nn (aj bu (af 2) (gC (.int 2))) (gC (.int 96)))) (bf 13 (dX (ae (cH (ae (aj j9 (aj bu (af 2) (gC (.int 0))) (gC (.int 1))) (ae (aj bu (af 2) (gC (.int 1))) aq))) (ae (cH (ae (aj j9 (aj bu (af 2) (gC (.int 0))) (gC (.int 2))) (ae (aj bu (af 2) (gC (.int 3))) aq))) aq)))) bJ) g) (Rd x0 x1 (some (tI [a,b,c,d])) x3 x4 l N o7 o8 o9 lO v_ wa none) s=g (Rd x0 x1 (some (tI [a,b,c,d])) x3 x4 l N o7 o8 o9 lO v_ wa (some (.ref lb))) s':=by
 have j0:∀s:Hs,bu (tI [a,b,c,d]) (.int 0) s= .ok (.int a) s:=λs=>rfl
 have j1:∀s:Hs,bu (tI [a,b,c,d]) (.int 1) s= .ok (.int b) s:=λs=>rfl
 have j2:∀s:Hs,bu (tI [a,b,c,d]) (.int 2) s= .ok (.int c) s:=λs=>rfl
 have j3:∀s:Hs,bu (tI [a,b,c,d]) (.int 3) s= .ok (.int d) s:=λs=>rfl
 by_cases h:c > 96
 ·refine⟨(s++[Ob.lst [pw (c+1,b),pw (c+2,d)]]).length,(a - 1,b),(a - 2,d),(s++[Ob.lst [pw (c+1,b),pw (c+2,d)]])++[Ob.lst [pw (a - 1,b),pw (a - 2,d)]],by unfold dO;simp only;omega,by simp,fh,Gr.push.trans Gr.push,λg=>?_⟩
  have h':decide (96 < c)=true:=by simpa using h
  simp[j0,j1,j2,j3,h,pw]
 ·refine⟨s.length,(c+1,b),(c+2,d),s++[Ob.lst [pw (c+1,b),pw (c+2,d)]],by unfold dO;simp only;omega,ao _,fh,Gr.push,λg=>?_⟩
  simp[j0,j1,j2,j3,h,pw]
theorem drawn{ns:List Int}{st:Hs}(hs:st[0]? =some (.pk ns))(hn:ns.length<=63):∃(a b c d:Int)(dk lw:Nat)(kvs:Ks)(wt:List Pt)(st':Hs),fj [.ref 0] st= .ok (.tup [.ref dk,.ref lw,tI [a,b,c,d]]) st'/\eO a b c d/\st'[dk]? =some (.dP kvs)/\Kc kvs 30/\st'[lw]? =some (.lst (wt.map pw))/\wt.length<=2/\lw≠dk/\Gr st st':=by
 obtain⟨cell,N,a,b,c,d,lp,l,ps,ws,s1,hb,hps,G1,WL,WM,n1,ne1,WG,l1,e1⟩:=wg hs hn
 obtain⟨w,hw⟩:∃w:Nat,d - b+1=(w:Int):=⟨(d - b+1).toNat,by omega⟩
 have pl:ps.length=(c+1 - a).toNat * (d+1 - b).toNat:=by rw[hps];exact nH
 have WN:ps.length<=20:=by rw[pl];exact bo (sD (show(c+1 - a).toNat<=5 by omega) (show(d+1 - b).toNat<=4 by omega)) (by omega)
 have wl:w<=ps.length:=by
  rw[pl,show(d+1 - b).toNat=w by omega]
  exact Gv w (by omega)
 have hP:∀p∈ps,dO p.1 p.2:=λp h=>by
  rw[hps] at h
  have:=GD h
  unfold dO
  omega
 rw[hw] at e1
 obtain⟨o7,o9,lO,dk,kvs,s2,d2,UQ,c2,UR,k2,e2⟩:=zJ (x0:=some (.ref 0)) (x1:=some (.int cell)) (x2:=some (tI [a,b,c,d])) (N:=N) (w:=w) WL WM ne1 (by omega) (by omega) (by omega) hP (by omega)
 have XW:=hX UQ
 have XX:=hX UR
 obtain⟨s3,kG⟩:∃s3,s2++[Ob.lst []]=s3:=⟨_,rfl⟩
 have k3:hU [] s2= .ok (.ref s2.length) s3:=by rw[<-kG];exact hV
 have G3:Gr s2 s3:=by rw[<-kG];exact Gr.push
 have LZ:s3[s2.length]? =some (.lst []):=by rw[<-kG];exact fh
 have L3:ai s3 lp=some (ps.map pw):=by unfold ai;rw[G3.get UR]
 have ln:fL [.ref lp] s3= .ok (.int (ps.length:Int)) s3:=by rw[sH L3,aH]
 have pos:1<=ps.length:=by omega
 have f4:=dH (st:=s3) (i:=N) (j:=400) ⟨by decide,by decide⟩
 have m4:=dq (st:=s3) (i:=N.fdiv 400) (j:=(ps.length:Int)) (by omega)
 have b4:=kE (x:=N.fdiv 400) (m:=(ps.length:Int)) (by omega)
 obtain⟨v,ev,hv⟩:=lG (ws:=ps.map pw) (d:=(N.fdiv 400).fmod (ps.length:Int)) b4.1 (by rw[aH];exact b4.2)
 obtain⟨p,hp,rfl⟩:=List.mem_map.mp hv
 have P8:=si L3 ev
 obtain⟨lb,q1,q2,s4,pq,XY,US,G4,e4⟩:=DT (x0:=some (.ref 0)) (x1:=some (.int cell)) (x3:=some (.ref lp)) (x4:=some (.int (w:Int))) (o7:=o7) (o8:=some (.ref dk)) (o9:=o9) (lO:=lO) (v_:=some (.ref s2.length)) (wa:=some (pw p)) (N:=N) (l:=l) (s:=s3) hb
 have z3:s3.length=s2.length+1:=by rw[<-kG];simp
 obtain⟨GJ,OW,s5,c5,w5,WO,UT,k5,e5⟩:=zK (x0:=some (.ref 0)) (x1:=some (.int cell)) (x2:=some (tI [a,b,c,d])) (x3:=some (.ref lp)) (x4:=some (.int (w:Int))) (o7:=o7) (o9:=o9) (lO:=lO) (wb:=some (.ref lb)) (l:=l) (N:=N) (p:=p) (M:=ps.length) (G4.get LZ) (G4.get (G3.get UQ)) c2 (by omega) (hP p hp) (by omega)
 have UU:s5[lb]? =some (.lst [pw q1,pw q2]):=by rw[k5.2 lb (hX US) (by omega) (by omega)];exact US
 have L5:ai s5 lb=some [pw q1,pw q2]:=by unfold ai;rw[UU]
 have i5:bu (.ref lb) (.int 0) s5= .ok (pw q1) s5:=si L5 rfl
 have pd:putD (.ref dk) (pw q1) (.tup [.str "fault",.str "none"]) s5=some (s5.set dk (.dP (eS GJ (lN q1) (fW "none")))):=v9 UT (by have:=c5.2;omega)
 obtain⟨s6,zI⟩:∃s6,s5.set dk (Ob.dP (eS GJ (lN q1) (fW "none")))=s6:=⟨_,rfl⟩
 rw[zI] at pd
 have WQ:s6[dk]? =some (.dP (eS GJ (lN q1) (fW "none"))):=by rw[<-zI];exact en UT
 have WR:s6[lb]? =some (.lst [pw q1,pw q2]):=by rw[<-zI,bG (by omega)];exact UU
 have Se:s6[s2.length]? =some (.lst (OW.map pw)):=by rw[<-zI,bG (by omega)];exact WO
 have L6:ai s6 lb=some [pw q1,pw q2]:=by unfold ai;rw[WR]
 have W6:ai s6 s2.length=some (OW.map pw):=by unfold ai;rw[Se]
 have i6:bu (.ref lb) (.int 1) s6= .ok (pw q2) s6:=si L6 rfl
 have ap:=xM (st:=s6) (v:=pw q2) Se (by rw[aH];unfold lim;omega)
 have km:=λga ρ=>lF (mt:=iU) (ga:=ga) (ρ:=ρ) (st:=s6) W6
 refine⟨a,b,c,d,dk,s2.length,eS GJ (lN q1) (fW "none"),OW++[q2],s6.set s2.length (.lst (OW.map pw++[pw q2])),?_,?_,by rw[bG (by omega)];exact WQ,(c5.put (c:=.fl "none") pq).le (by omega),by rw[jR];exact en Se,by simp;omega,by omega,?_⟩
 ·refine du (n:=14) (g:=ie) ?_
  refine(e1 _).trans ?_
  refine(e2 _).trans ?_
  refine(sI (ρ':=Rd (some (.ref 0)) (some (.int cell)) (some (tI [a,b,c,d])) (some (.ref lp)) (some (.int (w:Int))) l N o7 (some (.ref dk)) o9 lO (some (.ref s2.length)) none none) (st':=s3) (by simp[-hV,k3])).trans ?_
  refine(sI (ρ':=Rd (some (.ref 0)) (some (.int cell)) (some (tI [a,b,c,d])) (some (.ref lp)) (some (.int (w:Int))) l N o7 (some (.ref dk)) o9 lO (some (.ref s2.length)) (some (pw p)) none) (st':=s3) (by simp[ln,f4,m4,P8])).trans ?_
  refine(e4 _).trans ?_
  refine(e5 _).trans ?_
  refine(sI (ρ':=Rd (some (.ref 0)) (some (.int cell)) (some (tI [a,b,c,d])) (some (.ref lp)) (some (.int (w:Int))) l N o7 (some (.ref dk)) o9 lO (some (.ref s2.length)) (some (pw p)) (some (.ref lb))) (st':=s6) (by unfold jV;simp[i5,pd])).trans ?_
  refine(sI (ρ':=Rd (some (.ref 0)) (some (.int cell)) (some (tI [a,b,c,d])) (some (.ref lp)) (some (.int (w:Int))) l N o7 (some (.ref dk)) o9 lO (some (.ref s2.length)) (some (pw p)) (some (.ref lb))) (st':=s6.set s2.length (.lst (OW.map pw++[pw q2]))) (by simp[km,i6,ap])).trans ?_
  simp
 ·have:(c - a+1) * (d - b+1)<=5 * 4:=DD (by omega) (by omega) (by omega) (by omega)
  unfold eO
  omega
 ·have z1:=G1.1
  refine⟨by rw[gW,<-zI,gW];have:=k5.1;have:=G4.1;have:=k2.1;omega,λk hk=>?_⟩
  rw[bG (by omega),<-zI,bG (by omega),k5.2 k (by have:=G4.1;have:=k2.1;omega) (by have:=k2.1;omega) (by omega),G4.2 k (by have:=k2.1;omega),G3.2 k (by have:=k2.1;omega),k2.2 k (by omega) (by omega),G1.2 k hk]
theorem o_{n:Nat}:∀{ws:List Wv},(∀w∈ws,∃d:PyData,(∀st:Hs,aA st n w=some d)/\aF d d=true)->∃ds:List PyData,(∀st:Hs,dY (aA st n) ws=some ds)/\eu ds ds=true
 | [],_=>⟨[],λ_=>rfl,by simp[eu]⟩
 | w::r,h=>by
  obtain⟨d,d1,d2⟩:=h w bF
  obtain⟨ds,e1,e2⟩:=o_ (ws:=r) λv hv=>h v (aU _ hv)
  refine⟨d::ds,λst=>?_,by simp[eu,d2,e2]⟩
  unfold dY
  rw[d1,e1]
theorem nI{n:Nat}{ws:List Wv}(h:∀w∈ws,∃d:PyData,(∀st:Hs,aA st n w=some d)/\aF d d=true):∃d:PyData,(∀st:Hs,aA st (n+1) (.tup ws)=some d)/\aF d d=true:=by
 obtain⟨ds,e1,e2⟩:=o_ h
 refine⟨.tuple ds,λst=>?_,by simpa [aF] using e2⟩
 show(dY (aA st n) ws).map nj=_
 rw[e1]
 rfl
theorem L4{n:Nat}(w:Wo):∃d:PyData,(∀st:Hs,aA st (n+1) w.w=some d)/\aF d d=true:=by
 cases w with
 | aR=>exact⟨.none,λ_=>rfl,by simp[aF]⟩
 | int i=>exact⟨.int i,λ_=>rfl,xN⟩
 | str z=>exact⟨.str z,λ_=>rfl,HM⟩
theorem xX{n:Nat}(r:List Wo):∃d:PyData,(∀st:Hs,aA st (n+2) (ir r)=some d)/\aF d d=true:=nI λw h=>by
 obtain⟨x,_,rfl⟩:=List.mem_map.mp h
 exact L4 x
theorem GK{os:List Wo}{m n:Nat}:∃d:PyData,(∀st:Hs,aA st 20 (oY os m n)=some d)/\aF d d=true:=by
 refine nI (n:=19) λw h=>?_
 rcases List.mem_cons.mp h with rfl | h
 ·exact xX (n:=17) _
 ·rcases List.mem_cons.mp h with rfl | h
  ·exact nI (n:=18) λw h=>by
    obtain⟨k,_,rfl⟩:=List.mem_map.mp h
    exact xX (n:=16) _
  ·cases h
def due(wt ps:List Pt)(v:Pt->Cv)(m n:Nat):Wv:=if rh wt ps (ps.map v) n=true then oY ((ps.map v).map Cv.o) m n else .aR
theorem L7{wt ps:List Pt}{v:Pt->Cv}{m n:Nat}{st:Hs}:rp (due wt ps v m n) (due wt ps v m n) st= .ok (.bl false) st:=by
 unfold due
 split
 ·obtain⟨dd,e1,e2⟩:=GK (os:=(ps.map v).map Cv.o) (m:=m) (n:=n)
  exact LH (e1 st) (e1 st) e2
 ·rfl
theorem zL{dk lw d2 l2:Nat}{kvs:Ks}{wt:List Pt}{N:Nat}{st:Hs}(h1:st[dk]? =some (.dP kvs))(h2:st[d2]? =some (.dP kvs))(n1:dk≠d2)(g1:ai st lw=some (wt.map pw))(g2:ai st l2=some (wt.map pw))(hk:Kc kvs N) :
  y6 (.tup [.ref dk,.ref lw]) (.tup [.ref d2,.ref l2]) st= .ok (.bl false) st:=by
 obtain⟨⟨ps,hp⟩,_⟩:=hk
 obtain⟨s1,s2⟩:=same_self (st:=st) hp.dat
 obtain⟨ds,e1,e2⟩:=o_ (n:=19) (ws:=wt.map pw) λw h=>by
  obtain⟨p,_,rfl⟩:=List.mem_map.mp h
  exact nI (n:=18) λw h=>by
   rcases List.mem_cons.mp h with rfl | h
   ·exact⟨.int p.1,λ_=>rfl,xN⟩
   ·rcases List.mem_cons.mp h with rfl | h
    ·exact⟨.int p.2,λ_=>rfl,xN⟩
    ·cases h
 have d1:aA st 20 (.ref lw)=some (.list ds):=by rw[uK (n:=19) g1,e1];rfl
 have WS:aA st 20 (.ref l2)=some (.list ds):=by rw[uK (n:=19) g2,e1];rfl
 unfold y6
 dsimp only
 rw[h1,h2]
 show(if dk≠d2/\oH st kvs=true/\oH st kvs=true then(match aA st 20 (.ref lw),aA st 20 (.ref l2) with | some d1,some d2=>Re.ok (Wv.bl (!(mJ st kvs kvs&&aF d1 d2))) st | _,_=> .bad) else .bad)=_
 rw[if_pos ⟨n1,s1,s1⟩,d1,WS]
 dsimp only
 rw[s2]
 have:aF (.list ds) (.list ds)=true:=by simpa [aF] using e2
 rw[this]
 rfl
theorem DU{x0 x3 x4 x5 x6 x7 x8 x9 P9 P_ Qa:Option Wv}{dk lw L:Nat}{st:Hs}{bad:List (Int×Int×Int×Int)}(hL:ai st L=some (bad.map λq=>tI [q.1,q.2.1,q.2.2.1,q.2.2.2]))(hb:∀q∈bad,¬eO q.1 q.2.1 q.2.2.1 q.2.2.2) :
  ∃o,kFor 13 lI [x0,some (.ref dk),some (.ref lw),x3,x4,x5,x6,x7,x8,x9,P9,P_,Qa,none] (.ref L) st= .nx [x0,some (.ref dk),some (.ref lw),x3,x4,x5,x6,x7,x8,x9,P9,P_,Qa,o] st:=by
 rw[LA hL]
 obtain⟨ρ',s',e,⟨o,rfl,rfl⟩,_⟩:=uu (i:=13) (gb:=lI) (l:=L) (all:=bad.map λq=>tI [q.1,q.2.1,q.2.2.1,q.2.2.2]) (λρ s=>∃o,ρ=[x0,some (.ref dk),some (.ref lw),x3,x4,x5,x6,x7,x8,x9,P9,P_,Qa,o]/\s=st) (bad.map λq=>tI [q.1,q.2.1,q.2.2.1,q.2.2.2]) _ st ⟨none,rfl,rfl⟩ hL (λw hw ρ s hP hL=>by
  obtain⟨o,rfl,rfl⟩:=hP
  obtain⟨q,hq,rfl⟩:=List.mem_map.mp hw
  have t:=Gx (st:=s) (k:=dk) (y:=.ref lw) (hb q hq)
  refine⟨_,s,?_,hL,⟨some (tI [q.1,q.2.1,q.2.2.1,q.2.2.2]),rfl,rfl⟩⟩
  unfold lI
  simp[t])
 exact⟨o,e⟩
theorem law_true:∀ns:List Int,ns.length<=63->∃st,F_law [.ref 0] [.pk ns]= .ok (.bl true) st:=by
 intro ns hns
 obtain⟨a,b,c,d,dk,lw,kvs,wt,s1,e1,hA,gd,hk,gw,wl,ne,G1⟩:=drawn (st:=[.pk ns]) rfl hns
 obtain⟨v,hv⟩:=hk.tells
 obtain⟨m,hm⟩:∃m,m=(c+1 - a).toNat:=⟨_,rfl⟩
 obtain⟨n,hn⟩:∃n,n=(d+1 - b).toNat:=⟨_,rfl⟩
 have lst:∀{s:Hs}{l:Nat}{ws:List Wv},s[l]? =some (.lst ws)->ai s l=some ws:=λh=>by unfold ai;rw[h]
 obtain⟨s2,G2,e2⟩:=Gu (st:=s1) hA hm hn gd (.inr ⟨lw,rfl,lst gw⟩) (hv _)
 obtain⟨D,hD⟩:∃D,due wt (iD a b m n) v m n=D:=⟨_,rfl⟩
 have ne':∀st,rp D D st= .ok (.bl false) st:=λst=>by rw[<-hD];exact L7
 rw[show(if rh wt (iD a b m n) ((iD a b m n).map v) n=true then oY (((iD a b m n).map v).map Cv.o) m n else .aR)=D from hD] at e2
 obtain⟨⟨qs,hq⟩,_⟩:=id hk
 have dc:=Gy (st:=s2) (by rw[G2.get gd];rfl) hq.hash
 obtain⟨s3,kG⟩:∃s3,s2++[Ob.dP kvs]=s3:=⟨_,rfl⟩
 rw[kG] at dc
 have G3:Gr s2 s3:=by rw[<-kG];exact Gr.push
 have WT:s3[s2.length]? =some (.dP kvs):=by rw[<-kG];exact fh
 have LZ:s3[lw]? =some (.lst (wt.map pw)):=(G2.trans G3).get gw
 have ld:mh [.ref lw] s3= .ok (.ref s3.length) (s3++[.lst (wt.map pw)]):=by
  unfold mh
  dsimp only
  rw[LZ]
  show(match ai s3 lw with | some ws=>Re.ok (Wv.ref s3.length) (s3++[Ob.lst ws]) | none=> .bad)=_
  rw[lst LZ]
 obtain⟨s4,v7⟩:∃s4,s3++[Ob.lst (wt.map pw)]=s4:=⟨_,rfl⟩
 rw[v7] at ld
 have G4:Gr s3 s4:=by rw[<-v7];exact Gr.push
 have WU:s4[s3.length]? =some (.lst (wt.map pw)):=by rw[<-v7];exact fh
 obtain⟨s5,G5,e5⟩:=told (st:=s4) hA hm hn ((G2.trans (G3.trans G4)).get gd) (.inr ⟨lw,rfl,lst (G4.get LZ)⟩) (hv _)
 rw[show(if rh wt (iD a b m n) ((iD a b m n).map v) n=true then oY (((iD a b m n).map v).map Cv.o) m n else .aR)=D from hD] at e5
 have Sf:Gr s2 s5:=G3.trans (G4.trans G5)
 have nu:=zL (st:=s5) ((G2.trans Sf).get gd) ((G4.trans G5).get WT) (by have:=hX gd;have:=G2.1;omega) (lst ((G4.trans G5).get LZ)) (lst (G5.get WU)) hk
 have tc:eX [.ref lw] s5= .ok (.tup (wt.map pw)) s5:=uM (lst ((G4.trans G5).get LZ))
 obtain⟨s6,G6,e6⟩:=told (st:=s5) hA hm hn ((G2.trans Sf).get gd) (.inl rfl) (hv _)
 rw[show(if rh wt (iD a b m n) ((iD a b m n).map v) n=true then oY (((iD a b m n).map v).map Cv.o) m n else .aR)=D from hD] at e6
 have l0:ai s6 0=some (ns.map Wv.int):=(G1.trans (G2.trans (Sf.trans G6))).lst rfl
 have su:=HL l0
 have WV:=HH (st:=s6) (i:=10) (j:=30) (by decide)
 have md:=dq (st:=s6) (i:=ns.sum) (j:=10 ^ (30:Int).toNat) (by decide)
 obtain⟨F,hF⟩:∃F,ns.sum.fmod (10 ^ (30:Int).toNat)=F:=⟨_,rfl⟩
 have XZ:0<=F:=by rw[<-hF];exact(kE (by decide)).1
 rw[hF] at md
 have WW:kF (cn (aj j_ (af 4) (gC .aR))) (kF (AW (kW (eR (aG (oI f7 dJ) (ae (af 6) (ae (gC (.ty "tuple")) aq))))) (AW (kW (eR (aG (oI f7 dJ) (ae (aj bu (af 6) (gC (.int 0))) (ae (gC (.ty "tuple")) aq))))) (kW (eR (aG (oI f7 dJ) (ae (aj bu (af 6) (gC (.int 1))) (ae (gC (.ty "tuple")) aq))))))) (cV (gC (.bl false))) bJ) bJ [some (.ref 0),some (.ref dk),some (.ref lw),some (tI [a,b,c,d]),some D,some (.tup [.ref s2.length,.ref s3.length]),some D,none,none,none,none,none,none,none] s5= .nx [some (.ref 0),some (.ref dk),some (.ref lw),some (tI [a,b,c,d]),some D,some (.tup [.ref s2.length,.ref s3.length]),some D,none,none,none,none,none,none,none] s5:=by
  rw[<-hD]
  unfold due
  split
  ·obtain⟨x,y,hxy⟩:∃x y,oY (((iD a b m n).map v).map Cv.o) m n= .tup [.tup x,.tup y]:=⟨_,_,rfl⟩
   rw[hxy]
   have i0:bu (.tup [.tup x,.tup y]) (.int 0) s5= .ok (.tup x) s5:=rfl
   have i1:bu (.tup [.tup x,.tup y]) (.int 1) s5= .ok (.tup y) s5:=rfl
   have t:∀ws:List Wv,oI f7 dJ [.tup ws,.ty "tuple"] s5= .ok (.bl true) s5:=λws=>rfl
   have nn:∀ws:List Wv,j_ (.tup ws) .aR s5= .ok (.bl true) s5:=λws=>rfl
   simp[i0,i1,t,nn]
  ·rfl
 obtain⟨s7,D3⟩:∃s7,s6++[Ob.lst [tI [c+1,b,c,d],tI [a,b,99+F,d],tI [-1 - F,0,3,3]]]=s7:=⟨_,rfl⟩
 have k7:hU [tI [c+1,b,c,d],tI [a,b,99+F,d],tI [-1 - F,0,3,3]] s6= .ok (.ref s6.length) s7:=by rw[<-D3];exact sh
 have l7:ai s7 s6.length=some [tI [c+1,b,c,d],tI [a,b,99+F,d],tI [-1 - F,0,3,3]]:=by rw[<-D3];exact aE
 obtain⟨s8,Sg⟩:∃s8,s7++[Ob.lst [tI [0,0,98,25],tI [0,-1,0,0],tI [0,26,0,26+F]]]=s8:=⟨_,rfl⟩
 have k8:hU [tI [0,0,98,25],tI [0,-1,0,0],tI [0,26,0,26+F]] s7= .ok (.ref s7.length) s8:=by rw[<-Sg];exact sh
 have l8:ai s8 s7.length=some [tI [0,0,98,25],tI [0,-1,0,0],tI [0,26,0,26+F]]:=by rw[<-Sg];exact aE
 have G8:Gr s7 s8:=by rw[<-Sg];exact Gr.push
 have a8:=add_l (st:=s8) (G8.lst l7) l8 (by simp[lim])
 obtain⟨s9,UW⟩:∃s9,s8++[Ob.lst ([tI [c+1,b,c,d],tI [a,b,99+F,d],tI [-1 - F,0,3,3]]++[tI [0,0,98,25],tI [0,-1,0,0],tI [0,26,0,26+F]])]=s9:=⟨_,rfl⟩
 rw[UW] at a8
 have l9:ai s9 s8.length=some ([tI [c+1,b,c,d],tI [a,b,99+F,d],tI [-1 - F,0,3,3]]++[tI [0,0,98,25],tI [0,-1,0,0],tI [0,26,0,26+F]]):=by rw[<-UW];exact aE
 obtain⟨BA,L8⟩:∃BA,s9++[Ob.lst [tI [a,d+1,c,d]]]=BA:=⟨_,rfl⟩
 have UX:hU [tI [a,d+1,c,d]] s9= .ok (.ref s9.length) BA:=by rw[<-L8];exact sg
 have WX:ai BA s9.length=some [tI [a,d+1,c,d]]:=by rw[<-L8];exact aE
 have WY:Gr s9 BA:=by rw[<-L8];exact Gr.push
 have UY:=add_l (st:=BA) (WY.lst l9) WX (by simp[lim])
 obtain⟨Mn,OX⟩:∃Mn,BA++[Ob.lst ([tI [c+1,b,c,d],tI [a,b,99+F,d],tI [-1 - F,0,3,3]]++[tI [0,0,98,25],tI [0,-1,0,0],tI [0,26,0,26+F]]++[tI [a,d+1,c,d]])]=Mn:=⟨_,rfl⟩
 rw[OX] at UY
 have WZ:ai Mn BA.length=some ([tI [c+1,b,c,d],tI [a,b,99+F,d],tI [-1 - F,0,3,3]]++[tI [0,0,98,25],tI [0,-1,0,0],tI [0,26,0,26+F]]++[tI [a,d+1,c,d]]):=by rw[<-OX];exact aE
 obtain⟨o,Po⟩:=DU (st:=Mn) (L:=BA.length) (dk:=dk) (lw:=lw) (x0:=some (.ref 0)) (x3:=some (tI [a,b,c,d])) (x4:=some D) (x5:=some (.tup [.ref s2.length,.ref s3.length])) (x6:=some D) (x7:=some (.int F)) (x8:=some (.int a)) (x9:=some (.int b)) (P9:=some (.int c)) (P_:=some (.int d)) (Qa:=some (.ref s8.length)) (bad:=[(c+1,b,c,d),(a,b,99+F,d),(-1 - F,0,3,3),(0,0,98,25),(0,-1,0,0),(0,26,0,26+F),(a,d+1,c,d)]) WZ (by
  intro q hq
  simp only[bp,bz,or_false] at hq
  rcases hq with rfl | rfl | rfl | rfl | rfl | rfl | rfl<;>(unfold eO;simp only;omega))
 refine⟨Mn,du (n:=14) (g:=uF) ?_⟩
 show uF [some (.ref 0),none,none,none,none,none,none,none,none,none,none,none,none,none] [Ob.pk ns]=_
 unfold uF
 refine(sI (ρ':=[some (.ref 0),some (.ref dk),some (.ref lw),some (tI [a,b,c,d]),none,none,none,none,none,none,none,none,none,none]) (st':=s1) (by unfold qc;simp[e1];rfl)).trans ?_
 refine(sI (ρ':=[some (.ref 0),some (.ref dk),some (.ref lw),some (tI [a,b,c,d]),some D,none,none,none,none,none,none,none,none,none]) (st':=s2) (by simp[e2])).trans ?_
 refine(sI (ρ':=[some (.ref 0),some (.ref dk),some (.ref lw),some (tI [a,b,c,d]),some D,some (.tup [.ref s2.length,.ref s3.length]),none,none,none,none,none,none,none,none]) (st':=s4) (by simp[dc,ld])).trans ?_
 refine(sI (ρ':=[some (.ref 0),some (.ref dk),some (.ref lw),some (tI [a,b,c,d]),some D,some (.tup [.ref s2.length,.ref s3.length]),some D,none,none,none,none,none,none,none]) (st':=s5) (by simp[e5])).trans ?_
 refine(sI (ρ':=[some (.ref 0),some (.ref dk),some (.ref lw),some (tI [a,b,c,d]),some D,some (.tup [.ref s2.length,.ref s3.length]),some D,none,none,none,none,none,none,none]) (st':=s5) (by simp[ne',nu])).trans ?_
 refine(sI (ρ':=[some (.ref 0),some (.ref dk),some (.ref lw),some (tI [a,b,c,d]),some D,some (.tup [.ref s2.length,.ref s3.length]),some D,none,none,none,none,none,none,none]) (st':=s5) WW).trans ?_
 refine(sI (ρ':=[some (.ref 0),some (.ref dk),some (.ref lw),some (tI [a,b,c,d]),some D,some (.tup [.ref s2.length,.ref s3.length]),some D,none,none,none,none,none,none,none]) (st':=s6) (by simp[tc,e6,ne'])).trans ?_
 refine(sI (ρ':=[some (.ref 0),some (.ref dk),some (.ref lw),some (tI [a,b,c,d]),some D,some (.tup [.ref s2.length,.ref s3.length]),some D,some (.int F),none,none,none,none,none,none]) (st':=s6) (by simp only[HD,Dq,Gh,vQ,xK,Ds,e_c,vY,xJ,nE,r_,su,r9,Lx,WV,md,r6,lJ,lK])).trans ?_
 refine(sI (ρ':=[some (.ref 0),some (.ref dk),some (.ref lw),some (tI [a,b,c,d]),some D,some (.tup [.ref s2.length,.ref s3.length]),some D,some (.int F),some (.int a),some (.int b),some (.int c),some (.int d),none,none]) (st':=s6) (by unfold qc;simp;rfl)).trans ?_
 refine(sI (ρ':=[some (.ref 0),some (.ref dk),some (.ref lw),some (tI [a,b,c,d]),some D,some (.tup [.ref s2.length,.ref s3.length]),some D,some (.int F),some (.int a),some (.int b),some (.int c),some (.int d),some (.ref s6.length),none]) (st':=s7) (by simp only[tI,av,fH] at k7 ⊢;simp[-sh,k7])).trans ?_
 refine(sI (ρ':=[some (.ref 0),some (.ref dk),some (.ref lw),some (tI [a,b,c,d]),some D,some (.tup [.ref s2.length,.ref s3.length]),some D,some (.int F),some (.int a),some (.int b),some (.int c),some (.int d),some (.ref s8.length),none]) (st':=s9) (by simp only[tI,av,fH] at k8 ⊢;simp[-sh,k8,a8])).trans ?_
 simp only[tI,av,fH] at UX Po ⊢
 simp[-sg,UX,UY,Po]
end K71
namespace PySem.W.Fast
def tw11863202574455517924:=()
def tw1004477424082620483:=()
def tw2043742414085919017:=()
def tw12508125198825989543:=()
def tw13223901160182776081:=()
def tw12680182187247583359:=()
def tw4954085660718318957:=()
def tw7434946232537665117:=()
def tw13742388978301442629:=()
def tw13236785412617705592:=()
def tw1879341171636959654:=()
def tw5215325548265111649:=()
def tw12488122344520770078:=()
def tw18256185013146101863:=()
def tw10122783557058112727:=()
def tw2826017233875480465:=()
def tw14535710325850086234:=()
def tw9690326202248245901:=()
def tw1143033049618493658:=()
def tw199642006241843382:=()
def tw10334620893490982638:=()
def tw2863983524880641950:=()
def tw8973517303875282236:=()
def tw8124388122526606908:=()
def tw6264277457485922408:=()
def tw12551606704441396367:=()
def tw506981489217883291:=()
def tw14348447333954246252:=()
def tw10287529814825298821:=()
def tw16021880073236234226:=()
def tw6671019874716720930:=()
def tw4171335989158976098:=()
def tw2399815241400161617:=()
def tw11723587218807067883:=()
def tw331524403698057295:=()
def tw10398467577869717961:=()
def tw15115838994302150606:=()
def tw1515558542434981447:=()
def tw7833258476679708287:=()
def tw18428146423136415958:=()
def tw7481470936286061286:=()
def tw17211640900144151496:=()
def tw9369528195571902849:=()
def tw11388219223748274817:=()
def tw6825034435206722874:=()
def tw3152255513729517916:=()
def tw17370553683637256885:=()
def tw14343207486569084347:=()
def tw15887667956102483599:=()
def tw17521584489570151095:=()
def tw614097079192033195:=()
def tw2285001732609537423:=()
def tw3416658207557079053:=()
def tw3854989958821633209:=()
def tw9756477604424927272:=()
def tw1939327496383318980:=()
def tw3063126712559728336:=()
def tw15598044592775286835:=()
def tw5084551986822397048:=()
def tw4784623593312793728:=()
def tw7630246873079456849:=()
def tw6840621828763533676:=()
def tw842023453767186972:=()
def tw9343733182612893008:=()
def tw4472087473348743578:=()
def tw18302056299665790916:=()
def tw2737772468230278680:=()
def tw17498650554211283078:=()
def tw70734892822800571:=()
def tw17755042319111170326:=()
def tw17569023217795870917:=()
def tw17623983800290541164:=()
def tw53977992501373497:=()
def tw9032062109684041622:=()
def tw14184204935438605599:=()
def tw5018192558692490664:=()
def tw6916948836628538718:=()
def tw13463899778663658544:=()
def tw8632940756081355121:=()
def tw12208223156972273545:=()
def tw1698564053965158353:=()
def tw5161489764752257378:=()
def tw4389540943601638097:=()
def tw6933938132948974767:=()
def tw18245211322649284980:=()
def tw11507602668380494944:=()
def tw15994373851672214206:=()
def tw17398733052649369766:=()
def tw17894554529315419558:=()
def tw17042041302737701024:=()
def tw4843614720695322984:=()
def tw13794194579657099079:=()
def tw14609042787234270921:=()
def tw12507093421074996250:=()
def tw9220630569024731004:=()
def tw3481013638349690331:=()
def tw18356705558082784283:=()
def tw16998150275750193922:=()
def tw7182553014205040240:=()
def tw16532418609910995714:=()
def tw5411863183940945264:=()
def tw17780142658736876490:=()
def tw295705166117095290:=()
def tw8893042064544024301:=()
def tw17903138526266550167:=()
def tw6961881277673556858:=()
def tw9017112532043187827:=()
def tw10097223790377388758:=()
def tw10863178106878134773:=()
def tw12026605048838558020:=()
def tw5957956436792579963:=()
def tw5103993976490585036:=()
def tw12074098741900666198:=()
def tw11266374444569946857:=()
def tw8655868318145168329:=()
def tw2455859847608643136:=()
def tw5420234102330950835:=()
def tw14139772156196620381:=()
def tw1856830257892453944:=()
def tw6703361229900506707:=()
def tw13458131455608920651:=()
def tw17631750867512623638:=()
def tw8204461191483352037:=()
def tw5349983813882615583:=()
def tw12133680498135361258:=()
def tw14359350901298323249:=()
def tw2886212340884069552:=()
def tw2765621952223401952:=()
def tw14488956984662508502:=()
def tw5413993740183077337:=()
def tw1473468186070520059:=()
def tw8631623028709606753:=()
def tw13331461361616587485:=()
def tw17241758672119039760:=()
def tw13827885452456892404:=()
def tw9183252322068938947:=()
def tw13210723830164999857:=()
def tw4899374989733130441:=()
def tw4861383612813840413:=()
def tw524078303585508104:=()
def tw6758831126920815301:=()
def tw4950184643955811059:=()
def tw9518707909476291629:=()
def tw8817620483472328933:=()
def tw7610102802938457961:=()
def tw8200142593087116636:=()
def tw4706688350690244574:=()
def tw8571441414347803291:=()
def tw11960112772979948243:=()
def tw13418793117367623406:=()
def tw2651692768245922319:=()
def tw7678738905303767029:=()
def tw6362234778841110470:=()
def tw15016701568458837576:=()
def tw8170332553124183925:=()
def tw7343830454022045340:=()
def tw8116500868441034925:=()
def tw10938146712472666796:=()
def tw10045531097087198587:=()
def tw3318668981163248838:=()
end PySem.W.Fast
namespace K71
open PySem PySem.W PyProof.Rows
set_option maxHeartbeats 0 in
open_top head for PySem.Challenge.rw_onelook_k71_tables_told
open PySem J
open PySem.W (nsIn kitOne findIn excIn mroIn mg_of mg_none_of)
open L2 (defScope defBody defArgs FnScope CX0 FnOk XK Hp)
set_option autoImplicit true in
theorem all_mk {l:PySem.W.OpenLaw} {w:World} {K:PySem.W.Frag} {h:Heap} {mg:Str → Option Value} {fa:Addr} (X:K.In h) (G:h.Ns mainGlobals mg) (hfa:mg "law" = some (.ref fa))
        {tk0 W0 W2:Tok} {X0 X1 X2:X3}
    (d1:J.cS K "_law_area" fO)
    (d2:J.cS K "_law_places" eB)
    (d3:J.cS K "_law_mix" hZ)
    (d4:J.cS K "_law_digits" eD)
    (d5:J.cS K "_law_worths" eF)
    (d6:J.cS K "_law_drawn" fi)
    (d7:J.cS K "_law_due" ij)
    (d8:J.cS K "places_between" cO)
    (d9:J.cS K "is_place" il)
    (Sh:J.cS K "has_corners" eI)
    (Si:J.cS K "area_many" fS)
    (Mo:J.cS K "is_area" jQ)
    (Mq:J.cS K "made_area" fT)
    (Sj:J.cS K "area_places" eJ)
    (Sk:J.cS K "are_heads" fV)
    (Sl:J.cS K "is_fault" ip)
    (Sn:J.cS K "table_of" iq)
    (So:J.cS K "_law_told" fZ)
    (Sq:J.cS K "law" xO)
    (z0:nsIn K Yh "range"=some none)
    (z1:nsIn K Yh "len"=some none)
    (z2:nsIn K Yh "zip"=some none)
    (z3:nsIn K Yh "sum"=some none)
    (z4:nsIn K Yh "tuple"=some none)
    (z5:nsIn K Yh "set"=some none)
    (z6:nsIn K Yh "isinstance"=some none)
    (z7:nsIn K Yh "str"=some none)
    (z8:nsIn K Yh "all"=some none)
    (z9:nsIn K Yh "any"=some none)
    (Sr:nsIn K Yh "dict"=some none)
    (Ss:nsIn K Yh "list"=some none)
    (v0:nsIn K Yh "ROWS"=some (some (.int 99 tk0)))
    (v1:nsIn K Yh "COLUMNS"=some (some (.int 26 W0)))
    (v2:nsIn K Yh "MOST_PLACES"=some (some (.int 300 W2)))
    (zM:nsIn K Yh "BadArea"=some (some (.ref X0))) (OY:excIn K X0 wU wV=true) (Su:findIn K (.ref X0) "__getattribute__"=some (some (.builtin "BaseException.__getattribute__"))) (Sv:findIn K (.ref X0) "__getattr__"=some none) (Sw:findIn K (.ref X0) "__class__"=some (some (.builtin "object.__class__")))
    (zN:nsIn K Yh "BadTable"=some (some (.ref X1))) (OZ:excIn K X1 wU wV=true) (Sx:findIn K (.ref X1) "__getattribute__"=some (some (.builtin "BaseException.__getattribute__"))) (Sy:findIn K (.ref X1) "__getattr__"=some none) (Sz:findIn K (.ref X1) "__class__"=some (some (.builtin "object.__class__")))
    (HX:nsIn K Yh "SheetError"=some (some (.ref X2))) (O0:excIn K X2 wU wV=true)
    (SD:kitOne K (.ref X0) (.ref X0)=some true)
    (SF:kitOne K (.ref X0) (.ref X1)=some false)
    (SG:kitOne K (.ref X0) (.ref X2)=some true)
    (SH:kitOne K (.ref X1) (.ref X0)=some false)
    (SI:kitOne K (.ref X1) (.ref X1)=some true)
    (SJ:kitOne K (.ref X1) (.ref X2)=some true)
    (SK:mroIn K X0 (.ref X2)=some true)
    (SN:mroIn K X1 (.ref X2)=some true)
    (SQ:kitOne K (.ref X0) (.type "ValueError")=some true)
    (SR:kitOne K (.ref X1) (.type "ValueError")=some true)
     :
    ∃fd:X5,(∀(s:X8)(u:X9),BindsTo s fd ⟨[u],[]⟩ [("script",u)])/\∀base:Heap,K.In base->base.Ns Yh mg->FnOk l.prog w K mg base (CXJ l.prog w) 8 fa fd ["script"] (spW K 1 F_law):=by
  refine J.Gg X G hfa Sq (λ_ _ _ _ _ _ s u=> .of_eq rfl) (λf fd Fu base kb nb=>?_)
  have Z0:=mg_none_of kb nb z0
  have Z1:=mg_none_of kb nb z1
  have Z2:=mg_none_of kb nb z2
  have Z3:=mg_none_of kb nb z3
  have Z4:=mg_none_of kb nb z4
  have Z5:=mg_none_of kb nb z5
  have Z6:=mg_none_of kb nb z6
  have Z7:=mg_none_of kb nb z7
  have Z8:=mg_none_of kb nb z8
  have Z9:=mg_none_of kb nb z9
  have W3:=mg_none_of kb nb Sr
  have W4:=mg_none_of kb nb Ss
  have V0:=mg_of kb nb v0
  have V1:=mg_of kb nb v1
  have V2:=mg_of kb nb v2
  have E0:J.kc K X0:=⟨OY,Su,Sv,Sw⟩
  have E1:J.kc K X1:=⟨OZ,Sx,Sy,Sz⟩
  have TB:TabOk K f7 dJ Dz:=J.Lw ⟨⟨X0,X0,zM,zM,E0,SD⟩,⟨X0,X1,zM,zN,E0,SF⟩,⟨X0,X2,zM,HX,E0,SG⟩,⟨X1,X0,zN,zM,E1,SH⟩,⟨X1,X1,zN,zN,E1,SI⟩,⟨X1,X2,zN,HX,E1,SJ⟩,trivial⟩ ⟨⟨X0,zM,E0,SQ⟩,⟨X1,zN,E1,SR⟩,trivial⟩ ⟨⟨X0,X2,zM,HX,OY,O0,SK⟩,⟨X1,X2,zN,HX,OZ,O0,SN⟩,trivial⟩
  have H1:J.lP l.prog w K mg base 1 "_law_area" 1 eM:=J.bK (ps:=["cell"]) kb nb d1 (J.bb (c:=i8) (k:=0) trivial trivial trivial TB trivial trivial trivial) sr rfl uv (λ_ _ _ _ _ _ us hl=>J.Dy us hl λ_=>rfl)
  have H2:J.lP l.prog w K mg base 1 "_law_places" 1 bR:=J.bK (ps:=["area"]) kb nb d2 (J.bb (c:=gn) (k:=0) trivial ⟨Z0,trivial⟩ trivial TB trivial trivial trivial) oN rfl pD (λ_ _ _ _ _ _ us hl=>J.Dy us hl λ_=>rfl)
  have H3:J.lP l.prog w K mg base 1 "_law_mix" 2 ic:=J.bK (ps:=["cell","k"]) kb nb d3 (J.bb (c:=ku) (k:=0) trivial trivial trivial TB trivial trivial trivial) uw rfl vR (λ_ _ _ _ _ _ us hl=>J.ln2 us hl λ_ _=>rfl)
  have H4:J.lP l.prog w K mg base 2 "_law_digits" 3 eE:=J.bK (ps:=["cell","size","many"]) kb nb d4 (J.bb (c:=gq) (k:=1) trivial ⟨Z0,trivial⟩ ⟨H3.mono (by decide),trivial⟩ TB trivial trivial trivial) oO rfl pE (λ_ _ _ _ _ _ us hl=>J.P7 us hl λ_ _ _=>rfl)
  have H5:J.lP l.prog w K mg base 3 "_law_worths" 2 cZ:=J.bK (ps:=["cell","many"]) kb nb d5 (J.bb (c:=gA) (k:=2) trivial ⟨Z1,trivial⟩ ⟨H4.mono (by decide),trivial⟩ TB trivial trivial trivial) oP rfl pF (λ_ _ _ _ _ _ us hl=>J.ln2 us hl λ_ _=>rfl)
  have H6:J.lP l.prog w K mg base 4 "_law_drawn" 1 fj:=J.bK (ps:=["script"]) kb nb d6 (J.bb (c:=ig) (k:=3) trivial ⟨Z0,Z2,Z3,Z1,trivial⟩ ⟨H1.mono (by decide),H2.mono (by decide),H5.mono (by decide),trivial⟩ TB trivial trivial trivial) pG rfl sv (λ_ _ _ _ _ _ us hl=>J.Dy us hl λ_=>rfl)
  have H7:J.lP l.prog w K mg base 2 "_law_due" 3 ik:=J.bK (ps:=["worths","waiting","area"]) kb nb d7 (J.bb (c:=kx) (k:=1) trivial ⟨Z4,Z1,Z5,Z6,Z7,Z0,trivial⟩ ⟨H2.mono (by decide),trivial⟩ TB trivial trivial trivial) ux rfl vS (λ_ _ _ _ _ _ us hl=>J.P7 us hl λ_ _ _=>rfl)
  have H8:J.lP l.prog w K mg base 1 "places_between" 1 cQ:=J.bK (ps:=["area"]) kb nb d8 (J.bb (c:=d_) (k:=0) trivial ⟨Z0,trivial⟩ trivial TB trivial trivial trivial) lH rfl mw (λ_ _ _ _ _ _ us hl=>J.Dy us hl λ_=>rfl)
  have H9:J.lP l.prog w K mg base 1 "is_place" 1 ef:=J.bK (ps:=["place"]) kb nb d9 (J.bb (c:=kA) (k:=0) ⟨⟨_,V0⟩,⟨_,V1⟩,trivial⟩ trivial trivial TB trivial trivial trivial) uy rfl vT (λ_ _ _ _ _ _ us hl=>J.Dy us hl λ_=>rfl)
  have Mm:J.lP l.prog w K mg base 2 "has_corners" 1 c7:=J.bK (ps:=["area"]) kb nb Sh (J.bb (c:=gD) (k:=1) trivial trivial ⟨H9.mono (by decide),trivial⟩ TB trivial trivial trivial) oQ rfl pH (λ_ _ _ _ _ _ us hl=>J.Dy us hl λ_=>rfl)
  have TJ:J.lP l.prog w K mg base 1 "area_many" 1 eN:=J.bK (ps:=["area"]) kb nb Si (J.bb (c:=jh) (k:=0) trivial trivial trivial TB trivial trivial trivial) sx rfl uz (λ_ _ _ _ _ _ us hl=>J.Dy us hl λ_=>rfl)
  have W5:J.lP l.prog w K mg base 3 "is_area" 1 gQ:=J.bK (ps:=["area"]) kb nb Mo (J.bb (c:=my) (k:=2) ⟨⟨_,V2⟩,trivial⟩ trivial ⟨Mm.mono (by decide),TJ.mono (by decide),trivial⟩ TB trivial trivial trivial) vU rfl zv (λ_ _ _ _ _ _ us hl=>J.Dy us hl λ_=>rfl)
  have W7:J.lP l.prog w K mg base 4 "made_area" 4 cD:=J.bK (ps:=["top","left","bottom","right"]) kb nb Mq (J.bb (c:=jj) (k:=3) trivial trivial ⟨W5.mono (by decide),trivial⟩ TB ⟨⟨X0,mg_of kb nb zM,⟨zM,OY⟩⟩,trivial⟩ trivial trivial) sy rfl uA (λ_ _ _ _ _ _ us hl=>J.Wj us hl λ_ _ _ _=>rfl)
  have W8:J.lP l.prog w K mg base 5 "area_places" 1 b_:=J.bK (ps:=["area"]) kb nb Sj (J.bb (c:=gE) (k:=4) trivial trivial ⟨H8.mono (by decide),W7.mono (by decide),trivial⟩ TB trivial trivial trivial) oR rfl pI (λ_ _ _ _ _ _ us hl=>J.Dy us hl λ_=>rfl)
  have W9:J.lP l.prog w K mg base 1 "are_heads" 1 fY:=J.bK (ps:=["line"]) kb nb Sk (J.bb (c:=jk) (k:=0) trivial ⟨Z8,Z1,Z5,Z6,Z7,trivial⟩ trivial TB trivial trivial trivial) sA rfl uB (λ_ _ _ _ _ _ us hl=>J.Dy us hl λ_=>rfl)
  have W_:J.lP l.prog w K mg base 1 "is_fault" 1 cE:=J.bK (ps:=["worth"]) kb nb Sl (J.bb (c:=kC) (k:=0) trivial ⟨Z6,Z4,trivial⟩ trivial TB trivial trivial trivial) uC rfl vV (λ_ _ _ _ _ _ us hl=>J.Dy us hl λ_=>rfl)
  have W':J.lP l.prog w K mg base 6 "table_of" 3 bB:=J.bK (ps:=["worths","waiting","area"]) kb nb Sn (J.bb (c:=kD) (k:=5) trivial ⟨Z9,Z4,Z0,Z1,trivial⟩ ⟨W8.mono (by decide),W9.mono (by decide),W_.mono (by decide),trivial⟩ TB ⟨⟨X1,mg_of kb nb zN,⟨zN,OZ⟩⟩,trivial⟩ trivial trivial) uD rfl vW (λ_ _ _ _ _ _ us hl=>J.P7 us hl λ_ _ _=>rfl)
  have Xa:J.lP l.prog w K mg base 7 "_law_told" 3 bt:=J.bK (ps:=["worths","waiting","area"]) kb nb So (J.bb (c:=jx) (k:=6) trivial ⟨Z6,trivial⟩ ⟨W'.mono (by decide),trivial⟩ TB ⟨⟨X2,mg_of kb nb HX,⟨HX,O0⟩⟩,trivial⟩ ⟨⟨X0,mg_of kb nb zM,zM⟩,⟨X1,mg_of kb nb zN,zN⟩,trivial⟩ trivial) sC rfl uE (λ_ _ _ _ _ _ us hl=>J.P7 us hl λ_ _ _=>rfl)
  exact J.Lv Fu (J.bb (c:=DA) (k:=7) trivial ⟨W3,W4,Z3,Z4,Z6,trivial⟩ ⟨H6.mono (by decide),H7.mono (by decide),Xa.mono (by decide),trivial⟩ TB trivial trivial trivial) LI rfl OJ
end K71
open PySem PySem.W PyProof.Rows
set_option maxRecDepth 100000 in
set_option maxHeartbeats 0 in
theorem PySem.Challenge.cw_onelook_k71_tables_told_holds : PySem.Challenge.rw_onelook_k71_tables_told.Holds := by
  refine K71.head ?_
  k_fill
  refine L2.walk_of (l:=PySem.Challenge.rw_onelook_k71_tables_told) (n:=63) (k:=8) (x:="script") (CX:=fun w => J.CXJ PySem.Challenge.rw_onelook_k71_tables_told.prog w) (sp:=fun w => J.spW _ 1 K71.F_law) rfl (by decide) rfl ⟨rfl,by decide,by decide⟩ (fun w h Y => PySem.W.kIn_of Y) ?F (fun w H a ns hl hO hS => J.law_sp K71.law_true H a ns hl (J.OnlyT.of hO) hS (J.tb_none ?Ta ?Tb ?Tc ?Td)) (fun _ _ _ _ _ z => z.elim fun _ y => y.elim fun _ x => x.2)
  case F=>
    intro w mg fa h KX G hmg
    refine' K71.all_mk KX G hmg ?d1 ?d2 ?d3 ?d4 ?d5 ?d6 ?d7 ?d8 ?d9 ?Sh ?Si ?Mo ?Mq ?Sj ?Sk ?Sl ?Sn ?So ?Sq ?z0 ?z1 ?z2 ?z3 ?z4 ?z5 ?z6 ?z7 ?z8 ?z9 ?Sr ?Ss ?v0 ?v1 ?v2 ?zM ?OY ?Su ?Sv ?Sw ?zN ?OZ ?Sx ?Sy ?Sz ?HX ?O0 ?SD ?SF ?SG ?SH ?SI ?SJ ?SK ?SN ?SQ ?SR
    case d1 | d2 | d3 | d4 | d5 | d6 | d7 | d8 | d9 | Sh | Si | Mo | Mq | Sj | Sk | Sl | Sn | So | Sq=>refine' J.J1 ?a ?l ?c ?k;(case a=>k_is);(case l=>k_is);(case c=>k_is);(case k=>k_is)
    case z0 | z1 | z2 | z3 | z4 | z5 | z6 | z7 | z8 | z9 | Sr | Ss | v0 | v1 | v2 | zM=>k_is
    case OY=>k_exc
    case Su | Sv | Sw | zN=>k_is
    case OZ=>k_exc
    case Sx | Sy | Sz | HX=>k_is
    case O0=>k_exc
    case SD | SF | SG | SH | SI | SJ=>kit_is
    case SK | SN=>k_is
    case SQ | SR=>kit_is
  (case Ta=>k_is)
  (case Tb=>k_is)
  (case Tc=>k_is)
  (case Td=>k_is)
